import PyProof.Rows.All
import Wide.All
import OpenK.AllK
import Wide.FinOn
import PySem.Challenge.RW_recurwright_k19_hours_open
import HandS.EndOwn
import HandS.WordsExc
import HandS.Defaults
import PyProof.WalksMore
import PyProof.SumWalkG
import PyProof.MinMaxWalk
import PyProof.Rows.StrCut
import HandS.Codes
import HandS.StrMore
import PyProof.FString3
import PyProof.FString
import PyProof.Rows.StrIntSpec
import HandS.FStr
import KE.KLam
import HandS.Base
import HandS.Call
import HandS.List
import HandS.Comp
import HandS.Ends
import HandS.Text
import HandS.Exc
import HandS.ExcOwn
import HandS.TryOnly
import HandS.TryMany
import HandS.Lambda
import HandS.Iter
import HandS.Words
import HandS.Evl
import HandS.Flow
import KE.GoesMore
import KE.GoesZip
import KE.GoesEnum
import HandS.Walk
import HandS.Steps
import KE.DataEq
import HandS.Dict
import HandS.DictComp
import PyProof.EnumMake
import PyProof.EnumFor
import PyProof.Draws
import PyProof.AssignAttr
import HandS.Sort
import KE.DatumOrd
import HandS.SortKw
import HandS.Deep
import HandS.Small
import HandS.Style
import HandS.More
import HandS.SortInts
import HandS.SetFor
import HandS.Strs
import HandS.Conv
import HandS.NoneIn
import HandS.TupLe
import KE.GoesRaise
import KE.SortData
import HandS.WordsDict
set_option Elab.async false
set_option linter.all false
set_option maxRecDepth 100000
set_option maxHeartbeats 4100000
namespace Rw
open PySem PySem.Spec PyProof.Rows L2 Evl
/-- a lambda of no captured names, as a tracked object -/
def LamO (f : Addr) (q : Str) (params : Arguments) (body : Expr) (scope : Scope) (c' : Addr) : HO :=
  .ext fun h => ∃ pm ctv, h.get? f = some (PySem.W.kla_obj "<lambda>" q params body scope [] pm c' ctv)
theorem LamO_ne {f : Addr} {q : Str} {params : Arguments} {body : Expr} {scope : Scope} {c' : Addr} (ps : Array Value) : LamO f q params body scope c' ≠ .tbl ps := fun z => by
  unfold LamO at z
  cases z
/-- the names of a lambda without parameters that captures nothing -/
structure Lam0 (scope : Scope) : Prop where
  kind : scope.kind = .function
  co : scope.isCoroutine = false
  gen : scope.isGenerator = false
  own : ∀ y ∈ scope.names, y.2 ≠ .local ∧ y.2 ≠ .cell ∧ y.2 ≠ .free
def lam0B (scope : Scope) : Bool := decide (scope.kind = .function) && !scope.isCoroutine && !scope.isGenerator && scope.names.all fun y => !decide (y.2 = .local) && !decide (y.2 = .cell) && !decide (y.2 = .free)
theorem lam0_by {scope : Scope} (h : lam0B scope = true) : Lam0 scope := by
  unfold lam0B at h
  simp only [Bool.and_eq_true, Bool.not_eq_true', decide_eq_true_eq, decide_eq_false_iff_not, List.all_eq_true] at h
  obtain ⟨⟨⟨h1, h2⟩, h3⟩, h4⟩ := h
  exact ⟨h1, h2, h3, fun y hy => ⟨(h4 y hy).1.1, (h4 y hy).1.2, (h4 y hy).2⟩⟩
theorem Lam0.clo {scope : Scope} (L : Lam0 scope) (cells : List (Str × Addr)) : cloFrom cells scope.names [] = [] := by
  have go : ∀ (names : List (Str × NameKind)) (acc : List (Str × Addr)), (∀ y ∈ names, y.2 ≠ .free) → cloFrom cells names acc = acc := by
    intro names
    induction names with
    | nil => intro acc _; rfl
    | cons a r ih =>
      obtain ⟨n, k⟩ := a
      intro acc h
      unfold cloFrom
      have hk : ¬ ((k == NameKind.free) = true) := fun e => h (n, k) List.mem_cons_self (by simpa using e)
      rw [if_neg hk]
      exact ih acc fun y hy => h y (List.mem_cons_of_mem _ hy)
  exact go scope.names [] fun y hy => (L.own y hy).2.2
abbrev lamEnv0 (q : Str) (scope : Scope) (L f c' : Addr) : Env := PySem.W.envX q scope L f (.ref c') []
def lamCx0 (P : Program) (w : World) (K : PySem.W.Frag) (mg : Str → Option Value) (base : Heap) (A : Around) (outer : List Env) (s : Shared) (H : Hp) (E : XK) (q : Str) (scope : Scope) (f c' : Addr) : Cx where
  prog := P
  w := w
  K := K
  mg := mg
  base := base
  A := A.deeper (lamEnv0 q scope s.heap.objs.size f c')
  N := []
  s_0 := s
  H_0 := H
  env := lamEnv0 q scope s.heap.objs.size f c'
  outer := outer
  stack := lamEnv0 q scope s.heap.objs.size f c' :: outer
  ex := []
  fn := fun _ => false
  calm := true
  pn := []
  xe := fun e s' => wpAny (model P w) (A.deeper (lamEnv0 q scope s.heap.objs.size f c')) (leaving (lamEnv0 q scope s.heap.objs.size f c') e) (fun _ s'' => L2.CX P w outer H s E e s'') (fun e' s'' => L2.CX P w outer H s E e' s'') s'
section
variable {P : Program} {w : World} {K : PySem.W.Frag} {mg : Str → Option Value} {base : Heap}
theorem lam_start0 {A : Around} {outer : List Env} {E : XK} {q : Str} {scope : Scope} {f c' : Addr} {hN : Heap} {tk : Nat} {s1 : Shared} {HZ : Hp} (LS : Lam0 scope) (env0 : Env0 P w K mg base A outer s1 HZ) (calm : A.handled = none)
    (newNs : hN.Ns s1.heap.objs.size fun y => ([] : List (Str × Value)).reverse.lookup y) (stays : ∀ b o, s1.heap.get? b = some o → hN.get? b = some o) :
    Inv (lamCx0 P w K mg base A outer s1 HZ E q scope f c') [] [] HZ { s1 with heap := hN, toks := tk } := by
  have noEx : ∀ b : Addr, b ∉ (lamCx0 P w K mg base A outer s1 HZ E q scope f c').ex := fun b z => absurd (show b ∈ ([] : List Addr) from z) (by simp)
  have plainN : ∀ {y : Str} {k : NameKind}, scope.names.lookup y = some k → k ≠ .local ∧ k ≠ .cell ∧ k ≠ .free := fun {y k} hl => LS.own _ (PySem.mem_of_lookup hl)
  refine ⟨⟨env0.mod, LS.kind, rfl, rfl, Nat.le_refl _, fun y z c e1 e2 => ?_, fun y isy => ?_, fun y c z _ => ?_, fun _ => calm, Around.frames_deeper env0.frames, .inr ⟨rfl, rfl⟩, fun b z => absurd z (noEx b), env0.bs, env0.bsz, fun b _ _ => noEx b,
      fun b z => absurd z (noEx b), env0.funs, env0.frf⟩,
    rfl, env0.bare, Un.kept stays, ⟨_, newNs, fun i y v e1 e2 e3 => ?_⟩, fun y c e => ?_, env0.hok.fresh (Nat.le_refl _), fun y c e => ?_, fun q hq => absurd (show q ∈ ([] : List (Addr × Obj)) ++ [] from hq) (by simp), env0.hok.kept stays, rfl⟩
  · have z : List.lookup y ([] : List (Str × Addr)) = some c := e1
    cases z
  · have isy : scope.names.lookup y = some .cell ∨ scope.names.lookup y = some .free := isy
    rcases isy with isy | isy
    · exact absurd rfl (plainN isy).2.1
    · exact absurd rfl (plainN isy).2.2
  · have z : false = true := z
    cases z
  · have e1 : ([] : List Str)[i]? = some y := e1
    simp at e1
  · have z : List.lookup y ([] : List (Str × Addr)) = some c := e
    cases z
  · have z : List.lookup y ([] : List (Str × Addr)) = some c := e
    cases z
end
section
variable {X : Cx} {pins : List (Addr × Obj)} {σ : L2.St} {H : Hp} {s : Shared}
/-- what the body of a lambda at f is worth: E what it raises; read where it runs -/
def LamRun (P : Program) (w : World) (K : PySem.W.Frag) (mg : Str → Option Value) (base : Heap) (k : Nat) (q : Str) (scope : Scope) (body : Expr) (f c' : Addr) (tb : XK → Hp → VK → Prop) : Prop :=
  ∀ (A : Around) (outer : List Env) (s : Shared) (H : Hp) (E : XK), Room k (A.deeper (lamEnv0 q scope s.heap.objs.size f c')) →
    PE (lamCx0 P w K mg base A outer s H E q scope f c') body (fun _ H1 Q1 => tb E H1 Q1)
/-- x() where x holds such a lambda -/
theorem pe_actO {W : WX} {E : XK} {k i : Nat} {a : Str} {p1 p2 : Pos} (takes : Takes X W) (hW : ∀ cls d σ' Hv, E cls d Hv → W cls d σ' Hv) (room : Room (k + 1) X.A)
    (hN : X.N[i]? = some a) (hv : Vis X.env.scope a) (hd : (a == ("__debug__" : Str)) = false := by decide) (hcd : (a == ("__classdict__" : Str)) = false := by decide) :
    PE X (.Call (.Name a p1) [] [] p2) (fun σ H Q => ∃ (f c' : Addr) (q : Str) (params : Arguments) (body : Expr) (scope : Scope) (tb : XK → Hp → VK → Prop), σ[i]? = some (some (.ref f)) ∧ H f = some (LamO f q params body scope c') ∧ H c' = some (LamX.CodeO c' q) ∧ Lam0 scope ∧
      (∀ (pm cv ctv : Value), bindArgs (PySem.W.kla_fn "<lambda>" q params body scope [] pm cv ctv) ⟨[], []⟩ = pure []) ∧ LamRun X.prog X.w X.K X.mg X.base k q scope body f c' tb ∧ tb E H Q) := by
  refine ⟨fun pz tz uz Hz Q Iz h => ?_⟩
  obtain ⟨f, c', q, params, body, scope, tb, hs, isf, isc, L, binds, runs, ht⟩ := h
  refine wpAny_Call_Name_kw (thn ((pe_var (pos := p1) (i := i) hN hv hd hcd).run pz tz uz Hz (fun v H1 => v = .ref f ∧ H1 = Hz) Iz ⟨.ref f, hs, rfl, rfl⟩) fun u sv ⟨v, H1, J1, rel, ends⟩ => ?_)
  obtain ⟨eqv, eqH⟩ := ends
  subst eqv
  rw [eqH] at J1
  obtain rfl : u = Value.ref f := rel
  obtain ⟨⟨pm, ctv, objf⟩, _, _⟩ := J1.hok f _ isf
  refine PySem.W.callWith_F0 ⟨_, _, _, _, objf⟩ ?_
  obtain ⟨⟨oc, vs, t, objc, datac, qualc⟩, _, _⟩ := J1.hok c' _ isc
  have ran : codeAny (model X.prog X.w) X.A (.call (.ref f) ⟨[], []⟩) (CR (L2.CX X.prog X.w) X.stack X.prog X.w Hz sv Q E) sv := by
    refine PySem.W.kla_callFunE room.depth objf rfl L.co L.gen rfl ⟨c', oc, vs, t, rfl, objc, datac, qualc⟩ ?_
    rw [binds]
    refine wpAny_pure (wpAny_newFunctionEnv (fun y hy => (L.own y hy).2.1) (fun y hy => absurd hy (by simp)) (fun hN newNs steps => ⟨J1.nolimit.fresh _ steps, ?_⟩) L.kind)
    show codeAny _ _ (.expr body (lamEnv0 q scope sv.heap.objs.size f c')) _ _
    have stays : ∀ b o, sv.heap.get? b = some o → hN.get? b = some o := fun b o e => steps.extBut b o (Nat.ne_of_lt (Heap.lt_size e)) (Heap.get?_push_of_some _ e)
    have J : Inv (lamCx0 X.prog X.w X.K X.mg X.base X.A X.stack sv Hz E q scope f c') [] [] Hz { sv with heap := hN, toks := sv.toks + ([] : List (Str × Value)).length } :=
      lam_start0 L J1.env0 room.hd newNs stays
    refine PySem.W.kla_codeExpr (wpAny_mono ((runs _ _ sv Hz E (room.deeper _)).run [] _ _ Hz Q J ht) (fun v s' got => ?_) fun e s' got => got)
    obtain ⟨wv, Hv, Jv, rv, q⟩ := got
    exact ⟨wv, Hv, Jv.os, Jv.bare, Jv.base, Jv.hok, rv, q⟩
  have out : Passes (L2.CX X.prog X.w) X E := passes_call takes hW
  refine wpAny_call (codeAny_mono ran fun r s' got => ?_)
  cases r with
  | error e => exact out pz uz Hz sv e s' J1 got
  | ok fl =>
    cases fl with
    | ret u => exact J1.after got
    | next => exact False.elim got
    | brk => exact False.elim got
    | cont => exact False.elim got
/-- lambda: body -/
def tLamO (T : List (Addr × Str)) (q : Str) (params : Arguments) (body : Expr) (scope : Scope) : TE := fun _ H Q => LamX.Tabs T H ∧
  ∀ f cc H1, H f = none → LamX.ExtN H H1 → LamX.Tabs T H1 → H1 f = some (LamO f q params body scope cc) → H1 cc = some (LamX.CodeO cc q) → Q (.ref f) H1
theorem pe_lamO {T : List (Addr × Str)} {c P : Addr} {params : Arguments} {body : Expr} {scope : Scope} {pos : Pos} (L : Lam0 scope) (TB : LamX.TabB X.base X.mg c P) (codeX : X.env.code = .ref c)
    (inT : (P, X.env.qual ++ "<lambda>") ∈ T) (oneT : ∀ p ∈ T, p.1 = P → p.2 = X.env.qual ++ "<lambda>") (nodef : defaultsOf params X.env = ([], [])) :
    PE X (.Lambda params body scope pos) (tLamO T (X.env.qual ++ "<lambda>") params body scope) := by
  refine ⟨fun pins s σ H Q I h => ?_⟩
  obtain ⟨tabs0, h⟩ := h
  obtain ⟨trs, atP, okP, allP⟩ := tabs0 _ inT
  have hclo : cloFrom X.env.cells scope.names [] = [] := L.clo _
  have frees : ∀ y ∈ scope.names, y.2 = .free → ∃ c, X.env.cells.lookup y.1 = some c := fun y hy e => absurd e (L.own y hy).2.2
  refine PySem.W.kla_eval nodef ?_
  have bltP : s.heap.BuiltinsAt X.mg P := TB.bm.keeps I.bk
  have heapP : s.heap.get? P = some { cls := .none, data := .fields trs } := I.hok P _ atP
  cases among : codeAmong pos trs.toList with
  | none =>
    refine PySem.W.kla_makeFunction (mg := X.mg) (c := c) (P := P) (ps := trs) (closure_ok frees) I.ok.glob (I.mod.glob.keeps I.bk) codeX (TB.code.keeps I.bk) heapP okP among TB.gP bltP fun cc tv hp tt kept ge0 lt0 rec0 tab0 => ?_
    rw [hclo]
    obtain ⟨c2, co, fs, t, f2, coAt, coData, coQual⟩ := rec0
    cases f2
    have ge1 : s.heap.objs.size ≤ hp.objs.size := Nat.le_trans ge0 (Nat.le_of_lt lt0)
    have newC : H cc = none := I.hok.fresh ge0
    have J1 := LamX.inv_table (t' := tt) (more := #[rawInt pos.line, rawInt pos.col, .ref cc]) (h' := hp) I atP kept tab0 ge0 ⟨co, fs, t, coAt, coData, coQual⟩
    have extH : LamX.ExtN H (upd (upd H P (.tbl (trs ++ #[rawInt pos.line, rawInt pos.col, .ref cc]))) cc (LamX.CodeO cc (X.env.qual ++ "<lambda>"))) := fun b o e n => by
      rw [upd_ne (ne_of_none e newC), upd_ne (fun z => n trs (Option.some.inj (e.symm.trans (by rw [z]; exact atP))))]
      exact e
    have snocL : (trs ++ #[rawInt pos.line, rawInt pos.col, .ref cc]).toList = trs.toList ++ [rawInt pos.line, rawInt pos.col, .ref cc] := by simp
    have tabs1 : LamX.Tabs T (upd (upd H P (.tbl (trs ++ #[rawInt pos.line, rawInt pos.col, .ref cc]))) cc (LamX.CodeO cc (X.env.qual ++ "<lambda>"))) := fun p hp => by
      by_cases isP : p.1 = P
      · rw [oneT p hp isP, isP]
        refine ⟨_, by rw [upd_ne (ne_of_none atP newC), upd_same], by rw [snocL]; exact PySem.TriplesOk_snoc _ _ _ _ okP, fun pp cd find => ?_⟩
        rw [snocL] at find
        rcases LamX.among_app _ okP find with z | z
        · obtain ⟨c9, f1, f2⟩ := allP pp cd z
          exact ⟨c9, f1, extH _ _ f2 LamX.codeO_ne⟩
        · exact ⟨cc, z, upd_same⟩
      · obtain ⟨trs', t1, t2, t3⟩ := tabs0 p hp
        refine ⟨trs', by rw [upd_ne (ne_of_none t1 newC), upd_ne isP]; exact t1, t2, fun pp cd find => ?_⟩
        obtain ⟨c9, f1, f2⟩ := t3 pp cd find
        exact ⟨c9, f1, extH _ _ f2 LamX.codeO_ne⟩
    -- the function object
    have objF : (hp.push (PySem.W.kla_obj "<lambda>" (X.env.qual ++ "<lambda>") params body scope [] ((X.mg "__name__").getD .none) cc tv)).get? hp.objs.size = some (PySem.W.kla_obj "<lambda>" (X.env.qual ++ "<lambda>") params body scope [] ((X.mg "__name__").getD .none) cc tv) := Heap.get?_push_size _ rfl
    generalize eqH1 : (upd (upd H P (.tbl (trs ++ #[rawInt pos.line, rawInt pos.col, .ref cc]))) cc (LamX.CodeO cc (X.env.qual ++ "<lambda>"))) = H1 at J1 extH tabs1
    have newF : H1 hp.objs.size = none := J1.hok.fresh (Nat.le_refl _)
    have J2 := Inv.laid (a := hp.objs.size) (o := LamO hp.objs.size (X.env.qual ++ "<lambda>") params body scope cc) (t' := tt) (h' := hp.push (PySem.W.kla_obj "<lambda>" (X.env.qual ++ "<lambda>") params body scope [] ((X.mg "__name__").getD .none) cc tv)) J1 (fun b u e => Heap.get?_push_of_some _ e) (Nat.le_refl _)
      ⟨⟨_, _, objF⟩, ⟨_, objF⟩, fun h1 h2 ⟨pm, ct, e⟩ st => ⟨pm, ct, st _ e⟩⟩
    have extH2 : LamX.ExtN H (upd H1 hp.objs.size (LamO hp.objs.size (X.env.qual ++ "<lambda>") params body scope cc)) := fun b o e n => by
      rw [upd_ne (ne_of_none (extH b o e n) newF)]
      exact extH b o e n
    have atC : H1 cc = some (LamX.CodeO cc (X.env.qual ++ "<lambda>")) := by rw [← eqH1]; exact upd_same
    refine ⟨.ref hp.objs.size, _, J2, rfl, h hp.objs.size cc _ (I.hok.fresh ge1) extH2 (tabs1.ext fun b o e => by rw [upd_ne (ne_of_none e newF)]; exact e) upd_same ?_⟩
    rw [upd_ne (ne_of_none atC newF)]
    exact atC
  | some cd =>
    obtain ⟨cc, e, oldC⟩ := allP pos cd among
    subst e
    refine PySem.W.kla_makeFunctionHit (mg := X.mg) (c := c) (P := P) (ps := trs) (closure_ok frees) I.ok.glob (I.mod.glob.keeps I.bk) codeX (TB.code.keeps I.bk) heapP okP among bltP fun tv hp tt kept ge1 => ?_
    rw [hclo]
    have objF : (hp.push (PySem.W.kla_obj "<lambda>" (X.env.qual ++ "<lambda>") params body scope [] ((X.mg "__name__").getD .none) cc tv)).get? hp.objs.size = some (PySem.W.kla_obj "<lambda>" (X.env.qual ++ "<lambda>") params body scope [] ((X.mg "__name__").getD .none) cc tv) := Heap.get?_push_size _ rfl
    have newF : H hp.objs.size = none := I.hok.fresh ge1
    have J2 := Inv.laid (a := hp.objs.size) (o := LamO hp.objs.size (X.env.qual ++ "<lambda>") params body scope cc) (t' := tt) (h' := hp.push (PySem.W.kla_obj "<lambda>" (X.env.qual ++ "<lambda>") params body scope [] ((X.mg "__name__").getD .none) cc tv)) I (fun b u e => Heap.get?_push_of_some _ (kept b u e)) ge1
      ⟨⟨_, _, objF⟩, ⟨_, objF⟩, fun h1 h2 ⟨pm, ct, e⟩ st => ⟨pm, ct, st _ e⟩⟩
    have extH2 : ∀ b o, H b = some o → upd H hp.objs.size (LamO hp.objs.size (X.env.qual ++ "<lambda>") params body scope cc) b = some o := fun b o e => by
      rw [upd_ne (ne_of_none e newF)]
      exact e
    exact ⟨.ref hp.objs.size, _, J2, rfl, h hp.objs.size cc _ newF (LamX.ExtN.of extH2) (tabs0.ext extH2) upd_same (extH2 _ _ oldC)⟩
end

/-- a def whose name the module has, and what it promises; it may raise -/
def Cal (P : Program) (w : World) (K : PySem.W.Frag) (mg : Str → Option Value) (base : Heap) (k : Nat) (x : Str) (sp : Sp) (dvs : List V) : Prop :=
  ∃ (f : Addr) (d : FuncData) (names : List Str) (dv : List Value), mg x = some (.ref f) ∧ PySem.W.keepIn K (.ref f) = true ∧ FnOk P w K mg base (L2.CX P w) k f d names sp ∧ Binds K d names dv ∧ Vals dvs dv
section
variable {X : Cx} {k j : Nat} {x : Str} {sp : Sp} {dvs : List V} {E : XK} {p pos : Pos} {e : Expr} {es : List Expr} {t : TA}
theorem pe_k (c : Cal X.prog X.w X.K X.mg X.base k x sp dvs) (room : Room j X.A) (le : k ≤ j) (out : Passes (L2.CX X.prog X.w) X E) (args : PA X (e :: es) t) (gl : Gl X x := by rfl)
    (plain : (x == ("__debug__" : Str)) = false := by decide) (stars : starEach (e :: es) X.env = (false, eval e X.env) :: starEach es X.env := by rfl) (nostar : (backTo pos (starEach es X.env)).any (·.1) = false := by rfl) :
    PE X (.Call (.Name x p) (e :: es) [] pos) (tCall sp dvs E t) :=
  let ⟨_, _, _, _, at_, kp, F, b, d⟩ := c
  pe_call F (room.mono le) gl at_ kp b d out args plain stars nostar
theorem pe_k0 (c : Cal X.prog X.w X.K X.mg X.base k x sp dvs) (room : Room j X.A) (le : k ≤ j) (out : Passes (L2.CX X.prog X.w) X E) (gl : Gl X x := by rfl)
    (plain : (x == ("__debug__" : Str)) = false := by decide) : PE X (.Call (.Name x p) [] [] pos) (tCall sp dvs E tNil) :=
  let ⟨_, _, _, _, at_, kp, F, b, d⟩ := c
  pe_call0 F (room.mono le) gl at_ kp b d out plain
/-- what a def lets out is taken by its caller, a def likewise -/
theorem passE {X : Cx} {E : XK} {E1 : Value → Shared → Prop} (hs : X.stack = X.env :: X.outer := by rfl) (hf : X.env.frame = some X.env.locals := by rfl) (hex : X.ex = [] := by rfl)
    (hx : X.xe = fun e s' => wpAny (model X.prog X.w) X.A (leaving X.env e) (fun _ s'' => L2.CX X.prog X.w X.outer X.H_0 X.s_0 E e s'') E1 s' := by rfl) : Passes (L2.CX X.prog X.w) X E :=
  passes_call (takes_of hs hf hex hx) fun _ _ _ _ h => h
end
/-! ### the classes of errors -/
structure Exc1 (K : PySem.W.Frag) (mg : Str → Option Value) (x : Str) (C : Addr) : Prop where
  g : mg x = some (.ref C)
  x : PySem.W.excIn K C [.type "ValueError", .type "Exception", .type "BaseException", .type "object"] "ValueError.__new__" = true
  k : PySem.W.keepIn K (.ref C) = true
  b : PySem.W.subIn K (.ref C) (.type "BaseException") = some true
  t : PySem.W.typeIn K (.ref C) = some (.type "type")
def excName : Nat → Str
  | 0 => "BadCalendar"
  | 1 => "BadDay"
  | 2 => "BadTime"
  | 3 => "BadRule"
  | 4 => "BadZone"
  | 5 => "BadSize"
  | 6 => "BadPaper"
  | 7 => "BadText"
  | 8 => "BadStore"
  | 9 => "NoDay"
  | 10 => "NoSuch"
  | _ => ""
def kindName : Nat → Str
  | 0 => "calendar"
  | 1 => "day"
  | 2 => "time"
  | 3 => "rule"
  | 4 => "zone"
  | 5 => "size"
  | 6 => "paper"
  | 7 => "text"
  | 8 => "store"
  | 9 => "no day"
  | 10 => "no such"
  | _ => ""
structure Exs (K : PySem.W.Frag) (mg : Str → Option Value) (c : Nat → Addr) : Prop where
  e : ∀ i, i < 11 → Exc1 K mg (excName i) (c i)
  m : ∀ i j, i < 11 → j ≤ i → PySem.W.exmOne K (.ref (c i)) (.ref (c j)) = some (decide (i = j))
/-- told of an error: its kind -/
def ETold (c : Nat → Addr) (Q : VK) : XK := fun cls _ H => ∃ i, i < 11 ∧ cls = .ref (c i) ∧ Q (.str (kindName i)) H
def spTold (P : Program) (w : World) (K : PySem.W.Frag) (mg : Str → Option Value) (base : Heap) (c : Nat → Addr) (k : Nat) : Sp := fun vs H Q _ =>
  ∃ (f c' : Addr) (q : Str) (params : Arguments) (body : Expr) (scope : Scope) (tb : XK → Hp → VK → Prop), vs = [.ref f] ∧ H f = some (LamO f q params body scope c') ∧ H c' = some (LamX.CodeO c' q) ∧ Lam0 scope ∧
    (∀ (pm cv ctv : Value), bindArgs (PySem.W.kla_fn "<lambda>" q params body scope [] pm cv ctv) ⟨[], []⟩ = pure []) ∧ LamRun P w K mg base k q scope body f c' tb ∧ tb (ETold c Q) H Q
section
variable {X : Cx}
/-- raise X('..') -/
theorem ps_raiseX {C : Addr} {x m : Str} {j : Nat} {p p2 pos pos2 : Pos} {E : XK} {E1 : Value → Shared → Prop} (T : Exc1 X.K X.mg x C) (hc : X.calm = true := by rfl) (hg : Gl X x := by rfl) (hs : X.stack = X.env :: X.outer := by rfl) (hf : X.env.frame = some X.env.locals := by rfl) (hex : X.ex = [] := by rfl)
    (hx : X.xe = fun e s' => wpAny (model X.prog X.w) X.A (leaving X.env e) (fun _ s'' => L2.CX X.prog X.w X.outer X.H_0 X.s_0 E e s'') E1 s' := by rfl) (hdb : (x == ("__debug__" : Str)) = false := by decide) :
    PS X (.Raise (some (.Call (.Name x p) [.Constant (.str m) j p2] [] pos)) none pos2) (fun _ _ H => E (.ref C) none H) :=
  ps_raise hc (takes_of hs hf hex hx) (pmk_own PySem.F.excBase_ValueError T.x T.g T.k (raises_own T.b T.t) hg hdb)
end
/-! ### evaluation -/
theorem et_chain {σ : L2.St} {H : Hp} {ta tb tc : TE} {x y z : V} {r r' : R2} {b b' : Bool} (ha : Ev ta σ H x) (hb : Ev tb σ H y) (hc : b = true → Ev tc σ H z) (hr : RV r x y H (.bl b)) (hr' : b = true → RV r' y z H (.bl b')) : Ev (tChain r r' ta tb tc) σ H (.bl (b && b')) := fun H1 e Q q =>
  ha H1 e _ fun H2 e2 => hb H2 (e.trans e2) _ fun H3 e3 => hr H3 ((e.trans e2).trans e3) _ fun H4 e4 => ⟨b, rfl, by
    cases b with
    | true =>
      rw [if_pos rfl]
      exact hc rfl H4 (((e.trans e2).trans e3).trans e4) _ fun H5 e5 => hr' rfl H5 ((((e.trans e2).trans e3).trans e4).trans e5) Q fun H6 e6 => q H6 (((((e2).trans e3).trans e4).trans e5).trans e6)
    | false =>
      rw [if_neg Bool.false_ne_true]
      exact q H4 ((e2.trans e3).trans e4)⟩
theorem rc_int1 {H : Hp} {i : Int} : RC (fun xs H Q => (∃ i, xs = [V.int i] ∧ Q (V.int i) H) ∨ ∃ k, xs = [V.bl k] ∧ Q (V.int (if k = true then 1 else 0)) H) [.int i] H (.int i) := fun H1 _ _ q => .inl ⟨i, rfl, q H1 (Ex.refl H1)⟩
theorem rc_int1b {H : Hp} {k : Bool} : RC (fun xs H Q => (∃ i, xs = [V.int i] ∧ Q (V.int i) H) ∨ ∃ k, xs = [V.bl k] ∧ Q (V.int (if k = true then 1 else 0)) H) [.bl k] H (.int (if k = true then 1 else 0)) := fun H1 _ _ q => .inr ⟨k, rfl, q H1 (Ex.refl H1)⟩
theorem rc_abs {H : Hp} {i : Int} : RC (fun xs H Q => ∃ i, xs = [V.int i] ∧ Q (V.int (if i < 0 then -i else i)) H) [.int i] H (.int (if i < 0 then -i else i)) := fun H1 _ _ q => ⟨i, rfl, q H1 (Ex.refl H1)⟩
def ExB (d : Addr) (H H' : Hp) : Prop := ∀ x o, x ≠ d → H x = some o → H' x = some o
theorem ExB.of {d : Addr} {H H' : Hp} (e : Ex H H') : ExB d H H' := fun x o _ h => e x o h
theorem ExB.upd {d : Addr} {H H' : Hp} {o : HO} (e : ExB d H H') : ExB d H (upd H' d o) := fun x u n h => by rw [upd_ne n]; exact e x u n h
theorem ExB.trans {d : Addr} {H H1 H2 : Hp} (a : ExB d H H1) (b : ExB d H1 H2) : ExB d H H2 := fun x o n h => b x o n (a x o n h)
theorem ExB.ex {d : Addr} {H H1 H2 : Hp} (a : ExB d H H1) (b : Ex H1 H2) : ExB d H H2 := fun x o n h => b x o (a x o n h)
end Rw
namespace Rw
open PySem PySem.Spec PyProof.Rows L2 Evl
/-! ### what a def gives: a value, a new list, a new tuple, or an error -/
inductive Rs where
  | ok (v : V)
  | lst (xs : List V)
  | tup (xs : List V)
  | err (i : Nat)
  deriving DecidableEq
def Out (c : Nat → Addr) (H : Hp) (Q : VK) (E : XK) : Rs → Prop
  | .ok v => ∀ H', Ex H H' → Q v H'
  | .lst xs => ∀ p H', H p = none → Ex H H' → H' p = some (.lst xs) → Q (.ref p) H'
  | .tup xs => ∀ p H', H p = none → Ex H H' → H' p = some (.tup xs) → Q (.ref p) H'
  | .err i => ∀ H', Ex H H' → E (.ref (c i)) none H'
theorem Out.mono {c : Nat → Addr} {H H1 : Hp} {Q : VK} {E : XK} {r : Rs} (e : Ex H H1) (o : Out c H Q E r) : Out c H1 Q E r := by
  cases r with
  | ok v => exact fun H' e' => o H' (e.trans e')
  | lst xs => exact fun p H' hp e' h => o p H' (fresh_back e hp) (e.trans e') h
  | tup xs => exact fun p H' hp e' h => o p H' (fresh_back e hp) (e.trans e') h
  | err i => exact fun H' e' => o H' (e.trans e')
def spF (c : Nat → Addr) (f : List V → Option Rs) : Sp := fun vs H Q E => ∃ r, f vs = some r ∧ Out c H Q E r
section
variable {c : Nat → Addr} {f : List V → Option Rs} {σ : L2.St} {H : Hp} {vs dvs : List V} {ta : TA} {E : XK} {z : V} {xs : List V}
theorem ev_F (h : EvA ta σ H vs) (hf : f (vs ++ dvs) = some (.ok z)) : Ev (tCall (spF c f) dvs E ta) σ H z := fun H1 e Q q =>
  h H1 e _ fun H2 e2 => ⟨_, hf, fun H3 e3 => q H3 (e2.trans e3)⟩
theorem el_F (h : EvA ta σ H vs) (hf : f (vs ++ dvs) = some (.lst xs)) : EvL (tCall (spF c f) dvs E ta) σ H xs := fun H1 e Q q =>
  h H1 e _ fun H2 e2 => ⟨_, hf, fun p H3 hp e3 h3 => q p H3 (fresh_back e2 hp) (e2.trans e3) h3⟩
theorem eu_F (h : EvA ta σ H vs) (hf : f (vs ++ dvs) = some (.tup xs)) : EvU (tCall (spF c f) dvs E ta) σ H xs := fun H1 e Q q =>
  h H1 e _ fun H2 e2 => ⟨_, hf, fun p H3 hp e3 h3 => q p H3 (fresh_back e2 hp) (e2.trans e3) h3⟩
/-- a call that raises: whatever is wanted of its value -/
theorem er_F {i : Nat} (h : EvA ta σ H vs) (hf : f (vs ++ dvs) = some (.err i)) (k : ∀ H1, Ex H H1 → E (.ref (c i)) none H1) (Q : VK) : tCall (spF c f) dvs E ta σ H Q :=
  h H (Ex.refl H) _ fun H2 e2 => ⟨_, hf, fun H3 e3 => k H3 (e2.trans e3)⟩
end
/-! ### two figures -/
def twoL (n : Int) : List Nat := [48 + n.toNat / 10, 48 + n.toNat % 10]
theorem two_text (n : Int) (h0 : 0 ≤ n) (h1 : n < 100) : (if decide (n < 10) = true then (⟨#[48]⟩ : Str) ++ Str.ofString (toString n) else Str.ofString (toString n)) = SX.S (twoL n) := by
  have all : ∀ m : Fin 100, (if decide (((m.val : Nat) : Int) < 10) = true then (⟨#[48]⟩ : Str) ++ Str.ofString (toString ((m.val : Nat) : Int)) else Str.ofString (toString ((m.val : Nat) : Int))) = SX.S (twoL ((m.val : Nat) : Int)) := by decide +kernel
  have e := all ⟨n.toNat, by omega⟩
  have en : ((n.toNat : Nat) : Int) = n := Int.toNat_of_nonneg h0
  rw [show ((⟨n.toNat, by omega⟩ : Fin 100).val) = n.toNat from rfl, en] at e
  exact e
section
variable {X : Cx}
/-- f'{e:02d}' -/
def tTwo (te : TE) : TE := fun σ H Q => te σ H fun x H1 => ∃ n : Int, x = .int n ∧ 0 ≤ n ∧ n < 100 ∧ Q (.str (SX.S (twoL n))) H1
theorem pe_two {e : Expr} {te : TE} {k : Nat} {p1 p2 pos p3 : Pos} (hD : X.base.NoDigits) (he : PE X e te) : PE X (.JoinedStr [.FormattedValue e (-1) (some (.JoinedStr [.Constant (.str "02d") k p1] p2)) pos] p3) (tTwo te) := by
  refine pe_joined1 ⟨fun pins s σ H Q I h => ?_⟩
  refine wpAny_FormattedValue_spec (thn (he.run pins s σ H _ I h) ?_)
  rintro v s1 ⟨x, H1, I1, r1, n, rfl, h0, h1, q⟩
  obtain ⟨t, rfl⟩ := r1
  have hs : PE X (.JoinedStr [.Constant (.str "02d") k p1] p2) (tC (.str "02d")) := pe_joined1 pe_str
  refine thn (hs.run pins s1 σ H1 (fun v H' => v = .str "02d" ∧ H' = H1) I1 ⟨rfl, rfl⟩) ?_
  rintro r s2 ⟨y, H2, I2, r2, rfl, rfl⟩
  obtain ⟨t2, rfl⟩ := r2
  refine ⟨_, t2, rfl, ?_⟩
  refine formatField_int_specOf (hD.keeps I2.bk) (by have : n.natAbs < 100 := by omega
                                                     exact lt_digitLimit_of_lt (by omega)) (by decide +kernel) (fun W hW F => ?_) (by decide)
  have e := F.pad2 (by decide +kernel) (hW.trans (by decide +kernel)) h0 h1
  rw [two_text n h0 h1] at e
  exact ⟨.str _, H2, I2.tok _, ⟨_, rfl⟩, by rw [e]; exact q⟩
end
theorem ev_two {te : TE} {σ : L2.St} {H : Hp} {n : Int} (h : Ev te σ H (.int n)) (h0 : 0 ≤ n) (h1 : n < 100) : Ev (tTwo te) σ H (.str (SX.S (twoL n))) := fun H1 e Q q =>
  h H1 e _ fun H2 e2 => ⟨n, rfl, h0, h1, q H2 e2⟩
/-! ### comprehensions that keep all -/
theorem given_all (n : Nat) (v : Nat → V) : given n (fun _ => true) v = (List.range n).map v := by
  unfold given
  rw [List.filter_eq_self.mpr fun _ _ => rfl]
theorem given_map {xs ys : List V} {v : Nat → V} (hl : xs.length = ys.length) (h : ∀ i y, ys[i]? = some y → v i = y) : given xs.length (fun _ => true) v = ys := by
  rw [given_all]
  refine List.ext_getElem? fun i => ?_
  rw [List.getElem?_map, hl]
  by_cases hi : i < ys.length
  · rw [List.getElem?_range hi, List.getElem?_eq_getElem hi]
    show some (v i) = some ys[i]
    rw [h i _ (List.getElem?_eq_getElem hi)]
  · rw [List.getElem?_eq_none (by rw [List.length_range]; omega), List.getElem?_eq_none (by omega)]
    rfl
theorem et_yes {σ : L2.St} {H : Hp} : EvT tYes σ H true := fun H1 _ _ q => q H1 (Ex.refl H1)
section
variable {K : PySem.W.Frag} {σ : L2.St} {H : Hp} {te tl : TE} {t : TT} {j : Nat} {vs : List Nat} {xs ys : List V}
/-- a comprehension over a new tuple -/
theorem el_lcNU (f : Nat → Bool) (v : Nat → V) (h : EvU tl σ H xs) (hz : xs.length ≤ 40000) (hw : ∀ x, wipe ((wipe σ vs).set j (some x)) vs = wipe σ vs)
    (tested : ∀ (i : Nat) (x : V) H1, Ex H H1 → xs[i]? = some x → EvT t ((wipe σ vs).set j (some x)) H1 (f i)) (he : ∀ (i : Nat) (x : V) H1, Ex H H1 → xs[i]? = some x → f i = true → Ev te ((wipe σ vs).set j (some x)) H1 (v i)) :
    EvL (tLc (iTup K tl) (gName j) t te vs) σ H (given xs.length f v) := fun H0 e Q q => h H0 e _ fun a H1 _ e1 hx => ⟨a, rfl, ⟨xs, st_of hx⟩, fun Dl hD =>
  lc_tup (xs := xs) (Cw H1 f v Dl) ⟨hD, Ex.new hD, upd_same⟩ (fun i H' _ p => st_of (p.2.1 a _ hx)) (fun i x H' hi p => ⟨hw x, cw_turn p (Nat.lt_of_lt_of_le (List.getElem?_eq_some_iff.mp hi).1 (Nat.le_trans hz (by decide))) (tested i x H1 (e.trans e1) hi) (fun hf => he i x H1 (e.trans e1) hi hf)⟩)
    (fun Hz pz => q Dl Hz (fresh_back e1 pz.1) (e1.trans pz.2.1) pz.2.2)⟩
/-- all items of a new tuple, each made another -/
theorem el_mapNU (h : EvU tl σ H xs) (hz : xs.length ≤ 40000) (hw : ∀ x, wipe ((wipe σ vs).set j (some x)) vs = wipe σ vs) (hl : xs.length = ys.length)
    (he : ∀ (i : Nat) (x y : V) H1, Ex H H1 → xs[i]? = some x → ys[i]? = some y → Ev te ((wipe σ vs).set j (some x)) H1 y) :
    EvL (tLc (iTup K tl) (gName j) tYes te vs) σ H ys := by
  have g := el_lcNU (K := K) (t := tYes) (te := te) (fun _ => true) (fun i => ys.getD i .non) h hz hw (fun _ _ _ _ _ => et_yes) fun i x H1 e hx _ => by
    have hi : i < ys.length := by
      have q := (List.getElem?_eq_some_iff.mp hx).1
      omega
    have ey : ys.getD i .non = ys[i] := by rw [List.getD_eq_getElem?_getD, List.getElem?_eq_getElem hi]; rfl
    rw [ey]
    exact he i x _ H1 e hx (List.getElem?_eq_getElem hi)
  rw [given_map hl fun i y hy => by rw [List.getD_eq_getElem?_getD, hy]; rfl] at g
  exact g
/-- all items of a list, each made another -/
theorem el_mapL {a : Addr} (h : Ev tl σ H (.ref a)) (hx : SqL K H a xs) (hz : xs.length ≤ 40000) (hw : ∀ x, wipe ((wipe σ vs).set j (some x)) vs = wipe σ vs) (hl : xs.length = ys.length)
    (he : ∀ (i : Nat) (x y : V) H1, Ex H H1 → xs[i]? = some x → ys[i]? = some y → Ev te ((wipe σ vs).set j (some x)) H1 y) :
    EvL (tLc (iList K tl) (gName j) tYes te vs) σ H ys := by
  have g := el_lcL (K := K) (t := tYes) (te := te) (fun _ => true) (fun i => ys.getD i .non) h hx hz hw (fun _ _ _ _ _ => et_yes) fun i x H1 e hx _ => by
    have hi : i < ys.length := by
      have q := (List.getElem?_eq_some_iff.mp hx).1
      omega
    have ey : ys.getD i .non = ys[i] := by rw [List.getD_eq_getElem?_getD, List.getElem?_eq_getElem hi]; rfl
    rw [ey]
    exact he i x _ H1 e hx (List.getElem?_eq_getElem hi)
  rw [given_map hl fun i y hy => by rw [List.getD_eq_getElem?_getD, hy]; rfl] at g
  exact g
/-- sep.join(new list) -/
theorem ev_join {to : TE} {a : Str} {zs : List Str} (ho : Ev to σ H (.str a)) (he : EvL te σ H (zs.map V.str)) (hz : (zs.map (·.length)).sum + zs.length * a.length ≤ 16777216) :
    Ev (tM1 (fun x xs H Q => ∃ a p, ∃ ys : List Str, x = .str a ∧ xs = [.ref p] ∧ (SqL K H p (ys.map V.str) ∨ SqT K H p (ys.map V.str)) ∧ (ys.map (·.length)).sum + ys.length * a.length ≤ 16777216 ∧ Q (.str (Txt.join a ys)) H) to te) σ H (.str (Txt.join a zs)) := fun H1 e Q q =>
  ho H1 e _ fun H2 e2 => ⟨⟨a, rfl⟩, he H2 (e.trans e2) _ fun p H3 _ e3 h3 => ⟨a, p, zs, rfl, rfl, .inl (sq_of h3), hz, q H3 (e2.trans e3)⟩⟩
end
end Rw
namespace Rw
open PySem PySem.Spec PyProof.Rows L2 Evl SX
/-! ### texts of figures -/
def isDig (c : Nat) : Bool := decide (48 ≤ c) && decide (c ≤ 57)
theorem figs_cps : (("0123456789" : Str)).cps = #[48, 49, 50, 51, 52, 53, 54, 55, 56, 57] := by decide +kernel
theorem figs_has (c : Nat) : (("0123456789" : Str)).cps.contains c = isDig c := by
  rw [figs_cps]
  unfold isDig
  rw [Bool.eq_iff_iff]
  simp only [Array.contains_eq_mem, Bool.and_eq_true, decide_eq_true_eq]
  simp only [List.mem_toArray, List.mem_cons, List.not_mem_nil, or_false]
  omega
theorem extract_S (l : List Nat) (i j : Nat) : PySem.Builtin.Str.strSub (S l) i j = S ((l.drop i).take (j - i)) := by
  unfold PySem.Builtin.Str.strSub
  refine TL.ext_tl ?_
  show ((S l).cps.extract i j).toList = (l.drop i).take (j - i)
  rw [Array.toList_extract, List.extract_eq_take_drop]
theorem drop_takeWhile (p : Nat → Bool) (l : List Nat) : l.drop (l.takeWhile p).length = l.dropWhile p := by
  induction l with
  | nil => rfl
  | cons a r ih =>
    rw [List.takeWhile_cons, List.dropWhile_cons]
    cases h : p a with
    | true => simpa using ih
    | false => rfl
theorem lstrip_S (l : List Nat) : Txt.lstripChars (S l) "0123456789" = S (l.dropWhile isDig) := by
  unfold Txt.lstripChars
  rw [PyProof.Rows.stripBy_eq, show (("0123456789" : Str)).cps.contains = isDig from funext figs_has]
  unfold stripLo stripHi
  rw [if_pos rfl, if_neg (by decide), extract_S]
  show S ((l.drop (l.takeWhile isDig).length).take ((S l).length - (l.takeWhile isDig).length)) = _
  rw [S_len, drop_takeWhile, List.take_of_length_le]
  have e := congrArg List.length (List.takeWhile_append_dropWhile (p := isDig) (l := l))
  rw [List.length_append] at e
  omega
theorem cut_figs (l : List Nat) : cutS (S l) none (some ((l.length : Int) - ((l.dropWhile isDig).length : Int))) = S (l.takeWhile isDig) := by
  have e := congrArg List.length (List.takeWhile_append_dropWhile (p := isDig) (l := l))
  rw [List.length_append] at e
  have ez : (l.length : Int) - ((l.dropWhile isDig).length : Int) = (((l.takeWhile isDig).length : Nat) : Int) := by omega
  rw [ez]
  unfold cutS
  rw [HT.sIx_none, HT.sIx_nat, S_len, List.drop_zero]
  have em : min (l.takeWhile isDig).length l.length = (l.takeWhile isDig).length := by omega
  rw [em, Nat.sub_zero]
  show S (l.take (l.takeWhile isDig).length) = _
  have t : l.take (l.takeWhile isDig).length = l.takeWhile isDig := by
    conv => lhs; rw [← List.takeWhile_append_dropWhile (p := isDig) (l := l)]
    have hp : ∀ (m : List Nat), (m.takeWhile isDig ++ m.dropWhile isDig).takeWhile isDig = m.takeWhile isDig := fun m => by rw [List.takeWhile_append_dropWhile]
    rw [hp, List.take_left]
  rw [t]
theorem cut_one (l : List Nat) : cutS (S l) none (some 1) = S (l.take 1) := by
  unfold cutS
  rw [HT.sIx_none, show HT.sIx (S l).length (S l).length (some 1) = min 1 (S l).length from HT.sIx_nat _ _ 1, S_len, List.drop_zero, Nat.sub_zero]
  show S (l.take (min 1 l.length)) = _
  cases l with
  | nil => rfl
  | cons a r =>
    rw [show min 1 (a :: r).length = 1 by rw [List.length_cons]; omega]
theorem cut_rest (l : List Nat) : cutS (S l) (some 1) none = S (l.drop 1) := by
  unfold cutS
  rw [HT.sIx_none, show HT.sIx (S l).length 0 (some 1) = min 1 (S l).length from HT.sIx_nat _ _ 1, S_len]
  show S ((l.drop (min 1 l.length)).take (l.length - min 1 l.length)) = _
  cases l with
  | nil => rfl
  | cons a r =>
    rw [show min 1 (a :: r).length = 1 by rw [List.length_cons]; omega, List.take_of_length_le (by rw [List.length_drop]; omega)]
/-! ### letters -/
def letAt (c : Nat) : Int := if c = 100 then 0 else if c = 104 then 1 else if c = 109 then 2 else if c = 115 then 3 else -1
theorem dhms_S : ("dhms" : Str) = S [100, 104, 109, 115] := by decide +kernel
theorem find_let (c : Nat) : Txt.find "dhms" (S [c]) = letAt c := by
  by_cases h : c = 100 ∨ c = 104 ∨ c = 109 ∨ c = 115
  · rcases h with rfl | rfl | rfl | rfl <;> decide +kernel
  · have hn : c ∉ [100, 104, 109, 115] := by
      intro hm
      simp only [List.mem_cons, List.not_mem_nil, or_false] at hm
      exact h hm
    have e := in_one [100, 104, 109, 115] c
    rw [decide_eq_false hn, Bool.not_eq_false', List.isEmpty_iff] at e
    unfold Txt.find
    rw [dhms_S, e]
    unfold letAt
    rw [if_neg (by omega), if_neg (by omega), if_neg (by omega), if_neg (by omega)]
theorem letAt_lt (c : Nat) : letAt c < 4 := by
  unfold letAt
  split
  · decide
  · split
    · decide
    · split
      · decide
      · split <;> decide
def sizeAt (p : Int) : Int := [86400, 3600, 60, 1].getD p.toNat 0
/-! ### a length read -/
/-- what the loop makes of what is left, seconds so far, and the last letter -/
def rlLoop : Nat → List Nat → Int → Int → Rs
  | 0, _, _, _ => .err 7
  | k + 1, l, sec, last =>
    if l = [] then .ok (.int sec) else
    match l.dropWhile isDig with
    | [] => .err 7
    | x :: more =>
      if letAt x ≤ last ∨ ¬ (0 < (l.takeWhile isDig).length ∧ (l.takeWhile isDig).length < 7) ∨ ¬ (l.takeWhile isDig = TL.numL (NumText.digitsVal (l.takeWhile isDig))) then .err 7
      else rlLoop k more (sec + (NumText.digitsVal (l.takeWhile isDig) : Nat) * sizeAt (letAt x)) (letAt x)
theorem rlLoop_succ (k : Nat) (l : List Nat) (sec last : Int) : rlLoop (k + 1) l sec last = if l = [] then .ok (.int sec) else
    match l.dropWhile isDig with
    | [] => .err 7
    | x :: more =>
      if letAt x ≤ last ∨ ¬ (0 < (l.takeWhile isDig).length ∧ (l.takeWhile isDig).length < 7) ∨ ¬ (l.takeWhile isDig = TL.numL (NumText.digitsVal (l.takeWhile isDig))) then .err 7
      else rlLoop k more (sec + (NumText.digitsVal (l.takeWhile isDig) : Nat) * sizeAt (letAt x)) (letAt x) := rfl
def mReadLen (l : List Nat) : Rs := if l = [] then .err 7 else rlLoop (l.length + 1) l 0 (-1)
theorem isDig_letter {x : Nat} (h : 57 < x) : isDig x = false := by
  unfold isDig
  rw [decide_eq_false (show ¬ x ≤ 57 by omega), Bool.and_false]
theorem numL_dig (n : Nat) : ∀ c ∈ TL.numL n, isDig c = true := fun c hc => by
  have h := TL.numL_digits n c hc
  unfold isDig
  rw [decide_eq_true h.1, decide_eq_true h.2]
  rfl
theorem tw_app {a r : List Nat} {x : Nat} (ha : ∀ c ∈ a, isDig c = true) (hx : isDig x = false) : (a ++ x :: r).takeWhile isDig = a ∧ (a ++ x :: r).dropWhile isDig = x :: r := by
  induction a with
  | nil =>
    rw [List.nil_append, List.takeWhile_cons, List.dropWhile_cons, hx]
    exact ⟨rfl, rfl⟩
  | cons b a ih =>
    have hb := ha b List.mem_cons_self
    obtain ⟨h1, h2⟩ := ih fun c hc => ha c (List.mem_cons_of_mem _ hc)
    rw [List.cons_append, List.takeWhile_cons, List.dropWhile_cons, hb]
    exact ⟨by rw [if_pos rfl, h1], by rw [if_pos rfl, h2]⟩
/-- one piece of a told length -/
theorem rl_piece {k n x : Nat} {more : List Nat} {sec last : Int} (hn : n < 1000000) (hx : 57 < x) (hl : last < letAt x) :
    rlLoop (k + 1) (TL.numL n ++ x :: more) sec last = rlLoop k more (sec + (n : Int) * sizeAt (letAt x)) (letAt x) := by
  obtain ⟨h1, h2⟩ := tw_app (a := TL.numL n) (r := more) (numL_dig n) (isDig_letter hx)
  have hne : ¬ (TL.numL n ++ x :: more = []) := by simp
  have l1 : 0 < (TL.numL n).length := List.length_pos_iff.mpr (TL.numL_ne n)
  have l2 : (TL.numL n).length ≤ 6 := TL.numL_len (by decide) (by show n < 1000000; exact hn)
  rw [rlLoop_succ, if_neg hne, h2, h1, TL.numL_val]
  dsimp only
  rw [if_neg]
  rintro (h | h | h)
  · omega
  · exact h ⟨l1, by omega⟩
  · exact h rfl
theorem rl_end {k : Nat} {sec last : Int} : rlLoop (k + 1) [] sec last = .ok (.int sec) := by
  rw [rlLoop_succ, if_pos rfl]
end Rw
namespace Rw
open PySem PySem.Spec PyProof.Rows L2 Evl SX
/-! ### a length told -/
def tlWords : List (Nat × Nat) → Nat → List (List Nat)
  | [], _ => []
  | (c, z) :: r, s => if z ≤ s then (TL.numL (s / z) ++ [c]) :: tlWords r (s % z) else tlWords r s
def tlUnits : List (Nat × Nat) := [(100, 86400), (104, 3600), (109, 60), (115, 1)]
def tlText (s : Nat) : List Nat := if s = 0 then [48, 115] else (tlWords tlUnits s).flatten
def tlVal : List (Nat × Nat) → Nat → Nat
  | [], _ => 0
  | (_, z) :: r, s => if z ≤ s then s / z * z + tlVal r (s % z) else tlVal r s
theorem tlVal_all (s : Nat) : tlVal tlUnits s = s := by
  unfold tlUnits
  simp only [tlVal]
  split <;> split <;> split <;> split <;> omega
theorem rl_words : ∀ (r : List (Nat × Nat)) (s k : Nat) (sec last : Int), (∀ p ∈ r, 57 < p.1 ∧ sizeAt (letAt p.1) = (p.2 : Int)) → r.Pairwise (fun a b => letAt a.1 < letAt b.1) → (∀ p ∈ r, last < letAt p.1) → s < 1000000 →
    (tlWords r s).length < k → rlLoop k (tlWords r s).flatten sec last = .ok (.int (sec + (tlVal r s : Nat)))
  | [], s, k, sec, last, _, _, _, _, hk => by
    obtain ⟨k, rfl⟩ : ∃ j, k = j + 1 := ⟨k - 1, by have : 0 < k := hk; omega⟩
    show rlLoop (k + 1) [] sec last = _
    rw [rl_end]
    simp [tlVal]
  | (c, z) :: r, s, k, sec, last, hp, hs, hl, hn, hk => by
    obtain ⟨h57, hz⟩ := hp (c, z) List.mem_cons_self
    rw [List.pairwise_cons] at hs
    unfold tlWords tlVal
    unfold tlWords at hk
    by_cases q : z ≤ s
    · rw [if_pos q] at hk
      rw [if_pos q, if_pos q]
      obtain ⟨k, rfl⟩ : ∃ j, k = j + 1 := ⟨k - 1, by rw [List.length_cons] at hk; omega⟩
      have e : (((TL.numL (s / z) ++ [c]) :: tlWords r (s % z)) : List (List Nat)).flatten = TL.numL (s / z) ++ c :: (tlWords r (s % z)).flatten := by simp
      rw [e, rl_piece (Nat.lt_of_le_of_lt (Nat.div_le_self _ _) hn) h57 (hl (c, z) List.mem_cons_self)]
      rw [rl_words r (s % z) k _ _ (fun p h => hp p (List.mem_cons_of_mem _ h)) hs.2 (fun p h => hs.1 p h) (Nat.lt_of_le_of_lt (Nat.mod_le _ _) hn) (by rw [List.length_cons] at hk; omega), hz]
      rw [Int.natCast_add, Int.natCast_mul, Int.add_assoc]
    · rw [if_neg q] at hk
      rw [if_neg q, if_neg q]
      exact rl_words r s k sec last (fun p h => hp p (List.mem_cons_of_mem _ h)) hs.2 (fun p h => hl p (List.mem_cons_of_mem _ h)) hn hk
theorem words_len : ∀ (r : List (Nat × Nat)) (s : Nat), (tlWords r s).length ≤ (tlWords r s).flatten.length
  | [], _ => Nat.le_refl _
  | (c, z) :: r, s => by
    unfold tlWords
    split
    · have h := words_len r (s % z)
      rw [List.length_cons, List.flatten_cons, List.length_append, List.length_append]
      show _ ≤ _ + 1 + _
      omega
    · exact words_len r s
/-- told and read -/
theorem read_told (s : Nat) (h : s < 1000000) : mReadLen (tlText s) = .ok (.int (s : Int)) := by
  unfold tlText
  by_cases h0 : s = 0
  · subst h0
    rw [if_pos rfl]
    decide +kernel
  · rw [if_neg h0]
    have go : ∀ k, (tlWords tlUnits s).length < k → rlLoop k (tlWords tlUnits s).flatten 0 (-1) = .ok (.int (s : Int)) := fun k hk => by
      rw [rl_words tlUnits s k 0 (-1) (by decide) (by decide) (by decide) h hk, tlVal_all, Int.zero_add]
    unfold mReadLen
    have hne : ¬ ((tlWords tlUnits s).flatten = []) := fun e => by
      have g := go 5 (by
        have : (tlWords tlUnits s).length ≤ 0 := by
          have w := words_len tlUnits s
          rw [e] at w
          exact w
        omega)
      rw [e, rl_end] at g
      have z : (0 : Int) = (s : Int) := by
        injection g with g
        injection g with g
      omega
    rw [if_neg hne]
    exact go _ (Nat.lt_succ_of_le (words_len tlUnits s))
/-! ### what stands in a told length -/
theorem tlText_units (s : Nat) : (tlWords tlUnits s) = (if 86400 ≤ s then [TL.numL (s / 86400) ++ [100]] else []) ++ ((if 3600 ≤ s % 86400 then [TL.numL (s % 86400 / 3600) ++ [104]] else []) ++
    ((if 60 ≤ s % 3600 then [TL.numL (s % 3600 / 60) ++ [109]] else []) ++ (if 1 ≤ s % 60 then [TL.numL (s % 60) ++ [115]] else []))) := by
  unfold tlUnits
  simp only [tlWords]
  have m1 : s % 86400 % 3600 = s % 3600 := by omega
  have m2 : s % 3600 % 60 = s % 60 := by omega
  have step3 : ∀ t, (if 1 ≤ t then [TL.numL (t / 1) ++ [115]] else []) = (if 1 ≤ t then [TL.numL t ++ [115]] else []) := fun t => by rw [Nat.div_one]
  have f3 : ∀ t, t < 60 → (if 60 ≤ t then (TL.numL (t / 60) ++ [109]) :: (if 1 ≤ t % 60 then [TL.numL (t % 60 / 1) ++ [115]] else []) else (if 1 ≤ t then [TL.numL (t / 1) ++ [115]] else [])) = (if 60 ≤ t then [TL.numL (t / 60) ++ [109]] else []) ++ (if 1 ≤ t % 60 then [TL.numL (t % 60) ++ [115]] else []) := fun t ht => by
    rw [if_neg (show ¬ 60 ≤ t by omega), if_neg (show ¬ 60 ≤ t by omega), step3, show t % 60 = t by omega]
    rfl
  have g3 : ∀ t, (if 60 ≤ t then (TL.numL (t / 60) ++ [109]) :: (if 1 ≤ t % 60 then [TL.numL (t % 60 / 1) ++ [115]] else []) else (if 1 ≤ t then [TL.numL (t / 1) ++ [115]] else [])) = (if 60 ≤ t then [TL.numL (t / 60) ++ [109]] else []) ++ (if 1 ≤ t % 60 then [TL.numL (t % 60) ++ [115]] else []) := fun t => by
    by_cases h : 60 ≤ t
    · rw [if_pos h, if_pos h, step3]
      rfl
    · exact f3 t (by omega)
  have g2 : ∀ t, (if 3600 ≤ t then (TL.numL (t / 3600) ++ [104]) :: (if 60 ≤ t % 3600 then (TL.numL (t % 3600 / 60) ++ [109]) :: (if 1 ≤ t % 3600 % 60 then [TL.numL (t % 3600 % 60 / 1) ++ [115]] else []) else (if 1 ≤ t % 3600 then [TL.numL (t % 3600 / 1) ++ [115]] else []))
      else (if 60 ≤ t then (TL.numL (t / 60) ++ [109]) :: (if 1 ≤ t % 60 then [TL.numL (t % 60 / 1) ++ [115]] else []) else (if 1 ≤ t then [TL.numL (t / 1) ++ [115]] else []))) =
      (if 3600 ≤ t then [TL.numL (t / 3600) ++ [104]] else []) ++ ((if 60 ≤ t % 3600 then [TL.numL (t % 3600 / 60) ++ [109]] else []) ++ (if 1 ≤ t % 60 then [TL.numL (t % 60) ++ [115]] else [])) := fun t => by
    by_cases h : 3600 ≤ t
    · rw [if_pos h, if_pos h, g3 (t % 3600), show t % 3600 % 60 = t % 60 by omega]
      rfl
    · rw [if_neg h, if_neg h, g3 t, show t % 3600 = t by omega]
      rfl
  by_cases h : 86400 ≤ s
  · rw [if_pos h, if_pos h, g2 (s % 86400), m1, show s % 86400 % 60 = s % 60 by omega]
    rfl
  · rw [if_neg h, if_neg h, g2 s, show s % 86400 = s by omega]
    rfl
theorem numL_head {n : Nat} (h : 0 < n) : (TL.numL n).head? ≠ some 48 := by
  induction n using Nat.strongRecOn with
  | ind n ih =>
    by_cases q : n < 10
    · rw [TL.numL_lt q]
      intro e
      have e : 48 + n = 48 := Option.some.inj e
      omega
    · rw [TL.numL_step (by omega)]
      cases hz : TL.numL (n / 10) with
      | nil => exact absurd hz (TL.numL_ne _)
      | cons a r =>
        have g := ih (n / 10) (by omega) (by omega)
        rw [hz] at g
        exact g
theorem mem_opt {x c n : Nat} {p : Prop} [Decidable p] (hx : 57 < x) : x ∈ (if p then [TL.numL n ++ [c]] else []).flatten ↔ p ∧ x = c := by
  by_cases h : p
  · rw [if_pos h]
    have f : x ∉ TL.numL n := TL.numL_free (.inr hx)
    simp [f, h]
  · rw [if_neg h]
    simp [h]
theorem let_mem {x s : Nat} (hx : 57 < x) : x ∈ (tlWords tlUnits s).flatten ↔ (86400 ≤ s ∧ x = 100) ∨ (3600 ≤ s % 86400 ∧ x = 104) ∨ (60 ≤ s % 3600 ∧ x = 109) ∨ (1 ≤ s % 60 ∧ x = 115) := by
  rw [tlText_units, List.flatten_append, List.flatten_append, List.flatten_append, List.mem_append, List.mem_append, List.mem_append, mem_opt hx, mem_opt hx, mem_opt hx, mem_opt hx]
theorem d_in (s : Nat) : decide (100 ∈ tlText s) = decide (86400 ≤ s) := by
  unfold tlText
  by_cases h : s = 0
  · subst h
    decide
  · rw [if_neg h]
    refine decide_eq_decide.mpr ?_
    rw [let_mem (by decide)]
    omega
theorem s_in (s : Nat) : decide (115 ∈ tlText s) = (decide (0 < s % 60) || decide (s = 0)) := by
  unfold tlText
  by_cases h : s = 0
  · subst h
    decide
  · rw [if_neg h, decide_eq_false h, Bool.or_false]
    refine decide_eq_decide.mpr ?_
    rw [let_mem (by decide)]
    omega
def okSign (c : Nat) : Bool := isDig c || decide (c ∈ [100, 104, 109, 115])
theorem words_ok : ∀ (r : List (Nat × Nat)) (s : Nat), (∀ p ∈ r, okSign p.1 = true) → ∀ c ∈ (tlWords r s).flatten, okSign c = true
  | [], _, _, c, h => by cases h
  | (a, z) :: r, s, hp, c, h => by
    unfold tlWords at h
    split at h
    · rw [List.flatten_cons, List.mem_append, List.mem_append, List.mem_singleton] at h
      rcases h with (h | rfl) | h
      · unfold okSign
        rw [numL_dig _ c h]
        rfl
      · exact hp (c, z) List.mem_cons_self
      · exact words_ok r _ (fun p h => hp p (List.mem_cons_of_mem _ h)) c h
    · exact words_ok r s (fun p h => hp p (List.mem_cons_of_mem _ h)) c h
theorem text_ok (s : Nat) : ∀ c ∈ tlText s, okSign c = true := by
  unfold tlText
  split
  · decide
  · exact words_ok tlUnits s (by decide)
theorem words_head : ∀ (r : List (Nat × Nat)) (s : Nat), (∀ p ∈ r, 0 < p.2) → (tlWords r s).flatten.head? ≠ some 48
  | [], _, _ => by
    show ([] : List Nat).head? ≠ some 48
    decide
  | (a, z) :: r, s, hp => by
    have hz : 0 < z := hp (a, z) List.mem_cons_self
    unfold tlWords
    split
    · rename_i q
      rw [List.flatten_cons, List.append_assoc]
      have g := numL_head (n := s / z) (Nat.div_pos q hz)
      cases e : TL.numL (s / z) with
      | nil => exact absurd e (TL.numL_ne _)
      | cons b m =>
        rw [e] at g
        exact g
    · exact words_head r s fun p h => hp p (List.mem_cons_of_mem _ h)
theorem text_head {s : Nat} (h : 0 < s) : (tlText s).head? ≠ some 48 := by
  unfold tlText
  rw [if_neg (by omega)]
  exact words_head tlUnits s (by decide)
theorem text_days {s : Nat} (h : 86400 ≤ s) : ∃ more, tlText s = TL.numL (s / 86400) ++ ([100] ++ more) := by
  unfold tlText
  rw [if_neg (by omega), tlText_units, if_pos h]
  exact ⟨_, by rw [List.flatten_append, List.flatten_singleton, List.append_assoc]⟩
theorem words_short : ∀ (r : List (Nat × Nat)) (s : Nat), s < 1000000 → (tlWords r s).flatten.length ≤ 7 * r.length
  | [], _, _ => Nat.zero_le _
  | (a, z) :: r, s, h => by
    unfold tlWords
    split
    · have g := words_short r (s % z) (Nat.lt_of_le_of_lt (Nat.mod_le _ _) h)
      have l := TL.numL_len (n := s / z) (k := 6) (by decide) (by show s / z < 1000000; exact Nat.lt_of_le_of_lt (Nat.div_le_self _ _) h)
      have er : ((a, z) :: r).length = r.length + 1 := rfl
      have e1 : ([a] : List Nat).length = 1 := rfl
      rw [List.flatten_cons, List.length_append, List.length_append, er, e1]
      omega
    · have g := words_short r s h
      have er : ((a, z) :: r).length = r.length + 1 := rfl
      omega
theorem text_short {s : Nat} (h : s < 1000000) : (tlText s).length ≤ 28 := by
  unfold tlText
  split
  · decide
  · exact words_short tlUnits s h
end Rw
namespace Rw
open PySem PySem.Spec PyProof.Rows L2 Evl SX
/-! ### texts and new lists, evaluated -/
section
variable {K : PySem.W.Frag} {σ : L2.St} {H : Hp} {to te ta tb : TE} {a b z : Str} {xs ys : List V}
theorem ev_m1 {r : V → List V → Hp → VK → Prop} {x y v : V} (ho : Ev to σ H (.str a)) (he : Ev te σ H y) (hr : ∀ H1 (Q : VK), Q v H1 → r (.str a) [y] H1 Q) : Ev (tM1 r to te) σ H v := fun H1 e Q q =>
  ho H1 e _ fun H2 e2 => ⟨⟨a, rfl⟩, he H2 (e.trans e2) _ fun H3 e3 => hr H3 Q (q H3 (e2.trans e3))⟩
theorem ev_lstrip (ho : Ev to σ H (.str a)) (he : Ev te σ H (.str b)) (hz : a.length ≤ 100000) : Ev (tM1 (fun x xs H Q => ∃ a b, x = .str a ∧ xs = [.str b] ∧ a.length ≤ sizeLine ∧ Q (.str (Txt.lstripChars a b)) H) to te) σ H (.str (Txt.lstripChars a b)) :=
  ev_m1 (x := .str a) ho he fun H1 Q q => ⟨a, b, rfl, rfl, sz_of hz, q⟩
theorem ev_strip (ho : Ev to σ H (.str a)) (he : Ev te σ H (.str b)) (hz : a.length ≤ 100000) : Ev (tM1 (fun x xs H Q => ∃ a b, x = .str a ∧ xs = [.str b] ∧ a.length ≤ sizeLine ∧ Q (.str (Txt.stripChars a b)) H) to te) σ H (.str (Txt.stripChars a b)) :=
  ev_m1 (x := .str a) ho he fun H1 Q q => ⟨a, b, rfl, rfl, sz_of hz, q⟩
theorem ev_find (ho : Ev to σ H (.str a)) (he : Ev te σ H (.str b)) : Ev (tM1 (fun x xs H Q => ∃ a b, x = .str a ∧ xs = [.str b] ∧ Q (.int (Txt.find a b)) H) to te) σ H (.int (Txt.find a b)) :=
  ev_m1 (x := .str a) ho he fun H1 Q q => ⟨a, b, rfl, rfl, q⟩
theorem ev_lenS (h : Ev ta σ H (.str z)) (hz : z.length ≤ 100000) : Ev (tCB (fun xs H Q => ∃ z, xs = [.str z] ∧ z.length ≤ sizeLine ∧ Q (.int z.length) H) (tCons ta tNil)) σ H (.int (z.length : Nat)) := fun H1 e Q q =>
  h H1 e _ fun H2 e2 => ⟨z, rfl, sz_of hz, q H2 e2⟩
theorem ev_lenL {p : Addr} (h : Ev ta σ H (.ref p)) (hs : SqL K H p xs) : Ev (tCB (fun xs H Q => ∃ p ys, xs = [.ref p] ∧ (SqL K H p ys ∨ SqT K H p ys) ∧ Q (.int ys.length) H) (tCons ta tNil)) σ H (.int (xs.length : Nat)) := fun H1 e Q q =>
  h H1 e _ fun H2 e2 => ⟨p, xs, rfl, .inl (ex_l (e.trans e2) hs), q H2 e2⟩
theorem ev_slS {tl th : TO} {lo hi : Option Int} (h : Ev te σ H (.str z)) (h1 : EvO tl σ H lo) (h2 : EvO th σ H hi) (hz : z.length ≤ 100000) : Ev (tSl rSlS te tl th) σ H (.str (cutS z lo hi)) := fun H1 e Q q =>
  h H1 e _ fun H2 e2 => h1 H2 (e.trans e2) _ fun H3 e3 => h2 H3 ((e.trans e2).trans e3) _ fun H4 e4 => ⟨z, rfl, sz_of hz, q H4 ((e2.trans e3).trans e4)⟩
theorem ev_intS {n : Int} (h : Ev ta σ H (.str z)) (hn : intText? z = some n) (hz : z.length ≤ 640) : Ev (tCB (fun xs H Q => ∃ a n, xs = [.str a] ∧ PySem.intText? a = some n ∧ a.length ≤ 640 ∧ Q (.int n) H) (tCons ta tNil)) σ H (.int n) := fun H1 e Q q =>
  h H1 e _ fun H2 e2 => ⟨z, n, rfl, hn, hz, q H2 e2⟩
theorem ev_strI {n : Int} (h : Ev ta σ H (.int n)) (hn : n.natAbs.log2 < 1920) : Ev (tCB (fun xs H Q => ∃ i, xs = [.int i] ∧ i.natAbs.log2 < 1920 ∧ Q (.str (toString i)) H) (tCons ta tNil)) σ H (.str (toString n)) := fun H1 e Q q =>
  h H1 e _ fun H2 e2 => ⟨n, rfl, hn, q H2 e2⟩
theorem ev_anyN {bs : List Bool} (h : EvL te σ H (bs.map V.bl)) : Ev (tCB (rAny K) (tCons te tNil)) σ H (.bl (bs.any id)) := fun H1 e Q q =>
  h H1 e _ fun p H2 _ e2 h2 => ⟨p, bs, rfl, sq_of h2, q H2 e2⟩
theorem el_cat (ha : EvL ta σ H xs) (hb : EvL tb σ H ys) (hz : xs.length + ys.length ≤ 100000) : EvL (tOp rCat ta tb) σ H (xs ++ ys) := fun H1 e Q q =>
  ha H1 e _ fun p H2 hp e2 h2 => hb H2 (e.trans e2) _ fun p2 H3 hp2 e3 h3 => ⟨p, p2, xs, ys, rfl, rfl, e3 p _ h2, h3, sz_of hz, fun l hl => q l _ (fresh_back (e2.trans e3) hl) ((e2.trans e3).trans (Ex.new hl)) upd_same⟩
theorem el_split (ho : Ev to σ H (.str a)) (he : Ev te σ H (.str b)) (hb : (b.length == 0) = false) (hz : a.length ≤ 90000) :
    EvL (tM1 (fun x xs H Q => ∃ a b, x = .str a ∧ xs = [.str b] ∧ (b.length == 0) = false ∧ a.length + 2 ≤ sizeLine ∧ rNewStrs (Txt.split a b) H Q) to te) σ H ((Txt.split a b).map V.str) := fun H1 e Q q =>
  ho H1 e _ fun H2 e2 => ⟨⟨a, rfl⟩, he H2 (e.trans e2) _ fun H3 e3 => ⟨a, b, rfl, rfl, hb, sz_of (by omega), fun p hp => q p _ (fresh_back (e2.trans e3) hp) ((e2.trans e3).trans (Ex.new hp)) upd_same⟩⟩
theorem et_val {b : Bool} (h : Ev te σ H (.bl b)) : EvT (tB te) σ H b := et_B h
end
/-! ### words of figures -/
theorem tw_last {p : Nat → Bool} {x : Nat} (hx : p x = false) : ∀ a : List Nat, ((a ++ [x]).takeWhile p).length ≤ a.length
  | [] => by
    rw [List.nil_append, List.takeWhile_cons, hx]
    exact Nat.le_refl _
  | b :: a => by
    rw [List.cons_append, List.takeWhile_cons]
    split
    · have h := tw_last hx a
      rw [List.length_cons, List.length_cons]
      omega
    · exact Nat.zero_le _
theorem strip_S (l : List Nat) : (Txt.stripChars (S l) "0123456789" = "") ↔ l.all isDig = true := by
  have he : ("" : Str) = S [] := by decide +kernel
  rw [he]
  unfold Txt.stripChars
  rw [PyProof.Rows.stripBy_eq, show (("0123456789" : Str)).cps.contains = isDig from funext figs_has]
  unfold stripLo stripHi
  rw [if_pos rfl, if_pos rfl, extract_S]
  show S ((l.drop (l.takeWhile isDig).length).take ((S l).length - ((l.drop (l.takeWhile isDig).length).reverse.takeWhile isDig).length - (l.takeWhile isDig).length)) = S [] ↔ _
  rw [S_len, drop_takeWhile]
  have e := congrArg List.length (List.takeWhile_append_dropWhile (p := isDig) (l := l))
  rw [List.length_append] at e
  cases hd : l.dropWhile isDig with
  | nil =>
    rw [List.take_nil]
    refine ⟨fun _ => ?_, fun _ => rfl⟩
    have t := List.takeWhile_append_dropWhile (p := isDig) (l := l)
    rw [hd, List.append_nil] at t
    rw [← t]
    exact List.all_takeWhile
  | cons x r =>
    have hx : isDig x = false := by
      have q := List.head_dropWhile_not (p := isDig) (l := l) (by rw [hd]; exact List.cons_ne_nil _ _)
      simpa [hd] using q
    have lt := tw_last (p := isDig) hx r.reverse
    rw [List.length_reverse] at lt
    rw [hd, List.length_cons] at e
    rw [List.reverse_cons]
    refine ⟨fun q => ?_, fun q => ?_⟩
    · exfalso
      obtain ⟨m, hm⟩ : ∃ m, l.length - ((r.reverse ++ [x]).takeWhile isDig).length - (l.takeWhile isDig).length = m + 1 := ⟨l.length - ((r.reverse ++ [x]).takeWhile isDig).length - (l.takeWhile isDig).length - 1, by omega⟩
      rw [hm, List.take_succ_cons] at q
      exact List.cons_ne_nil _ _ (S_inj q)
    · exfalso
      have hm : x ∈ l := by
        rw [← List.takeWhile_append_dropWhile (p := isDig) (l := l), hd]
        exact List.mem_append_right _ List.mem_cons_self
      have z := List.all_eq_true.mp q x hm
      rw [hx] at z
      cases z
/-- return f(..): what f gives -/
theorem s_retF {c : Nat → Addr} {f : List V → Option Rs} {σ : L2.St} {H : Hp} {vs dvs : List V} {ta : TA} {E : XK} {Q : VK} {D : Ends} {r : Rs} (h : EvA ta σ H vs) (hf : f (vs ++ dvs) = some r) (o : Out c H Q E r) (hD : D.rt = Q) : tRet (tCall (spF c f) dvs E ta) D σ H := by
  subst hD
  exact h H (Ex.refl H) _ fun H2 e2 => ⟨r, hf, o.mono e2⟩
theorem at_map {ns : List Int} {i : Nat} (h : i < ns.length) : atI (ns.map V.int) (i : Int) = some (.int (ns.getD i 0)) :=
  atI_nat (by rw [List.getElem?_map, List.getElem?_eq_getElem h, List.getD_eq_getElem?_getD, List.getElem?_eq_getElem h]; rfl)
end Rw
namespace Rw
open PySem PySem.Spec PyProof.Rows L2
/-- a text's signs beside a tuple's items: new pairs -/
def ItST (K : PySem.W.Frag) (z : Str) (b : Addr) : It where
  go := fun i H => ∃ (c : Nat) (ys : List V) (y : V), z.cps[i]? = some c ∧ SqT K H b ys ∧ ys[i]? = some y
  yld := fun i H v H' => ∃ (T : Addr) (c : Nat) (y : V), v = .ref T ∧ H T = none ∧ H' = upd H T (.tup [.str ⟨#[c]⟩, y]) ∧ z.cps[i]? = some c ∧ ∀ ys, SqT K H b ys → ys[i]? = some y
  stop := fun i H => ∃ ys : List V, SqT K H b ys ∧ i ≤ z.cps.size ∧ i ≤ ys.length ∧ (i = z.cps.size ∨ i = ys.length)
/-- where such a zip stands: its five cells -/
structure StST (z : Str) (tz : Tok) (b a0 a1 a2 a3 a4 : Addr) (i : Nat) (h : Heap) : Prop where
  zip : IsZip h a0 a1 a2 .none
  two : IsTupOf2 h a1 (.ref a3) (.ref a4)
  res : ∃ u v, IsTupOf2 h a2 u v
  txt : h.IsStrIter a3 (strIterType z) z tz i
  tup : h.IsTupleIter a4 b i
theorem ne_next {b N : Nat} (h : b < N) : b ≠ N + 1 := by omega
theorem iter_at {h h' : Heap} {a : Addr} {T : String} {z : Str} {t : Tok} {i : Nat} (x : h.IsStrIter a T z t i) (k : ∀ o, h.get? a = some o → h'.get? a = some o) : h'.IsStrIter a T z t i := by
  obtain ⟨o, e, c, d⟩ := x
  exact ⟨o, k o e, c, d⟩
theorem five_of {a0 a1 a2 a3 a4 x : Addr} (h : x ∈ [a0, a1, a2, a3, a4]) : x = a0 ∨ x = a1 ∨ x = a2 ∨ x = a3 ∨ x = a4 := by simpa using h
theorem StST.cells {z : Str} {tz : Tok} {b a0 a1 a2 a3 a4 : Addr} {i : Nat} {h : Heap} (S : StST z tz b a0 a1 a2 a3 a4 i h) : ∀ x ∈ [a0, a1, a2, a3, a4], ∃ o, h.get? x = some o ∧ ∀ v, o.data ≠ .cell v := fun x hx => by
  obtain ⟨u, v, r⟩ := S.res
  obtain ⟨o3, e3, _, d3⟩ := S.txt
  obtain ⟨o4, e4, _, d4⟩ := S.tup
  rcases five_of hx with rfl | rfl | rfl | rfl | rfl
  · exact ⟨_, S.zip, fun v q => by cases q⟩
  · exact ⟨_, S.two, fun v q => by cases q⟩
  · exact ⟨_, r, fun v q => by cases q⟩
  · exact ⟨o3, e3, fun v q => by rw [d3] at q; cases q⟩
  · exact ⟨o4, e4, fun v q => by rw [d4] at q; cases q⟩
theorem turn_st {P : Program} {w : World} {K : PySem.W.Frag} {elts : List Expr} {kk : Nat} {tp : Pos} {z : Str} {tz : Tok} {b N : Addr} (hb : b < N) :
    Turn P w K (.Tuple elts kk tp) (ItST K z b) [N + 4, N + 2, N + 3, N, N + 1] (N + 4) (StST z tz b (N + 4) (N + 2) (N + 3) N (N + 1)) where
  mem := List.mem_cons_self ..
  obj := fun i h S => S.cells
  keep := fun i h h' S k => by
    obtain ⟨u, v, r⟩ := S.res
    exact ⟨k _ (by simp) _ S.zip, k _ (by simp) _ S.two, ⟨u, v, k _ (by simp) _ r⟩, iter_at S.txt fun o e => k _ (by simp) o e, S.tup.at fun o e => k _ (by simp) o e⟩
  item := by
    rintro X rfl rfl rfl hc i pins s σ H E I hf S ⟨c, ys, y, hz, hy, hi⟩
    have apart := zip_sep2 (N := N) (fp1 := []) (fp2 := [b]) (fun x hx => by simp at hx) (fun x hx => by simp at hx; rw [hx]; exact hb)
    obtain ⟨us, rv, tupb, _⟩ := I.tuple hy
    obtain ⟨uy, huy, ry⟩ := rv.get hi
    obtain ⟨u, v, r⟩ := S.res
    have nb : b ≠ N + 1 := ne_next hb
    have h1 : i < z.cps.size := by
      cases Nat.lt_or_ge i z.cps.size with
      | inl q => exact q
      | inr q =>
        rw [Array.getElem?_eq_none q] at hz
        cases hz
    have h2 : i < us.toArray.size := by
      have q := (List.getElem?_eq_some_iff.mp huy).1
      simpa using q
    refine wpAny_pyNext_zipD2_item apart (Draws.text (by rw [show X.A.in1.handled = X.A.handled from rfl]; exact I.ok.hd hc) N z tz) (Draws.tuple (by rw [show X.A.in1.handled = X.A.handled from rfl]; exact I.ok.hd hc) (N + 1) b nb us.toArray) S.zip S.two r S.txt ⟨S.tup, tupb⟩ h1 h2 fun x1 x2 h' tk y1 y2 b1 b2 d1 d2 b5 b6 kp => ?_
    obtain ⟨c', tc, hc', rfl⟩ := y1
    rw [hz] at hc'
    obtain rfl : c = c' := Option.some.inj hc'
    have ex2 : uy = x2 := Option.some.inj (huy.symm.trans (by simpa using y2))
    subst ex2
    have kp5 : ∀ x o, x ∉ [N + 4, N + 2, N + 3, N, N + 1] → s.heap.get? x = some o → h'.get? x = some o := fun x o nx e => kp x o (fun q => nx (by simp [q])) (fun q => nx (by simp [q])) (fun q => nx (by simp [q])) (fun q => nx (by simp [q])) e
    have lt4 : N + 4 < s.heap.objs.size := Heap.lt_size S.zip
    refine ⟨_, rfl, wpAny_letOwnedTupleGo_zip (s := { s with heap := h', toks := tk }) b1 fun h2' z2 sb => ?_⟩
    have pr : h2'.get? s.heap.objs.size = some { cls := .type "tuple", data := .seq #[.str ⟨#[c]⟩ tc, uy] } := (sb.2 _ (Nat.ne_of_gt lt4)).trans b5
    have new : ObjOk X.prog X.w (upd H s.heap.objs.size (.tup [.str ⟨#[c]⟩, y])) h2' s.heap.objs.size (.tup [.str ⟨#[c]⟩, y]) :=
      ⟨by show 2 ≤ sizeLine; decide, [.str ⟨#[c]⟩ tc, uy], .cons ⟨tc, rfl⟩ (.cons ry .nil), ⟨_, pr, rfl, _, rfl⟩⟩
    have J := I.turnedNew (t' := tk) (ch := [N + 4, N + 2, N + 3, N, N + 1]) (h' := h2') (fun x o nx e => (sb.2 x (fun q => nx (by simp [q]))).trans (kp5 x o nx e)) hf (Nat.le_refl _) new
    refine ⟨.ref s.heap.objs.size, _, J, rfl, ⟨_, c, y, rfl, I.hok.fresh (Nat.le_refl _), rfl, hz, fun l hl => by rw [I.tuple_inj hl hy]; exact hi⟩, ⟨z2, ?_, ⟨.str ⟨#[c]⟩ tc, uy, ?_⟩, ?_, ?_⟩, fun x hx => ?_⟩
    · exact (sb.2 _ apart.TIz).trans (kp _ _ apart.TIz apart.TITO apart.TIi1 apart.TIi2 S.two)
    · exact (sb.2 _ apart.TOz).trans b2
    · exact iter_at d1 fun o e => (sb.2 _ apart.zi1.symm).trans e
    · exact d2.1.at fun o e => (sb.2 _ apart.zi2.symm).trans e
    · obtain ⟨o, eo, _⟩ := S.cells x hx
      rw [upd_ne (Nat.ne_of_lt (Heap.lt_size eo))]
      exact (hf x hx).1
  done := by
    rintro X rfl rfl rfl hc i pins s σ H E I hf S ⟨ys, hy, l1, l2, hend⟩
    have apart := zip_sep2 (N := N) (fp1 := []) (fp2 := [b]) (fun x hx => by simp at hx) (fun x hx => by simp at hx; rw [hx]; exact hb)
    obtain ⟨us, rv, tupb, _⟩ := I.tuple hy
    obtain ⟨u, v, r⟩ := S.res
    have nb : b ≠ N + 1 := ne_next hb
    have el : us.toArray.size = ys.length := by rw [List.size_toArray, rv.length]
    refine wpAny_pyNext_zipD2_end apart (Draws.text (by rw [show X.A.in1.handled = X.A.handled from rfl]; exact I.ok.hd hc) N z tz) (Draws.tuple (by rw [show X.A.in1.handled = X.A.handled from rfl]; exact I.ok.hd hc) (N + 1) b nb us.toArray) S.zip S.two r S.txt ⟨S.tup, tupb⟩ l1 (by rw [el]; exact l2) (by rw [el]; exact hend) fun h' tk kp => ⟨rfl, ?_⟩
    exact I.turnedL (t' := tk) (ch := [N + 4, N + 2, N + 3, N, N + 1]) (fun x o nx e => kp x o (fun q => nx (by simp [q])) (fun q => nx (by simp [q])) (fun q => nx (by simp [q])) (fun q => nx (by simp [q])) e) hf
  self := fun A i s Q E S q => wpAny_pyIter_zip S.zip q
/-- zip(text, tuple) -/
def iZipST (K : PySem.W.Frag) (ta : TA) : TI := fun σ H R => ta σ H fun vs H1 => ∃ (z : Str) (b : Addr) (ys : List V), vs = [.str z, .ref b] ∧ SqT K H1 b ys ∧ R (ItST K z b) H1
theorem pi_zipST {X : Cx} {e e2 : Expr} {ta : TA} {p pos tp : Pos} {elts : List Expr} {kk : Nat} (hm : X.mg "zip" = none) (ha : PA X [e, e2] ta) (hg : Gl X "zip" := by rfl)
    (stars : starEach [e, e2] X.env = (false, eval e X.env) :: starEach [e2] X.env := by rfl) (plain : (backTo pos (starEach [e2] X.env)).any (·.1) = false := by rfl) :
    PI X (.Tuple elts kk tp) (.Call (.Name "zip" p) [e, e2] [] pos) (iZipST X.K ta) := by
  constructor
  intro pins s σ H R I h
  refine Call_ (ld_blt I hg hm PyProof.Rows.boot_zip (PyProof.Rows.callWith_type1 (thn (ha.run pos pins s σ H _ I h) ?_) stars plain))
  rintro us s1 ⟨vs, H1, J, r, z, b, ys, rfl, hy, q⟩
  match us, r with
  | [u1, u2], .cons r1 (.cons r2 .nil) =>
    obtain ⟨tz, rfl⟩ := r1
    obtain rfl : u2 = Value.ref b := r2
    obtain ⟨its, rv, tupb, _⟩ := J.tuple hy
    have hb : b < s1.heap.objs.size := by
      obtain ⟨o, e, _⟩ := id tupb
      exact Heap.lt_size e
    refine zip_begins2 (begins_text z tz) (begins_tuple b its.toArray) trivial tupb fun h' g0 g1 g2 g3 g4 _ kp => wpAny_pyIter_zip g0 ?_
    refine ⟨s1.heap.objs.size + 4, _, _, _, H1, rfl, J.kept (t' := s1.toks) kp, turn_st (tz := tz) hb, ⟨g0, g1, ⟨_, _, g2⟩, ⟨_, g3, rfl, rfl⟩, ⟨_, g4, rfl, rfl⟩⟩, fun x hx => ?_, q⟩
    have le : s1.heap.objs.size ≤ x := by
      rcases five_of hx with q | q | q | q | q
      · rw [q]; exact Nat.le_add_right ..
      · rw [q]; exact Nat.le_add_right ..
      · rw [q]; exact Nat.le_add_right ..
      · rw [q]; exact Nat.le_refl _
      · rw [q]; exact Nat.le_add_right ..
    exact J.fpOk le (J.hok.fresh le)
/-- a loop over such a zip, of as many signs as items -/
theorem for_zipST {K : PySem.W.Frag} {z : Str} {b : Addr} {ys : List V} {g : TG} {tb : TS} {D : Ends} {σ : L2.St} {H : Hp} (hl : z.cps.size = ys.length) (Pv : Nat → L2.St → Hp → Prop) (h0 : Pv 0 σ H) (hq : ∀ i σ H, Pv i σ H → SqT K H b ys)
    (hs : ∀ (i : Nat) (c : Nat) (y : V) (T : Addr) (σ : L2.St) (H : Hp), z.cps[i]? = some c → ys[i]? = some y → Pv i σ H → H T = none → g (.ref T) σ (upd H T (.tup [.str ⟨#[c]⟩, y])) fun σ2 H2 => tb { D with nx := Pv (i + 1), ct := Pv (i + 1), bk := D.nx } σ2 H2) (hd : ∀ σ H, Pv ys.length σ H → D.nx σ H) :
    ∃ Wd : Nat → Nat → L2.St → Hp → Prop, (∃ m, Wd 0 m σ H) ∧ ∀ i m σ H, Wd i m σ H →
      ((ItST K z b).stop i H ∧ D.nx σ H) ∨ ((ItST K z b).go i H ∧ ∃ N : L2.St → Hp → Prop, (∀ σ' H', N σ' H' → ∃ m', m' < m ∧ Wd (i + 1) m' σ' H') ∧ ∀ v H', (ItST K z b).yld i H v H' → g v σ H' fun σ2 H2 => tb { D with nx := N, ct := N, bk := D.nx } σ2 H2) := by
  refine ⟨fun i m σ H => m + i = ys.length ∧ Pv i σ H, ⟨ys.length, rfl, h0⟩, ?_⟩
  rintro i m σ H ⟨em, p⟩
  have q := hq i σ H p
  cases m with
  | zero =>
    have e : i = ys.length := by omega
    subst e
    exact .inl ⟨⟨ys, q, by omega, Nat.le_refl _, .inr rfl⟩, hd σ H p⟩
  | succ m =>
    have lt : i < ys.length := by omega
    have ltz : i < z.cps.size := by omega
    refine .inr ⟨⟨z.cps[i], ys, ys[i], Array.getElem?_eq_getElem ltz, q, List.getElem?_eq_getElem lt⟩, Pv (i + 1), fun σ' H' p' => ⟨m, Nat.lt_succ_self m, by omega, p'⟩, ?_⟩
    rintro v H' ⟨T, c, y, rfl, hT, rfl, hc, hy⟩
    exact hs i c y T σ H hc (hy ys q) p hT
end Rw
namespace Rw
open PySem PySem.Spec PyProof.Rows L2 Evl SX
section
variable {K : PySem.W.Frag} {σ : L2.St} {H : Hp} {t1 t2 te tl : TE} {ta : TA} {D : Ends} {tu tz : TS}
theorem empty_cat (y : Str) : Str.empty ++ y = y := by
  have e : Str.empty = S [] := by decide +kernel
  rw [e, ← S_tl y, S_cat, List.nil_append]
/-- f'{n}{y}' -/
theorem ev_js2 {n : Int} {y : Str} (h1 : Ev t1 σ H (.int n)) (h2 : Ev t2 σ H (.str y)) (hn : n.natAbs.log2 < 1920) (hy : y.length ≤ 1000) (hz : (Str.ofString (toString n)).length ≤ 1000) :
    Ev (fun σ H Q => tJs [tFmt t1, tFmt t2] Str.empty σ H fun out H1 => Q (.str out) H1) σ H (.str (Str.ofString (toString n) ++ y)) := fun H1 e Q q =>
  h1 H1 e _ fun H2 e2 => .inr ⟨n, rfl, hn, _, rfl, by rw [empty_cat]; exact sz_of (Nat.le_trans hz (by decide)), h2 H2 (e.trans e2) _ fun H3 e3 => .inl ⟨y, rfl, sz_of (Nat.le_trans hy (by decide)), _, rfl, by
    rw [empty_cat, ← S_tl (Str.ofString (toString n)), ← S_tl y, S_cat, S_len, List.length_append, ← S_len, ← S_len, S_tl, S_tl]
    exact sz_of (by omega), by
    rw [empty_cat]
    exact q H3 (e2.trans e3)⟩⟩
/-- a loop over zip(text, tuple), the names at i and j -/
theorem q_forZ {z : Str} {b : Addr} {ys : List V} {i j : Nat} (h : EvA ta σ H [.str z, .ref b]) (hy : SqT K H b ys) (hl : z.cps.size = ys.length) (Pv : Nat → L2.St → Hp → Prop) (h0 : ∀ H1, Ex H H1 → Pv 0 σ H1)
    (hq : ∀ n σ' H', Pv n σ' H' → SqT K H' b ys)
    (hs : ∀ (n : Nat) (c : Nat) (y : V) (T : Addr) σ' H', z.cps[n]? = some c → ys[n]? = some y → Pv n σ' H' → H' T = none → tu { D with nx := Pv (n + 1), ct := Pv (n + 1), bk := tz D } ((σ'.set i (some (.str ⟨#[c]⟩))).set j (some y)) (upd H' T (.tup [.str ⟨#[c]⟩, y])))
    (hd : ∀ σ' H', Pv ys.length σ' H' → tz D σ' H') : tSeq (tFor (iZipST K ta) (gTup K 2 (gCons (gName i) (gCons (gName j) gNil))) tu) tz D σ H :=
  h H (Ex.refl H) _ fun H1 e => ⟨z, b, ys, rfl, ex_t e hy, for_zipST hl Pv (h0 H1 e) hq (fun n c y T σ' H' hc hy' hp hT =>
    ⟨T, _, rfl, SqT.of upd_same, rfl, _, _, rfl, _, _, rfl, rfl, hs n c y T σ' H' hc hy' hp hT⟩) hd⟩
/-- sep.join(list) -/
theorem ev_joinL {to : TE} {a : Str} {zs : List Str} {l : Addr} (ho : Ev to σ H (.str a)) (he : Ev te σ H (.ref l)) (hl : SqL K H l (zs.map V.str)) (hz : (zs.map (·.length)).sum + zs.length * a.length ≤ 16777216) :
    Ev (tM1 (fun x xs H Q => ∃ a p, ∃ ys : List Str, x = .str a ∧ xs = [.ref p] ∧ (SqL K H p (ys.map V.str) ∨ SqT K H p (ys.map V.str)) ∧ (ys.map (·.length)).sum + ys.length * a.length ≤ 16777216 ∧ Q (.str (Txt.join a ys)) H) to te) σ H (.str (Txt.join a zs)) := fun H1 e Q q =>
  ho H1 e _ fun H2 e2 => ⟨⟨a, rfl⟩, he H2 (e.trans e2) _ fun H3 e3 => ⟨a, l, zs, rfl, rfl, .inl (ex_l ((e.trans e2).trans e3) hl), hz, q H3 (e2.trans e3)⟩⟩
theorem s_joinL_flat (l : List (List Nat)) : TL.joinL [] l = l.flatten := by
  induction l with
  | nil => rfl
  | cons a r ih =>
    cases r with
    | nil => simp [TL.joinL]
    | cons b r =>
      simp only [TL.joinL, List.flatten_cons] at ih ⊢
      rw [ih]
      simp
end
end Rw
namespace Rw
open PySem PySem.Spec PyProof.Rows L2 Evl SX
section
variable {K : PySem.W.Frag} {σ : L2.St} {H : Hp} {te tl ta tb : TE} {t : TT} {j : Nat} {vs : List Nat} {xs ys : List V}
/-- all items of a list display, each made another -/
theorem el_mapNL (h : EvL tl σ H xs) (hz : xs.length ≤ 40000) (hw : ∀ x, wipe ((wipe σ vs).set j (some x)) vs = wipe σ vs) (hl : xs.length = ys.length)
    (he : ∀ (i : Nat) (x y : V) H1, Ex H H1 → xs[i]? = some x → ys[i]? = some y → Ev te ((wipe σ vs).set j (some x)) H1 y) :
    EvL (tLc (iList K tl) (gName j) tYes te vs) σ H ys := by
  have g := el_lcNL (K := K) (t := tYes) (te := te) (fun _ => true) (fun i => ys.getD i .non) h hz hw (fun _ _ _ _ _ => et_yes) fun i x H1 e hx _ => by
    have hi : i < ys.length := by
      have q := (List.getElem?_eq_some_iff.mp hx).1
      omega
    have ey : ys.getD i .non = ys[i] := by rw [List.getD_eq_getElem?_getD, List.getElem?_eq_getElem hi]; rfl
    rw [ey]
    exact he i x _ H1 e hx (List.getElem?_eq_getElem hi)
  rw [given_map hl fun i y hy => by rw [List.getD_eq_getElem?_getD, hy]; rfl] at g
  exact g
/-- a comprehension over the signs of a text -/
theorem el_lcStr {z : Str} (f : Nat → Bool) (v : Nat → V) (h : Ev tl σ H (.str z)) (hz : z.cps.size ≤ 40000) (hw : ∀ x, wipe ((wipe σ vs).set j (some x)) vs = wipe σ vs)
    (ht : ∀ (i c : Nat) H1, Ex H H1 → z.cps[i]? = some c → EvT t ((wipe σ vs).set j (some (.str ⟨#[c]⟩))) H1 (f i)) (he : ∀ (i c : Nat) H1, Ex H H1 → z.cps[i]? = some c → f i = true → Ev te ((wipe σ vs).set j (some (.str ⟨#[c]⟩))) H1 (v i)) :
    EvL (tLc (iStr tl) (gName j) t te vs) σ H (given z.cps.size f v) := fun H0 e Q q => h H0 e _ fun H1 e1 => ⟨z, rfl, fun Dl hD =>
  lc_it walk_str (Cw H1 f v Dl) ⟨hD, Ex.new hD, upd_same⟩ (fun _ _ _ _ => trivial) (fun i x Ha Hb hi p y => by
    obtain ⟨rfl, c, hc, rfl⟩ := y
    exact ⟨hw _, cw_turn p (by omega) (ht i c H1 (e.trans e1) hc) (fun hf => he i c H1 (e.trans e1) hc hf)⟩)
    (fun Hz pz => q Dl Hz (fresh_back e1 pz.1) (e1.trans pz.2.1) pz.2.2)⟩
theorem given_none {n : Nat} {v : Nat → V} : given n (fun _ => false) v = [] := by
  unfold given
  rw [List.filter_eq_nil_iff.mpr (fun a _ => by decide)]
  rfl
/-- two new lists of no items -/
theorem ev_noneNe (ha : EvL ta σ H []) : Ev (tOp (rNeD K) ta (tLst tNil)) σ H (.bl false) :=
  ev_opLL ha (el_lst ea_nil (by decide)) fun p q H1 h1 h2 e => fun H2 e2 Q k => ⟨.list [], .list [], .lst (SqL.of (e2 _ _ h1)) .nil, .lst (SqL.of (e2 _ _ h2)) .nil, rfl, rfl, k H2 (Ex.refl H2)⟩
theorem ev_noneEq (ha : EvL ta σ H []) : Ev (tOp (rEqD K) ta (tLst tNil)) σ H (.bl true) :=
  ev_opLL ha (el_lst ea_nil (by decide)) fun p q H1 h1 h2 e => fun H2 e2 Q k => ⟨.list [], .list [], .lst (SqL.of (e2 _ _ h1)) .nil, .lst (SqL.of (e2 _ _ h2)) .nil, rfl, rfl, k H2 (Ex.refl H2)⟩
theorem eqv_three (a b d : Int) : PyData.eqv (.tuple [.int a, .int b, .int d]) (.tuple [.int a, .int b, .int d]) = true := by
  simp [PyData.eqv, PyData.eqvAll]
/-- two new tuples of the same three ints -/
theorem ev_tupNe {a b d : Int} (ha : EvU ta σ H [.int a, .int b, .int d]) (hb : EvU tb σ H [.int a, .int b, .int d]) : Ev (tOp (rNeD K) ta tb) σ H (.bl false) :=
  ev_opUU ha hb fun p q H1 h1 h2 e => fun H2 e2 Q k => ⟨.tuple [.int a, .int b, .int d], .tuple [.int a, .int b, .int d], .tup (SqT.of (e2 _ _ h1)) (.cons (.int a) (.cons (.int b) (.cons (.int d) .nil))), .tup (SqT.of (e2 _ _ h2)) (.cons (.int a) (.cons (.int b) (.cons (.int d) .nil))), rfl, rfl, by rw [eqv_three]; exact k H2 (Ex.refl H2)⟩
end
end Rw
namespace Rw
open PySem PySem.Spec PyProof.Rows L2 Evl
/-! ### sum and min of a tuple of ints -/
section
variable {P : Program} {w : World} {A : Around} {E : Value → Shared → Prop} {s : Shared} {t : Addr} {items : Array Value} {ns : List Int}
theorem ints_at {items : Array Value} {ns : List Int} (hi : IntsAre items.toList ns) {i : Nat} {v : Value} (h : items[i]? = some v) : ∃ k, v = .int (ns.getD i 0) k := by
  have go : ∀ (us : List Value) (ns : List Int), IntsAre us ns → ∀ (i : Nat) (v : Value), us[i]? = some v → ∃ k, v = Value.int (ns.getD i 0) k := by
    intro us ns h
    induction h with
    | nil => intro i v e; simp at e
    | cons n t h ih =>
      intro i v e
      cases i with
      | zero => exact ⟨t, (Option.some.inj e).symm⟩
      | succ i => exact ih i v e
  exact go _ _ hi i v (by rw [Array.getElem?_toList]; exact h)
theorem iter_tup {Q : Value → Shared → Prop} (hl : s.heap.IsTuple t items)
    (h : ∀ sv : Shared, sv = { s with heap := s.heap.push { cls := .type "tuple_iterator", data := .fields #[.ref t, .int 0 0] } } → (sv.heap.IsTupleIter s.heap.objs.size t 0 ∧ sv.heap.IsTuple t items) → (∀ b ∈ [s.heap.objs.size, t], b < sv.heap.objs.size) → t ≠ s.heap.objs.size → Q (.ref s.heap.objs.size) sv) :
    wpAny (model P w) A (pyIter (.ref t)) Q E s := by
  have lt : t < s.heap.objs.size := let ⟨_, e, _⟩ := hl; Heap.lt_size e
  have there : (s.heap.push { cls := .type "tuple_iterator", data := .fields #[.ref t, .int 0 0] }).IsTuple t items := let ⟨o, e, k, n, d⟩ := hl; ⟨o, Heap.get?_push_of_some _ e, k, n, d⟩
  refine wpAny_pyIter_tuple hl (h _ rfl ⟨⟨_, Heap.get?_push_size _ rfl, rfl, rfl⟩, there⟩ (fun b hb => ?_) (Nat.ne_of_lt lt))
  have e : (s.heap.push { cls := .type "tuple_iterator", data := .fields #[.ref t, .int 0 0] }).objs.size = s.heap.objs.size + 1 := Heap.size_push _ _
  show b < (s.heap.push _).objs.size
  rw [e]
  simp only [List.mem_cons, List.not_mem_nil, or_false] at hb
  have lt' : (t : Nat) < s.heap.objs.size := lt
  rcases hb with z | z
  · rw [z]; exact Nat.lt_succ_self _
  · rw [z]; exact Nat.lt_succ_of_lt lt'
theorem kept_old {h' : Heap} {o1 : Obj} (hk : ∀ b o, b ∉ [s.heap.objs.size] → (s.heap.push o1).get? b = some o → h'.get? b = some o) : ∀ b o, s.heap.get? b = some o → h'.get? b = some o := fun b o e =>
  hk b o (fun z => by
    rw [List.mem_singleton] at z
    have q := Heap.lt_size e
    rw [z] at q
    exact absurd q (Nat.lt_irrefl _)) (Heap.get?_push_of_some _ e)
theorem sum_getD (ns : List Int) : preSum (fun i => ns.getD i 0) ns.length = ns.sum := by
  have go : ∀ j, j ≤ ns.length → preSum (fun i => ns.getD i 0) j = (ns.take j).sum := by
    intro j
    induction j with
    | zero => intro _; rfl
    | succ j ih =>
      intro h
      have hj : j < ns.length := by omega
      rw [preSum, ih (by omega), List.take_succ_eq_append_getElem hj, List.sum_append, List.getD_eq_getElem?_getD, List.getElem?_eq_getElem hj]
      simp
  rw [go _ (Nat.le_refl _), List.take_length]
theorem sum_tup {Q : Value → Shared → Prop} (hh : A.handled = none) (hl : s.heap.IsTuple t items) (hi : IntsAre items.toList ns) (hn : items.size = ns.length)
    (h : ∀ h' tk k, (∀ b o, s.heap.get? b = some o → h'.get? b = some o) → Q (.int ns.sum k) { s with heap := h', toks := tk }) : wpAny (model P w) A (call (.builtin "sum") [.ref t]) Q E s := by
  refine call_sum_walkG (iter_tup hl fun sv e st hfp hne => ?_)
  subst e
  refine ⟨_, _, _, _, _, _, fun i => ns.getD i 0, rfl, Walks.tuple (A := A.in1) hh _ t hne items, st, hfp, fun i v e => ints_at hi e, fun h' tk k hk => ?_⟩
  have g := h h' tk k (kept_old hk)
  rw [hn, sum_getD]
  exact g
theorem min_tup {Q : Value → Shared → Prop} (hh : A.handled = none) (hl : s.heap.IsTuple t items) (hi : IntsAre items.toList ns) (hn : items.size = ns.length) (hne0 : 0 < ns.length)
    (h : ∀ h' tk M k, (∀ b o, s.heap.get? b = some o → h'.get? b = some o) → M ∈ ns → (∀ a, a ∈ ns → M ≤ a) → Q (.int M k) { s with heap := h', toks := tk }) : wpAny (model P w) A (call (.builtin "min") [.ref t]) Q E s := by
  refine call_min_walk (iter_tup hl fun sv e st hfp hne => ?_)
  subst e
  refine ⟨_, _, _, _, _, _, _, rfl, Walks.tuple (A := A.in1) hh _ t hne items, st, hfp, by omega, CmpOf.ints_lt (fun i => ns.getD i 0) (fun i v e => ints_at hi e), fun v h' tk hP hk => ?_⟩
  obtain ⟨k, rfl⟩ := ints_at hi hP
  obtain ⟨h1, h2⟩ := argBest_lt (fun i => ns.getD i 0) (items.size - 1)
  refine h h' tk _ k (kept_old hk) ?_ fun a ha => ?_
  · have hlt : argBest (fun i j => decide (ns.getD i 0 < ns.getD j 0)) (items.size - 1) < ns.length := by omega
    rw [List.getD_eq_getElem?_getD, List.getElem?_eq_getElem hlt]
    exact List.getElem_mem hlt
  · obtain ⟨j, hj, rfl⟩ := List.getElem_of_mem ha
    have g := h2 j (by omega)
    have e : ns[j] = ns.getD j 0 := by rw [List.getD_eq_getElem?_getD, List.getElem?_eq_getElem hj]; rfl
    rw [e]
    exact g
end
section
variable {X : Cx}
def rSumT (K : PySem.W.Frag) : List V → Hp → VK → Prop := fun vs H Q => ∃ (a : Addr) (ns : List Int), vs = [V.ref a] ∧ SqT K H a (ns.map V.int) ∧ Q (.int ns.sum) H
def rMinT (K : PySem.W.Frag) : List V → Hp → VK → Prop := fun vs H Q => ∃ (a : Addr) (ns : List Int), vs = [V.ref a] ∧ SqT K H a (ns.map V.int) ∧ 0 < ns.length ∧ ∀ m, m ∈ ns → (∀ y, y ∈ ns → m ≤ y) → Q (.int m) H
theorem cr_sumT (hc : X.calm = true) : CallR X (.builtin "sum") (rSumT X.K) := by
  intro pins s σ H vs us Q I r h
  obtain ⟨a, ns, rfl, hs, q⟩ := h
  obtain ⟨its, rv, hl, _⟩ := I.tuple hs
  rw [Vals.ref1 r]
  exact sum_tup (I.ok.hd hc) hl rv.ints (by rw [List.size_toArray, ← rv.length, List.length_map]) fun h' tk k hk => ⟨.int _, H, I.kept hk, ⟨_, rfl⟩, q⟩
theorem cr_minT (hc : X.calm = true) : CallR X (.builtin "min") (rMinT X.K) := by
  intro pins s σ H vs us Q I r h
  obtain ⟨a, ns, rfl, hs, h0, q⟩ := h
  obtain ⟨its, rv, hl, _⟩ := I.tuple hs
  rw [Vals.ref1 r]
  exact min_tup (I.ok.hd hc) hl rv.ints (by rw [List.size_toArray, ← rv.length, List.length_map]) h0 fun h' tk M k hk h1 h2 => ⟨.int _, H, I.kept hk, ⟨_, rfl⟩, q M h1 h2⟩
end
end Rw
/-! The mathematics of calendars: years by a cycle, months, days' numbers. Nothing of a program in it. -/
namespace Cy
structure Ca where
  months : List Int
  lm : Int
  cycle : Int
  ly : List Int
  week : Int
  fw : Int
structure Ca.Ok (c : Ca) : Prop where
  some : c.months ≠ []
  pos : ∀ m ∈ c.months, 1 ≤ m
  lm0 : 0 ≤ c.lm
  lm1 : c.lm < (c.months.length : Int)
  cy : 1 ≤ c.cycle
  ly : ∀ y ∈ c.ly, 0 ≤ y ∧ y < c.cycle
  wk : 1 ≤ c.week
  fw0 : 0 ≤ c.fw
  fw1 : c.fw < c.week
namespace Ca
variable (c : Ca)
def long (y : Int) : Bool := decide (y % c.cycle ∈ c.ly)
def plain : Int := c.months.sum
def yearDays (y : Int) : Int := if c.long y = true then c.plain + 1 else c.plain
def startN : Nat → Int
  | 0 => 0
  | n + 1 => startN n + c.yearDays (n : Int)
def cyc : Int := c.startN c.cycle.toNat
def firstOf (y : Int) : Int := y / c.cycle * c.cyc + c.startN (y % c.cycle).toNat
def weekday (n : Int) : Int := (n + c.fw) % c.week
def md (y : Int) (m : Nat) : Int := if (m : Int) = c.lm ∧ c.long y = true then c.months.getD m 0 + 1 else c.months.getD m 0
/-- days of a year ahead of its month m -/
def ahead (y : Int) : Nat → Int
  | 0 => 0
  | m + 1 => ahead y m + c.md y m
variable {c}
theorem sum_pos : ∀ (l : List Int), (∀ m ∈ l, 1 ≤ m) → (l.length : Int) ≤ l.sum
  | [], _ => by simp
  | a :: l, h => by
    have g := sum_pos l fun m hm => h m (List.mem_cons_of_mem _ hm)
    have q := h a List.mem_cons_self
    rw [List.sum_cons, List.length_cons]
    omega
theorem plain_pos (k : c.Ok) : 1 ≤ c.plain := by
  have g := sum_pos c.months k.pos
  have n := List.length_pos_iff.mpr k.some
  unfold plain
  omega
theorem days_pos (k : c.Ok) (y : Int) : 1 ≤ c.yearDays y := by
  have g := plain_pos k
  unfold yearDays
  split <;> omega
theorem long_mod (y : Int) : c.long (y % c.cycle) = c.long y := by
  unfold long
  rw [Int.emod_emod_of_dvd y (Int.dvd_refl _)]
theorem long_add (y t : Int) : c.long (y + t * c.cycle) = c.long y := by
  unfold long
  rw [Int.add_mul_emod_self_right]
theorem days_mod (y : Int) : c.yearDays (y % c.cycle) = c.yearDays y := by
  unfold yearDays
  rw [long_mod]
theorem first_add (y t : Int) (k : c.Ok) : c.firstOf (y + t * c.cycle) = c.firstOf y + t * c.cyc := by
  unfold firstOf
  have h := k.cy
  rw [Int.add_mul_ediv_right _ _ (by omega), Int.add_mul_emod_self_right, Int.add_mul]
  omega
theorem first_succ (k : c.Ok) (y : Int) : c.firstOf (y + 1) = c.firstOf y + c.yearDays y := by
  have h := k.cy
  have r0 := Int.emod_nonneg y (show c.cycle ≠ 0 by omega)
  have r1 := Int.emod_lt_of_pos y (show 0 < c.cycle by omega)
  have e := Int.emod_add_mul_ediv y c.cycle
  have dm := days_mod (c := c) y
  unfold firstOf
  generalize hr : y % c.cycle = r at *
  generalize hq : y / c.cycle = q at *
  have hy : y = r + q * c.cycle := by rw [Int.mul_comm q]; omega
  by_cases l : r + 1 < c.cycle
  · have e1 : (y + 1) % c.cycle = r + 1 := by
      rw [hy, show r + q * c.cycle + 1 = (r + 1) + q * c.cycle by omega, Int.add_mul_emod_self_right, Int.emod_eq_of_lt (by omega) l]
    have e2 : (y + 1) / c.cycle = q := by
      rw [hy, show r + q * c.cycle + 1 = (r + 1) + q * c.cycle by omega, Int.add_mul_ediv_right _ _ (by omega), Int.ediv_eq_zero_of_lt (by omega) l]
      omega
    rw [e1, e2, show (r + 1).toNat = r.toNat + 1 by omega]
    show _ + (c.startN r.toNat + c.yearDays ((r.toNat : Nat) : Int)) = _
    rw [Int.toNat_of_nonneg r0, dm]
    omega
  · have er : r + 1 = c.cycle := by omega
    have e1 : (y + 1) % c.cycle = 0 := by
      rw [hy, show r + q * c.cycle + 1 = (r + 1) + q * c.cycle by omega, Int.add_mul_emod_self_right, er, Int.emod_self]
    have e2 : (y + 1) / c.cycle = q + 1 := by
      rw [hy, show r + q * c.cycle + 1 = (r + 1) + q * c.cycle by omega, Int.add_mul_ediv_right _ _ (by omega), er, Int.ediv_self (by omega)]
      omega
    rw [e1, e2, Int.add_mul]
    have ec : c.cyc = c.startN r.toNat + c.yearDays y := by
      unfold cyc
      rw [← er, show (r + 1).toNat = r.toNat + 1 by omega]
      show c.startN r.toNat + c.yearDays ((r.toNat : Nat) : Int) = _
      rw [Int.toNat_of_nonneg r0, dm]
    show q * c.cyc + 1 * c.cyc + 0 = _
    omega
theorem first_le (k : c.Ok) (y : Int) : ∀ n : Nat, c.firstOf y + (n : Int) ≤ c.firstOf (y + (n : Int))
  | 0 => by simp
  | n + 1 => by
    have g := first_le k y n
    have s := first_succ k (y + (n : Int))
    have d := days_pos k (y + (n : Int))
    rw [show y + ((n + 1 : Nat) : Int) = y + (n : Int) + 1 by omega]
    omega
theorem first_lt (k : c.Ok) {y z : Int} (h : y < z) : c.firstOf y < c.firstOf z := by
  have g := first_le k y (z - y).toNat
  rw [Int.toNat_of_nonneg (by omega), show y + (z - y) = z by omega] at g
  omega
/-- the one year of a day -/
theorem year_one (k : c.Ok) {n y z : Int} (h1 : c.firstOf y ≤ n) (h2 : n < c.firstOf (y + 1)) (g1 : c.firstOf z ≤ n) (g2 : n < c.firstOf (z + 1)) : y = z := by
  rcases Int.lt_trichotomy y z with h | h | h
  · have q : c.firstOf (y + 1) ≤ c.firstOf z := by
      rcases Int.lt_or_eq_of_le (show y + 1 ≤ z by omega) with e | e
      · exact Int.le_of_lt (first_lt k e)
      · rw [e]; exact Int.le_refl _
    omega
  · exact h
  · have q : c.firstOf (z + 1) ≤ c.firstOf y := by
      rcases Int.lt_or_eq_of_le (show z + 1 ≤ y by omega) with e | e
      · exact Int.le_of_lt (first_lt k e)
      · rw [e]; exact Int.le_refl _
    omega
theorem first_zero (k : c.Ok) : c.firstOf 0 = 0 := by
  unfold firstOf
  rw [Int.zero_ediv, Int.zero_emod, Int.zero_mul]
  rfl
theorem cyc_pos (k : c.Ok) : 1 ≤ c.cyc := by
  have h := k.cy
  have g := first_lt k (show (0 : Int) < 0 + 1 * c.cycle by omega)
  rw [first_add 0 1 k, first_zero k] at g
  omega
theorem first_small (k : c.Ok) {n : Nat} (h : (n : Int) < c.cycle) : c.firstOf (n : Int) = c.startN n := by
  unfold firstOf
  rw [Int.ediv_eq_zero_of_lt (by omega) h, Int.emod_eq_of_lt (by omega) h, Int.zero_mul, Int.zero_add, Int.toNat_natCast]
theorem start_first (k : c.Ok) {n : Nat} (h : (n : Int) ≤ c.cycle) : c.startN n = c.firstOf (n : Int) := by
  rcases Int.lt_or_eq_of_le h with e | e
  · exact (first_small k e).symm
  · have g := first_add 0 1 k
    rw [first_zero k, Int.zero_add, Int.one_mul, Int.zero_add, Int.one_mul] at g
    rw [e, g]
    unfold cyc
    rw [← e, Int.toNat_natCast]
/-- the year of a day, as the cycle's table tells it: p, how many of the table's starts are below the rest and one -/
theorem year_by (k : c.Ok) {n : Int} {p : Nat} (h1 : ∀ i : Nat, i < p → c.startN i < n % c.cyc + 1) (h2 : ∀ i : Nat, p ≤ i → (i : Int) ≤ c.cycle → n % c.cyc + 1 ≤ c.startN i) :
    c.firstOf (n / c.cyc * c.cycle + p - 1) ≤ n ∧ n < c.firstOf (n / c.cyc * c.cycle + p - 1 + 1) := by
  have cp := cyc_pos k
  have r0 := Int.emod_nonneg n (show c.cyc ≠ 0 by omega)
  have r1 := Int.emod_lt_of_pos n (show 0 < c.cyc by omega)
  have e := Int.emod_add_mul_ediv n c.cyc
  have p0 : 0 < p := by
    rcases Nat.eq_zero_or_pos p with z | z
    · have g := h2 0 (by omega) (by have := k.cy; omega)
      have : c.startN 0 = 0 := rfl
      omega
    · exact z
  have p1 : (p : Int) ≤ c.cycle := by
    rcases Int.lt_or_le c.cycle (p : Int) with z | z
    · have g := h1 c.cycle.toNat (by have := k.cy; omega)
      have : c.startN c.cycle.toNat = c.cyc := rfl
      omega
    · exact z
  have a1 := h1 (p - 1) (by omega)
  have a2 := h2 p (Nat.le_refl _) p1
  have b1 := start_first k (n := p - 1) (by omega)
  have b2 := start_first k (n := p) p1
  have f1 := first_add ((p - 1 : Nat) : Int) (n / c.cyc) k
  have f2 := first_add (p : Int) (n / c.cyc) k
  rw [show n / c.cyc * c.cycle + (p : Int) - 1 = ((p - 1 : Nat) : Int) + n / c.cyc * c.cycle by omega, f1, show ((p - 1 : Nat) : Int) + n / c.cyc * c.cycle + 1 = (p : Int) + n / c.cyc * c.cycle by omega, f2]
  rw [Int.mul_comm] at e
  omega
/-! ### months -/
theorem ahead_sum (y : Int) : ∀ m : Nat, m ≤ c.months.length → c.ahead y m = (c.months.take m).sum + if c.lm < (m : Int) ∧ 0 ≤ c.lm ∧ c.long y = true then 1 else 0
  | 0, _ => by
    have : ¬ (c.lm < ((0 : Nat) : Int) ∧ 0 ≤ c.lm ∧ c.long y = true) := by omega
    rw [if_neg this]
    rfl
  | m + 1, h => by
    have g := ahead_sum y m (by omega)
    have hm : m < c.months.length := by omega
    rw [show c.ahead y (m + 1) = c.ahead y m + c.md y m from rfl, g, List.take_succ_eq_append_getElem hm, List.sum_append]
    unfold md
    rw [show c.months.getD m 0 = c.months[m] by rw [List.getD_eq_getElem?_getD, List.getElem?_eq_getElem hm]; rfl]
    have e1 : [c.months[m]].sum = c.months[m] := by simp
    rw [e1]
    by_cases hl : c.long y = true
    · by_cases h0 : 0 ≤ c.lm
      · rcases Int.lt_trichotomy c.lm (m : Int) with q | q | q
        · rw [if_pos ⟨q, h0, hl⟩, if_neg (by omega), if_pos ⟨by omega, h0, hl⟩]
          omega
        · rw [if_neg (by omega), if_pos ⟨q.symm, hl⟩, if_pos ⟨by omega, h0, hl⟩]
          omega
        · rw [if_neg (by omega), if_neg (by omega), if_neg (by omega)]
          omega
      · rw [if_neg (by omega), if_neg (by omega), if_neg (by omega)]
        omega
    · rw [if_neg (fun z => hl z.2.2), if_neg (fun z => hl z.2), if_neg (fun z => hl z.2.2)]
      omega
theorem ahead_all (k : c.Ok) (y : Int) : c.ahead y c.months.length = c.yearDays y := by
  rw [ahead_sum y _ (Nat.le_refl _), List.take_length]
  unfold yearDays plain
  have h0 := k.lm0
  have h1 := k.lm1
  by_cases hl : c.long y = true
  · rw [if_pos ⟨h1, h0, hl⟩, if_pos hl]
  · rw [if_neg (fun z => hl z.2.2), if_neg hl]
    omega
theorem md_pos (k : c.Ok) (y : Int) {m : Nat} (h : m < c.months.length) : 1 ≤ c.md y m := by
  have g := k.pos c.months[m] (List.getElem_mem h)
  unfold md
  rw [show c.months.getD m 0 = c.months[m] by rw [List.getD_eq_getElem?_getD, List.getElem?_eq_getElem h]; rfl]
  split <;> omega
theorem ahead_mono (k : c.Ok) (y : Int) {m n : Nat} (h : m < n) (hn : n ≤ c.months.length) : c.ahead y m < c.ahead y n := by
  induction n with
  | zero => omega
  | succ n ih =>
    have g := md_pos k y (m := n) (by omega)
    rw [show c.ahead y (n + 1) = c.ahead y n + c.md y n from rfl]
    rcases Nat.lt_or_ge m n with q | q
    · have := ih q (by omega)
      omega
    · have e : m = n := by omega
      rw [e]
      omega
theorem month_one (k : c.Ok) {y r : Int} {m n : Nat} (hm : m < c.months.length) (hn : n < c.months.length) (a1 : c.ahead y m ≤ r) (a2 : r < c.ahead y (m + 1)) (b1 : c.ahead y n ≤ r) (b2 : r < c.ahead y (n + 1)) : m = n := by
  rcases Nat.lt_trichotomy m n with h | h | h
  · have q : c.ahead y (m + 1) ≤ c.ahead y n := by
      rcases Nat.lt_or_eq_of_le (show m + 1 ≤ n from h) with e | e
      · exact Int.le_of_lt (ahead_mono k y e (by omega))
      · rw [e]; exact Int.le_refl _
    omega
  · exact h
  · have q : c.ahead y (n + 1) ≤ c.ahead y m := by
      rcases Nat.lt_or_eq_of_le (show n + 1 ≤ m from h) with e | e
      · exact Int.le_of_lt (ahead_mono k y e (by omega))
      · rw [e]; exact Int.le_refl _
    omega
/-- what a day's date is -/
structure At (c : Ca) (n y : Int) (m : Nat) (d : Int) : Prop where
  m1 : m < c.months.length
  d0 : 0 ≤ d
  d1 : d < c.md y m
  num : n = c.firstOf y + c.ahead y m + d
theorem At.year {n y d : Int} {m : Nat} (k : c.Ok) (a : c.At n y m d) : c.firstOf y ≤ n ∧ n < c.firstOf (y + 1) := by
  have h0 : 0 ≤ c.ahead y m := by
    rcases Nat.eq_zero_or_pos m with z | z
    · rw [z]; exact Int.le_refl _
    · have := ahead_mono k y z (Nat.le_of_lt a.m1)
      have e : c.ahead y 0 = 0 := rfl
      omega
  have h1 : c.ahead y (m + 1) ≤ c.yearDays y := by
    rw [← ahead_all k y]
    rcases Nat.lt_or_eq_of_le (show m + 1 ≤ c.months.length from a.m1) with e | e
    · exact Int.le_of_lt (ahead_mono k y e (Nat.le_refl _))
    · rw [e]; exact Int.le_refl _
  have h2 : c.ahead y (m + 1) = c.ahead y m + c.md y m := rfl
  have s := first_succ k y
  have := a.num
  have := a.d0
  have := a.d1
  omega
theorem At.one {n y y' d d' : Int} {m m' : Nat} (k : c.Ok) (a : c.At n y m d) (b : c.At n y' m' d') : y = y' ∧ m = m' ∧ d = d' := by
  have e := year_one k (a.year k).1 (a.year k).2 (b.year k).1 (b.year k).2
  subst e
  have h2 : c.ahead y (m + 1) = c.ahead y m + c.md y m := rfl
  have h3 : c.ahead y (m' + 1) = c.ahead y m' + c.md y m' := rfl
  have := a.num
  have := b.num
  have := a.d0
  have := a.d1
  have := b.d0
  have := b.d1
  have e : m = m' := month_one k (y := y) (r := n - c.firstOf y) a.m1 b.m1 (by omega) (by omega) (by omega) (by omega)
  subst e
  exact ⟨rfl, rfl, by omega⟩
end Ca
end Cy
namespace Rw
open PySem PySem.Spec PyProof.Rows L2 Evl Cy
/-! ### objects, evaluated -/
section
variable {K : PySem.W.Frag} {σ : L2.St} {H : Hp} {to te td ty : TE} {a C dx : Addr} {fs : List (Str × V)} {f : Str} {v z : V}
theorem ev_fld (ho : Ev to σ H (.ref a)) (hi : H a = some (.ins C dx fs)) (hc : Cls K C) (hn : NoAttr K C f) (hl : fs.lookup f = some v) : Ev (tFld K to f) σ H v := fun H1 e Q q =>
  ho H1 e _ fun H2 e2 => ⟨a, C, dx, fs, v, rfl, (e.trans e2) _ _ hi, hc, hn, hl, q H2 e2⟩
theorem ev_din {d : Addr} {kvs : List (Key × V)} {k : Key} (hy : Ev ty σ H (kV k)) (hd : Ev td σ H (.ref d)) (h : H d = some (.dK kvs)) : Ev (tDIn ty td) σ H (.bl (valV kvs k).isSome) := fun H1 e Q q =>
  hy H1 e _ fun H2 e2 => hd H2 (e.trans e2) _ fun H3 e3 => ⟨d, _, rfl, DGet.k (((e.trans e2).trans e3) _ _ h), q H3 (e2.trans e3)⟩
end
/-! ### a calendar in the heap -/
def startsL (c : Ca) : List V := ((List.range (c.cycle.toNat + 1)).map fun i => V.int (c.startN i))
def calF (c : Ca) (tm ty dl ts : Addr) : List (Str × V) :=
  [("months", .ref tm), ("long_month", .int c.lm), ("cycle", .int c.cycle), ("long_years", .ref ty), ("week", .int c.week), ("first_weekday", .int c.fw), ("longs", .ref dl), ("plain_days", .int c.plain), ("starts", .ref ts)]
/-- a calendar's object at a; full: its table of starts is whole -/
def CalB (full : Bool) (K : PySem.W.Frag) (C : Addr) (H : Hp) (a : Addr) (c : Ca) : Prop := ∃ dx tm ty dl ts kvs st, H a = some (.ins C dx (calF c tm ty dl ts)) ∧ SqT K H tm (c.months.map V.int) ∧ SqT K H ty (c.ly.map V.int) ∧
  H dl = some (.dK kvs) ∧ (∀ i : Int, (valV kvs (.inl i)).isSome = decide (i ∈ c.ly)) ∧ SqL K H ts st ∧ (full = true → st = startsL c)
theorem CalB.ex {b : Bool} {K : PySem.W.Frag} {C : Addr} {H H' : Hp} {a : Addr} {c : Ca} (h : CalB b K C H a c) (e : Ex H H') : CalB b K C H' a c := by
  obtain ⟨dx, tm, ty, dl, ts, kvs, st, h1, h2, h3, h4, h5, h6, h7⟩ := h
  exact ⟨dx, tm, ty, dl, ts, kvs, st, e _ _ h1, ex_t e h2, ex_t e h3, e _ _ h4, h5, ex_l e h6, h7⟩
theorem CalB.weak {b : Bool} {K : PySem.W.Frag} {C : Addr} {H : Hp} {a : Addr} {c : Ca} (h : CalB b K C H a c) : CalB false K C H a c := by
  obtain ⟨dx, tm, ty, dl, ts, kvs, st, h1, h2, h3, h4, h5, h6, h7⟩ := h
  exact ⟨dx, tm, ty, dl, ts, kvs, st, h1, h2, h3, h4, h5, h6, fun z => nomatch z⟩
abbrev CalP := CalB true
/-- bounds within which all numbers of a calendar are small -/
structure Small (c : Ca) : Prop where
  ok : c.Ok
  cy : c.cycle < 100000
  len : c.months.length < 1000
  cyc : c.cyc < 1000000000
  wk : c.week < 1000000
/-- a promise about a calendar: what is answered is a plain function of it -/
def spB (b : Bool) (K : PySem.W.Frag) (C : Addr) (cl : Nat → Addr) (f : Ca → List V → Option Rs) : Sp := fun vs H Q E => ∃ a c ws r, vs = .ref a :: ws ∧ CalB b K C H a c ∧ Small c ∧ f c ws = some r ∧ Out cl H Q E r
abbrev spM := spB true
section
variable {K : PySem.W.Frag} {C : Addr} {cl : Nat → Addr} {f : Ca → List V → Option Rs} {σ : L2.St} {H : Hp} {to : TE} {ta : TA} {E : XK} {a : Addr} {c : Ca} {ws dvs : List V} {z : V} {xs : List V} {m : Str}
/-- calendar.m(..) -/
theorem mt_run {b : Bool} {r : Rs} {Q : VK} (ho : Ev to σ H (.ref a)) (ha : EvA ta σ H ws) (hc : CalB b K C H a c) (hs : Small c) (hm : ∀ tm ty dl ts, (calF c tm ty dl ts).lookup m = none) (hf : f c (ws ++ dvs) = some r) (H1 : Hp) (e : Ex H H1) (o : Out cl H1 Q E r) :
    tMeth C m (spB b K C cl f) dvs E to ta σ H1 Q := ho H1 e _ fun H2 e2 => by
  obtain ⟨dx, tm, ty, dl, ts, kvs, st, h1, hr⟩ := hc.ex (e.trans e2)
  refine ⟨a, dx, _, rfl, h1, hm _ _ _ _, ha H2 (e.trans e2) _ fun H3 e3 => ⟨a, c, ws ++ dvs, r, rfl, hc.ex ((e.trans e2).trans e3), hs, hf, o.mono (e2.trans e3)⟩⟩
theorem ev_M {b : Bool} (ho : Ev to σ H (.ref a)) (ha : EvA ta σ H ws) (hc : CalB b K C H a c) (hs : Small c) (hm : ∀ tm ty dl ts, (calF c tm ty dl ts).lookup m = none) (hf : f c (ws ++ dvs) = some (.ok z)) :
    Ev (tMeth C m (spB b K C cl f) dvs E to ta) σ H z := fun H1 e Q q => mt_run ho ha hc hs hm hf H1 e fun H2 e2 => q H2 e2
theorem eu_M {b : Bool} (ho : Ev to σ H (.ref a)) (ha : EvA ta σ H ws) (hc : CalB b K C H a c) (hs : Small c) (hm : ∀ tm ty dl ts, (calF c tm ty dl ts).lookup m = none) (hf : f c (ws ++ dvs) = some (.tup xs)) :
    EvU (tMeth C m (spB b K C cl f) dvs E to ta) σ H xs := fun H1 e Q q => mt_run ho ha hc hs hm hf H1 e fun p H2 hp e2 h2 => q p H2 hp e2 h2
/-- f(calendar, ..) -/
theorem ev_G {b : Bool} (ha : EvA ta σ H (.ref a :: ws)) (hc : CalB b K C H a c) (hs : Small c) (hf : f c (ws ++ dvs) = some (.ok z)) : Ev (tCall (spB b K C cl f) dvs E ta) σ H z := fun H1 e Q q =>
  ha H1 e _ fun H2 e2 => ⟨a, c, ws ++ dvs, _, rfl, hc.ex (e.trans e2), hs, hf, fun H3 e3 => q H3 (e2.trans e3)⟩
end
theorem ev_lenT {K : PySem.W.Frag} {σ : L2.St} {H : Hp} {ta : TE} {p : Addr} {xs : List V} (h : Ev ta σ H (.ref p)) (hs : SqT K H p xs) : Ev (tCB (fun xs H Q => ∃ p ys, xs = [.ref p] ∧ (SqL K H p ys ∨ SqT K H p ys) ∧ Q (.int ys.length) H) (tCons ta tNil)) σ H (.int (xs.length : Nat)) := fun H1 e Q q =>
  h H1 e _ fun H2 e2 => ⟨p, xs, rfl, .inr (ex_t (e.trans e2) hs), q H2 e2⟩
/-- divmod of ints is a new pair -/
theorem eu_divmod {σ : L2.St} {H : Hp} {ta tb : TE} {i j : Int} (ha : Ev ta σ H (.int i)) (hb : Ev tb σ H (.int j)) (hc : CDiv i j) :
    EvU (tCB (fun xs H Q => ∃ i j, xs = [.int i, .int j] ∧ CDiv i j ∧ ∀ p, H p = none → Q (.ref p) (upd H p (.tup [.int (i / j), .int (i % j)]))) (tCons ta (tCons tb tNil))) σ H [.int (i / j), .int (i % j)] := fun H1 e Q q =>
  ha H1 e _ fun H2 e2 => hb H2 (e.trans e2) _ fun H3 e3 => ⟨i, j, rfl, hc, fun p hp => q p _ (fresh_back (e2.trans e3) hp) ((e2.trans e3).trans (Ex.new hp)) upd_same⟩
/-- a, b = a new pair -/
theorem q_pair {K : PySem.W.Frag} {σ : L2.St} {H : Hp} {te : TE} {i j : Nat} {x y : V} {D : Ends} {tz : TS} (h : EvU te σ H [x, y]) (k : ∀ H1, Ex H H1 → tz D ((σ.set i (some x)).set j (some y)) H1) : tSeq (tAsg te (gTup K 2 (gCons (gName i) (gCons (gName j) gNil)))) tz D σ H :=
  h H (Ex.refl H) _ fun p H1 hp e h1 => ⟨p, [x, y], rfl, SqT.of h1, rfl, _, _, rfl, _, _, rfl, rfl, k H1 e⟩
end Rw
namespace Rw
open PySem PySem.Spec PyProof.Rows L2 Evl Cy
/-- a method that keeps a promise; it may raise -/
def Mt (P : Program) (w : World) (K : PySem.W.Frag) (mg : Str → Option Value) (base : Heap) (k : Nat) (C : Addr) (m : Str) (sp : Sp) (dvs : List V) : Prop :=
  ∃ (f : Addr) (d : FuncData) (names : List Str) (dv : List Value), Cls K C ∧ Meth K C m f ∧ FnOk P w K mg base (L2.CX P w) k f d names sp ∧ Binds K d names dv ∧ Vals dvs dv
section
variable {X : Cx} {k j : Nat} {C : Addr} {m : Str} {sp : Sp} {dvs : List V} {E : XK} {apos pos : Pos} {o e : Expr} {es : List Expr} {t : TA} {ta : TE}
theorem pe_mk {pl : Sem Bool} (c : Mt X.prog X.w X.K X.mg X.base k C m sp dvs) (room : Room j X.A) (le : k ≤ j) (out : Passes (L2.CX X.prog X.w) X E) (obj : PE X o ta) (args : PA X (e :: es) t)
    (stars : starEach (e :: es) X.env = (false, eval e X.env) :: starEach es X.env := by rfl) (nostar : (backTo pos (starEach es X.env)).any (·.1) = false := by rfl)
    (way : eval (.Call (.Attribute o m apos) (e :: es) [] pos) X.env = (do let u ← eval o X.env; standAt apos.atName; let (g, us) ← holding [u] (getMethod u m pl); callWith pos g us (backTo pos (starEach (e :: es) X.env)) (backToKw pos (keywordEach [] X.env))) := by rfl) :
    PE X (.Call (.Attribute o m apos) (e :: es) [] pos) (tMeth C m sp dvs E ta t) :=
  let ⟨_, _, _, _, cl, me, F, b, d⟩ := c
  pe_meth obj cl me F (room.mono le) b d out args stars nostar way
theorem pe_mk0 {pl : Sem Bool} (c : Mt X.prog X.w X.K X.mg X.base k C m sp dvs) (room : Room j X.A) (le : k ≤ j) (out : Passes (L2.CX X.prog X.w) X E) (obj : PE X o ta)
    (way : eval (.Call (.Attribute o m apos) [] [] pos) X.env = (do let u ← eval o X.env; standAt apos.atName; let (g, us) ← holding [u] (getMethod u m pl); callWith pos g us (backTo pos (starEach [] X.env)) (backToKw pos (keywordEach [] X.env))) := by rfl) :
    PE X (.Call (.Attribute o m apos) [] [] pos) (tMeth C m sp dvs E ta tNil) :=
  let ⟨_, _, _, _, cl, me, F, b, d⟩ := c
  pe_meth0 obj cl me F (room.mono le) b d out way
end
section
variable {c : Ca} {tm ty dl ts : Addr}
theorem calF_months : (calF c tm ty dl ts).lookup ("months" : Str) = some (V.ref tm) := rfl
theorem calF_lm : (calF c tm ty dl ts).lookup ("long_month" : Str) = some (V.int c.lm) := rfl
theorem calF_cycle : (calF c tm ty dl ts).lookup ("cycle" : Str) = some (V.int c.cycle) := rfl
theorem calF_ly : (calF c tm ty dl ts).lookup ("long_years" : Str) = some (V.ref ty) := rfl
theorem calF_week : (calF c tm ty dl ts).lookup ("week" : Str) = some (V.int c.week) := rfl
theorem calF_fw : (calF c tm ty dl ts).lookup ("first_weekday" : Str) = some (V.int c.fw) := rfl
theorem calF_longs : (calF c tm ty dl ts).lookup ("longs" : Str) = some (V.ref dl) := rfl
theorem calF_plain : (calF c tm ty dl ts).lookup ("plain_days" : Str) = some (V.int c.plain) := rfl
theorem calF_starts : (calF c tm ty dl ts).lookup ("starts" : Str) = some (V.ref ts) := rfl
end
structure CalT (K : PySem.W.Frag) (C : Addr) : Prop where
  cls : Cls K C
  months : NoAttr K C "months"
  lm : NoAttr K C "long_month"
  cycle : NoAttr K C "cycle"
  ly : NoAttr K C "long_years"
  week : NoAttr K C "week"
  fw : NoAttr K C "first_weekday"
  longs : NoAttr K C "longs"
  plain : NoAttr K C "plain_days"
  starts : NoAttr K C "starts"
/-! ### what the methods answer -/
theorem range_count (p : Nat → Bool) {k : Nat} : ∀ N : Nat, k ≤ N → (∀ i, i < k → p i = true) → (∀ i, k ≤ i → i < N → p i = false) → (List.range N).countP p = k
  | 0, h, _, _ => by
    have e : k = 0 := by omega
    rw [e]
    rfl
  | N + 1, h, h1, h2 => by
    rw [List.range_succ, List.countP_append]
    rcases Nat.lt_or_ge N k with q | q
    · have e : k = N + 1 := by omega
      have g := range_count p (k := N) N (Nat.le_refl _) (fun i hi => h1 i (by omega)) (fun i a b => by omega)
      rw [g, e]
      simp [h1 N q]
    · have g := range_count p (k := k) N q h1 (fun i a b => h2 i a (by omega))
      rw [g]
      simp [h2 N q (by omega)]
def yearOf (c : Ca) (n : Int) : Int := n / c.cyc * c.cycle + (((List.range (c.cycle.toNat + 1)).countP fun i => decide (c.startN i < n % c.cyc + 1) : Nat) : Int) - 1
def monthOf (c : Ca) (y r : Int) : Nat := (List.range c.months.length).countP fun m => decide (c.ahead y (m + 1) ≤ r)
theorem start_mono {c : Ca} (k : c.Ok) {i j : Nat} (h : i < j) (hj : (j : Int) ≤ c.cycle) : c.startN i < c.startN j := by
  rw [Ca.start_first k (n := i) (by omega), Ca.start_first k hj]
  exact Ca.first_lt k (by omega)
theorem year_count {c : Ca} (k : c.Ok) (b : Int) {p : Nat} (hp : p ≤ c.cycle.toNat + 1) (h1 : ∀ i : Nat, i < p → c.startN i < b) (h2 : ∀ i : Nat, p ≤ i → i < c.cycle.toNat + 1 → b ≤ c.startN i) :
    (List.range (c.cycle.toNat + 1)).countP (fun i => decide (c.startN i < b)) = p :=
  range_count _ _ hp (fun i hi => decide_eq_true (h1 i hi)) fun i a b' => decide_eq_false (by have := h2 i a b'; omega)
/-- where the table's starts pass a bound -/
theorem starts_cut {c : Ca} (k : c.Ok) (b : Int) : ∃ p : Nat, p ≤ c.cycle.toNat + 1 ∧ (∀ i : Nat, i < p → c.startN i < b) ∧ (∀ i : Nat, p ≤ i → i < c.cycle.toNat + 1 → b ≤ c.startN i) := by
  have hc := k.cy
  have go : ∀ N : Nat, N ≤ c.cycle.toNat + 1 → ∃ p : Nat, p ≤ N ∧ (∀ i : Nat, i < p → c.startN i < b) ∧ (∀ i : Nat, p ≤ i → i < N → b ≤ c.startN i) := by
    intro N
    induction N with
    | zero => intro _; exact ⟨0, Nat.le_refl _, fun i h => by omega, fun i _ h => by omega⟩
    | succ N ih =>
      intro hN
      obtain ⟨p, p0, p1, p2⟩ := ih (by omega)
      rcases Nat.lt_or_eq_of_le p0 with q | q
      · refine ⟨p, by omega, p1, fun i a e => ?_⟩
        rcases Nat.lt_or_eq_of_le (Nat.lt_succ_iff.mp e) with z | z
        · exact p2 i a z
        · have g := p2 p (Nat.le_refl _) q
          have l := start_mono k (i := p) (j := N) q (by omega)
          rw [z]
          omega
      · by_cases z : c.startN N < b
        · exact ⟨N + 1, Nat.le_refl _, fun i h => by
            rcases Nat.lt_or_eq_of_le (Nat.lt_succ_iff.mp h) with e | e
            · exact p1 i (by omega)
            · rw [e]; exact z, fun i a e => by omega⟩
        · exact ⟨p, by omega, p1, fun i a e => by
            have e2 : i = N := by omega
            rw [e2]
            omega⟩
  exact go _ (Nat.le_refl _)
theorem yearOf_spec {c : Ca} (k : c.Ok) (n : Int) : c.firstOf (yearOf c n) ≤ n ∧ n < c.firstOf (yearOf c n + 1) := by
  obtain ⟨p, p0, p1, p2⟩ := starts_cut k (n % c.cyc + 1)
  have e := year_count k (n % c.cyc + 1) p0 p1 p2
  have g := Ca.year_by k (n := n) (p := p) p1 (fun i a b => p2 i a (by omega))
  unfold yearOf
  rw [e]
  exact g
theorem month_count {c : Ca} (k : c.Ok) {y r : Int} {m : Nat} (hm : m < c.months.length) (h1 : c.ahead y m ≤ r) (h2 : r < c.ahead y (m + 1)) : monthOf c y r = m := by
  unfold monthOf
  refine range_count _ _ (by omega) (fun i hi => decide_eq_true ?_) fun i a b => decide_eq_false ?_
  · rcases Nat.lt_or_eq_of_le (show i + 1 ≤ m from hi) with e | e
    · have := Ca.ahead_mono k y e (by omega)
      omega
    · rw [e]; exact h1
  · rcases Nat.lt_or_eq_of_le a with e | e
    · have := Ca.ahead_mono k y (show m + 1 < i + 1 by omega) (by omega)
      omega
    · rw [← e]
      omega
theorem month_there {c : Ca} (k : c.Ok) {y r : Int} (h0 : 0 ≤ r) (h1 : r < c.yearDays y) : ∃ m : Nat, m < c.months.length ∧ c.ahead y m ≤ r ∧ r < c.ahead y (m + 1) := by
  rw [← Ca.ahead_all k y] at h1
  have go : ∀ N : Nat, r < c.ahead y N → N ≤ c.months.length → ∃ m : Nat, m < c.months.length ∧ c.ahead y m ≤ r ∧ r < c.ahead y (m + 1) := by
    intro N
    induction N with
    | zero =>
      intro h _
      have e : c.ahead y 0 = 0 := rfl
      omega
    | succ N ih =>
      intro h hN
      by_cases q : r < c.ahead y N
      · exact ih q (by omega)
      · exact ⟨N, by omega, by omega, h⟩
  exact go _ h1 (Nat.le_refl _)
def dateM (c : Ca) (n : Int) : Nat := monthOf c (yearOf c n) (n - c.firstOf (yearOf c n))
def dateD (c : Ca) (n : Int) : Int := n - c.firstOf (yearOf c n) - c.ahead (yearOf c n) (dateM c n)
theorem date_at {c : Ca} (k : c.Ok) (n : Int) : c.At n (yearOf c n) (dateM c n) (dateD c n) := by
  obtain ⟨y0, y1⟩ := yearOf_spec k n
  have s := Ca.first_succ k (yearOf c n)
  obtain ⟨m, m0, m1, m2⟩ := month_there k (y := yearOf c n) (r := n - c.firstOf (yearOf c n)) (by omega) (by omega)
  have e := month_count k m0 m1 m2
  have e2 : c.ahead (yearOf c n) (m + 1) = c.ahead (yearOf c n) m + c.md (yearOf c n) m := rfl
  unfold dateD dateM
  rw [e]
  exact ⟨m0, by omega, by omega, by omega⟩
def fCycleDays (c : Ca) : List V → Option Rs
  | [] => some (.ok (.int c.cyc))
  | _ => none
def fIsLong (c : Ca) : List V → Option Rs
  | [.int y] => some (.ok (.bl (c.long y)))
  | _ => none
def fYearDays (c : Ca) : List V → Option Rs
  | [.int y] => some (.ok (.int (c.yearDays y)))
  | _ => none
def fMonthDays (c : Ca) : List V → Option Rs
  | [.int y, .int m] => some (if 0 ≤ m ∧ m < (c.months.length : Int) then .ok (.int (c.md y m.toNat)) else .err 1)
  | _ => none
def fFirstOf (c : Ca) : List V → Option Rs
  | [.int y] => some (.ok (.int (c.firstOf y)))
  | _ => none
def fYearOf (c : Ca) : List V → Option Rs
  | [.int n] => some (.ok (.int (yearOf c n)))
  | _ => none
def fDate (c : Ca) : List V → Option Rs
  | [.int n] => some (.tup [.int (yearOf c n), .int (dateM c n : Nat), .int (dateD c n)])
  | _ => none
def fWeekday (c : Ca) : List V → Option Rs
  | [.int n] => some (.ok (.int (c.weekday n)))
  | _ => none
end Rw
namespace Rw
open PySem PySem.Spec PyProof.Rows L2 Evl Cy
/-! ### an object in the making -/
section
variable {K : PySem.W.Frag} {σ : L2.St} {H : Hp} {to tv ta te tl : TE} {a C dx p : Addr} {fs : List (Str × V)} {f : Str} {y : V} {xs ys : List V} {D : Ends} {tz : TS}
theorem sqT_b {H' : Hp} (e : ExB a H H') (ha : H a = some (.ins C dx fs)) (h : SqT K H p xs) : SqT K H' p xs := by
  rcases h with (h | ⟨o, h⟩) | h
  · exact .inl (.inl (e _ _ (fun z => by rw [z, ha] at h; cases h) h))
  · exact .inl (.inr ⟨o, e _ _ (fun z => by rw [z, ha] at h; cases h) h⟩)
  · exact .inr h
theorem sqL_b {H' : Hp} (e : ExB a H H') (ha : H a = some (.ins C dx fs)) (h : SqL K H p xs) : SqL K H' p xs := by
  rcases h with (h | ⟨o, h⟩) | h
  · exact .inl (.inl (e _ _ (fun z => by rw [z, ha] at h; cases h) h))
  · exact .inl (.inr ⟨o, e _ _ (fun z => by rw [z, ha] at h; cases h) h⟩)
  · exact .inr h
theorem yes_if {A B : Prop} (h : A) : if true = true then A else B := (if_pos rfl).symm ▸ h
theorem sqT_u {t : Addr} {l : List V} {o : HO} (h : SqT K H p xs) (hl : H t = some (.lst l)) : SqT K (upd H t o) p xs := by
  rcases h with (h | ⟨q, h⟩) | h
  · exact .inl (.inl (by rw [upd_ne (fun z => by rw [z, hl] at h; cases h)]; exact h))
  · exact .inl (.inr ⟨q, by rw [upd_ne (fun z => by rw [z, hl] at h; cases h)]; exact h⟩)
  · exact .inr h
/-- an expression whose value, in the heap then, is so -/
def EvX (te : TE) (σ : L2.St) (H : Hp) (R : V → Hp → Prop) : Prop := ∀ H1, Ex H H1 → ∀ Q : VK, (∀ y H2, Ex H1 H2 → R y H2 → Q y H2) → te σ H1 Q
theorem q_fldB (hv : Ev tv σ H y) (ho : Ev to σ H (.ref a)) (hi : H a = some (.ins C dx fs)) (c : Cls K C) (n : NoAttr K C f) (hl : fs.length < 1000) (k : ∀ G, ExB a H G → G a = some (.ins C dx (putF f y fs)) → tz D σ G) : tSeq (sFld K to tv f) tz D σ H :=
  hv H (Ex.refl H) _ fun H1 e1 => ho H1 e1 _ fun H2 e2 => ⟨a, C, dx, fs, rfl, e2 _ _ (e1 _ _ hi), c, n, hl, k _ (ExB.of (e1.trans e2)).upd upd_same⟩
theorem q_fldX {R : V → Hp → Prop} (hv : EvX tv σ H R) (ho : Ev to σ H (.ref a)) (hi : H a = some (.ins C dx fs)) (c : Cls K C) (n : NoAttr K C f) (hl : fs.length < 1000)
    (st : ∀ y H1 H2, R y H1 → H1 a = some (.ins C dx fs) → ExB a H1 H2 → R y H2) (k : ∀ y G, ExB a H G → G a = some (.ins C dx (putF f y fs)) → R y G → tz D σ G) : tSeq (sFld K to tv f) tz D σ H :=
  hv H (Ex.refl H) _ fun y H1 e1 r => ho H1 e1 _ fun H2 e2 => ⟨a, C, dx, fs, rfl, e2 _ _ (e1 _ _ hi), c, n, hl, k y _ (ExB.of (e1.trans e2)).upd upd_same (st y H1 _ r (e1 _ _ hi) (ExB.of e2).upd)⟩
def SqA (K : PySem.W.Frag) (H : Hp) (p : Addr) (xs : List V) : Prop := SqL K H p xs ∨ SqT K H p xs
theorem SqA.ex {H H' : Hp} (h : SqA K H p xs) (e : Ex H H') : SqA K H' p xs := h.elim (fun h => .inl (ex_l e h)) fun h => .inr (ex_t e h)
theorem SqA.b {H' : Hp} (e : ExB a H H') (ha : H a = some (.ins C dx fs)) (h : SqA K H p xs) : SqA K H' p xs := h.elim (fun h => .inl (sqL_b e ha h)) fun h => .inr (sqT_b e ha h)
/-- tuple(xs): a new one, or the same -/
theorem ev_tupOf (h : Ev ta σ H (.ref p)) (hs : SqA K H p xs) :
    EvX (tCB (fun xs H Q => ∃ p ys, xs = [.ref p] ∧ ((SqL K H p ys ∧ ∀ l, H l = none → Q (.ref l) (upd H l (.tup ys))) ∨ (SqT K H p ys ∧ Q (.ref p) H))) (tCons ta tNil)) σ H (fun y H2 => ∃ q, y = .ref q ∧ SqT K H2 q xs) := fun H1 e Q k =>
  h H1 e _ fun H2 e2 => by
    refine ⟨p, xs, rfl, ?_⟩
    rcases hs.ex (e.trans e2) with g | g
    · exact .inl ⟨g, fun l hl => k _ _ (e2.trans (Ex.new hl)) ⟨l, rfl, SqT.of upd_same⟩⟩
    · exact .inr ⟨g, k _ _ e2 ⟨p, rfl, g⟩⟩
theorem dp_ints : ∀ ns : List Int, DpAll K H (ns.map V.int) (ns.map PyData.int)
  | [] => .nil
  | n :: r => .cons (.int n) (dp_ints r)
theorem lay_ints : ∀ ns : List Int, PyData.canLayAll0 (ns.map PyData.int) = true
  | [] => rfl
  | n :: r => by
    rw [List.map_cons, PyData.canLayAll0, lay_ints r]
    rfl
theorem depth_ints : ∀ ns : List Int, PyData.depthAll (ns.map PyData.int) = 0
  | [] => rfl
  | n :: r => by
    rw [List.map_cons, PyData.depthAll, depth_ints r]
    rfl
theorem shaped_ints (ns : List Int) : SeqAt.shaped (.tuple (ns.map PyData.int)) = true := by
  unfold SeqAt.shaped
  rw [PyData.canLay0, lay_ints, PyData.depth, depth_ints]
  rfl
/-- a tuple of ints, not empty, is not () -/
theorem ev_noTup {ns : List Int} (h : Ev ta σ H (.ref p)) (hs : SqT K H p (ns.map V.int)) (hn : ns ≠ []) : Ev (tOp (rEqD K) ta (tTup tNil)) σ H (.bl false) :=
  ev_opU h (eu_tup ea_nil (by decide)) fun q H1 h1 e => fun H2 e2 Q k => ⟨.tuple (ns.map .int), .tuple [], .tup (ex_t (e.trans e2) hs) (dp_ints ns), .tup (SqT.of (e2 _ _ h1)) .nil, shaped_ints ns, rfl, by
    cases ns with
    | nil => exact absurd rfl hn
    | cons n r => exact k H2 (Ex.refl H2)⟩
theorem et_min {ns : List Int} {b : Int} (h : Ev ta σ H (.ref p)) (hs : SqT K H p (ns.map V.int)) (hn : ns ≠ []) (hb : ∀ m ∈ ns, b ≤ m) : EvT (tTest (tOp (rI0 fun i j => .bl (decide (i < j))) (tCB (rMinT K) (tCons ta tNil)) (tC (.int b)))) σ H false := fun H1 e Q q =>
  h H1 e _ fun H2 e2 => ⟨p, ns, rfl, ex_t (e.trans e2) hs, List.length_pos_iff.mpr hn, fun m hm _ => ⟨m, b, rfl, rfl, false, congrArg V.bl (decide_eq_false (by have := hb m hm; omega)), q H2 e2⟩⟩
theorem ev_sumT {ns : List Int} (h : Ev ta σ H (.ref p)) (hs : SqT K H p (ns.map V.int)) : Ev (tCB (rSumT K) (tCons ta tNil)) σ H (.int ns.sum) := fun H1 e Q q =>
  h H1 e _ fun H2 e2 => ⟨p, ns, rfl, ex_t (e.trans e2) hs, q H2 e2⟩
theorem ev_newL (h : EvL te σ H xs) : EvX te σ H (fun y H2 => ∃ q, y = .ref q ∧ H2 q = some (.lst xs) ∧ H q = none) := fun H1 e Q k => h H1 e _ fun q H2 hq e2 h2 => k _ _ e2 ⟨q, rfl, h2, fresh_back e hq⟩
/-- all items of a tuple that stands, each made another -/
theorem el_mapT {j : Nat} {vs : List Nat} (h : Ev tl σ H (.ref p)) (hx : SqT K H p xs) (hz : xs.length ≤ 40000) (hw : ∀ x, wipe ((wipe σ vs).set j (some x)) vs = wipe σ vs) (hl : xs.length = ys.length)
    (he : ∀ (i : Nat) (x y : V) H1, Ex H H1 → xs[i]? = some x → ys[i]? = some y → Ev te ((wipe σ vs).set j (some x)) H1 y) : EvL (tLc (iTup K tl) (gName j) tYes te vs) σ H ys := fun H0 e Q q => h H0 e _ fun H1 e1 => by
  have ey : given xs.length (fun _ => true) (fun i => ys.getD i .non) = ys := given_map hl fun i y hy => by rw [List.getD_eq_getElem?_getD, hy]; rfl
  refine ⟨p, rfl, ⟨xs, ex_t (e.trans e1) hx⟩, fun Dl hD => lc_tup (xs := xs) (Cw H1 (fun _ => true) (fun i => ys.getD i .non) Dl) ⟨hD, Ex.new hD, upd_same⟩ (fun i H' _ c => ex_t ((e.trans e1).trans c.2.1) hx) (fun i x H' hi c => ?_) (fun H' c => ?_)⟩
  · have hi2 := (List.getElem?_eq_some_iff.mp hi).1
    refine ⟨hw x, cw_turn c (by omega) et_yes fun _ => ?_⟩
    have hiy : i < ys.length := by omega
    have eg : ys.getD i .non = ys[i] := by rw [List.getD_eq_getElem?_getD, List.getElem?_eq_getElem hiy]; rfl
    rw [eg]
    exact he i x _ H1 (e.trans e1) hi (List.getElem?_eq_getElem hiy)
  · have g := c.2.2
    rw [ey] at g
    exact q Dl H' (fresh_back e1 c.1) (e1.trans c.2.1) g
/-- {n: True for n in a tuple of ints} -/
theorem ev_dictTrue {ns : List Int} {j : Nat} {vs : List Nat} (h : Ev tl σ H (.ref p)) (hs : SqT K H p (ns.map V.int)) (hz : ns.length ≤ 100000) (hw : ∀ x, wipe ((wipe σ vs).set j (some x)) vs = wipe σ vs) (hj : ∀ x, ((wipe σ vs).set j (some x))[j]? = some (some x)) :
    EvX (tDc (iTup K tl) (gName j) tYes (tVar j) (tC (.bl true)) vs) σ H (fun y H2 => ∃ d kvs, y = .ref d ∧ H2 d = some (.dK kvs) ∧ ∀ i : Int, (valV kvs (.inl i)).isSome = decide (i ∈ ns)) := fun H0 e Q k => h H0 e _ fun H1 e1 =>
  ⟨p, rfl, ⟨_, ex_t (e.trans e1) hs⟩, fun Dd hD => dc_tup (xs := ns.map V.int) (fun i H' => Ex H1 H' ∧ ∃ kvs : List (Key × V), H' Dd = some (.dK kvs) ∧ kvs.length ≤ i ∧ ∀ q : Int, (valV kvs (.inl q)).isSome = decide (q ∈ ns.take i))
    ⟨Ex.new hD, [], upd_same, Nat.le_refl _, fun q => by simp [valV]⟩ (fun i H' _ c => ex_t ((e.trans e1).trans c.1) hs) (fun i x H' hi c => by
      obtain ⟨eH, kvs, g1, g2, g3⟩ := c
      have hlt := (List.getElem?_eq_some_iff.mp hi).1
      rw [List.length_map] at hlt
      rw [List.getElem?_map, List.getElem?_eq_getElem hlt] at hi
      obtain rfl : V.int ns[i] = x := Option.some.inj hi
      refine ⟨hw _, ?_⟩
      simp only [tYes, ↓reduceIte]
      refine ⟨_, hj _, kvs, .inl ns[i], rfl, g1, sz_lt (by omega), Ex.mut eH hD, _, upd_same, Nat.le_trans (length_putK _ _ _) (by omega), fun q => ?_⟩
      rw [valV_put, List.take_succ_eq_append_getElem hlt]
      by_cases z : (Sum.inl q : Key) = Sum.inl ns[i]
      · rw [if_pos z]
        injection z with z
        rw [z]
        exact (decide_eq_true (List.mem_append_right _ List.mem_cons_self)).symm
      · rw [if_neg z, g3 q]
        have z2 : ¬ q = ns[i] := fun y => z (by rw [y])
        exact decide_eq_decide.mpr ⟨fun h => List.mem_append_left _ h, fun h => (List.mem_append.mp h).elim id fun h => absurd (List.mem_singleton.mp h) z2⟩) (fun H' c => by
      obtain ⟨eH, kvs, g1, g2, g3⟩ := c
      rw [List.length_map, List.take_length] at g3
      exact k _ _ (e1.trans eH) ⟨Dd, kvs, rfl, g1, g3⟩)⟩
end
end Rw
namespace Rw
open PySem PySem.Spec PyProof.Rows L2 Evl Cy
/-- a class whose making keeps a promise; it may raise -/
def Nw (P : Program) (w : World) (K : PySem.W.Frag) (mg : Str → Option Value) (base : Heap) (k : Nat) (x : Str) (C : Addr) (sp : Sp) (dvs : List V) : Prop :=
  ∃ (f : Addr) (d : FuncData) (names : List Str) (dv : List Value), Mk K C f ∧ mg x = some (.ref C) ∧ FnOk P w K mg base (L2.CX P w) k f d names sp ∧ Binds K d names dv ∧ Vals dvs dv
section
variable {X : Cx} {k j : Nat} {x : Str} {C : Addr} {sp : Sp} {dvs : List V} {E : XK} {p pos : Pos} {e : Expr} {es : List Expr} {t : TA}
theorem pe_nw (c : Nw X.prog X.w X.K X.mg X.base k x C sp dvs) (room : Room j X.A) (le : k + 1 ≤ j) (out : Passes (L2.CX X.prog X.w) X E) (args : PA X (e :: es) t) (gl : Gl X x := by rfl)
    (plain : (x == ("__debug__" : Str)) = false := by decide) (stars : starEach (e :: es) X.env = (false, eval e X.env) :: starEach es X.env := by rfl) (nostar : (backTo pos (starEach es X.env)).any (·.1) = false := by rfl) :
    PE X (.Call (.Name x p) (e :: es) [] pos) (tMake C sp dvs E t) :=
  let ⟨_, _, _, _, M, at_, F, b, d⟩ := c
  pe_make M F (room.mono le) gl at_ b d out args plain stars nostar
end
/-! ### what a heap keeps while dice are rolled -/
def Rel (d : Addr) (H H' : Hp) : Prop := ExB d H H' ∧ ∃ a b c, H' d = some (.lst [.int a, .int b, .int c])
section
variable {d p : Addr} {H H1 H2 : Hp} {o : HO}
theorem Rel.ex (r : Rel d H H1) (e : Ex H1 H2) : Rel d H H2 := ⟨r.1.ex e, let ⟨a, b, c, h⟩ := r.2; ⟨a, b, c, e _ _ h⟩⟩
theorem Rel.ne (r : Rel d H H1) (h : H1 p = none) : p ≠ d := fun z => by
  obtain ⟨a, b, c, g⟩ := r.2
  rw [← z, h] at g
  cases g
theorem Rel.back (r : Rel d H H1) (h : H1 p = none) : H p = none := by
  cases e : H p with
  | none => rfl
  | some o =>
    have g := r.1 p o (r.ne h) e
    rw [h] at g
    cases g
/-- an object of ours is written -/
theorem Rel.mut (r : Rel d H H1) (h : H p = none) (n : p ≠ d) : Rel d H (upd H1 p o) :=
  ⟨fun b u hb e => by rw [upd_ne (fun z => by rw [z, h] at e; cases e)]; exact r.1 b u hb e, let ⟨a, b, c, g⟩ := r.2; ⟨a, b, c, by rw [upd_ne (Ne.symm n)]; exact g⟩⟩
theorem Rel.trans (r : Rel d H H1) (s : Rel d H1 H2) : Rel d H H2 := ⟨r.1.trans s.1, s.2⟩
theorem rd_rollR {σ : L2.St} {i : Nat} {m : Int} {Q : VK} {tm : TE} (r : Rel d H H1) (hσ : σ[i]? = some (some (.ref d))) (hm : Ev tm σ H1 (.int m)) (h0 : 0 < m) (h1 : m < 1000000) (cont : ∀ v H2, 0 ≤ v → v < m → Rel d H H2 → Rel d H1 H2 → Q (.int v) H2) (sp : Sp)
    (hsp : ∀ (H : Hp) (Q : VK) (a b c : Int), H d = some (.lst [.int a, .int b, .int c]) → (∀ (v a' b' c' : Int) H', 0 ≤ v → v < m → ExB d H H' → H' d = some (.lst [.int a', .int b', .int c']) → Q (.int v) H') → sp [.ref d, .int m] H Q E0) :
    tCall sp [] E0 (tCons (tVar i) (tCons tm tNil)) σ H1 Q := by
  have hv : EvA (tCons (tVar i) (tCons tm tNil)) σ H1 [.ref d, .int m] := ea_cons (ev_var hσ) (ea_cons hm ea_nil)
  refine hv H1 (Ex.refl H1) _ fun H2 e2 => ?_
  obtain ⟨a, b, c, g⟩ := r.2
  refine hsp H2 _ a b c (e2 _ _ g) fun v a' b' c' H' v0 v1 eB hd => ?_
  have s : Rel d H1 H' := ⟨(ExB.of e2).trans eB, _, _, _, hd⟩
  exact cont v H' v0 v1 (r.trans s) s
end
/-! ### small calendars -/
theorem start_le {c : Ca} (hp : 0 ≤ c.plain) : ∀ n : Nat, c.startN n ≤ (n : Int) * (c.plain + 1)
  | 0 => by show (0 : Int) ≤ _; omega
  | n + 1 => by
    have g := start_le hp n
    have s : c.startN (n + 1) = c.startN n + c.yearDays (n : Int) := rfl
    have y : c.yearDays (n : Int) ≤ c.plain + 1 := by
      unfold Ca.yearDays
      split <;> omega
    rw [s, show ((n + 1 : Nat) : Int) = (n : Int) + 1 by omega, Int.add_mul]
    omega
theorem sum_top (b : Int) : ∀ l : List Int, (∀ m ∈ l, m ≤ b) → l.sum ≤ (l.length : Int) * b
  | [], _ => by simp
  | a :: l, h => by
    have g := sum_top b l fun m hm => h m (List.mem_cons_of_mem _ hm)
    have q := h a List.mem_cons_self
    rw [List.sum_cons, List.length_cons, show ((l.length + 1 : Nat) : Int) = (l.length : Int) + 1 by omega, Int.add_mul]
    omega
structure Tiny (c : Ca) : Prop where
  len : c.months.length ≤ 3
  mon : ∀ m ∈ c.months, 2 ≤ m ∧ m ≤ 5
  cy : c.cycle ≤ 3
  wk : c.week ≤ 4
  ly : c.ly.Pairwise (· < ·)
theorem Tiny.small {c : Ca} (k : c.Ok) (t : Tiny c) : Small c := by
  have p1 := Ca.plain_pos k
  have p2 : c.plain ≤ 15 := by
    have g := sum_top 5 c.months fun m hm => (t.mon m hm).2
    have l := t.len
    unfold Ca.plain
    omega
  have cy := k.cy
  have l := t.len
  refine ⟨k, by have := t.cy; omega, by omega, ?_, by have := t.wk; omega⟩
  have g := start_le (c := c) (by omega) c.cycle.toNat
  have tc := t.cy
  have e : c.cyc = c.startN c.cycle.toNat := rfl
  rw [e]
  have h3 : c.cycle.toNat = 1 ∨ c.cycle.toNat = 2 ∨ c.cycle.toNat = 3 := by omega
  rcases h3 with z | z | z <;> rw [z] at g ⊢ <;> omega
end Rw
namespace Rw
open PySem PySem.Spec PyProof.Rows L2 Evl Cy
/-! ### enumerate(tuple) -/
theorem enum_new1 {x : Value} {cell : Obj} {At : Heap → Prop} (B : Begins x cell At) :
    Meets (Builtin.«enumerate.__new__» ⟨[.type "enumerate", x], []⟩) (fun _ R s => At s.heap ∧ R (.ok (.ret (.ref (s.heap.push cell).objs.size)))
      { s with heap := (s.heap.push cell).push { cls := .type "enumerate", data := .fields #[.none, .bool false, .ref s.heap.objs.size, rawInt 0, .none, .none] } }) :=
  .of_wp fun P w A R s ask => by
    obtain ⟨h0, gs, dr, tk, sys⟩ := s
    obtain ⟨at0, ask⟩ := ask
    have same := sub_enumerate
    have begins : ∀ {A' : Around} {E' : Value → Shared → Prop} {Q' : Value → Shared → Prop}, Q' (.ref h0.objs.size) ⟨h0.push cell, gs, dr, tk, sys⟩ → wpAny (model P w) A' (pyIter x) Q' E' ⟨h0, gs, dr, tk, sys⟩ := fun q => B.iter P w _ _ ⟨h0, gs, dr, tk, sys⟩ _ at0 q
    wp_walk using begins
    refine wpAny_stack_any fun _ => wpAny_pure ?_
    split
    · rename_i t _ _ _ _ _
      cases (t == Value.type "enumerate") <;> (wp_walk using begins; exact ⟨_, rfl, ask⟩)
    · wp_walk using begins
      exact ⟨_, rfl, ask⟩
theorem call_enum1 {P : Program} {w : World} {A : Around} {E : Value → Shared → Prop} {s : Shared} {x : Value} {cell : Obj} {At : Heap → Prop} {Q : Value → Shared → Prop} (B : Begins x cell At) (at0 : At s.heap)
    (k : ∀ g, IsEnum g (s.heap.objs.size + 1) s.heap.objs.size 0 .none → g.get? s.heap.objs.size = some cell → (∀ b o, s.heap.get? b = some o → g.get? b = some o) → Q (.ref (s.heap.objs.size + 1)) { s with heap := g }) :
    wpAny (model P w) A (call (.type "enumerate") [x]) Q E s := by
  refine callType_new F.called_enumerate (by decide) (F.typeCall_enumerate_1 _) (F.newCall_enumerate_1 _) (fun obj => F.args_object_init_2 obj _) F.entry_enumerate_new (enum_new1 B) ⟨at0, ?_⟩
  have size1 : (s.heap.push cell).objs.size = s.heap.objs.size + 1 := Heap.size_push ..
  show _ ∧ _
  rw [size1]
  have made : IsEnum ((s.heap.push cell).push { cls := .type "enumerate", data := .fields #[.none, .bool false, .ref s.heap.objs.size, rawInt 0, .none, .none] }) (s.heap.objs.size + 1) s.heap.objs.size 0 .none := by
    have g := Heap.get?_push_size (s.heap.push cell) (o := { cls := .type "enumerate", data := .fields #[.none, .bool false, .ref s.heap.objs.size, rawInt 0, .none, .none] }) rfl
    rw [size1] at g
    exact g
  exact ⟨⟨_, made, rfl⟩, k _ made (Heap.get?_push_of_some _ (Heap.get?_push_size _ B.free)) fun b o e => Heap.get?_push_of_some _ (Heap.get?_push_of_some _ e)⟩
def ItEn (K : PySem.W.Frag) (b : Addr) : It where
  go := fun i H => ∃ (ys : List V) (y : V), SqT K H b ys ∧ ys[i]? = some y
  yld := fun i H v H' => ∃ (T : Addr) (y : V), v = .ref T ∧ H T = none ∧ H' = upd H T (.tup [.int (i : Nat), y]) ∧ ∀ ys, SqT K H b ys → ys[i]? = some y
  stop := fun i H => ∃ ys : List V, SqT K H b ys ∧ i = ys.length
/-- where it stands: its two cells -/
structure StEn (b N : Addr) (i : Nat) (h : Heap) : Prop where
  en : ∃ old, IsEnum h (N + 1) N ((i : Nat) : Int) old
  tup : h.IsTupleIter N b i
theorem two_of {N x : Addr} (h : x ∈ [N + 1, N]) : x = N + 1 ∨ x = N := by simpa using h
theorem turn_en {P : Program} {w : World} {K : PySem.W.Frag} {elts : List Expr} {kk : Nat} {tp : Pos} {b N : Addr} (hb : b < N) :
    Turn P w K (.Tuple elts kk tp) (ItEn K b) [N + 1, N] (N + 1) (StEn b N) where
  mem := List.mem_cons_self ..
  obj := fun i h S x hx => by
    obtain ⟨old, e⟩ := S.en
    obtain ⟨o, eo, _, d⟩ := S.tup
    rcases two_of hx with rfl | rfl
    · exact ⟨_, e, fun v q => by cases q⟩
    · exact ⟨o, eo, fun v q => by rw [d] at q; cases q⟩
  keep := fun i h h' S k => ⟨let ⟨old, e⟩ := S.en; ⟨old, k _ (by simp) _ e⟩, S.tup.at fun o e => k _ (by simp) o e⟩
  item := by
    rintro X rfl rfl rfl hc i pins s σ H E I hf S ⟨ys, y, hy, hi⟩
    obtain ⟨us, rv, tupb, _⟩ := I.tuple hy
    obtain ⟨uy, huy, ry⟩ := rv.get hi
    obtain ⟨old, e⟩ := S.en
    have nb : b ≠ N := Nat.ne_of_lt hb
    have h2 : i < us.toArray.size := by simpa using (List.getElem?_eq_some_iff.mp huy).1
    have lt1 : N + 1 < s.heap.objs.size := Heap.lt_size e
    refine wpAny_pyNext_enum_itemD (Draws.tuple (by rw [show X.A.in1.handled = X.A.handled from rfl]; exact I.ok.hd hc) N b nb us.toArray) e ⟨S.tup, tupb⟩ h2 (Nat.succ_ne_self N) (by
      intro z
      simp only [List.mem_cons, List.not_mem_nil, or_false] at z
      rcases z with z | z
      · exact Nat.succ_ne_self N z
      · rw [← z] at hb
        exact absurd (Nat.lt_of_succ_lt hb) (Nat.lt_irrefl _)) fun x2 h' tk hx ho hs hT hsz hk => ?_
    have ex2 : uy = x2 := Option.some.inj (huy.symm.trans (by simpa using hx))
    subst ex2
    refine ⟨_, rfl, wpAny_letOwnedTupleGo_enum (s := { s with heap := h', toks := tk + 1 }) ho fun h2' e2 sb => ?_⟩
    have pr : h2'.get? s.heap.objs.size = some { cls := .type "tuple", data := .seq #[.int i tk, uy] } := (sb.2 _ (Nat.ne_of_gt lt1)).trans hT
    have new : ObjOk X.prog X.w (upd H s.heap.objs.size (.tup [.int (i : Nat), y])) h2' s.heap.objs.size (.tup [.int (i : Nat), y]) :=
      ⟨by show 2 ≤ sizeLine; decide, [.int i tk, uy], .cons ⟨tk, rfl⟩ (.cons ry .nil), ⟨_, pr, rfl, _, rfl⟩⟩
    have J := I.turnedNew (t' := tk + 1) (ch := [N + 1, N]) (h' := h2') (fun x o nx q => (sb.2 x (fun z => nx (by simp [z]))).trans (hk x o (fun z => nx (by simp [z])) (fun z => nx (by simp [z])) q)) hf (Nat.le_refl _) new
    refine ⟨.ref s.heap.objs.size, _, J, rfl, ⟨_, y, rfl, I.hok.fresh (Nat.le_refl _), rfl, fun l hl => by rw [I.tuple_inj hl hy]; exact hi⟩, ⟨⟨_, by rw [show ((i + 1 : Nat) : Int) = (i : Int) + 1 by omega]; exact e2⟩, hs.1.at fun o q => (sb.2 N (Nat.ne_of_lt (Nat.lt_succ_self N))).trans q⟩, fun x hx => ?_⟩
    have lt : x < s.heap.objs.size := by
      rcases two_of hx with rfl | rfl
      · exact lt1
      · exact Nat.lt_of_succ_lt lt1
    rw [upd_ne (Nat.ne_of_lt lt)]
    exact (hf x hx).1
  done := by
    rintro X rfl rfl rfl hc i pins s σ H E I hf S ⟨ys, hy, hend⟩
    obtain ⟨us, rv, tupb, _⟩ := I.tuple hy
    obtain ⟨old, e⟩ := S.en
    have nb : b ≠ N := Nat.ne_of_lt hb
    have el : us.toArray.size = i := by rw [List.size_toArray, ← rv.length, hend]
    obtain ⟨f0, f1, f2, f3, f4, f5⟩ := hf N (by simp)
    exact wpAny_pyNext_enum_endD (Draws.tuple (by rw [show X.A.in1.handled = X.A.handled from rfl]; exact I.ok.hd hc) N b nb us.toArray) e (by rw [el]; exact ⟨S.tup, tupb⟩) fun h' eb => ⟨rfl, I.turned (t' := s.toks) (fun x o hx q => eb x o hx q) f0 f1 f3 f4 f5⟩
  self := fun A i s Q E S q => let ⟨_, e⟩ := S.en; wpAny_pyIter_enum e q
def iEnumT (K : PySem.W.Frag) (ta : TA) : TI := fun σ H R => ta σ H fun vs H1 => ∃ (b : Addr) (ys : List V), vs = [.ref b] ∧ SqT K H1 b ys ∧ R (ItEn K b) H1
theorem pi_enumT {X : Cx} {e : Expr} {ta : TA} {p pos tp : Pos} {elts : List Expr} {kk : Nat} (hm : X.mg "enumerate" = none) (ha : PA X [e] ta) (hg : Gl X "enumerate" := by rfl) (stars : starEach [e] X.env = [(false, eval e X.env)] := by rfl) :
    PI X (.Tuple elts kk tp) (.Call (.Name "enumerate" p) [e] [] pos) (iEnumT X.K ta) := by
  constructor
  intro pins s σ H R I h
  refine Call_ (ld_blt I hg hm boot_enumerate (PyProof.Rows.callWith_type1 (thn (ha.run pos pins s σ H _ I h) ?_) stars rfl))
  rintro us s1 ⟨vs, H1, J, r, b, ys, rfl, hy, q⟩
  match us, r with
  | [u], .cons r1 .nil =>
    obtain rfl : u = Value.ref b := r1
    obtain ⟨its, rv, tupb, _⟩ := J.tuple hy
    have hb : b < s1.heap.objs.size := by
      obtain ⟨o, e, _⟩ := id tupb
      exact Heap.lt_size e
    refine call_enum1 (begins_tuple b its.toArray) tupb fun g g1 g2 kp => wpAny_pyIter_enum g1 ?_
    refine ⟨s1.heap.objs.size + 1, _, _, _, H1, rfl, J.kept (t' := s1.toks) kp, turn_en hb, ⟨⟨_, g1⟩, ⟨_, g2, rfl, rfl⟩⟩, fun x hx => ?_, q⟩
    have le : s1.heap.objs.size ≤ x := by
      rcases two_of hx with z | z
      · rw [z]; exact Nat.le_add_right ..
      · rw [z]; exact Nat.le_refl _
    exact J.fpOk le (J.hok.fresh le)
end Rw
namespace Rw
open PySem PySem.Spec PyProof.Rows L2 Evl Cy
section
variable {K : PySem.W.Frag} {σ : L2.St} {H : Hp} {tl te : TE} {p : Addr} {xs ys : List V}
theorem walk_en : Walk (ItEn K p) xs.length (fun H => SqT K H p xs) (fun i H v H' => ∃ T y, v = .ref T ∧ H T = none ∧ H' = upd H T (.tup [.int (i : Nat), y]) ∧ xs[i]? = some y) :=
  ⟨fun i _ hi q => ⟨xs, xs[i], q, List.getElem?_eq_getElem hi⟩, fun _ q => ⟨xs, q, rfl⟩, fun i _ x _ _ q y => let ⟨T, z, e1, e2, e3, e4⟩ := y; ⟨T, z, e1, e2, e3, e4 xs q⟩⟩
/-- [.. for i, x in enumerate(a tuple)] -/
theorem el_enT {i j : Nat} {vs : List Nat} (h : Ev tl σ H (.ref p)) (hx : SqT K H p xs) (hz : xs.length ≤ 40000) (hw : ∀ x y, wipe (((wipe σ vs).set i (some x)).set j (some y)) vs = wipe σ vs) (hl : xs.length = ys.length)
    (he : ∀ (n : Nat) (x y : V) H1, Ex H H1 → xs[n]? = some x → ys[n]? = some y → Ev te (((wipe σ vs).set i (some (.int (n : Nat)))).set j (some x)) H1 y) :
    EvL (tLc (iEnumT K (tCons tl tNil)) (gTup K 2 (gCons (gName i) (gCons (gName j) gNil))) tYes te vs) σ H ys := fun H0 e Q q => h H0 e _ fun H1 e1 => by
  have ey : given xs.length (fun _ => true) (fun n => ys.getD n .non) = ys := given_map hl fun n y hy => by rw [List.getD_eq_getElem?_getD, hy]; rfl
  refine ⟨p, xs, rfl, ex_t (e.trans e1) hx, fun Dl hD => lc_it (walk_en (xs := xs)) (Cw H1 (fun _ => true) (fun n => ys.getD n .non) Dl) ⟨hD, Ex.new hD, upd_same⟩ (fun n H' _ c => ex_t ((e.trans e1).trans c.2.1) hx) (fun n x Ha Hb hn c y => ?_) (fun H' c => ?_)⟩
  · obtain ⟨T, y, rfl, hT, rfl, hy⟩ := y
    have c2 : Cw H1 (fun _ => true) (fun n => ys.getD n .non) Dl n (upd Ha T (.tup [.int (n : Nat), y])) := ⟨c.1, c.2.1.trans (Ex.new hT), (Ex.new hT) _ _ c.2.2⟩
    refine ⟨T, _, rfl, SqT.of upd_same, rfl, _, _, rfl, _, _, rfl, rfl, hw _ _, cw_turn c2 (by omega) et_yes fun _ => ?_⟩
    have hny : n < ys.length := by omega
    have eg : ys.getD n .non = ys[n] := by rw [List.getD_eq_getElem?_getD, List.getElem?_eq_getElem hny]; rfl
    rw [eg]
    exact he n y _ H1 (e.trans e1) hy (List.getElem?_eq_getElem hny)
  · have g := c.2.2
    rw [ey] at g
    exact q Dl H' (fresh_back e1 c.1) (e1.trans c.2.1) g
theorem ev_sumL {ta : TE} {ns : List Int} (h : Ev ta σ H (.ref p)) (hs : SqL K H p (ns.map V.int)) : Ev (tCB (rSum K) (tCons ta tNil)) σ H (.int ns.sum) := fun H1 e Q q =>
  h H1 e _ fun H2 e2 => ⟨p, ns, rfl, ex_l (e.trans e2) hs, q H2 e2⟩
theorem inV_ints (y : Int) (ns : List Int) : inV (.int y) (ns.map V.int) = decide (y ∈ ns) := by
  unfold inV
  rw [Bool.eq_iff_iff, List.any_eq_true, decide_eq_true_eq]
  constructor
  · rintro ⟨v, hv, e⟩
    obtain ⟨n, hn, rfl⟩ := List.mem_map.mp hv
    have z : n = y := by simpa [eqV] using e
    rw [← z]
    exact hn
  · intro h
    exact ⟨.int y, List.mem_map.mpr ⟨y, h, rfl⟩, by simp [eqV]⟩
theorem flat_ints (ns : List Int) : (ns.map V.int).all flatV = true := by
  rw [List.all_map, List.all_eq_true]
  intro n _
  rfl
end
section
variable {X : Cx} {e : Expr} {f : Str} {pos : Pos} {ta : TE}
theorem pe_fldK {K : PySem.W.Frag} (he : PE X e ta) (hb : attributeBase e f X.env (eval e X.env) = eval e X.env) (h : X.K = K := by rfl) : PE X (.Attribute e f pos) (tFld K ta f) := by
  subst h
  exact pe_fld he hb
theorem op_inK {K : PySem.W.Frag} (h : X.K = K := by rfl) : OpR X (compareOp .In) (rIn K false) := by
  subst h
  exact op_in_seq
end
end Rw
namespace Rw
open PySem PySem.Spec PyProof.Rows L2 Evl Cy
/-- o.f as one of several targets -/
def gFld (K : PySem.W.Frag) (to : TE) (f : Str) : TG := fun v σ H Q => to σ H fun x H1 => ∃ a C dx fs, x = .ref a ∧ H1 a = some (.ins C dx fs) ∧ Cls K C ∧ NoAttr K C f ∧ fs.length < 1000 ∧ Q σ (upd H1 a (.ins C dx (putF f v fs)))
theorem pg_fldT {X : Cx} {o : Expr} {f : Str} {pos : Pos} {to : TE} (ho : PE X o to) : PG X (.Attribute o f pos) (gFld X.K to f) := by
  refine ⟨fun pins s σ H v u Q I r h => ?_⟩
  rw [assign_Attribute]
  refine wpAny_bind (wpAny_holding (thn (ho.run pins s σ H _ I h) fun ov s1 ⟨x, H1, I1, r1, a, C, dx, fs, ex, ea, cl, na, le, q⟩ => ?_))
  subst ex
  obtain rfl : ov = Value.ref a := r1
  refine wpAny_bind (wpAny_standAt (wpAny_bind (wpAny_holding (setattr_ok I1 ea cl na le r fun s2 I2 => ?_))))
  exact wpAny_release ⟨σ, _, I2, q⟩
theorem s_fldB {K : PySem.W.Frag} {σ : L2.St} {H : Hp} {to tv : TE} {a C dx : Addr} {fs : List (Str × V)} {f : Str} {y : V} {D : Ends} (hv : Ev tv σ H y) (ho : Ev to σ H (.ref a)) (hi : H a = some (.ins C dx fs)) (c : Cls K C) (n : NoAttr K C f) (hl : fs.length < 1000) (k : ∀ G, ExB a H G → G a = some (.ins C dx (putF f y fs)) → D.nx σ G) : sFld K to tv f D σ H :=
  hv H (Ex.refl H) _ fun H1 e1 => ho H1 e1 _ fun H2 e2 => ⟨a, C, dx, fs, rfl, e2 _ _ (e1 _ _ hi), c, n, hl, k _ (ExB.of (e1.trans e2)).upd upd_same⟩
theorem s_retMake {σ : L2.St} {H : Hp} {ta : TA} {C : Addr} {sp : Sp} {dvs vs : List V} {E : XK} {D : Ends} (h : EvA ta σ H vs)
    (k : ∀ H1, Ex H H1 → ∀ x dx, H1 x = none → H1 dx = none → dx ≠ x → sp (.ref x :: (vs ++ dvs)) (upd (upd H1 dx (.own x)) x (.ins C dx [])) (fun v H2 => v = .non ∧ D.rt (.ref x) H2) E) : tRet (tMake C sp dvs E ta) D σ H :=
  h H (Ex.refl H) _ fun H1 e1 => k H1 e1
end Rw
namespace Rw
open PySem PySem.Spec PyProof.Rows L2 Evl Cy
/-! ### a range that a name holds -/
def iRngV (te : TE) : TI := fun σ H R => te σ H fun v H1 => ∃ a lo hi, v = .ref a ∧ H1 a = some (.rng lo hi) ∧ (-(2 ^ 62) ≤ lo ∧ lo < 2 ^ 62 ∧ -(2 ^ 62) ≤ hi ∧ hi < 2 ^ 62) ∧ R (Itr lo (hi - lo).toNat) H1
theorem pi_rngV {X : Cx} {tg e : Expr} {te : TE} (he : PE X e te) : PI X tg e (iRngV te) := by
  refine ⟨fun pins s σ H R I h => ?_⟩
  refine thn (he.run pins s σ H _ I h) fun v s1 ⟨y, H1, I1, r1, a, lo, hi, e, ho, b, q⟩ => ?_
  subst e
  obtain rfl : v = Value.ref a := r1
  obtain ⟨t, u, z, at_⟩ := I1.hok a _ ho
  refine wpAny_pyIter_range (show IsRange s1.heap a lo hi 1 t u z from at_) (small_one b.1 b.2.1 b.2.2.1 b.2.2.2) ?_
  refine ⟨s1.heap.objs.size, [s1.heap.objs.size], _, _, H1, rfl, I1.kept (t' := s1.toks) fun b o e => Heap.get?_push_of_some _ e, turn_range _ lo (hi - lo).toNat, ?_, fun b hb => ?_, q⟩
  · have e1 : lo + ((0 : Nat) : Int) * 1 = lo := by simp
    have e2 : (((hi - lo).toNat : Nat) : Int) - ((0 : Nat) : Int) = Builtin.Range.rangeSize lo hi 1 := by
      rw [rangeSize_one]
      split <;> omega
    show IsRangeIter _ _ (lo + ((0 : Nat) : Int) * 1) ((((hi - lo).toNat : Nat) : Int) - ((0 : Nat) : Int)) 1
    rw [e1, e2]
    exact Heap.get?_push_size _ rfl
  · obtain rfl : b = s1.heap.objs.size := by simpa using hb
    exact I1.fpOk (Nat.le_refl _) (I1.hok.fresh (Nat.le_refl _))
theorem ev_rng {σ : L2.St} {H : Hp} {ta : TA} {lo hi : Int} (h : EvA ta σ H [.int lo, .int hi]) :
    EvX (tCB (fun vs H Q => ∃ i j, vs = [V.int i, V.int j] ∧ ∀ p, H p = none → Q (.ref p) (upd H p (.rng i j))) ta) σ H (fun y H2 => ∃ q, y = .ref q ∧ H2 q = some (.rng lo hi)) := fun H1 e Q k =>
  h H1 e _ fun H2 e2 => ⟨lo, hi, rfl, fun p hp => k _ _ (e2.trans (Ex.new hp)) ⟨p, rfl, upd_same⟩⟩
section
variable {K : PySem.W.Frag} {σ : L2.St} {H : Hp} {te tl : TE} {t : TT}
/-- a comprehension over such a range -/
theorem el_lcRng {a : Addr} {lo hi : Int} {j : Nat} {vs : List Nat} (f : Nat → Bool) (v : Nat → V) (h : Ev tl σ H (.ref a)) (hx : H a = some (.rng lo hi)) (hb : -(2 ^ 62) ≤ lo ∧ lo < 2 ^ 62 ∧ -(2 ^ 62) ≤ hi ∧ hi < 2 ^ 62) (hz : (hi - lo).toNat ≤ 40000) (hw : ∀ x, wipe ((wipe σ vs).set j (some x)) vs = wipe σ vs)
    (ht : ∀ (i : Nat) H1, Ex H H1 → i < (hi - lo).toNat → EvT t ((wipe σ vs).set j (some (.int (lo + i)))) H1 (f i)) (he : ∀ (i : Nat) H1, Ex H H1 → i < (hi - lo).toNat → f i = true → Ev te ((wipe σ vs).set j (some (.int (lo + i)))) H1 (v i)) :
    EvL (tLc (iRngV tl) (gName j) t te vs) σ H (given (hi - lo).toNat f v) := fun H0 e Q q => h H0 e _ fun H1 e1 => ⟨a, lo, hi, rfl, (e.trans e1) _ _ hx, hb, fun Dl hD =>
  lc_range (lo := lo) (n := (hi - lo).toNat) (Cw H1 f v Dl) ⟨hD, Ex.new hD, upd_same⟩ (fun i Hi hi' c => ⟨hw _, cw_turn c (by omega) (ht i H1 (e.trans e1) hi') (fun hf => he i H1 (e.trans e1) hi' hf)⟩)
    (fun Hz c => q Dl Hz (fresh_back e1 c.1) (e1.trans c.2.1) c.2.2)⟩
end
end Rw
namespace Rw
open PySem.W
open PySem PySem.Spec PyProof.Rows L2 Evl Cy
/-! ### max(a list of ints, default=an int) -/
theorem hold_ints {h : Heap} : ∀ {us : List Value} {ns : List Int}, IntsAre us ns → HoldAll h us ns
  | _, _, .nil => HoldAll.nil
  | _, _, .cons n t r => HoldAll.cons ⟨_, .int n t⟩ (hold_ints r)
/-- the greatest of ints, d of none -/
def maxD (d : Int) : List Int → Int
  | [] => d
  | y :: ys => maxOf y ys
def rMaxD (K : PySem.W.Frag) : List V → List V → Hp → VK → Prop := fun vs zs H Q => ∃ (a : Addr) (ns : List Int) (d : Int), vs = [V.ref a] ∧ zs = [V.int d] ∧ SqL K H a (ns.map V.int) ∧ Q (.int (maxD d ns)) H
theorem cr_maxD {X : Cx} (hc : X.calm = true) (hu : X.A.units + 64 < cLine) : CallRK X (.builtin "max") ["default"] (rMaxD X.K) := by
  intro pins s σ H vs zs us ws Q I r rz h
  obtain ⟨a, ns, d, rfl, rfl, hs, q⟩ := h
  obtain ⟨its, rv, hl, _⟩ := I.list hs
  rw [Vals.ref1 r]
  obtain ⟨t, rfl⟩ : ∃ t, ws = [Value.int d t] := by
    cases rz with
    | cons z zs =>
      cases zs
      obtain ⟨t, rfl⟩ := z
      exact ⟨t, rfl⟩
  refine max_list_datum_default (α := Int) (I.ok.hd hc) hl.isList (hold_ints rv.ints) (Nat.lt_of_le_of_lt (Nat.add_le_add_left (show 1 + 0 ≤ 64 by decide) _) hu) (fun e h' tk hk => ?_) fun y ys i v h' tk e hi hv hk => ?_
  · subst e
    exact ⟨.int d, H, I.kept hk, ⟨_, rfl⟩, q⟩
  · subst e
    obtain ⟨as, hr⟩ := hv
    obtain ⟨t2, rfl⟩ : ∃ t2, v = Value.int (maxOf y ys) t2 := by
      have hr : Reads h' v (.int (maxOf y ys)) as := hr
      cases hr
      exact ⟨_, rfl⟩
    exact ⟨.int (maxOf y ys), H, I.kept hk, ⟨_, rfl⟩, q⟩
theorem maxOf_facts : ∀ (ys : List Int) (y : Int), y ≤ maxOf y ys ∧ (∀ z ∈ ys, z ≤ maxOf y ys) ∧ (maxOf y ys = y ∨ maxOf y ys ∈ ys)
  | [], y => ⟨Int.le_refl _, fun z h => (by cases h), .inl rfl⟩
  | a :: r, y => by
    have e : maxOf y (a :: r) = maxOf (if DatumOrd.lt y a = true then a else y) r := rfl
    have l : DatumOrd.lt y a = decide (y < a) := rfl
    obtain ⟨h1, h2, h3⟩ := maxOf_facts r (if DatumOrd.lt y a = true then a else y)
    rw [e]
    rw [l] at h1 h2 h3 ⊢
    by_cases q : y < a
    · rw [decide_eq_true q, if_pos rfl] at h1 h2 h3 ⊢
      refine ⟨by omega, fun z hz => ?_, ?_⟩
      · rcases List.mem_cons.mp hz with rfl | hz
        · exact h1
        · exact h2 z hz
      · rcases h3 with h3 | h3
        · exact .inr (by rw [h3]; exact List.mem_cons_self)
        · exact .inr (List.mem_cons_of_mem _ h3)
    · rw [decide_eq_false q, if_neg Bool.false_ne_true] at h1 h2 h3 ⊢
      refine ⟨h1, fun z hz => ?_, ?_⟩
      · rcases List.mem_cons.mp hz with rfl | hz
        · omega
        · exact h2 z hz
      · rcases h3 with h3 | h3
        · exact .inl h3
        · exact .inr (List.mem_cons_of_mem _ h3)
theorem ev_maxD {K : PySem.W.Frag} {σ : L2.St} {H : Hp} {te td : TE} {ns : List Int} {d : Int} (h : EvL te σ H (ns.map V.int)) (hd : ∀ H1, Ex H H1 → Ev td σ H1 (.int d)) : Ev (tCKw (rMaxD K) (tCons te tNil) (tCons td tNil)) σ H (.int (maxD d ns)) := fun H1 e Q q =>
  h H1 e _ fun p H2 hp e2 h2 => hd H2 (e.trans e2) H2 (Ex.refl H2) _ fun H3 e3 => ⟨p, ns, d, rfl, rfl, SqL.of (e3 _ _ h2), q H3 (e2.trans e3)⟩
theorem q_asgX {σ : L2.St} {H : Hp} {te : TE} {i : Nat} {R : V → Hp → Prop} {D : Ends} {tz : TS} (h : EvX te σ H R) (k : ∀ y H1, Ex H H1 → R y H1 → tz D (σ.set i (some y)) H1) : tSeq (tAsg te (gName i)) tz D σ H := h H (Ex.refl H) _ fun y H1 e r => k y H1 e r
theorem given_true {n : Nat} {v : Nat → V} : Evl.given n (fun _ => true) v = (List.range n).map v := by
  unfold Evl.given
  rw [List.filter_eq_self.mpr fun a _ => rfl]
/-- tuple(a new list) -/
theorem eu_tupNew {K : PySem.W.Frag} {σ : L2.St} {H : Hp} {te : TE} {xs : List V} (h : EvL te σ H xs) :
    EvU (tCB (fun xs H Q => ∃ p ys, xs = [.ref p] ∧ ((SqL K H p ys ∧ ∀ l, H l = none → Q (.ref l) (upd H l (.tup ys))) ∨ (SqT K H p ys ∧ Q (.ref p) H))) (tCons te tNil)) σ H xs := fun H1 e Q q =>
  h H1 e _ fun p H2 hp e2 h2 => ⟨p, xs, rfl, .inl ⟨SqL.of h2, fun l hl => q l _ (fresh_back e2 hl) (e2.trans (Ex.new hl)) upd_same⟩⟩
end Rw
namespace Rw
open PySem PySem.Spec PyProof.Rows L2 Evl
local macro_rules | `(tactic| walk_at "sq") => `(tactic| first | assumption | exact SqL.of (by assumption) | exact SqT.of (by assumption))
local macro_rules | `(tactic| walk_at "at") => `(tactic| first | exact atI_nat (j := 0) rfl | exact atI_nat (j := 1) rfl | exact atI_nat (j := 2) rfl | exact atI_nat (j := 3) rfl)
local macro_rules | `(tactic| walk_at "rv") => `(tactic| first
  | with_reducible exact rv_I0
  | ((with_reducible refine' rv_I ?k1); (case k1 => first | (show (0 : Int) < _; omega) | exact ⟨by omega, by omega⟩ | exact .inr ⟨by omega, by omega⟩ | exact .inl ⟨by omega, by omega⟩ | exact ⟨by decide, by decide, by decide⟩))
  | ((with_reducible refine' rv_eq ?k1); (case k1 => exact rfl))
  | ((with_reducible refine' rv_ne ?k1); (case k1 => exact rfl))
  | (refine' rv_ixL ?k1 ?k2; (case k1 => walk_at "sq"); (case k2 => walk_at "at"))
  | (refine' rv_ixT ?k1 ?k2; (case k1 => walk_at "sq"); (case k2 => walk_at "at")))
local macro_rules | `(tactic| walk_at "rc") => `(tactic| first | exact rc_int1 | exact rc_int1b | exact rc_abs)
local macro_rules | `(tactic| walk_at "ea") => `(tactic| first
  | with_reducible exact ea_nil
  | ((with_reducible refine' ea_cons ?k1 ?k2); (case k1 => walk_at "ev"); (case k2 => walk_at "ea")))
local macro_rules | `(tactic| walk_at "ev") => `(tactic| first
  | with_reducible exact ev_c
  | ((with_reducible refine' ev_var ?k1); (case k1 => exact rfl))
  | ((with_reducible refine' ev_op ?k1 ?k2 ?k3); (case k1 => walk_at "ev"); (case k2 => walk_at "ev"); (case k3 => walk_at "rv"))
  | ((with_reducible refine' et_chain ?k1 ?k2 ?k3 ?k4 ?k5); (case k1 => walk_at "ev"); (case k2 => walk_at "ev"); (case k3 => (intro _; walk_at "ev")); (case k4 => walk_at "rv"); (case k5 => (intro _; walk_at "rv")))
  | ((with_reducible refine' ev_cb ?k1 ?k2); (case k1 => walk_at "ea"); (case k2 => walk_at "rc")))
local macro_rules | `(tactic| walk_at "et") => `(tactic| first
  | ((with_reducible refine' et_test ?k1); (case k1 => walk_at "ev"))
  | ((with_reducible refine' et_B ?k1); (case k1 => walk_at "ev"))
  | ((with_reducible refine' et_and ?k1 ?k2); (case k1 => walk_at "et"); (case k2 => (intro _; walk_at "et")))
  | ((with_reducible refine' et_or ?k1 ?k2); (case k1 => walk_at "et"); (case k2 => (intro _; walk_at "et")))
  | ((with_reducible refine' et_not ?k1); (case k1 => walk_at "et")))
def topS (i : Nat) : Stmt := PySem.Challenge.pw_recurwright_k19_hours_open.main.body.getD i (.Pass ⟨0, 0, 0, 0⟩)
abbrev sDice : Stmt := topS 23
abbrev sRoll : Stmt := topS 24
theorem scDice : FnScope ["cell"] ["cell"] (defScope sDice) := ⟨rfl, rfl, rfl, by decide +kernel, rfl, by decide +kernel, by decide +kernel⟩
theorem scRoll : FnScope ["dice", "many", "found"] ["dice", "many"] (defScope sRoll) := ⟨rfl, rfl, rfl, by decide +kernel, rfl, by decide +kernel, by decide +kernel⟩
/-- the text's own names of built-ins -/
structure Blt (mg : Str → Option Value) : Prop where
  int : mg "int" = none
  abs : mg "abs" = none
section
variable {P : Program} {w : World} {K : PySem.W.Frag} {mg : Str → Option Value} {base : Heap}
def spDice : Sp := fun vs H Q _ => ∃ n : Int, vs = [.int n] ∧ ∀ p a b c H', H p = none → Ex H H' → H' p = some (.lst [.int a, .int b, .int c]) → Q (.ref p) H'
theorem ok_dice {f : Addr} {fd : FuncData} (F : Fun K "_law_dice" "_law_dice" sDice f fd) (B : Blt mg) : FnOk P w K mg base (L2.CX P w) 1 f fd ["cell"] spDice := by
  refine F.okX scDice (fun vs H Q E h => ?_) (fun cdv A outer s H vs Q E hr h => ?_)
  · obtain ⟨n, rfl, _⟩ := h
    rfl
  · obtain ⟨n, rfl, q⟩ := h
    refine ⟨_, pss_cons (ps_if (pt_chain op_lt op_lt (pe_op op_sub pe_int pe_int) (pv 0) pe_int)
        (pss_one (ps_ret (pe_lst (pa_cons (pe_callB call_abs (by rfl) B.abs (by decide +kernel) (pa_cons (pv 0) pa_nil)) (pa_cons pe_int (pa_cons pe_int pa_nil)))))) pss_nil)
      (pss_one (ps_ret (pe_lst (pa_cons (pv 0) (pa_cons (pe_op op_add pe_int (pe_op op_mod (pe_callTy call_int1 (by rfl) B.int (by decide +kernel) (pa_cons (pv 0) pa_nil)) pe_int))
        (pa_cons (pe_callTy call_int1 (by rfl) B.int (by decide +kernel) (pa_cons (pe_cmpR op_ge (pv 0) (pe_op op_pow pe_int pe_int) (nomark _)) pa_nil)) pa_nil)))))), ?_⟩
    refine q_when (by walk_at "et") (fun hb H1 e1 => ?_) (fun hb H1 e1 => ?_)
    · exact s_retL (el_lst (by walk_at "ea") (by show 3 ≤ 100000; decide)) fun p H2 hp e2 h2 => q p _ _ _ H2 (fresh_back e1 hp) (e1.trans e2) h2
    · exact s_retL (el_lst (by walk_at "ea") (by show 3 ≤ 100000; decide)) fun p H2 hp e2 h2 => q p _ _ _ H2 (fresh_back e1 hp) (e1.trans e2) h2
def spRoll : Sp := fun vs H Q _ => ∃ (d : Addr) (a b c m : Int), vs = [.ref d, .int m] ∧ H d = some (.lst [.int a, .int b, .int c]) ∧ 0 < m ∧ m < 1000000 ∧
  ∀ (v a' b' c' : Int) H', 0 ≤ v → v < m → ExB d H H' → H' d = some (.lst [.int a', .int b', .int c']) → Q (.int v) H'
theorem ok_roll {f : Addr} {fd : FuncData} (F : Fun K "_law_roll" "_law_roll" sRoll f fd) (B : Blt mg) : FnOk P w K mg base (L2.CX P w) 1 f fd ["dice", "many"] spRoll := by
  refine F.okX scRoll (fun vs H Q E h => ?_) (fun cdv A outer s H vs Q E hr h => ?_)
  · obtain ⟨d, a, b, c, m, rfl, _⟩ := h
    rfl
  · obtain ⟨d, a, b, c, m, rfl, hd, h0, h1, q⟩ := h
    refine ⟨_, pss_cons (ps_if (PW.pt (pw_or (pt_cmpR op_eq (pe_ix ix_list (pv 0) pe_int (fun _ _ => rfl)) pe_int (nomark _)) (pw_or1 (PW.pt (pw_and (pt_cmpR op_eq (pe_ix ix_list (pv 0) pe_int (fun _ _ => rfl)) pe_int (nomark _)) (pw_and1 (pt_cmpR op_gt (pe_ix ix_list (pv 0) pe_int (fun _ _ => rfl)) pe_int (nomark _))))))))
        (pss_cons (ps_set (i := 2) scRoll.nd rfl (.inl rfl) (pe_op op_mod (pe_callTy call_int1 (by rfl) B.int (by decide +kernel) (pa_cons (pe_ix ix_list (pv 0) pe_int (fun _ _ => rfl)) pa_nil)) (pv 1)))
        (pss_cons (ps_asg (pe_op op_fdiv (pe_ix ix_list (pv 0) pe_int (fun _ _ => rfl)) (pv 1)) (pg_sub (pv 0) pe_int set_list))
        (pss_one (ps_ret (pv 2))))) pss_nil)
      (pss_cons (ps_asg pe_int (pg_sub (pv 0) pe_int set_list))
      (pss_cons (ps_asg (pe_op op_mod (pe_callTy call_int1 (by rfl) B.int (by decide +kernel) (pa_cons (pe_op op_add (pe_op op_add (pe_op op_mul (pe_ix ix_list (pv 0) pe_int (fun _ _ => rfl)) pe_int) (pe_op op_mul (pe_ix ix_list (pv 0) pe_int (fun _ _ => rfl)) pe_int)) pe_int) pa_nil)) pe_int) (pg_sub (pv 0) pe_int set_list))
      (pss_cons (ps_asg (pe_op op_add (pe_ix ix_list (pv 0) pe_int (fun _ _ => rfl)) pe_int) (pg_sub (pv 0) pe_int set_list))
      (pss_one (ps_ret (pe_op op_mod (pe_callTy call_int1 (by rfl) B.int (by decide +kernel) (pa_cons (pe_op op_add (pe_op op_fdiv (pe_ix ix_list (pv 0) pe_int (fun _ _ => rfl)) pe_int) (pe_ix ix_list (pv 0) pe_int (fun _ _ => rfl))) pa_nil)) (pv 1))))))), ?_⟩
    refine q_when (by walk_at "et") (fun hb H1 e1 => ?_) (fun hb H1 e1 => ?_)
    · have hd1 := e1 d _ hd
      refine q_asg (by walk_at "ev") fun H2 e2 => ?_
      have hd2 := e2 d _ hd1
      refine q_setL (j := 0) hd2 (by walk_at "ev") (by walk_at "ev") (by exact ev_c) (by show 0 < 3; decide) fun H3 e3 => ?_
      refine s_ret (by walk_at "ev") fun H4 e4 => ?_
      exact q _ _ _ _ H4 (Int.emod_nonneg _ (by omega)) (Int.emod_lt_of_pos _ h0) (((ExB.of ((e1.trans e2).trans e3)).upd).ex e4) (e4 d _ upd_same)
    · have hd1 := e1 d _ hd
      refine q_setL (j := 2) hd1 (by walk_at "ev") (by walk_at "ev") (by exact ev_c) (by show 2 < 3; decide) fun H2 e2 => ?_
      have hd2 : upd H2 d (.lst [.int a, .int b, .int 0]) d = some _ := upd_same
      refine q_setL (xs := [.int a, .int b, .int 0]) (j := 0) hd2 (by walk_at "ev") (by walk_at "ev") (by exact ev_c) (by show 0 < 3; decide) fun H3 e3 => ?_
      have b1 : ExB d H (upd H2 d (.lst [.int a, .int b, .int 0])) := (ExB.of (e1.trans e2)).upd
      generalize hz : (a * 48271 + b * 69621 + 11) % 2147483647 = z
      have hd3 : upd H3 d (.lst [.int z, .int b, .int 0]) d = some _ := upd_same
      refine q_setL (xs := [.int z, .int b, .int 0]) (j := 1) hd3 (by walk_at "ev") (by walk_at "ev") (by exact ev_c) (by show 1 < 3; decide) fun H4 e4 => ?_
      have b2 : ExB d H (upd H3 d (.lst [.int z, .int b, .int 0])) := (b1.ex e3).upd
      have hd4 : upd H4 d (.lst [.int z, .int (b + 1), .int 0]) d = some _ := upd_same
      have b3 : ExB d H (upd H4 d (.lst [.int z, .int (b + 1), .int 0])) := (b2.ex e4).upd
      refine s_ret (v := .int ((z / 7 + z) % m)) (by walk_at "ev") fun H5 e5 => ?_
      exact q _ _ _ _ H5 (Int.emod_nonneg _ (by omega)) (Int.emod_lt_of_pos _ h0) (b3.ex e5) (e5 d _ hd4)
end
abbrev sTold : Stmt := topS 26
theorem scTold : FnScope ["what"] ["what"] (defScope sTold) := ⟨rfl, rfl, rfl, by decide +kernel, rfl, by decide +kernel, by decide +kernel⟩
section
variable {P : Program} {w : World} {K : PySem.W.Frag} {mg : Str → Option Value} {base : Heap}
theorem ok_told {f : Addr} {fd : FuncData} {c : Nat → Addr} {k : Nat} (F : Fun K "_law_told" "_law_told" sTold f fd) (B : Exs K mg c) : FnOk P w K mg base (L2.CX P w) (k + 2) f fd ["what"] (spTold P w K mg base c k) := by
  refine F.okX scTold (fun vs H Q E h => ?_) (fun cdv A outer s H vs Q E hr h => ?_)
  · obtain ⟨f, c', q, params, body, scope, tb, rfl, _⟩ := h
    rfl
  · obtain ⟨f, c', q, params, body, scope, tb, rfl, hf, hc, L, hb, hl, ht⟩ := h
    refine ⟨_, pss_one (ps_try_many (tb := fun W D σ H => ∃ (f c' : Addr) (q : Str) (params : Arguments) (body : Expr) (scope : Scope) (tb : XK → Hp → VK → Prop), σ[0]? = some (some (.ref f)) ∧ H f = some (LamO f q params body scope c') ∧ H c' = some (LamX.CodeO c' q) ∧ Lam0 scope ∧
          (∀ (pm cv ctv : Value), bindArgs (PySem.W.kla_fn "<lambda>" q params body scope [] pm cv ctv) ⟨[], []⟩ = pure []) ∧ LamRun P w K mg base k q scope body f c' tb ∧ ∃ E' : XK, (∀ cls d σ' H', E' cls d H' → W cls d σ' H') ∧ tb E' H D.rt) rfl rfl takes_none5
        (fun W pn xe tk _ => ⟨fun pins s' σ H' D I h' => ?_⟩)
        (HdsOk.cons ⟨rfl, by decide, .inl (B.e 0 (by decide)).g⟩ (fun _ _ _ _ _ _ _ => pss_one (ps_ret pe_str)) (HdsOk.cons ⟨rfl, by decide, .inl (B.e 1 (by decide)).g⟩ (fun _ _ _ _ _ _ _ => pss_one (ps_ret pe_str)) (HdsOk.cons ⟨rfl, by decide, .inl (B.e 2 (by decide)).g⟩ (fun _ _ _ _ _ _ _ => pss_one (ps_ret pe_str)) (HdsOk.cons ⟨rfl, by decide, .inl (B.e 3 (by decide)).g⟩ (fun _ _ _ _ _ _ _ => pss_one (ps_ret pe_str)) (HdsOk.cons ⟨rfl, by decide, .inl (B.e 4 (by decide)).g⟩ (fun _ _ _ _ _ _ _ => pss_one (ps_ret pe_str)) (HdsOk.cons ⟨rfl, by decide, .inl (B.e 5 (by decide)).g⟩ (fun _ _ _ _ _ _ _ => pss_one (ps_ret pe_str)) (HdsOk.cons ⟨rfl, by decide, .inl (B.e 6 (by decide)).g⟩ (fun _ _ _ _ _ _ _ => pss_one (ps_ret pe_str)) (HdsOk.cons ⟨rfl, by decide, .inl (B.e 7 (by decide)).g⟩ (fun _ _ _ _ _ _ _ => pss_one (ps_ret pe_str)) (HdsOk.cons ⟨rfl, by decide, .inl (B.e 8 (by decide)).g⟩ (fun _ _ _ _ _ _ _ => pss_one (ps_ret pe_str)) (HdsOk.cons ⟨rfl, by decide, .inl (B.e 9 (by decide)).g⟩ (fun _ _ _ _ _ _ _ => pss_one (ps_ret pe_str)) (HdsOk.cons ⟨rfl, by decide, .inl (B.e 10 (by decide)).g⟩ (fun _ _ _ _ _ _ _ => pss_one (ps_ret pe_str)) (HdsOk.nil))))))))))))), ?_⟩
    · obtain ⟨f, c', q, params, body, scope, tb, h1, h2, h3, h4, h5, h6, E', hE, h7⟩ := h'
      exact (pss_one (ps_ret (pe_actO (E := E') (i := 0) (k := k) tk hE hr rfl (.inl rfl)))).run pins s' σ H' D I ⟨f, c', q, params, body, scope, tb, h1, h2, h3, h4, h5, h6, h7⟩
    · refine ⟨f, c', q, params, body, scope, tb, rfl, hf, hc, L, hb, hl, ETold c Q, fun cls d σ' H' hE => ?_, ht⟩
      obtain ⟨i, hi, rfl, q⟩ := hE
      exact ⟨decide (i = 0), B.m i 0 hi (by omega), fun hb _ _ => (by obtain rfl : i = 0 := of_decide_eq_true hb; exact q), fun hb0 => (by have n0 := of_decide_eq_false hb0; exact ⟨decide (i = 1), B.m i 1 hi (by omega), fun hb _ _ => (by obtain rfl : i = 1 := of_decide_eq_true hb; exact q), fun hb1 => (by have n1 := of_decide_eq_false hb1; exact ⟨decide (i = 2), B.m i 2 hi (by omega), fun hb _ _ => (by obtain rfl : i = 2 := of_decide_eq_true hb; exact q), fun hb2 => (by have n2 := of_decide_eq_false hb2; exact ⟨decide (i = 3), B.m i 3 hi (by omega), fun hb _ _ => (by obtain rfl : i = 3 := of_decide_eq_true hb; exact q), fun hb3 => (by have n3 := of_decide_eq_false hb3; exact ⟨decide (i = 4), B.m i 4 hi (by omega), fun hb _ _ => (by obtain rfl : i = 4 := of_decide_eq_true hb; exact q), fun hb4 => (by have n4 := of_decide_eq_false hb4; exact ⟨decide (i = 5), B.m i 5 hi (by omega), fun hb _ _ => (by obtain rfl : i = 5 := of_decide_eq_true hb; exact q), fun hb5 => (by have n5 := of_decide_eq_false hb5; exact ⟨decide (i = 6), B.m i 6 hi (by omega), fun hb _ _ => (by obtain rfl : i = 6 := of_decide_eq_true hb; exact q), fun hb6 => (by have n6 := of_decide_eq_false hb6; exact ⟨decide (i = 7), B.m i 7 hi (by omega), fun hb _ _ => (by obtain rfl : i = 7 := of_decide_eq_true hb; exact q), fun hb7 => (by have n7 := of_decide_eq_false hb7; exact ⟨decide (i = 8), B.m i 8 hi (by omega), fun hb _ _ => (by obtain rfl : i = 8 := of_decide_eq_true hb; exact q), fun hb8 => (by have n8 := of_decide_eq_false hb8; exact ⟨decide (i = 9), B.m i 9 hi (by omega), fun hb _ _ => (by obtain rfl : i = 9 := of_decide_eq_true hb; exact q), fun hb9 => (by have n9 := of_decide_eq_false hb9; exact ⟨decide (i = 10), B.m i 10 hi (by omega), fun hb _ _ => (by obtain rfl : i = 10 := of_decide_eq_true hb; exact q), fun hb10 => (by have n10 := of_decide_eq_false hb10; exact (by omega : False).elim)⟩)⟩)⟩)⟩)⟩)⟩)⟩)⟩)⟩)⟩)⟩
end
end Rw
namespace Rw
open PySem PySem.Spec PyProof.Rows L2 Evl
/-- a lambda with its captured cells, as a tracked object -/
def LamC (f : Addr) (q : Str) (params : Arguments) (body : Expr) (scope : Scope) (cells : List (Str × Addr)) (cc : Addr) : HO :=
  .ext fun h => ∃ pm tv, h.get? f = some (PySem.W.kla_obj "<lambda>" q params body scope cells pm cc tv)
section
variable {X : Cx} {pins : List (Addr × Obj)} {σ : L2.St} {H : Hp} {s : Shared}
/-- x(), in a def that the lambda's maker called: Z is that def's context, entered at s -/
theorem pe_actC {CXg : CXT} {Eg : XK} {Ng : List Str} {qg : Str} {sg : Scope} {g f cc : Addr} {cdg : Value} {params : Arguments} {body : Expr} {scope : Scope} {k i : Nat} {a : Str} {pn : List (Addr × Obj)} {xe : Value → Shared → Prop} {W : WX} {E : XK} {tb : TE} {p1 p2 : Pos}
    (I : Inv X pins σ H s) (L : LamX.LamS X.env.scope scope) (binds : ∀ (pm cv ctv : Value), bindArgs (PySem.W.kla_fn "<lambda>" (X.env.qual ++ "<lambda>") params body scope (cloFrom X.env.cells scope.names []) pm cv ctv) ⟨[], []⟩ = pure [])
    (takes : Takes ((cxOf CXg X.prog X.w X.K X.mg X.base Ng qg sg g cdg X.A X.stack s H Eg).tr pn xe) W) (hW : ∀ cls d σ' H', E cls d H' → W cls d σ' H') (room : Room (k + 1) (X.A.deeper (envOfC qg sg s.heap.objs.size g cdg)))
    (runs : ∀ (A : Around) (outer : List Env) (s : Shared) (H : Hp), Room k (A.deeper (LamX.lamEnv X scope s.heap.objs.size f cc)) → PE (LamX.lamCx X A outer s H E scope f cc) body tb)
    (hN : Ng[i]? = some a) (hv : Vis sg a) (hd : (a == ("__debug__" : Str)) = false := by decide) (hcd : (a == ("__classdict__" : Str)) = false := by decide) :
    PE ((cxOf CXg X.prog X.w X.K X.mg X.base Ng qg sg g cdg X.A X.stack s H Eg).tr pn xe) (.Call (.Name a p1) [] [] p2)
      (fun σZ HZ Q => σZ[i]? = some (some (.ref f)) ∧ HZ f = some (LamC f (X.env.qual ++ "<lambda>") params body scope (cloFrom X.env.cells scope.names []) cc) ∧ HZ cc = some (LamX.CodeO cc (X.env.qual ++ "<lambda>")) ∧ tb σ HZ Q) := by
  refine ⟨fun pz tz uz Hz Q Iz ask => ?_⟩
  obtain ⟨isf, atf, atc, ask⟩ := ask
  refine wpAny_Call_Name_kw (thn ((pe_var (pos := p1) (i := i) hN hv hd hcd).run pz tz uz Hz (fun v H1 => v = .ref f ∧ H1 = Hz) Iz ⟨.ref f, isf, rfl, rfl⟩) fun u sv ⟨v, H1, J1, rel, ends⟩ => ?_)
  obtain ⟨rfl, eqH⟩ := ends
  rw [eqH] at J1
  obtain rfl : u = Value.ref f := rel
  obtain ⟨⟨pm, tv, objf⟩, _, _⟩ := J1.hok f _ atf
  refine PySem.W.callWith_F0 ⟨_, _, _, _, objf⟩ ?_
  obtain ⟨⟨oc, vs, t, objc, datac, qualc⟩, _, _⟩ := J1.hok cc _ atc
  have ran : codeAny (model X.prog X.w) (X.A.deeper (envOfC qg sg s.heap.objs.size g cdg)) (.call (.ref f) ⟨[], []⟩) (CR (L2.CX X.prog X.w) (envOfC qg sg s.heap.objs.size g cdg :: X.stack) X.prog X.w Hz sv Q E) sv := by
    refine PySem.W.kla_callFunE room.depth objf rfl L.co L.gen rfl ⟨cc, oc, vs, t, rfl, objc, datac, qualc⟩ ?_
    rw [binds]
    refine wpAny_pure (wpAny_newFunctionEnv (fun y hy => (L.own y hy).2) (fun y hy => absurd hy (by simp)) (fun hN newNs steps => ⟨J1.nolimit.fresh _ steps, ?_⟩) L.kind)
    show codeAny _ _ (.expr body (LamX.lamEnv X scope sv.heap.objs.size f cc)) _ _
    have stays : ∀ b o, sv.heap.get? b = some o → hN.get? b = some o := fun b o e => steps.extBut b o (Nat.ne_of_lt (Heap.lt_size e)) (Heap.get?_push_of_some _ e)
    have Jv : Inv (LamX.lamCx X (X.A.deeper (envOfC qg sg s.heap.objs.size g cdg)) (envOfC qg sg s.heap.objs.size g cdg :: X.stack) sv Hz E scope f cc) [] σ Hz { sv with heap := hN, toks := sv.toks + ([] : List (Str × Value)).length } :=
      LamX.lam_start2 I L J1.env0 room.hd J1.base newNs stays
    refine PySem.W.kla_codeExpr (wpAny_mono ((runs _ _ sv Hz (room.deeper _)).run [] _ _ Hz Q Jv ask) (fun v s' got => ?_) fun e s' got => got)
    obtain ⟨wv, Hv, Kv, rv, q⟩ := got
    exact ⟨wv, Hv, Kv.os, Kv.bare, Kv.base, Kv.hok, rv, q⟩
  refine wpAny_call (codeAny_mono ran fun r s' got => ?_)
  cases r with
  | error e => exact (passes_call takes hW) pz uz Hz sv e s' J1 got
  | ok fl =>
    cases fl with
    | ret u => exact J1.after got
    | next => exact False.elim got
    | brk => exact False.elim got
    | cont => exact False.elim got
end
/-- _law_told(e), e a lambda of this very def, kept with its cells -/
def tToldC (X : Cx) (c : Nat → Addr) (k : Nat) (ta : TA) : TE := fun σ H Q => ta σ H fun vs H1 => ∃ (f cc : Addr) (params : Arguments) (body : Expr) (scope : Scope) (t : XK → TE), vs = [.ref f] ∧ H1 f = some (LamC f (X.env.qual ++ "<lambda>") params body scope (cloFrom X.env.cells scope.names []) cc) ∧ H1 cc = some (LamX.CodeO cc (X.env.qual ++ "<lambda>")) ∧ LamX.LamS X.env.scope scope ∧
  (∀ (pm cv ctv : Value), bindArgs (PySem.W.kla_fn "<lambda>" (X.env.qual ++ "<lambda>") params body scope (cloFrom X.env.cells scope.names []) pm cv ctv) ⟨[], []⟩ = pure []) ∧
  (∀ (A : Around) (outer : List Env) (s : Shared) (H : Hp) (E : XK), Room k (A.deeper (LamX.lamEnv X scope s.heap.objs.size f cc)) → PE (LamX.lamCx X A outer s H E scope f cc) body (t E)) ∧ t (ETold c Q) σ H1 Q
theorem pe_toldC {X : Cx} {c : Nat → Addr} {k : Nat} {g : Addr} {oc kV dc pm cdv ct : Value} {od an : Option Addr} {osl : Array (Option Value)} {p pos : Pos} {e : Expr} {ta : TA} (B : Exs X.K X.mg c) (hm : X.mg "_law_told" = some (.ref g)) (kp : PySem.W.keepIn X.K (.ref g) = true)
    (lk : X.K.lookup g = some ⟨oc, od, .func (PySem.W.fnOf "_law_told" "_law_told" (defArgs sTold) (defBody sTold) (defScope sTold) .none kV dc pm an cdv ct), osl⟩) (hcg : PySem.W.codeIn X.K cdv "_law_told" = true) (b : Binds X.K (PySem.W.fnOf "_law_told" "_law_told" (defArgs sTold) (defBody sTold) (defScope sTold) .none kV dc pm an cdv ct) ["what"] [])
    (room : Room (k + 2) X.A) (ha : PA X [e] ta) (hg : Gl X "_law_told" := by rfl) (he : starEach [e] X.env = (false, eval e X.env) :: starEach [] X.env := by rfl) (hpl : (backTo pos (starEach [] X.env)).any (·.1) = false := by rfl) :
    PE X (.Call (.Name "_law_told" p) [e] [] pos) (tToldC X c k ta) := by
  refine ⟨fun pins s σ H Q I h => ?_⟩
  refine wpAny_Call_Name_kw (ld_glob I hg hm ?_ (by decide))
  refine PySem.W.callWith_K (h₀ := X.base) I.ok.mod.kin kp (thn (ha.run pos pins s σ H _ I h) fun us s1 ⟨vs, H1, I1, r, q⟩ => ⟨I1.kIn, ?_⟩) he hpl
  obtain ⟨f, cc, params, body, scope, t, rfl, atf, atc, L, binds, runs, q⟩ := q
  obtain rfl : us = [Value.ref f] := Vals.ref1 r
  have ran : codeAny (model X.prog X.w) X.A (.call (.ref g) ⟨[.ref f], []⟩) (CR (L2.CX X.prog X.w) X.stack X.prog X.w H1 s1 Q E0) s1 := by
    refine LamX.run_ofS (N := ["what"]) (ps := ["what"]) (us := [.ref f]) (vs := [.ref f]) lk hcg scTold room I1.env0 (b s1 [.ref f] I1.kIn rfl) (.cons rfl .nil) rfl fun room' => ?_
    refine ⟨_, pss_one (ps_try_many (tb := fun W D σZ HZ => ∃ E' : XK, (∀ cls d σ' H', E' cls d H' → W cls d σ' H') ∧ σZ[0]? = some (some (.ref f)) ∧ HZ f = some (LamC f (X.env.qual ++ "<lambda>") params body scope (cloFrom X.env.cells scope.names []) cc) ∧ HZ cc = some (LamX.CodeO cc (X.env.qual ++ "<lambda>")) ∧ t E' σ HZ D.rt) rfl rfl takes_none5
        (fun W pn xe tk _ => ⟨fun pz s' uz Hz D Iz h' => ?_⟩)
        (HdsOk.cons ⟨rfl, by decide, .inl (B.e 0 (by decide)).g⟩ (fun _ _ _ _ _ _ _ => pss_one (ps_ret pe_str)) (HdsOk.cons ⟨rfl, by decide, .inl (B.e 1 (by decide)).g⟩ (fun _ _ _ _ _ _ _ => pss_one (ps_ret pe_str)) (HdsOk.cons ⟨rfl, by decide, .inl (B.e 2 (by decide)).g⟩ (fun _ _ _ _ _ _ _ => pss_one (ps_ret pe_str)) (HdsOk.cons ⟨rfl, by decide, .inl (B.e 3 (by decide)).g⟩ (fun _ _ _ _ _ _ _ => pss_one (ps_ret pe_str)) (HdsOk.cons ⟨rfl, by decide, .inl (B.e 4 (by decide)).g⟩ (fun _ _ _ _ _ _ _ => pss_one (ps_ret pe_str)) (HdsOk.cons ⟨rfl, by decide, .inl (B.e 5 (by decide)).g⟩ (fun _ _ _ _ _ _ _ => pss_one (ps_ret pe_str)) (HdsOk.cons ⟨rfl, by decide, .inl (B.e 6 (by decide)).g⟩ (fun _ _ _ _ _ _ _ => pss_one (ps_ret pe_str)) (HdsOk.cons ⟨rfl, by decide, .inl (B.e 7 (by decide)).g⟩ (fun _ _ _ _ _ _ _ => pss_one (ps_ret pe_str)) (HdsOk.cons ⟨rfl, by decide, .inl (B.e 8 (by decide)).g⟩ (fun _ _ _ _ _ _ _ => pss_one (ps_ret pe_str)) (HdsOk.cons ⟨rfl, by decide, .inl (B.e 9 (by decide)).g⟩ (fun _ _ _ _ _ _ _ => pss_one (ps_ret pe_str)) (HdsOk.cons ⟨rfl, by decide, .inl (B.e 10 (by decide)).g⟩ (fun _ _ _ _ _ _ _ => pss_one (ps_ret pe_str)) (HdsOk.nil))))))))))))), ?_⟩
    · obtain ⟨E', hE, g1, g2, g3, g4⟩ := h'
      exact (pss_one (ps_ret (pe_actC (E := E') (i := 0) (k := k) I1 L binds tk hE room' (fun A outer s H hr2 => runs A outer s H E' hr2) rfl (.inl rfl)))).run pz s' uz Hz D Iz ⟨g1, g2, g3, g4⟩
    · refine ⟨ETold c Q, fun cls d σ' H' hE => ?_, rfl, atf, atc, q⟩
      obtain ⟨i, hi, rfl, q⟩ := hE
      exact ⟨decide (i = 0), B.m i 0 hi (by omega), fun hb _ _ => (by obtain rfl : i = 0 := of_decide_eq_true hb; exact q), fun hb0 => (by have n0 := of_decide_eq_false hb0; exact ⟨decide (i = 1), B.m i 1 hi (by omega), fun hb _ _ => (by obtain rfl : i = 1 := of_decide_eq_true hb; exact q), fun hb1 => (by have n1 := of_decide_eq_false hb1; exact ⟨decide (i = 2), B.m i 2 hi (by omega), fun hb _ _ => (by obtain rfl : i = 2 := of_decide_eq_true hb; exact q), fun hb2 => (by have n2 := of_decide_eq_false hb2; exact ⟨decide (i = 3), B.m i 3 hi (by omega), fun hb _ _ => (by obtain rfl : i = 3 := of_decide_eq_true hb; exact q), fun hb3 => (by have n3 := of_decide_eq_false hb3; exact ⟨decide (i = 4), B.m i 4 hi (by omega), fun hb _ _ => (by obtain rfl : i = 4 := of_decide_eq_true hb; exact q), fun hb4 => (by have n4 := of_decide_eq_false hb4; exact ⟨decide (i = 5), B.m i 5 hi (by omega), fun hb _ _ => (by obtain rfl : i = 5 := of_decide_eq_true hb; exact q), fun hb5 => (by have n5 := of_decide_eq_false hb5; exact ⟨decide (i = 6), B.m i 6 hi (by omega), fun hb _ _ => (by obtain rfl : i = 6 := of_decide_eq_true hb; exact q), fun hb6 => (by have n6 := of_decide_eq_false hb6; exact ⟨decide (i = 7), B.m i 7 hi (by omega), fun hb _ _ => (by obtain rfl : i = 7 := of_decide_eq_true hb; exact q), fun hb7 => (by have n7 := of_decide_eq_false hb7; exact ⟨decide (i = 8), B.m i 8 hi (by omega), fun hb _ _ => (by obtain rfl : i = 8 := of_decide_eq_true hb; exact q), fun hb8 => (by have n8 := of_decide_eq_false hb8; exact ⟨decide (i = 9), B.m i 9 hi (by omega), fun hb _ _ => (by obtain rfl : i = 9 := of_decide_eq_true hb; exact q), fun hb9 => (by have n9 := of_decide_eq_false hb9; exact ⟨decide (i = 10), B.m i 10 hi (by omega), fun hb _ _ => (by obtain rfl : i = 10 := of_decide_eq_true hb; exact q), fun hb10 => (by have n10 := of_decide_eq_false hb10; exact (by omega : False).elim)⟩)⟩)⟩)⟩)⟩)⟩)⟩)⟩)⟩)⟩)⟩
  refine wpAny_call (codeAny_mono ran fun r s2 got => ?_)
  cases r with
  | error e => exact passL pins σ H1 s1 e s2 I1 got
  | ok fl =>
    cases fl with
    | ret u => exact I1.after got
    | next => exact False.elim got
    | brk => exact False.elim got
    | cont => exact False.elim got
end Rw
namespace Rw
open PySem PySem.Spec PyProof.Rows L2 Evl Cy
/-! ### kinds of values: what stands for what -/
structure Ty (α : Type) where
  r : Hp → V → α → Prop
  up : ∀ {H H' : Hp} {v : V} {x : α}, Ex H H' → r H v x → r H' v x
inductive All2 {α β : Type} (R : α → β → Prop) : List α → List β → Prop
  | nil : All2 R [] []
  | cons {a b l m} : R a b → All2 R l m → All2 R (a :: l) (b :: m)
namespace All2
variable {α β : Type} {R S : α → β → Prop} {l : List α} {m : List β}
theorem imp (h : All2 R l m) (k : ∀ a b, R a b → S a b) : All2 S l m := by
  induction h with
  | nil => exact .nil
  | cons r _ ih => exact .cons (k _ _ r) ih
theorem len (h : All2 R l m) : l.length = m.length := by
  induction h with
  | nil => rfl
  | cons _ _ ih => rw [List.length_cons, List.length_cons, ih]
theorem app {l' : List α} {m' : List β} (h : All2 R l m) (k : All2 R l' m') : All2 R (l ++ l') (m ++ m') := by
  induction h with
  | nil => exact k
  | cons r _ ih => exact .cons r ih
theorem one {a : α} {b : β} (h : R a b) : All2 R [a] [b] := .cons h .nil
theorem at_ (h : All2 R l m) : ∀ {i : Nat} {a : α}, l[i]? = some a → ∃ b, m[i]? = some b ∧ R a b := by
  induction h with
  | nil => intro i a e; simp at e
  | cons r _ ih =>
    intro i a e
    cases i with
    | zero => exact ⟨_, rfl, by simp at e; rw [← e]; exact r⟩
    | succ i => exact ih (by simpa using e)
theorem at2 (h : All2 R l m) : ∀ {i : Nat} {b : β}, m[i]? = some b → ∃ a, l[i]? = some a ∧ R a b := by
  induction h with
  | nil => intro i a e; simp at e
  | cons r _ ih =>
    intro i a e
    cases i with
    | zero => exact ⟨_, rfl, by simp at e; rw [← e]; exact r⟩
    | succ i => exact ih (by simpa using e)
end All2
def kI : Ty Int := ⟨fun _ v x => v = .int x, fun _ h => h⟩
def kB : Ty Bool := ⟨fun _ v x => v = .bl x, fun _ h => h⟩
def kS : Ty Str := ⟨fun _ v x => v = .str x, fun _ h => h⟩
def kN : Ty Unit := ⟨fun _ v _ => v = .non, fun _ h => h⟩
/-- a pointer to what may change -/
def kPtr (d : Addr) : Ty Unit := ⟨fun _ v _ => v = .ref d, fun _ h => h⟩
/-- None, or what stands for a value (and is not None) -/
def kO {α : Type} (t : Ty α) : Ty (Option α) := ⟨fun H v x => match x with | none => v = .non | some y => t.r H v y ∧ v ≠ .non, fun {H H' v x} e h => by
  cases x with
  | none => exact h
  | some y => exact ⟨t.up e h.1, h.2⟩⟩
section
variable (K : PySem.W.Frag) {α β γ δ ε ζ : Type}
theorem all2_up (t : Ty α) {H H' : Hp} (e : Ex H H') {vs : List V} {xs : List α} (h : All2 (t.r H) vs xs) : All2 (t.r H') vs xs := h.imp fun _ _ => t.up e
def kL (t : Ty α) : Ty (List α) := ⟨fun H v xs => ∃ p vs, v = .ref p ∧ SqL K H p vs ∧ All2 (t.r H) vs xs, fun e ⟨p, vs, a, b, c⟩ => ⟨p, vs, a, ex_l e b, all2_up t e c⟩⟩
def kT (t : Ty α) : Ty (List α) := ⟨fun H v xs => ∃ p vs, v = .ref p ∧ SqT K H p vs ∧ All2 (t.r H) vs xs, fun e ⟨p, vs, a, b, c⟩ => ⟨p, vs, a, ex_t e b, all2_up t e c⟩⟩
def k2 (a : Ty α) (b : Ty β) : Ty (α × β) := ⟨fun H v x => ∃ p u w, v = .ref p ∧ SqT K H p [u, w] ∧ a.r H u x.1 ∧ b.r H w x.2, fun e ⟨p, u, w, h1, h2, h3, h4⟩ => ⟨p, u, w, h1, ex_t e h2, a.up e h3, b.up e h4⟩⟩
def k3 (a : Ty α) (b : Ty β) (c : Ty γ) : Ty (α × β × γ) := ⟨fun H v x => ∃ p u1 u2 u3, v = .ref p ∧ SqT K H p [u1, u2, u3] ∧ a.r H u1 x.1 ∧ b.r H u2 x.2.1 ∧ c.r H u3 x.2.2, fun e ⟨p, u1, u2, u3, h1, h2, h3, h4, h5⟩ => ⟨p, u1, u2, u3, h1, ex_t e h2, a.up e h3, b.up e h4, c.up e h5⟩⟩
end
/-! ### the heap but for what may change -/
def del (M : List Addr) (H : Hp) : Hp := fun a => if a ∈ M then none else H a
section
variable {M A : List Addr} {H H' H1 H2 : Hp} {a d p : Addr} {o : HO}
theorem del_some : del M H a = some o ↔ a ∉ M ∧ H a = some o := by
  unfold del
  by_cases h : a ∈ M
  · simp [h]
  · simp [h]
theorem ex_del (e : Ex H H') : Ex (del M H) (del M H') := fun a o h => del_some.mpr ⟨(del_some.mp h).1, e _ _ (del_some.mp h).2⟩
theorem del_le : Ex (del M H) H := fun a o h => (del_some.mp h).2
/-- less is kept, more may change -/
theorem ex_sub (s : ∀ a ∈ A, a ∈ M) (e : Ex (del A H) (del A H')) : Ex (del M H) (del M H') := fun a o h => by
  obtain ⟨n, h⟩ := del_some.mp h
  exact del_some.mpr ⟨n, (del_some.mp (e a o (del_some.mpr ⟨fun z => n (s a z), h⟩))).2⟩
theorem ex_of {H H' : Hp} (e : Ex H H') : Ex (del A H) (del A H') := ex_del e
/-- something new becomes changeable -/
theorem del_new (h : H p = none) : Ex (del M H) (del (p :: M) H) := fun a o e => by
  obtain ⟨n, e⟩ := del_some.mp e
  refine del_some.mpr ⟨fun z => ?_, e⟩
  rcases List.mem_cons.mp z with z | z
  · rw [z, h] at e; cases e
  · exact n z
theorem del_free : Ex (del (p :: M) H) (del M H) := fun a o e => by
  obtain ⟨n, e⟩ := del_some.mp e
  exact del_some.mpr ⟨fun z => n (List.mem_cons_of_mem _ z), e⟩
theorem del_upd (h : d ∈ M) : del M (upd H d o) = del M H := by
  funext a
  unfold del
  by_cases k : a ∈ M
  · rw [if_pos k, if_pos k]
  · rw [if_neg k, if_neg k]
    exact upd_ne fun z => k (by rw [z]; exact h)
theorem del_nil : del [] H = H := rfl
end
/-! ### what may change, and what it is -/
structure Cell where
  a : Addr
  α : Type
  r : Hp → HO → α → Prop
  up : ∀ {H H' : Hp} {o : HO} {x : α}, Ex H H' → r H o x → r H' o x
  x : α
abbrev ads (S : List Cell) : List Addr := S.map (·.a)
structure Holds (M : List Addr) (S : List Cell) (H : Hp) : Prop where
  at_ : ∀ c ∈ S, c.a ∈ M ∧ ∃ o, H c.a = some o ∧ c.r (del M H) o c.x
  one : (ads S).Nodup
  live : ∀ m ∈ M, H m ≠ none
/-- three numbers: dice | a list in the making -/
def cDice (d : Addr) (x : Int × Int × Int) : Cell := ⟨d, Int × Int × Int, fun _ o x => o = .lst [.int x.1, .int x.2.1, .int x.2.2], fun _ h => h, x⟩
def cL {α : Type} (d : Addr) (t : Ty α) (x : List α) : Cell := ⟨d, List α, fun H o x => ∃ vs, o = .lst vs ∧ All2 (t.r H) vs x, fun e ⟨vs, a, b⟩ => ⟨vs, a, all2_up t e b⟩, x⟩
section
variable {M : List Addr} {S S' : List Cell} {H H' H1 H2 : Hp} {a d p : Addr} {o : HO}
theorem Holds.sub (w : Holds M S H) : ∀ a ∈ ads S, a ∈ M := fun a h => by
  obtain ⟨c, hc, e⟩ := List.mem_map.mp h
  rw [← e]
  exact (w.at_ c hc).1
theorem Holds.grow (w : Holds M S H) (e : Ex (del (ads S) H) (del (ads S) H')) : Ex (del M H) (del M H') := ex_sub w.sub e
theorem Holds.ex (w : Holds M S H) (e : Ex H H') : Holds M S H' :=
  ⟨fun c hc => let ⟨h1, o, h2, h3⟩ := w.at_ c hc; ⟨h1, o, e _ _ h2, c.up (ex_del e) h3⟩, w.one, fun m hm => by
    cases h : H m with
    | none => exact absurd h (w.live m hm)
    | some o => rw [e m o h]; exact fun z => nomatch z⟩
/-- a cell is written -/
theorem Holds.put {k : Nat} {c c' : Cell} (w : Holds M S H) (hk : S[k]? = some c) (ha : c'.a = c.a) (hr : c'.r (del M H) o c'.x) : Holds M (S.set k c') (upd H c.a o) := by
  have lt : k < S.length := (List.getElem?_eq_some_iff.mp hk).1
  have hm : c.a ∈ M := (w.at_ c (List.mem_of_getElem? hk)).1
  have e : ads (S.set k c') = ads S := by
    unfold ads
    rw [List.map_set]
    apply List.ext_getElem? fun i => ?_
    rw [List.getElem?_set]
    by_cases h : k = i
    · subst h
      rw [if_pos rfl, List.length_map, if_pos lt, List.getElem?_map, hk, ha]
      rfl
    · rw [if_neg h]
  refine ⟨fun x hx => ?_, by rw [e]; exact w.one, fun m hm => by
    unfold upd
    split
    · exact fun z => nomatch z
    · exact w.live m hm⟩
  rw [del_upd hm]
  obtain ⟨i, hi⟩ := List.mem_iff_getElem?.mp hx
  rw [List.getElem?_set] at hi
  by_cases h : k = i
  · subst h
    rw [if_pos rfl, if_pos lt] at hi
    obtain rfl := Option.some.inj hi
    exact ⟨by rw [ha]; exact hm, o, by rw [ha]; exact upd_same, hr⟩
  · rw [if_neg h] at hi
    obtain ⟨h1, u, h2, h3⟩ := w.at_ x (List.mem_of_getElem? hi)
    refine ⟨h1, u, ?_, h3⟩
    rw [upd_ne ?_]
    · exact h2
    · intro z
      have g1 : (ads S)[i]? = some x.a := by unfold ads; rw [List.getElem?_map, hi]; rfl
      have g2 : (ads S)[k]? = some c.a := by unfold ads; rw [List.getElem?_map, hk]; rfl
      rw [z] at g1
      have li : i < (ads S).length := (List.getElem?_eq_some_iff.mp g1).1
      have q := (List.getElem?_inj li w.one).mp (g1.trans g2.symm)
      exact h q.symm
theorem ads_set {k : Nat} {c c' : Cell} (hk : S[k]? = some c) (ha : c'.a = c.a) : ads (S.set k c') = ads S := by
  have lt : k < S.length := (List.getElem?_eq_some_iff.mp hk).1
  unfold ads
  rw [List.map_set]
  apply List.ext_getElem? fun i => ?_
  rw [List.getElem?_set]
  by_cases h : k = i
  · subst h
    rw [if_pos rfl, List.length_map, if_pos lt, List.getElem?_map, hk, ha]
    rfl
  · rw [if_neg h]
/-- something new that may change -/
theorem Holds.new {c : Cell} (w : Holds M S H) (hn : H c.a = none) (e : Ex H H') (hc : H' c.a = some o) (hr : c.r (del (c.a :: M) H') o c.x) : Holds (c.a :: M) (c :: S) H' := by
  have w' := w.ex e
  have nm : c.a ∉ M := fun z => w.live _ z hn
  refine ⟨fun x hx => ?_, ?_, fun m hm => ?_⟩
  · rcases List.mem_cons.mp hx with z | z
    · rw [z]
      exact ⟨List.mem_cons_self, o, hc, hr⟩
    · obtain ⟨h1, u, h2, h3⟩ := w.at_ x z
      exact ⟨List.mem_cons_of_mem _ h1, u, e _ _ h2, x.up ((del_new hn).trans (ex_del e)) h3⟩
  · show (c.a :: ads S).Nodup
    exact List.nodup_cons.mpr ⟨fun z => nm (w.sub _ z), w.one⟩
  · rcases List.mem_cons.mp hm with z | z
    · rw [z, hc]
      exact fun z => nomatch z
    · exact w'.live m z
/-- it changes no more -/
theorem Holds.drop {c : Cell} (w : Holds (c.a :: M) (c :: S) H) (hn : c.a ∉ M) : Holds M S H := by
  refine ⟨fun x hx => ?_, (List.nodup_cons.mp w.one).2, fun m hm => w.live m (List.mem_cons_of_mem _ hm)⟩
  obtain ⟨h1, u, h2, h3⟩ := w.at_ x (List.mem_cons_of_mem _ hx)
  refine ⟨?_, u, h2, x.up del_free h3⟩
  rcases List.mem_cons.mp h1 with z | z
  · exact absurd (List.mem_map.mpr ⟨x, hx, z⟩) (List.nodup_cons.mp w.one).1
  · exact z
end
end Rw
namespace Rw
open PySem PySem.Spec PyProof.Rows L2 Evl Cy
/-- an answer, or an error's kind -/
inductive Re (α : Type) where
  | ok (x : α)
  | er (k : Nat)
def Re.bind {α β : Type} (r : Re α) (f : α → Re β) : Re β := match r with | .ok x => f x | .er k => .er k
/-- what an expression comes to: from any heap that has I beside what may change (M, told by S) -/
structure Em {α : Type} (E : XK) (cl : Nat → Addr) (M : List Addr) (te : TE) (σ : L2.St) (I : Hp) (S : List Cell) (t : Ty α) (r : Re α) (S' : List Cell) : Prop where
  ad : ads S' = ads S
  run : ∀ H1, Ex I (del M H1) → Holds M S H1 → ∀ Q : VK, (∀ x v H2, r = .ok x → Ex (del (ads S) H1) (del (ads S) H2) → Holds M S' H2 → t.r (del M H2) v x → Q v H2) →
    (∀ k H2, r = .er k → Ex (del (ads S) H1) (del (ads S) H2) → Holds M S' H2 → E (.ref (cl k)) none H2) → te σ H1 Q
structure Et (E : XK) (cl : Nat → Addr) (M : List Addr) (tt : TT) (σ : L2.St) (I : Hp) (S : List Cell) (r : Re Bool) (S' : List Cell) : Prop where
  ad : ads S' = ads S
  run : ∀ H1, Ex I (del M H1) → Holds M S H1 → ∀ Q : Bool → Hp → Prop, (∀ b H2, r = .ok b → Ex (del (ads S) H1) (del (ads S) H2) → Holds M S' H2 → Q b H2) →
    (∀ k H2, r = .er k → Ex (del (ads S) H1) (del (ads S) H2) → Holds M S' H2 → E (.ref (cl k)) none H2) → tt σ H1 Q
structure Ea {α : Type} (E : XK) (cl : Nat → Addr) (M : List Addr) (ta : TA) (σ : L2.St) (I : Hp) (S : List Cell) (A : Hp → List V → α → Prop) (r : Re α) (S' : List Cell) : Prop where
  ad : ads S' = ads S
  run : ∀ H1, Ex I (del M H1) → Holds M S H1 → ∀ Q : List V → Hp → Prop, (∀ x vs H2, r = .ok x → Ex (del (ads S) H1) (del (ads S) H2) → Holds M S' H2 → A (del M H2) vs x → Q vs H2) →
    (∀ k H2, r = .er k → Ex (del (ads S) H1) (del (ads S) H2) → Holds M S' H2 → E (.ref (cl k)) none H2) → ta σ H1 Q
abbrev AR (α : Type) := Hp → List V → α → Prop
def a0 : AR Unit := fun _ vs _ => vs = []
def aC {α β : Type} (t : Ty α) (A : AR β) : AR (α × β) := fun H vs a => ∃ v r, vs = v :: r ∧ t.r H v a.1 ∧ A H r a.2
/-- an operation on values -/
def Op2 {α β γ : Type} (r : R2) (q1 : Ty α) (x : α) (q2 : Ty β) (y : β) (q3 : Ty γ) (z : γ) : Prop :=
  ∀ (M : List Addr) (u w : V) (H : Hp), (∀ m ∈ M, H m ≠ none) → q1.r (del M H) u x → q2.r (del M H) w y → ∀ Q : VK, (∀ v H', Ex H H' → q3.r (del M H') v z → Q v H') → r u w H Q
def Op1 {α γ : Type} (r : V → Hp → VK → Prop) (q1 : Ty α) (x : α) (q3 : Ty γ) (z : γ) : Prop :=
  ∀ (M : List Addr) (u : V) (H : Hp), (∀ m ∈ M, H m ≠ none) → q1.r (del M H) u x → ∀ Q : VK, (∀ v H', Ex H H' → q3.r (del M H') v z → Q v H') → r u H Q
def OpN {α γ : Type} (r : List V → Hp → VK → Prop) (A : AR α) (x : α) (q3 : Ty γ) (z : γ) : Prop :=
  ∀ (M : List Addr) (us : List V) (H : Hp), (∀ m ∈ M, H m ≠ none) → A (del M H) us x → ∀ Q : VK, (∀ v H', Ex H H' → q3.r (del M H') v z → Q v H') → r us H Q
section
variable {α β γ δ : Type} {E : XK} {cl : Nat → Addr} {M : List Addr} {σ : L2.St} {I I' H H' : Hp} {S S' S1 S2 S3 : List Cell} {te ta tb tc to : TE} {tt tu : TT} {tr : TA} {t : Ty α} {u : Ty β} {w : Ty γ} {x : α} {y : β} {z : γ} {v : V}
theorem ads_tr (a : ads S1 = ads S) (e1 : Ex (del (ads S) H) (del (ads S) H')) {H2 : Hp} (e2 : Ex (del (ads S1) H') (del (ads S1) H2)) : Ex (del (ads S) H) (del (ads S) H2) := by
  rw [a] at e2
  exact e1.trans e2
theorem Em.mono (h : Em E cl M te σ I S t (.ok x) S') (e : Ex I I') : Em E cl M te σ I' S t (.ok x) S' := ⟨h.ad, fun H1 a => h.run H1 (e.trans a)⟩
theorem em_eq {x' : α} (h : Em E cl M te σ I S t (.ok x) S') (e : x = x') : Em E cl M te σ I S t (.ok x') S' := by
  rw [← e]
  exact h
theorem et_eq {b b' : Bool} (h : Et E cl M tt σ I S (.ok b) S') (e : b = b') : Et E cl M tt σ I S (.ok b') S' := by
  rw [← e]
  exact h
/-- another kind of the same value -/
theorem em_ty {t' : Ty β} {x' : β} (h : Em E cl M te σ I S t (.ok x) S') (k : ∀ H v, t.r H v x → t'.r H v x') : Em E cl M te σ I S t' (.ok x') S' :=
  ⟨h.ad, fun H1 a b Q q _ => h.run H1 a b Q (fun x2 v H2 e f g r => q _ v H2 rfl f g (by cases e; exact k _ _ r)) (fun k H2 e => nomatch e)⟩
/-- nothing is raised: from a plain evaluation -/
theorem em_mk (a : ads S' = ads S) (h : ∀ H1, Ex I (del M H1) → Holds M S H1 → ∀ Q : VK, (∀ v H2, Ex (del (ads S) H1) (del (ads S) H2) → Holds M S' H2 → t.r (del M H2) v x → Q v H2) → te σ H1 Q) : Em E cl M te σ I S t (.ok x) S' :=
  ⟨a, fun H1 i w Q q _ => h H1 i w Q fun v H2 e w' r => q x v H2 rfl e w' r⟩
theorem em_of (h : Em E cl M te σ I S t (.ok x) S') (H1 : Hp) (i : Ex I (del M H1)) (w : Holds M S H1) (Q : VK) (q : ∀ v H2, Ex (del (ads S) H1) (del (ads S) H2) → Holds M S' H2 → t.r (del M H2) v x → Q v H2) : te σ H1 Q :=
  h.run H1 i w Q (fun x2 v H2 e f g r => q v H2 f g (by cases e; exact r)) (fun k H2 e => nomatch e)
theorem et_of {b : Bool} (h : Et E cl M tt σ I S (.ok b) S') (H1 : Hp) (i : Ex I (del M H1)) (w : Holds M S H1) (Q : Bool → Hp → Prop) (q : ∀ H2, Ex (del (ads S) H1) (del (ads S) H2) → Holds M S' H2 → Q b H2) : tt σ H1 Q :=
  h.run H1 i w Q (fun x2 H2 e f g => by cases e; exact q H2 f g) (fun k H2 e => nomatch e)
theorem ea_of {A : AR α} (h : Ea E cl M tr σ I S A (.ok x) S') (H1 : Hp) (i : Ex I (del M H1)) (w : Holds M S H1) (Q : List V → Hp → Prop) (q : ∀ vs H2, Ex (del (ads S) H1) (del (ads S) H2) → Holds M S' H2 → A (del M H2) vs x → Q vs H2) : tr σ H1 Q :=
  h.run H1 i w Q (fun x2 v H2 e f g r => q v H2 f g (by cases e; exact r)) (fun k H2 e => nomatch e)
theorem et_mk {b : Bool} (a : ads S' = ads S) (h : ∀ H1, Ex I (del M H1) → Holds M S H1 → ∀ Q : Bool → Hp → Prop, (∀ H2, Ex (del (ads S) H1) (del (ads S) H2) → Holds M S' H2 → Q b H2) → tt σ H1 Q) : Et E cl M tt σ I S (.ok b) S' :=
  ⟨a, fun H1 i w Q q _ => h H1 i w Q fun H2 e w' => q b H2 rfl e w'⟩
theorem em_var {i : Nat} (h : σ[i]? = some (some v)) (r : t.r I v x) : Em E cl M (tVar i) σ I S t (.ok x) S :=
  em_mk rfl fun H1 i w Q q => ⟨v, h, q v H1 (Ex.refl _) w (t.up i r)⟩
theorem em_c (r : t.r I v x) : Em E cl M (tC v) σ I S t (.ok x) S :=
  em_mk rfl fun H1 i w Q q => q v H1 (Ex.refl _) w (t.up i r)
theorem em_int {i : Int} : Em E cl M (tC (.int i)) σ I S kI (.ok i) S := em_c rfl
theorem em_bl {b : Bool} : Em E cl M (tC (.bl b)) σ I S kB (.ok b) S := em_c rfl
theorem em_str {s : Str} : Em E cl M (tC (.str s)) σ I S kS (.ok s) S := em_c rfl
theorem em_op {r : R2} (ha : Em E cl M ta σ I S t (.ok x) S1) (hb : Em E cl M tb σ I S1 u (.ok y) S2) (ho : Op2 r t x u y w z) : Em E cl M (tOp r ta tb) σ I S w (.ok z) S2 :=
  em_mk (hb.ad.trans ha.ad) fun H1 i w Q q => em_of ha H1 i w _ fun v1 H2 e1 w1 r1 => em_of hb H2 (i.trans (w.grow e1)) w1 _ fun v2 H3 e2 w2 r2 =>
    ho M v1 v2 H3 w2.live (t.up (w1.grow e2) r1) r2 Q fun v H4 e3 r3 => q v H4 ((ads_tr ha.ad e1 e2).trans (ex_del e3)) (w2.ex e3) r3
theorem em_un {r : V → Hp → VK → Prop} (ha : Em E cl M ta σ I S t (.ok x) S1) (ho : Op1 r t x w z) : Em E cl M (tUn r ta) σ I S w (.ok z) S1 :=
  em_mk ha.ad fun H1 i w Q q => em_of ha H1 i w _ fun v1 H2 e1 w1 r1 => ho M v1 H2 w1.live r1 Q fun v H4 e3 r3 => q v H4 (e1.trans (ex_del e3)) (w1.ex e3) r3
/-- a < b < c, nothing changed by the last -/
theorem em_chain {r r' : R2} {b b' : Bool} (ha : Em E cl M ta σ I S t (.ok x) S1) (hb : Em E cl M tb σ I S1 u (.ok y) S2) (hc : b = true → Em E cl M tc σ I S2 w (.ok z) S2) (ho : Op2 r t x u y kB b) (ho' : Op2 r' u y w z kB b') : Em E cl M (tChain r r' ta tb tc) σ I S kB (.ok (b && b')) S2 :=
  em_mk (hb.ad.trans ha.ad) fun H1 i w Q q => em_of ha H1 i w _ fun v1 H2 e1 w1 r1 => em_of hb H2 (i.trans (w.grow e1)) w1 _ fun v2 H3 e2 w2 r2 =>
    ho M v1 v2 H3 w2.live (t.up (w1.grow e2) r1) r2 _ fun v H4 e3 r3 => by
      have e13 := (ads_tr ha.ad e1 e2).trans (ex_del e3)
      refine ⟨b, r3, ?_⟩
      cases b with
      | true =>
        rw [if_pos rfl]
        refine em_of (hc rfl) H4 (i.trans (w.grow e13)) (w2.ex e3) _ fun v4 H5 e4 w4 r4 => ?_
        have a2 : ads S2 = ads S := hb.ad.trans ha.ad
        have w3 := w2.ex e3
        refine ho' M v2 v4 H5 w4.live (u.up ((ex_del e3).trans (w3.grow e4)) r2) r4 Q fun v5 H6 e5 r5 => q v5 H6 ((ads_tr a2 e13 e4).trans (ex_del e5)) (w4.ex e5) ?_
        rw [Bool.true_and]
        exact r5
      | false =>
        rw [if_neg Bool.false_ne_true]
        exact q _ H4 e13 (w2.ex e3) rfl
/-- tests -/
theorem gt_test {b : Bool} (h : Em E cl M te σ I S kB (.ok b) S') : Et E cl M (tTest te) σ I S (.ok b) S' := et_mk h.ad fun H1 i w Q q => em_of h H1 i w _ fun v H2 e w' r => ⟨b, r, q H2 e w'⟩
theorem gt_B {b : Bool} (h : Em E cl M te σ I S kB (.ok b) S') : Et E cl M (L2.tB te) σ I S (.ok b) S' := et_mk h.ad fun H1 i w Q q => em_of h H1 i w _ fun v H2 e w' r => ⟨b, r, q H2 e w'⟩
theorem gt_yes : Et E cl M tYes σ I S (.ok true) S := et_mk rfl fun H1 i w Q q => q H1 (Ex.refl _) w
theorem gt_not {b : Bool} (h : Et E cl M tt σ I S (.ok b) S') : Et E cl M (tNot tt) σ I S (.ok (!b)) S' := et_mk h.ad fun H1 i w Q q => et_of h H1 i w _ fun H2 e w' => q H2 e w'
theorem gt_and {a b : Bool} (h : Et E cl M tt σ I S (.ok a) S1) (k : a = true → Et E cl M tu σ I S1 (.ok b) S1) : Et E cl M (tAnd tt tu) σ I S (.ok (a && b)) S1 := et_mk h.ad fun H1 i w Q q => et_of h H1 i w _ fun H2 e w' => by
  cases a with
  | true =>
    rw [if_pos rfl]
    exact et_of (k rfl) H2 (i.trans (w.grow e)) w' _ fun H3 e2 w2 => q H3 (ads_tr h.ad e e2) w2
  | false =>
    rw [if_neg Bool.false_ne_true]
    exact q H2 e w'
theorem gt_or {a b : Bool} (h : Et E cl M tt σ I S (.ok a) S1) (k : a = false → Et E cl M tu σ I S1 (.ok b) S1) : Et E cl M (tOr tt tu) σ I S (.ok (a || b)) S1 := et_mk h.ad fun H1 i w Q q => et_of h H1 i w _ fun H2 e w' => by
  cases a with
  | true =>
    rw [if_pos rfl]
    exact q H2 e w'
  | false =>
    rw [if_neg Bool.false_ne_true]
    exact et_of (k rfl) H2 (i.trans (w.grow e)) w' _ fun H3 e2 w2 => q H3 (ads_tr h.ad e e2) w2
theorem em_andV {a b : Bool} (h : Em E cl M ta σ I S kB (.ok a) S1) (k : a = true → Em E cl M tb σ I S1 kB (.ok b) S1) : Em E cl M (tAndV ta tb) σ I S kB (.ok (a && b)) S1 := em_mk h.ad fun H1 i w Q q => em_of h H1 i w _ fun v H2 e w' r => by
  refine ⟨a, r, ?_⟩
  cases a with
  | true =>
    rw [if_pos rfl]
    exact em_of (k rfl) H2 (i.trans (w.grow e)) w' _ fun v2 H3 e2 w2 r2 => q v2 H3 (ads_tr h.ad e e2) w2 r2
  | false =>
    rw [if_neg Bool.false_ne_true]
    exact q _ H2 e w' rfl
theorem em_orV {a b : Bool} (h : Em E cl M ta σ I S kB (.ok a) S1) (k : a = false → Em E cl M tb σ I S1 kB (.ok b) S1) : Em E cl M (tOrV ta tb) σ I S kB (.ok (a || b)) S1 := em_mk h.ad fun H1 i w Q q => em_of h H1 i w _ fun v H2 e w' r => by
  refine ⟨a, r, ?_⟩
  cases a with
  | true =>
    rw [if_pos rfl]
    exact q _ H2 e w' rfl
  | false =>
    rw [if_neg Bool.false_ne_true]
    exact em_of (k rfl) H2 (i.trans (w.grow e)) w' _ fun v2 H3 e2 w2 r2 => q v2 H3 (ads_tr h.ad e e2) w2 r2
theorem em_notV {a : Bool} (h : Em E cl M ta σ I S kB (.ok a) S1) : Em E cl M (tNotV ta) σ I S kB (.ok (!a)) S1 := em_mk h.ad fun H1 i w Q q => em_of h H1 i w _ fun v H2 e w' r => ⟨a, r, q _ H2 e w' rfl⟩
theorem em_if {b : Bool} {x' : α} (h : Et E cl M tt σ I S (.ok b) S1) (h1 : b = true → Em E cl M ta σ I S1 t (.ok x) S1) (h2 : b = false → Em E cl M tb σ I S1 t (.ok x') S1) : Em E cl M (tIf tt ta tb) σ I S t (.ok (cond b x x')) S1 := em_mk h.ad fun H1 i w Q q => et_of h H1 i w _ fun H2 e w' => by
  cases b with
  | true =>
    rw [if_pos rfl]
    exact em_of (h1 rfl) H2 (i.trans (w.grow e)) w' _ fun v2 H3 e2 w2 r2 => q v2 H3 (ads_tr h.ad e e2) w2 r2
  | false =>
    rw [if_neg Bool.false_ne_true]
    exact em_of (h2 rfl) H2 (i.trans (w.grow e)) w' _ fun v2 H3 e2 w2 r2 => q v2 H3 (ads_tr h.ad e e2) w2 r2
/-- arguments, displays -/
theorem em_nil : Ea E cl M tNil σ I S a0 (.ok ()) S := ⟨rfl, fun H1 i w Q q _ => q () [] H1 rfl (Ex.refl _) w rfl⟩
theorem em_cons {A : AR β} (h : Em E cl M te σ I S t (.ok x) S1) (k : Ea E cl M tr σ I S1 A (.ok y) S2) : Ea E cl M (tCons te tr) σ I S (aC t A) (.ok (x, y)) S2 :=
  ⟨k.ad.trans h.ad, fun H1 i w Q q _ => em_of h H1 i w _ fun v H2 e w1 r => ea_of k H2 (i.trans (w.grow e)) w1 _ fun vs H3 e2 w2 r2 => q (x, y) (v :: vs) H3 rfl (ads_tr h.ad e e2) w2 ⟨v, vs, rfl, t.up (w1.grow e2) r, r2⟩⟩
variable (K : PySem.W.Frag)
theorem fresh_not {M : List Addr} {H : Hp} {p : Addr} (l : ∀ m ∈ M, H m ≠ none) (h : H p = none) : p ∉ M := fun z => l p z h
theorem del_at {M : List Addr} {H : Hp} {p : Addr} {o : HO} (n : p ∉ M) (h : H p = some o) : del M H p = some o := del_some.mpr ⟨n, h⟩
theorem em_t2 (h : Ea E cl M tr σ I S (aC t (aC u a0)) (.ok (x, y, ())) S') : Em E cl M (tTup tr) σ I S (k2 K t u) (.ok (x, y)) S' :=
  em_mk h.ad fun H1 i w Q q => ea_of h H1 i w _ fun vs H2 e w1 r => by
    obtain ⟨v1, r1, rfl, g1, v2, r2, rfl, g2, rfl⟩ := r
    refine ⟨by show 2 ≤ sizeLine; decide, fun p hp => q _ _ (e.trans (ex_del (Ex.new hp))) (w1.ex (Ex.new hp)) ⟨p, v1, v2, rfl, st_of (del_at (fresh_not w1.live hp) upd_same), t.up (ex_del (Ex.new hp)) g1, u.up (ex_del (Ex.new hp)) g2⟩⟩
theorem em_t3 (h : Ea E cl M tr σ I S (aC t (aC u (aC w a0))) (.ok (x, y, z, ())) S') : Em E cl M (tTup tr) σ I S (k3 K t u w) (.ok (x, y, z)) S' :=
  em_mk h.ad fun H1 i w0 Q q => ea_of h H1 i w0 _ fun vs H2 e w1 r => by
    obtain ⟨v1, r1, rfl, g1, v2, r2, rfl, g2, v3, r3, rfl, g3, rfl⟩ := r
    refine ⟨by show 3 ≤ sizeLine; decide, fun p hp => q _ _ (e.trans (ex_del (Ex.new hp))) (w1.ex (Ex.new hp)) ⟨p, v1, v2, v3, rfl, st_of (del_at (fresh_not w1.live hp) upd_same), t.up (ex_del (Ex.new hp)) g1, u.up (ex_del (Ex.new hp)) g2, w.up (ex_del (Ex.new hp)) g3⟩⟩
/-- all of one kind -/
def aL (t : Ty α) : AR (List α) := fun H vs xs => All2 (t.r H) vs xs
theorem em_nilL : Ea E cl M tNil σ I S (aL t) (.ok []) S := ⟨rfl, fun H1 i w Q q _ => q _ [] H1 rfl (Ex.refl _) w .nil⟩
theorem em_consL {xs : List α} (h : Em E cl M te σ I S t (.ok x) S1) (k : Ea E cl M tr σ I S1 (aL t) (.ok xs) S2) : Ea E cl M (tCons te tr) σ I S (aL t) (.ok (x :: xs)) S2 :=
  ⟨k.ad.trans h.ad, fun H1 i w Q q _ => em_of h H1 i w _ fun v H2 e w1 r => ea_of k H2 (i.trans (w.grow e)) w1 _ fun vs H3 e2 w2 r2 => q _ (v :: vs) H3 rfl (ads_tr h.ad e e2) w2 (.cons (t.up (w1.grow e2) r) r2)⟩
theorem em_lst {xs : List α} (h : Ea E cl M tr σ I S (aL t) (.ok xs) S') (hl : xs.length ≤ 100000) : Em E cl M (tLst tr) σ I S (kL K t) (.ok xs) S' :=
  em_mk h.ad fun H1 i w Q q => ea_of h H1 i w _ fun vs H2 e w1 r => ⟨sz_of (by rw [r.len]; exact hl), fun p hp => q _ _ (e.trans (ex_del (Ex.new hp))) (w1.ex (Ex.new hp)) ⟨p, vs, rfl, sq_of (del_at (fresh_not w1.live hp) upd_same), all2_up t (ex_del (Ex.new hp)) r⟩⟩
theorem em_tupL {xs : List α} (h : Ea E cl M tr σ I S (aL t) (.ok xs) S') (hl : xs.length ≤ 100000) : Em E cl M (tTup tr) σ I S (kT K t) (.ok xs) S' :=
  em_mk h.ad fun H1 i w Q q => ea_of h H1 i w _ fun vs H2 e w1 r => ⟨sz_of (by rw [r.len]; exact hl), fun p hp => q _ _ (e.trans (ex_del (Ex.new hp))) (w1.ex (Ex.new hp)) ⟨p, vs, rfl, st_of (del_at (fresh_not w1.live hp) upd_same), all2_up t (ex_del (Ex.new hp)) r⟩⟩
variable {K}
theorem em_cb {A : AR α} {r : List V → Hp → VK → Prop} (h : Ea E cl M tr σ I S A (.ok x) S') (ho : OpN r A x w z) : Em E cl M (tCB r tr) σ I S w (.ok z) S' :=
  em_mk h.ad fun H1 i w Q q => ea_of h H1 i w _ fun vs H2 e w1 r => ho M vs H2 w1.live r Q fun v H3 e3 r3 => q v H3 (e.trans (ex_del e3)) (w1.ex e3) r3
end
/-! ### operations -/
section
variable {K : PySem.W.Frag} {α β γ : Type} {i j : Int} {b c : Bool} {s s' : Str} {t : Ty α} {u : Ty β}
theorem o_I {g : Int → Int → Int} : Op2 (rI0 fun i j => .int (g i j)) kI i kI j kI (g i j) := fun M u w H l a b Q q => ⟨i, j, a, b, q _ H (Ex.refl H) rfl⟩
theorem o_IB {g : Int → Int → Bool} : Op2 (rI0 fun i j => .bl (g i j)) kI i kI j kB (g i j) := fun M u w H l a b Q q => ⟨i, j, a, b, q _ H (Ex.refl H) rfl⟩
theorem o_IC {C : Int → Int → Prop} {g : Int → Int → Int} (h : C i j) : Op2 (rI C fun i j => .int (g i j)) kI i kI j kI (g i j) := fun M u w H l a b Q q => ⟨i, j, a, b, h, q _ H (Ex.refl H) rfl⟩
theorem o_eqI : Op2 rEq kI i kI j kB (decide (i = j)) := fun M u w H l a b Q q => by
  cases a; cases b
  exact ⟨rfl, q _ H (Ex.refl H) (by show V.bl _ = V.bl _; congr 1; simp)⟩
theorem o_neI : Op2 rNe kI i kI j kB (!decide (i = j)) := fun M u w H l a b Q q => by
  cases a; cases b
  exact ⟨rfl, q _ H (Ex.refl H) (by show V.bl _ = V.bl _; congr 1; simp)⟩
theorem o_eqS : Op2 rEq kS s kS s' kB (decide (s = s')) := fun M u w H l a b Q q => by
  cases a; cases b
  exact ⟨rfl, q _ H (Ex.refl H) (by show V.bl _ = V.bl _; congr 1; simp)⟩
theorem o_neS : Op2 rNe kS s kS s' kB (!decide (s = s')) := fun M u w H l a b Q q => by
  cases a; cases b
  exact ⟨rfl, q _ H (Ex.refl H) (by show V.bl _ = V.bl _; congr 1; simp)⟩
theorem o_eqB : Op2 rEq kB b kB c kB (decide (b = c)) := fun M u w H l a b Q q => by
  cases a; cases b
  exact ⟨rfl, q _ H (Ex.refl H) (by show V.bl _ = V.bl _; congr 1; simp)⟩
theorem o_neB : Op2 rNe kB b kB c kB (!decide (b = c)) := fun M u w H l a b Q q => by
  cases a; cases b
  exact ⟨rfl, q _ H (Ex.refl H) (by show V.bl _ = V.bl _; congr 1; simp)⟩
theorem o_ixL {xs : List α} {n : Nat} {x : α} (h : xs[n]? = some x) (hi : i = (n : Int)) : Op2 (rIxL K) (kL K t) xs kI i t x := fun M u w H l a b Q q => by
  obtain ⟨p, vs, rfl, hp, ha⟩ := a
  obtain rfl : w = .int i := b
  obtain ⟨v, hv, hr⟩ := ha.at2 h
  exact ⟨p, vs, i, v, rfl, rfl, ex_l del_le hp, by rw [hi]; exact atI_nat hv, q v H (Ex.refl H) hr⟩
theorem o_ixT {xs : List α} {n : Nat} {x : α} (h : xs[n]? = some x) (hi : i = (n : Int)) : Op2 (rIxT K) (kT K t) xs kI i t x := fun M u w H l a b Q q => by
  obtain ⟨p, vs, rfl, hp, ha⟩ := a
  obtain rfl : w = .int i := b
  obtain ⟨v, hv, hr⟩ := ha.at2 h
  exact ⟨p, vs, i, v, rfl, rfl, ex_t del_le hp, by rw [hi]; exact atI_nat hv, q v H (Ex.refl H) hr⟩
theorem o_ix20 {x : α × β} : Op2 (rIxT K) (k2 K t u) x kI 0 t x.1 := fun M v w H l a b Q q => by
  obtain ⟨p, v1, v2, rfl, hp, h1, h2⟩ := a
  obtain rfl : w = .int 0 := b
  exact ⟨p, _, 0, v1, rfl, rfl, ex_t del_le hp, rfl, q _ H (Ex.refl H) h1⟩
theorem o_ix21 {x : α × β} : Op2 (rIxT K) (k2 K t u) x kI 1 u x.2 := fun M v w H l a b Q q => by
  obtain ⟨p, v1, v2, rfl, hp, h1, h2⟩ := a
  obtain rfl : w = .int 1 := b
  exact ⟨p, _, 1, v2, rfl, rfl, ex_t del_le hp, rfl, q _ H (Ex.refl H) h2⟩
theorem o_ix30 {w : Ty γ} {x : α × β × γ} : Op2 (rIxT K) (k3 K t u w) x kI 0 t x.1 := fun M v w H l a b Q q => by
  obtain ⟨p, v1, v2, v3, rfl, hp, h1, h2, h3⟩ := a
  obtain rfl : w = .int 0 := b
  exact ⟨p, _, 0, v1, rfl, rfl, ex_t del_le hp, rfl, q _ H (Ex.refl H) h1⟩
theorem o_ix31 {w : Ty γ} {x : α × β × γ} : Op2 (rIxT K) (k3 K t u w) x kI 1 u x.2.1 := fun M v w H l a b Q q => by
  obtain ⟨p, v1, v2, v3, rfl, hp, h1, h2, h3⟩ := a
  obtain rfl : w = .int 1 := b
  exact ⟨p, _, 1, v2, rfl, rfl, ex_t del_le hp, rfl, q _ H (Ex.refl H) h2⟩
theorem o_ix32 {w : Ty γ} {x : α × β × γ} : Op2 (rIxT K) (k3 K t u w) x kI 2 w x.2.2 := fun M v w H l a b Q q => by
  obtain ⟨p, v1, v2, v3, rfl, hp, h1, h2, h3⟩ := a
  obtain rfl : w = .int 2 := b
  exact ⟨p, _, 2, v3, rfl, rfl, ex_t del_le hp, rfl, q _ H (Ex.refl H) h3⟩
end
end Rw
namespace Rw
open PySem PySem.Spec PyProof.Rows L2 Evl Cy
/-! ### walks -/
def rng (lo hi : Int) : List Int := (List.range (hi - lo).toNat).map fun (k : Nat) => lo + (k : Int)
theorem rng_len {lo hi : Int} : (rng lo hi).length = (hi - lo).toNat := by unfold rng; rw [List.length_map, List.length_range]
theorem rng_at {lo hi x : Int} {i : Nat} (h : (rng lo hi)[i]? = some x) : x = lo + (i : Int) ∧ i < (hi - lo).toNat := by
  have l := (List.getElem?_eq_some_iff.mp h).1
  rw [rng_len] at l
  unfold rng at h
  rw [List.getElem?_map, List.getElem?_range l] at h
  exact ⟨(Option.some.inj h).symm, l⟩
theorem rng_mem {lo hi x : Int} : x ∈ rng lo hi ↔ lo ≤ x ∧ x < hi := by
  unfold rng
  rw [List.mem_map]
  constructor
  · rintro ⟨k, hk, rfl⟩
    rw [List.mem_range] at hk
    omega
  · intro h
    exact ⟨(x - lo).toNat, by rw [List.mem_range]; omega, by omega⟩
structure Ei {α : Type} (E : XK) (cl : Nat → Addr) (M : List Addr) (wi : TI) (σ : L2.St) (I : Hp) (S : List Cell) (t : Ty α) (xs : List α) (S' : List Cell) : Prop where
  ad : ads S' = ads S
  run : ∀ H1, Ex I (del M H1) → Holds M S H1 → ∀ R : It → Hp → Prop, (∀ J H2 G Y, Ex (del (ads S) H1) (del (ads S) H2) → Holds M S' H2 → Walk J xs.length G Y → (∀ H', Ex (del M H2) (del M H') → G H') →
    (∀ i H v H' x, xs[i]? = some x → Ex (del M H2) (del M H) → Y i H v H' → Ex H H' ∧ ∀ M', (∀ m ∈ M', H m ≠ none) → Ex (del M H2) (del M' H) → t.r (del M' H') v x) → R J H2) → wi σ H1 R
def Eg {α : Type} (g : TG) (t : Ty α) (σ : L2.St) (B : Hp → α → L2.St → Prop) : Prop := ∀ v H x I, t.r I v x → Ex I H → ∀ k : L2.St → Hp → Prop, (∀ σ', B I x σ' → k σ' H) → g v σ H k
section
variable {K : PySem.W.Frag} {α β γ δ R τ : Type} {E : XK} {cl : Nat → Addr} {M : List Addr} {σ : L2.St} {I I' H H' : Hp} {S S' S1 S2 S3 : List Cell} {te ta tb tc to : TE} {tt : TT} {tr : TA} {t : Ty α} {u : Ty β} {w' : Ty γ} {x : α} {y : β} {v : V} {xs : List α}
theorem ei_L (h : Em E cl M te σ I S (kL K t) (.ok xs) S') : Ei E cl M (iList K te) σ I S t xs S' :=
  ⟨h.ad, fun H1 i w R q => em_of h H1 i w _ fun v H2 e w1 r => by
    obtain ⟨p, vs, rfl, hp, ha⟩ := r
    refine ⟨p, rfl, ⟨vs, ex_l del_le hp⟩, q _ H2 (fun H => SqL K H p vs) _ e w1 (by rw [← ha.len]; exact walk_list) (fun H' e2 => ex_l (e2.trans del_le) hp) ?_⟩
    intro i H v H' x hx e2 y
    obtain ⟨rfl, hv⟩ := y
    obtain ⟨v', hv', r⟩ := ha.at2 hx
    rw [hv] at hv'
    obtain rfl := Option.some.inj hv'
    exact ⟨Ex.refl _, fun M' l e3 => t.up e3 r⟩⟩
theorem ei_T (h : Em E cl M te σ I S (kT K t) (.ok xs) S') : Ei E cl M (iTup K te) σ I S t xs S' :=
  ⟨h.ad, fun H1 i w R q => em_of h H1 i w _ fun v H2 e w1 r => by
    obtain ⟨p, vs, rfl, hp, ha⟩ := r
    refine ⟨p, rfl, ⟨vs, ex_t del_le hp⟩, q _ H2 (fun H => SqT K H p vs) _ e w1 (by rw [← ha.len]; exact walk_tup) (fun H' e2 => ex_t (e2.trans del_le) hp) ?_⟩
    intro i H v H' x hx e2 y
    obtain ⟨rfl, hv⟩ := y
    obtain ⟨v', hv', r⟩ := ha.at2 hx
    rw [hv] at hv'
    obtain rfl := Option.some.inj hv'
    exact ⟨Ex.refl _, fun M' l e3 => t.up e3 r⟩⟩
theorem ei_R1 {n : Int} (h : Ea E cl M tr σ I S (aC kI a0) (.ok (n, ())) S') (b : -(2 ^ 62) ≤ n ∧ n < 2 ^ 62) : Ei E cl M (iRng1 tr) σ I S kI (rng 0 n) S' :=
  ⟨h.ad, fun H1 i w R q => ea_of h H1 i w _ fun vs H2 e w1 r => by
    obtain ⟨v, rs, rfl, rfl, rfl⟩ := r
    refine ⟨n, rfl, b.1, b.2, q _ H2 (fun _ => True) _ e w1 (by rw [rng_len, show n - 0 = n by omega]; exact walk_range) (fun _ _ => trivial) ?_⟩
    intro i H v H' x hx e2 y
    obtain ⟨rfl, rfl⟩ := y
    exact ⟨Ex.refl _, fun M' l e3 => by rw [(rng_at hx).1]; rfl⟩⟩
theorem ei_R2 {lo n : Int} (h : Ea E cl M tr σ I S (aC kI (aC kI a0)) (.ok (lo, n, ())) S') (b : -(2 ^ 62) ≤ lo ∧ lo < 2 ^ 62 ∧ -(2 ^ 62) ≤ n ∧ n < 2 ^ 62) : Ei E cl M (iRng2 tr) σ I S kI (rng lo n) S' :=
  ⟨h.ad, fun H1 i w R q => ea_of h H1 i w _ fun vs H2 e w1 r => by
    obtain ⟨v, rs, rfl, rfl, v2, rs2, rfl, rfl, rfl⟩ := r
    refine ⟨lo, n, rfl, b, q _ H2 (fun _ => True) _ e w1 (by rw [rng_len]; exact walk_range) (fun _ _ => trivial) ?_⟩
    intro i H v H' x hx e2 y
    obtain ⟨rfl, rfl⟩ := y
    exact ⟨Ex.refl _, fun M' l e3 => by rw [(rng_at hx).1]; rfl⟩⟩
/-! ### targets -/
theorem eg_name {j : Nat} : Eg (gName j) t σ (fun I x σ' => ∃ v, t.r I v x ∧ σ' = σ.set j (some v)) := fun v H x I r e k q => q _ ⟨v, r, rfl⟩
theorem eg_2 {i j : Nat} : Eg (gTup K 2 (gCons (gName i) (gCons (gName j) gNil))) (k2 K t u) σ (fun I x σ' => ∃ v w, t.r I v x.1 ∧ u.r I w x.2 ∧ σ' = (σ.set i (some v)).set j (some w)) := fun v H x I r e k q => by
  obtain ⟨p, v1, v2, rfl, hp, h1, h2⟩ := r
  exact ⟨p, _, rfl, ex_t e hp, rfl, v1, [v2], rfl, v2, [], rfl, rfl, q _ ⟨v1, v2, h1, h2, rfl⟩⟩
theorem eg_3 {i j l : Nat} : Eg (gTup K 3 (gCons (gName i) (gCons (gName j) (gCons (gName l) gNil)))) (k3 K t u w') σ (fun I x σ' => ∃ v1 v2 v3, t.r I v1 x.1 ∧ u.r I v2 x.2.1 ∧ w'.r I v3 x.2.2 ∧ σ' = ((σ.set i (some v1)).set j (some v2)).set l (some v3)) := fun v H x I r e k q => by
  obtain ⟨p, v1, v2, v3, rfl, hp, h1, h2, h3⟩ := r
  exact ⟨p, _, rfl, ex_t e hp, rfl, v1, [v2, v3], rfl, v2, [v3], rfl, v3, [], rfl, rfl, q _ ⟨v1, v2, v3, h1, h2, h3, rfl⟩⟩
/-! ### comprehensions -/
theorem all2_new (t : Ty α) {D : Addr} {H : Hp} {vs : List V} (h : H D = none) (a : All2 (t.r (del M H)) vs xs) : All2 (t.r (del (D :: M) H)) vs xs := all2_up t (del_new h) a
theorem ex_lone {D : Addr} {H2 H' : Hp} {o : HO} (hD : H2 D = none) (e : Ex (del (D :: M) (upd H2 D o)) (del (D :: M) H')) : Ex (del M H2) (del (D :: M) H') := fun a u h => by
  obtain ⟨n, h⟩ := del_some.mp h
  have nd : a ≠ D := fun z => by rw [z, hD] at h; cases h
  exact e a u (del_some.mpr ⟨fun z => by rcases List.mem_cons.mp z with z | z; exact nd z; exact n z, by rw [upd_ne nd]; exact h⟩)
theorem del_le2 {D : Addr} {H : Hp} : Ex (del (D :: M) H) (del M H) := del_free
/-- the tests and the elements may change what may change: s told by Sx -/
def runE {β τ : Type} (ct : α → τ → Bool × τ) (f : α → τ → β × τ) : List α → τ → List β × τ
  | [], s => ([], s)
  | x :: xs, s => if (ct x s).1 = true then ((f x (ct x s).2).1 :: (runE ct f xs (f x (ct x s).2).2).1, (runE ct f xs (f x (ct x s).2).2).2) else runE ct f xs (ct x s).2
theorem runE_app {ct : α → τ → Bool × τ} {f : α → τ → β × τ} : ∀ (xs : List α) (x : α) (s : τ), runE ct f (xs ++ [x]) s =
    (if (ct x (runE ct f xs s).2).1 = true then ((runE ct f xs s).1 ++ [(f x (ct x (runE ct f xs s).2).2).1], (f x (ct x (runE ct f xs s).2).2).2) else ((runE ct f xs s).1, (ct x (runE ct f xs s).2).2))
  | [], x, s => by
    show runE ct f [x] s = _
    simp only [runE, List.nil_append]
    rfl
  | a :: xs, x, s => by
    simp only [List.cons_append, runE]
    by_cases h : (ct a s).1 = true
    · simp only [if_pos h]
      rw [runE_app xs x]
      split <;> rfl
    · simp only [if_neg h]
      exact runE_app xs x _
theorem em_lcE {wi : TI} {g : TG} {vs : List Nat} {B : Hp → α → L2.St → Prop} {ct : α → τ → Bool × τ} {f : α → τ → β × τ} {Sx : τ → List Cell} {s0 : τ} (hi : Ei E cl M wi σ I S t xs (Sx s0)) (hz : xs.length ≤ 100000 - 1) (hS : ∀ s, ads (Sx s) = ads (Sx s0))
    (hg : Eg g t (wipe σ vs) B) (hw : ∀ I x σ', B I x σ' → wipe σ' vs = wipe σ vs)
    (ht : ∀ D acc I' x s σ', Ex I I' → x ∈ xs → B I' x σ' → Et E cl (D :: M) tt σ' I' (cL D u acc :: Sx s) (.ok (ct x s).1) (cL D u acc :: Sx (ct x s).2))
    (he : ∀ D acc I' x s σ', Ex I I' → x ∈ xs → (ct x s).1 = true → B I' x σ' → Em E cl (D :: M) te σ' I' (cL D u acc :: Sx (ct x s).2) u (.ok (f x (ct x s).2).1) (cL D u acc :: Sx (f x (ct x s).2).2)) :
    Em E cl M (tLc wi g tt te vs) σ I S (kL K u) (.ok (runE ct f xs s0).1) (Sx (runE ct f xs s0).2) := by
  refine em_mk ((hS _).trans hi.ad) fun H0 i0 w0 Q q => hi.run H0 i0 w0 _ fun J H2 G Y e2 w2 wk gG gY D hD => ?_
  let acc : Nat → List β := fun i => (runE ct f (xs.take i) s0).1
  let st : Nat → τ := fun i => (runE ct f (xs.take i) s0).2
  let Pv : Nat → Hp → Prop := fun i H' => Holds (D :: M) (cL D u (acc i) :: Sx (st i)) H' ∧ Ex (del (D :: ads (Sx s0)) (upd H2 D (.lst []))) (del (D :: ads (Sx s0)) H')
  have dM : D ∉ M := fresh_not w2.live hD
  have toM : ∀ {i H'}, Pv i H' → Ex (del M H2) (del (D :: M) H') := fun {i H'} p => by
    refine ex_lone (o := .lst []) hD (ex_sub (A := D :: ads (Sx s0)) (fun a h => ?_) p.2)
    rcases List.mem_cons.mp h with z | z
    · rw [z]; exact List.mem_cons_self
    · exact List.mem_cons_of_mem _ (w2.sub a z)
  have stop : ∀ i, i < xs.length → ∃ x, xs[i]? = some x := fun i hi => ⟨xs[i], by simp [hi]⟩
  have accLen : ∀ i, (acc i).length ≤ i := by
    intro i
    have : ∀ (l : List α) (s : τ), (runE ct f l s).1.length ≤ l.length := by
      intro l
      induction l with
      | nil => intro s; exact Nat.le_refl _
      | cons a l ih =>
        intro s
        simp only [runE]
        split
        · simp only [List.length_cons]
          exact Nat.succ_le_succ (ih _)
        · exact Nat.le_succ_of_le (ih _)
    exact Nat.le_trans (this _ _) (by rw [List.length_take]; omega)
  refine lc_it wk Pv ⟨?_, Ex.refl _⟩ (fun i H' hi p => gG H' ((toM p).trans del_le2)) (fun i v H Hy hi p y => ?_) (fun H' p => ?_)
  · have e0 : acc 0 = [] := by show (runE ct f (xs.take 0) s0).1 = []; rw [List.take_zero]; rfl
    have e1 : st 0 = s0 := by show (runE ct f (xs.take 0) s0).2 = s0; rw [List.take_zero]; rfl
    show Holds (D :: M) (cL D u (acc 0) :: Sx (st 0)) _
    rw [e0, e1]
    exact w2.new (c := cL D u []) hD (Ex.new hD) upd_same ⟨[], rfl, .nil⟩
  · obtain ⟨x, hx⟩ := stop i hi
    have xm : x ∈ xs := List.mem_of_getElem? hx
    obtain ⟨eH, rv⟩ := gY i H v Hy x hx ((toM p).trans del_le2) y
    have rx := rv (D :: M) p.1.live (toM p)
    have wy := p.1.ex eH
    have i1 : Ex I (del (D :: M) Hy) := ((i0.trans (w0.grow e2)).trans (toM p)).trans (ex_del eH)
    refine hg v Hy x _ rx del_le _ fun σ' b => ⟨hw _ x σ' b, ?_⟩
    have tk : xs.take (i + 1) = xs.take i ++ [x] := by rw [List.take_add_one, hx]; rfl
    have nx : runE ct f (xs.take (i + 1)) s0 = (if (ct x (st i)).1 = true then (acc i ++ [(f x (ct x (st i)).2).1], (f x (ct x (st i)).2).2) else (acc i, (ct x (st i)).2)) := by rw [tk, runE_app]
    have fr : Ex (del (D :: ads (Sx s0)) (upd H2 D (.lst []))) (del (D :: ads (Sx s0)) Hy) := p.2.trans (ex_del eH)
    have same : ∀ s, ads (cL D u (acc i) :: Sx s) = D :: ads (Sx s0) := fun s => by show D :: ads (Sx s) = _; rw [hS s]
    refine et_of (ht D (acc i) _ x (st i) σ' i1 xm b) Hy (Ex.refl _) wy _ fun H3 e3 w3 => ?_
    rw [same] at e3
    cases hc : (ct x (st i)).1 with
    | true =>
      rw [if_pos rfl]
      have i3 : Ex (del (D :: M) Hy) (del (D :: M) H3) := wy.grow (by rw [same]; exact e3)
      refine em_of (he D (acc i) _ x _ σ' i1 xm hc b) H3 i3 w3 _ fun vy H4 e4 w4 r4 => ?_
      rw [same] at e4
      obtain ⟨_, o4, h4, ys, rfl, a4⟩ := w4.at_ _ List.mem_cons_self
      refine ⟨ys, h4, ?_, ?_, ?_⟩
      · rw [All2.len a4]
        exact sz_lt (by have := accLen i; show (acc i).length < _; omega)
      · have a1 : acc (i + 1) = acc i ++ [(f x (ct x (st i)).2).1] := by show (runE ct f (xs.take (i + 1)) s0).1 = _; rw [nx]; simp [hc]
        have s1 : st (i + 1) = (f x (ct x (st i)).2).2 := by show (runE ct f (xs.take (i + 1)) s0).2 = _; rw [nx]; simp [hc]
        show Holds (D :: M) (cL D u (acc (i + 1)) :: Sx (st (i + 1))) _
        rw [a1, s1]
        exact w4.put (k := 0) (c := cL D u (acc i)) (c' := cL D u (acc i ++ [(f x (ct x (st i)).2).1])) rfl rfl ⟨_, rfl, a4.app (.one r4)⟩
      · rw [show del (D :: ads (Sx s0)) (upd H4 D (.lst (ys ++ [vy]))) = del (D :: ads (Sx s0)) H4 from del_upd List.mem_cons_self]
        exact (fr.trans e3).trans e4
    | false =>
      rw [if_neg Bool.false_ne_true]
      refine ⟨?_, fr.trans e3⟩
      have a1 : acc (i + 1) = acc i := by show (runE ct f (xs.take (i + 1)) s0).1 = _; rw [nx]; simp [hc]
      have s1 : st (i + 1) = (ct x (st i)).2 := by show (runE ct f (xs.take (i + 1)) s0).2 = _; rw [nx]; simp [hc]
      rw [a1, s1]
      exact w3
  · have al : acc xs.length = (runE ct f xs s0).1 := by show (runE ct f (xs.take xs.length) s0).1 = _; rw [List.take_length]
    have sl : st xs.length = (runE ct f xs s0).2 := by show (runE ct f (xs.take xs.length) s0).2 = _; rw [List.take_length]
    obtain ⟨pw, pe⟩ := p
    rw [al, sl] at pw
    obtain ⟨_, o4, h4, ys, rfl, a4⟩ := pw.at_ _ List.mem_cons_self
    refine q _ H' ?_ (pw.drop (c := cL D u _) dM) ⟨D, ys, rfl, sq_of (del_at dM h4), all2_up u del_le2 a4⟩
    rw [← hi.ad]
    rw [← hi.ad] at e2
    exact e2.trans ((ex_lone (M := ads (Sx s0)) hD pe).trans del_le2)
/-- nothing changed by them -/
theorem runE_pure {c : α → Bool} {f : α → β} : ∀ (xs : List α) (s : τ), runE (fun x s => (c x, s)) (fun x s => (f x, s)) xs s = ((xs.filter c).map f, s)
  | [], s => rfl
  | x :: xs, s => by
    simp only [runE]
    rw [runE_pure xs s]
    cases h : c x
    · simp [List.filter_cons, h]
    · simp [List.filter_cons, h]
theorem em_lc {wi : TI} {g : TG} {vs : List Nat} {B : Hp → α → L2.St → Prop} (c : α → Bool) (f : α → β) (hi : Ei E cl M wi σ I S t xs S1) (hz : xs.length ≤ 100000 - 1) (hg : Eg g t (wipe σ vs) B) (hw : ∀ I x σ', B I x σ' → wipe σ' vs = wipe σ vs)
    (ht : ∀ M' S' I' x σ', Ex I I' → x ∈ xs → B I' x σ' → Et E cl M' tt σ' I' S' (.ok (c x)) S') (he : ∀ M' S' I' x σ', Ex I I' → x ∈ xs → c x = true → B I' x σ' → Em E cl M' te σ' I' S' u (.ok (f x)) S') :
    Em E cl M (tLc wi g tt te vs) σ I S (kL K u) (.ok ((xs.filter c).map f)) S1 := by
  have h := em_lcE (K := K) (u := u) (te := te) (tt := tt) (ct := fun x (s : Unit) => (c x, s)) (f := fun x (s : Unit) => (f x, s)) (Sx := fun _ => S1) (s0 := ()) hi hz (fun _ => rfl) hg hw (fun D acc I' x s σ' a b d => ht _ _ I' x σ' a b d) (fun D acc I' x s σ' a b d z => he _ _ I' x σ' a b d z)
  rw [runE_pure] at h
  exact h
end
end Rw
namespace Rw
open PySem PySem.Spec PyProof.Rows L2 Evl Cy
/-! ### a mirror's words -/
/-- a value, then the rest -/
def lt {α R : Type} (x : α) (k : α → R) : R := k x
/-- a value or an error, then the rest -/
def lr {α β : Type} (r : Re α) (k : α → Re β) : Re β := match r with | .ok x => k x | .er e => .er e
/-- a part with what comes behind it -/
def jn {τ R : Type} (k : τ → R) (b : (τ → R) → R) : R := b k
/-- a for: the turn is told how to go on and how to stop -/
def forK {α τ R : Type} (b : α → τ → (τ → R) → (τ → R) → R) (k : τ → R) : List α → τ → R
  | [], s => k s
  | x :: xs, s => b x s (fun s' => forK b k xs s') k
/-- a while, so many turns at most -/
def whK {τ R : Type} (c : τ → Bool) (b : τ → (τ → R) → (τ → R) → R) (k : τ → R) : Nat → τ → R
  | 0, s => k s
  | n + 1, s => cond (c s) (b s (fun s' => whK c b k n s') k) (k s)
section
variable {K : PySem.W.Frag} {α β γ δ R τ : Type} {E : XK} {cl : Nat → Addr} {M : List Addr} {σ : L2.St} {I I' H H' : Hp} {S S' S1 S2 S3 : List Cell} {te ta tb tc to : TE} {tt : TT} {tr : TA} {t : Ty α} {u : Ty β} {x : α} {y : β} {v : V} {xs : List α} {P : R → Prop} {k : α → R} {D : Ends} {tz tu tw : TS} {g : TG}
/-- what is kept from H to H2 -/
structure Gr (M : List Addr) (S : List Cell) (H H2 : Hp) : Prop where
  fr : Ex (del (ads S) H) (del (ads S) H2)
  im : Ex (del M H) (del M H2)
theorem Gr.of (w : Holds M S H) (e : Ex (del (ads S) H) (del (ads S) H')) : Gr M S H H' := ⟨e, w.grow e⟩
theorem g_asg {i : Nat} (w : Holds M S H) (o : P (lt x k)) (h : Em E cl M te σ (del M H) S t (.ok x) S') (c : ∀ x' v H2, x' = x → P (k x') → Gr M S H H2 → Holds M S' H2 → t.r (del M H2) v x' → tz D (σ.set i (some v)) H2) : tSeq (tAsg te (gName i)) tz D σ H :=
  em_of h H (Ex.refl _) w _ fun v H2 e w2 r => c x v H2 rfl o (.of w e) w2 r
theorem g_asgL {i : Nat} (w : Holds M S H) (o : P (lt x k)) (h : Em E cl M te σ (del M H) S t (.ok x) S') (c : ∀ x' v H2, x' = x → P (k x') → Gr M S H H2 → Holds M S' H2 → t.r (del M H2) v x' → D.nx (σ.set i (some v)) H2) : tAsg te (gName i) D σ H :=
  em_of h H (Ex.refl _) w _ fun v H2 e w2 r => c x v H2 rfl o (.of w e) w2 r
/-- the same of any target -/
theorem g_asgG {B : Hp → α → L2.St → Prop} (w : Holds M S H) (hg : Eg g t σ B) (o : P (lt x k)) (h : Em E cl M te σ (del M H) S t (.ok x) S') (c : ∀ x' σ' H2, x' = x → P (k x') → Gr M S H H2 → Holds M S' H2 → B (del M H2) x' σ' → tz D σ' H2) : tSeq (tAsg te g) tz D σ H :=
  em_of h H (Ex.refl _) w _ fun v H2 e w2 r => hg v H2 x _ r del_le _ fun σ' b => c x σ' H2 rfl o (.of w e) w2 b
/-- an error may leave it -/
theorem g_asgX {i : Nat} {P : Re β → Prop} {k : α → Re β} {r : Re α} (w : Holds M S H) (o : P (lr r k)) (h : Em E cl M te σ (del M H) S t r S') (c : ∀ x' v H2, r = .ok x' → P (k x') → Gr M S H H2 → Holds M S' H2 → t.r (del M H2) v x' → tz D (σ.set i (some v)) H2)
    (c2 : ∀ e H2, r = .er e → P (.er e) → Gr M S H H2 → Holds M S' H2 → E (.ref (cl e)) none H2) : tSeq (tAsg te (gName i)) tz D σ H :=
  h.run H (Ex.refl _) w _ (fun x v H2 z e w2 r => c x v H2 z (by subst z; exact o) (.of w e) w2 r) fun e H2 z e2 w2 => c2 e H2 z (by subst z; exact o) (.of w e2) w2
theorem g_asgGX {B : Hp → α → L2.St → Prop} {P : Re β → Prop} {k : α → Re β} {r : Re α} (w : Holds M S H) (hg : Eg g t σ B) (o : P (lr r k)) (h : Em E cl M te σ (del M H) S t r S') (c : ∀ x' σ' H2, r = .ok x' → P (k x') → Gr M S H H2 → Holds M S' H2 → B (del M H2) x' σ' → tz D σ' H2)
    (c2 : ∀ e H2, r = .er e → P (.er e) → Gr M S H H2 → Holds M S' H2 → E (.ref (cl e)) none H2) : tSeq (tAsg te g) tz D σ H :=
  h.run H (Ex.refl _) w _ (fun x v H2 z e w2 r => hg v H2 x _ r del_le _ fun σ' b => c x σ' H2 z (by subst z; exact o) (.of w e) w2 b) fun e H2 z e2 w2 => c2 e H2 z (by subst z; exact o) (.of w e2) w2
/-- a, b = x, y -/
theorem g_par {i j : Nat} {kk : α → β → R} (w : Holds M S H) (o : P (lt x fun a => lt y fun b => kk a b)) (h : Ea E cl M tr σ (del M H) S (aC t (aC u a0)) (.ok (x, y, ())) S') (c : ∀ x' y' v1 v2 H2, x' = x → y' = y → P (kk x' y') → Gr M S H H2 → Holds M S' H2 → t.r (del M H2) v1 x' → u.r (del M H2) v2 y' → tz D ((σ.set i (some v1)).set j (some v2)) H2) : tSeq (tPar i j tr) tz D σ H :=
  ea_of h H (Ex.refl _) w _ fun vs H2 e w2 r => by
    obtain ⟨v1, r1, rfl, g1, v2, r2, rfl, g2, rfl⟩ := r
    exact ⟨v1, v2, rfl, c x y v1 v2 H2 rfl rfl o (.of w e) w2 g1 g2⟩
theorem g_if {A B : R} {b : Bool} (w : Holds M S H) (o : P (cond b A B)) (h : Et E cl M tt σ (del M H) S (.ok b) S') (c1 : b = true → P A → ∀ H2, Gr M S H H2 → Holds M S' H2 → tu { D with nx := tz D } σ H2) (c2 : b = false → P B → ∀ H2, Gr M S H H2 → Holds M S' H2 → tw { D with nx := tz D } σ H2) : tSeq (tIfS tt tu tw) tz D σ H :=
  et_of h H (Ex.refl _) w _ fun H2 e w2 => by
    cases b with
    | true => exact c1 rfl o H2 (.of w e) w2
    | false => exact c2 rfl o H2 (.of w e) w2
theorem g_ifL {A B : R} {b : Bool} (w : Holds M S H) (o : P (cond b A B)) (h : Et E cl M tt σ (del M H) S (.ok b) S') (c1 : b = true → P A → ∀ H2, Gr M S H H2 → Holds M S' H2 → tu D σ H2) (c2 : b = false → P B → ∀ H2, Gr M S H H2 → Holds M S' H2 → tw D σ H2) : tIfS tt tu tw D σ H :=
  et_of h H (Ex.refl _) w _ fun H2 e w2 => by
    cases b with
    | true => exact c1 rfl o H2 (.of w e) w2
    | false => exact c2 rfl o H2 (.of w e) w2
theorem g_when {A B : R} {b : Bool} (w : Holds M S H) (o : P (cond b A B)) (h : Et E cl M tt σ (del M H) S (.ok b) S') (c1 : b = true → P A → ∀ H2, Gr M S H H2 → Holds M S' H2 → tu { D with nx := tz D } σ H2) (c2 : b = false → P B → ∀ H2, Gr M S H H2 → Holds M S' H2 → tz D σ H2) : tSeq (tIfS tt tu tNext) tz D σ H := g_if w o h c1 c2
/-- the same, what follows being shown once -/
theorem g_join {τ : Type} {kk : τ → R} {b : (τ → R) → R} {ts : TS} (Rel : τ → L2.St → Hp → Prop) (o : P (jn kk b)) (c1 : P (b kk) → ts { D with nx := fun σ' H' => ∃ s, P (kk s) ∧ Rel s σ' H' } σ H) (c2 : ∀ s σ' H', P (kk s) → Rel s σ' H' → tz D σ' H') : tCut ts tz D σ H :=
  ⟨fun σ' H' => ∃ s, P (kk s) ∧ Rel s σ' H', c1 o, fun σ' H' ⟨s, p, r⟩ => c2 s σ' H' p r⟩
theorem g_ret (w : Holds M S H) (h : Em E cl M te σ (del M H) S t (.ok x) S') (c : ∀ v H2, Gr M S H H2 → Holds M S' H2 → t.r (del M H2) v x → D.rt v H2) : tRet te D σ H :=
  em_of h H (Ex.refl _) w _ fun v H2 e w2 r => c v H2 (.of w e) w2 r
theorem g_retX {r : Re α} (w : Holds M S H) (h : Em E cl M te σ (del M H) S t r S') (c : ∀ x v H2, r = .ok x → Gr M S H H2 → Holds M S' H2 → t.r (del M H2) v x → D.rt v H2) (c2 : ∀ e H2, r = .er e → Gr M S H H2 → Holds M S' H2 → E (.ref (cl e)) none H2) : tRet te D σ H :=
  h.run H (Ex.refl _) w _ (fun x v H2 z e w2 r => c x v H2 z (.of w e) w2 r) fun e H2 z e2 w2 => c2 e H2 z (.of w e2) w2
theorem g_drop (w : Holds M S H) (o : P (lt x k)) (h : Em E cl M te σ (del M H) S t (.ok x) S') (c : ∀ x' H2, x' = x → P (k x') → Gr M S H H2 → Holds M S' H2 → tz D σ H2) : tSeq (tDrop te) tz D σ H :=
  em_of h H (Ex.refl _) w _ fun v H2 e w2 r => c x H2 rfl o (.of w e) w2
theorem Gr.trans (a : Gr M S H H') {H2 : Hp} (s : ads S' = ads S) (b : Gr M S' H' H2) : Gr M S H H2 := ⟨ads_tr s a.fr b.fr, a.im.trans b.im⟩
theorem Gr.then (a : Gr M S H H') {H2 : Hp} (b : Gr M S' H' H2) (s : ads S' = ads S) : Gr M S H H2 := a.trans s b
theorem Gr.cast (g : Gr M S H H') (e : ads S = ads S') : Gr M S' H H' := ⟨by rw [← e]; exact g.fr, g.im⟩
theorem Gr.refl : Gr M S H H := ⟨Ex.refl _, Ex.refl _⟩
/-! loops -/
theorem g_for {wi : TI} {b : α → τ → (τ → R) → (τ → R) → R} {kn : τ → R} {s0 : τ} {B : L2.St → Hp → α → L2.St → Prop} {Sx : τ → List Cell} (Rv : Hp → List α → τ → L2.St → Prop) (w : Holds M S H) (o : P (forK b kn xs s0)) (hi : Ei E cl M wi σ (del M H) S t xs (Sx s0)) (hS : ∀ s, ads (Sx s) = ads (Sx s0)) (hg : ∀ σ', Eg g t σ' (B σ'))
    (h0 : ∀ H2, Gr M S H H2 → Rv (del M H2) xs s0 σ)
    (hd : ∀ s σ' H', Gr M S H H' → Holds M (Sx s) H' → Rv (del M H') [] s σ' → P (kn s) → tz D σ' H')
    (hs : (∀ s σ' H', Gr M S H H' → Holds M (Sx s) H' → Rv (del M H') [] s σ' → P (kn s) → tz D σ' H') → ∀ x s σ' σ2 I' H3 rest, x ∈ xs → Gr M S H H3 → Holds M (Sx s) H3 → Ex I' (del M H3) → Rv I' (x :: rest) s σ' → B σ' (del M H3) x σ2 → P (b x s (fun s' => forK b kn rest s') kn) →
      ∀ Nx : L2.St → Hp → Prop, (∀ s' σ4 H4, P (forK b kn rest s') → Gr M S H3 H4 → Holds M (Sx s') H4 → Rv (del M H4) rest s' σ4 → Nx σ4 H4) → tu { D with nx := Nx, ct := Nx, bk := tz D } σ2 H3) : tSeq (tFor wi g tu) tz D σ H := by
  have a1 : ∀ s, ads (Sx s) = ads S := fun s => (hS s).trans hi.ad
  refine hi.run H (Ex.refl _) w _ fun J H2 G Y e2 w2 wk gG gY => ?_
  have g2 : Gr M S H H2 := .of w e2
  refine for_it wk (fun i σ' H' => ∃ s', P (forK b kn (xs.drop i) s') ∧ Gr M S H2 H' ∧ Holds M (Sx s') H' ∧ Rv (del M H') (xs.drop i) s' σ') ⟨s0, o, Gr.refl, w2, h0 H2 g2⟩ (fun i σ' H' hi' p => ?_) (fun i v σ' H' H3 hi' p y => ?_) (fun σ' H' p => ?_)
  · obtain ⟨s', _, e, w', _⟩ := p
    exact gG H' e.im
  · obtain ⟨s', o', e, w', r⟩ := p
    have hx : xs[i]? = some xs[i] := by simp [hi']
    obtain ⟨eH, rv⟩ := gY i H' v H3 _ hx e.im y
    have w3 := w'.ex eH
    refine hg σ' v H3 _ _ (rv M w'.live e.im) del_le _ fun σ2 b2 => ?_
    have e3 : Gr M S H' H3 := ⟨ex_del eH, ex_del eH⟩
    have g3 : Gr M S H H3 := (g2.trans rfl e).trans rfl e3
    have dr : xs.drop i = xs[i] :: xs.drop (i + 1) := by rw [List.drop_eq_getElem_cons hi']
    have ot : P (b xs[i] s' (fun s' => forK b kn (xs.drop (i + 1)) s') kn) := by
      rw [dr] at o'
      exact o'
    exact hs hd xs[i] s' σ' σ2 (del M H') H3 (xs.drop (i + 1)) (List.getElem_mem hi') g3 w3 (ex_del eH) (by rw [← dr]; exact r) b2 ot _ fun s4 σ4 H4 o4 g4 w4 r4 => ⟨s4, o4, (e.trans rfl e3).trans rfl g4, w4, r4⟩
  · obtain ⟨s', o', e, w', r⟩ := p
    rw [List.drop_length] at o' r
    exact hd s' σ' H' (g2.trans rfl e) w' r o'
theorem g_while {c : τ → Bool} {b : τ → (τ → R) → (τ → R) → R} {kn : τ → R} {n : Nat} {s0 : τ} {Sx : τ → List Cell} (Ok : Nat → τ → Prop) (Rv : Hp → τ → L2.St → Prop) (w : Holds M (Sx s0) H) (o : P (whK c b kn n s0)) (hS : ∀ s, ads (Sx s) = ads (Sx s0)) (ok0 : Ok n s0) (okz : ∀ s, Ok 0 s → c s = false) (h0 : Rv (del M H) s0 σ)
    (ht : ∀ n s σ' H', Ok n s → Gr M (Sx s0) H H' → Holds M (Sx s) H' → Rv (del M H') s σ' → Et E cl M tt σ' (del M H') (Sx s) (.ok (c s)) (Sx s))
    (hd : ∀ n s σ' I' H', Ok n s → c s = false → Gr M (Sx s0) H H' → Holds M (Sx s) H' → Ex I' (del M H') → Rv I' s σ' → P (kn s) → tz D σ' H')
    (hs : (∀ n s σ' I' H', Ok n s → c s = false → Gr M (Sx s0) H H' → Holds M (Sx s) H' → Ex I' (del M H') → Rv I' s σ' → P (kn s) → tz D σ' H') → ∀ n s σ' I' H', Ok (n + 1) s → c s = true → Gr M (Sx s0) H H' → Holds M (Sx s) H' → Ex I' (del M H') → Rv I' s σ' → P (b s (fun s' => whK c b kn n s') kn) →
      ∀ Nx : L2.St → Hp → Prop, (∀ s' σ4 H4, Ok n s' → P (whK c b kn n s') → Gr M (Sx s0) H' H4 → Holds M (Sx s') H4 → Rv (del M H4) s' σ4 → Nx σ4 H4) → tu { D with nx := Nx, ct := Nx, bk := tz D } σ' H') : tSeq (tWhile tt tu) tz D σ H := by
  refine ⟨fun m σ' H' => ∃ s, Ok m s ∧ P (whK c b kn m s) ∧ Gr M (Sx s0) H H' ∧ Holds M (Sx s) H' ∧ Rv (del M H') s σ', ⟨n, s0, ok0, o, Gr.refl, w, h0⟩, ?_⟩
  rintro m σ' H' ⟨s, k, o', g', w', r⟩
  refine et_of (ht m s σ' H' k g' w' r) H' (Ex.refl _) w' _ fun H2 e2 w2 => ?_
  have e2' : Gr M (Sx s0) H' H2 := ⟨by rw [hS s] at e2; exact e2, w'.grow e2⟩
  have g2 : Gr M (Sx s0) H H2 := g'.trans rfl e2'
  cases hc : c s with
  | true =>
    rw [if_pos rfl]
    cases m with
    | zero => rw [okz s k] at hc; cases hc
    | succ m =>
      have o2 : P (b s (fun s' => whK c b kn m s') kn) := by
        have : P (cond (c s) (b s (fun s' => whK c b kn m s') kn) (kn s)) := o'
        rw [hc] at this
        exact this
      exact ⟨fun σ4 H4 => ∃ s, Ok m s ∧ P (whK c b kn m s) ∧ Gr M (Sx s0) H H4 ∧ Holds M (Sx s) H4 ∧ Rv (del M H4) s σ4, fun σ4 H4 z => ⟨m, Nat.lt_succ_self m, z⟩,
        hs hd m s σ' (del M H') H2 k hc g2 w2 e2'.im r o2 _ fun s4 σ4 H4 k4 o4 g4 w4 r4 => ⟨s4, k4, o4, g2.trans rfl g4, w4, r4⟩⟩
  | false =>
    rw [if_neg Bool.false_ne_true]
    refine hd m s σ' (del M H') H2 k hc g2 w2 e2'.im r ?_
    cases m with
    | zero => exact o'
    | succ m =>
      have : P (cond (c s) (b s (fun s' => whK c b kn m s') kn) (kn s)) := o'
      rw [hc] at this
      exact this
/-! what may change from here on: a list in the making -/
theorem Gr.lone {p : Addr} {c : Cell} (hp : H c.a = none) (a : Gr M S H H') {H2 : Hp} (hp' : H' c.a = none) (b : Gr (c.a :: M) (c :: S) H' H2) : Gr M S H H2 := by
  have f : ∀ A : List Addr, Ex (del A H') (del (c.a :: A) H') := fun A => del_new hp'
  exact ⟨a.fr.trans ((f _).trans (b.fr.trans del_free)), a.im.trans ((f _).trans (b.im.trans del_free))⟩
theorem g_new {i : Nat} (K : PySem.W.Frag) (t : Ty α) (w : Holds M S H) (c : ∀ p H2, H p = none → Gr M S H H2 → Holds (p :: M) (cL p t [] :: S) H2 → Ex (del M H) (del (p :: M) H2) → tz D (σ.set i (some (.ref p))) H2) : tSeq (tAsg (tLst tNil) (gName i)) tz D σ H := by
  refine ⟨by show 0 ≤ sizeLine; decide, fun p hp => ?_⟩
  have e : Ex H (upd H p (.lst [])) := Ex.new hp
  exact c p _ hp ⟨ex_del e, ex_del e⟩ (w.new (c := cL p t []) hp e upd_same ⟨[], rfl, .nil⟩) ((del_new hp).trans (ex_del e))
/-- p.append(x), p the n-th of what may change -/
theorem g_app {n : Nat} {p : Addr} {acc0 acc : List α} {k : List α → R} (w : Holds M S H) (o : P (lt (acc ++ [x]) k)) (ha : Em E cl M ta σ (del M H) S (kPtr p) (.ok ()) S) (h : Em E cl M te σ (del M H) S t (.ok x) S') (hk0 : S[n]? = some (cL p t acc0)) (hk : S'[n]? = some (cL p t acc)) (hz : acc.length < 100000)
    (c : ∀ acc' H2, acc' = acc ++ [x] → P (k acc') → Gr M S H H2 → Holds M (S'.set n (cL p t acc')) H2 → tz D σ H2) : tSeq (tDrop (tBM K "list" rAppend ta (tCons te tNil))) tz D σ H := by
  refine em_of ha H (Ex.refl _) w _ fun v H1 e1 w1 r1 => ?_
  obtain rfl : v = .ref p := r1
  obtain ⟨_, o1, h1, vs1, rfl, _⟩ := w1.at_ _ (List.mem_of_getElem? hk0)
  refine ⟨Or.inl ⟨rfl, vs1, sq_of h1⟩, em_of h H1 (w.grow e1) w1 _ fun v2 H2 e2 w2 r2 => ?_⟩
  obtain ⟨pM, o2, h2, vs2, rfl, a2⟩ := w2.at_ _ (List.mem_of_getElem? hk)
  have pM : p ∈ M := pM
  have pS : p ∈ ads S := by rw [← h.ad]; exact List.mem_map.mpr ⟨_, List.mem_of_getElem? hk, rfl⟩
  refine ⟨p, vs2, v2, rfl, rfl, h2, sz_lt (by rw [a2.len]; exact hz), ?_⟩
  refine c _ _ rfl o ⟨?_, ?_⟩ (w2.put hk rfl ⟨_, rfl, a2.app (.one r2)⟩)
  · rw [del_upd pS]
    exact e1.trans e2
  · rw [del_upd pM]
    exact (w.grow e1).trans (w1.grow e2)
/-- p[i], p in the making -/
theorem em_cellAt {n : Nat} {p : Addr} {acc0 acc : List α} {i : Int} {x : α} (ha : Em E cl M ta σ I S (kPtr p) (.ok ()) S) (hb : Em E cl M tb σ I S kI (.ok i) S1) (hk : S1[n]? = some (cL p t acc)) (hi : atI acc i = some x) : Em E cl M (tOp (rIxL K) ta tb) σ I S t (.ok x) S1 :=
  em_mk hb.ad fun H1 i1 w Q q => em_of ha H1 i1 w _ fun v H2 e w2 r => em_of hb H2 (i1.trans (w.grow e)) w2 _ fun v2 H3 e3 w3 r3 => by
    obtain rfl : v = .ref p := r
    obtain rfl : v2 = .int i := r3
    obtain ⟨_, o2, h2, vs2, rfl, a2⟩ := w3.at_ _ (List.mem_of_getElem? hk)
    obtain ⟨j, hj, hx⟩ : ∃ j, ixN acc.length i = some j ∧ acc[j]? = some x := by
      unfold atI at hi
      cases hj : ixN acc.length i with
      | none => rw [hj] at hi; cases hi
      | some j => rw [hj] at hi; exact ⟨j, rfl, hi⟩
    obtain ⟨u, hu, ru⟩ := a2.at2 hx
    refine ⟨p, vs2, i, u, rfl, rfl, sq_of h2, ?_, q u H3 (e.trans e3) w3 ru⟩
    unfold atI
    rw [a2.len]
    show (ixN acc.length i).bind _ = _
    rw [hj]
    exact hu
theorem em_cellLen {n : Nat} {p : Addr} {acc : List α} (ha : Em E cl M ta σ I S (kPtr p) (.ok ()) S) (hk : S[n]? = some (cL p t acc)) : Em E cl M (tCB (rLenS K) (tCons ta tNil)) σ I S kI (.ok (acc.length : Int)) S :=
  em_mk rfl fun H1 i1 w Q q => em_of ha H1 i1 w _ fun v H2 e w2 r => by
    obtain rfl : v = .ref p := r
    obtain ⟨_, o2, h2, vs2, rfl, a2⟩ := w2.at_ _ (List.mem_of_getElem? hk)
    exact ⟨p, vs2, rfl, .inl (sq_of h2), q _ H2 e w2 (by rw [a2.len]; rfl)⟩
/-- p, in the making no more: a tuple, a list of the same -/
theorem em_cellTup {n : Nat} {p : Addr} {acc : List α} {r : List V → Hp → VK → Prop} (hr : ∀ H vs, SqL K H p vs → ∀ Q : VK, (∀ q, H q = none → Q (.ref q) (upd H q (.tup vs))) → r [.ref p] H Q) (ha : Em E cl M ta σ I S (kPtr p) (.ok ()) S) (hk : S[n]? = some (cL p t acc)) : Em E cl M (tCB r (tCons ta tNil)) σ I S (kT K t) (.ok acc) S :=
  em_mk rfl fun H1 i1 w Q q => em_of ha H1 i1 w _ fun v H2 e w2 r => by
    obtain rfl : v = .ref p := r
    obtain ⟨_, o2, h2, vs2, rfl, a2⟩ := w2.at_ _ (List.mem_of_getElem? hk)
    exact hr H2 vs2 (sq_of h2) _ fun p2 hp => q _ _ (e.trans (ex_del (Ex.new hp))) (w2.ex (Ex.new hp)) ⟨p2, vs2, rfl, st_of (del_at (fresh_not w2.live hp) upd_same), all2_up t (ex_del (Ex.new hp)) a2⟩
/-- it is given away: what was in the making stays as it is from now on -/
theorem cell_end {p : Addr} {acc : List α} (w : Holds (p :: M) (cL p t acc :: S) H) (n : p ∉ M) : (kL K t).r (del M H) (.ref p) acc := by
  obtain ⟨_, o2, h2, vs2, rfl, a2⟩ := w.at_ _ List.mem_cons_self
  exact ⟨p, vs2, rfl, sq_of (del_at n h2), all2_up t del_free a2⟩
end
/-! ### data that are compared -/
structure Dq (K : PySem.W.Frag) {α : Type} (t : Ty α) (d : Nat) where
  enc : α → PyData
  dp : ∀ {H v x}, t.r H v x → Dp K H v (enc x) ∧ (enc x).canLay0 = true
  dep : ∀ x, (enc x).depth ≤ d
  eq : ∀ x y, PyData.eqv (enc x) (enc y) = true ↔ x = y
/-- a text that may be compared in data -/
def kSo : Ty Str := ⟨fun _ v x => v = .str x ∧ PyData.canLay0 (.str x) = true, fun _ h => h⟩
theorem dp_upM {K : PySem.W.Frag} {H H' : Hp} (e : Ex H H') : ∀ (d : PyData) (v : V), Dp K H v d → Dp K H' v d := fun d v h => by
  refine Dp.rec (motive_1 := fun v d _ => Dp K H' v d) (motive_2 := fun vs ds _ => DpAll K H' vs ds) .non .bl .int .str (fun h _ ih => .lst (ex_l e h) ih) (fun h _ ih => .tup (ex_t e h) ih) .nil (fun _ _ i j => .cons i j) h
section
variable {K : PySem.W.Frag} {α β γ : Type} {t : Ty α} {u : Ty β} {w : Ty γ} {i j k : Nat}
def dI : Dq K kI 0 := ⟨.int, fun h => by cases h; exact ⟨.int _, rfl⟩, fun _ => Nat.le_refl _, fun x y => by simp [PyData.eqv]⟩
def dB : Dq K kB 0 := ⟨.bool, fun h => by cases h; exact ⟨.bl _, rfl⟩, fun _ => Nat.le_refl _, fun x y => by simp [PyData.eqv]⟩
def dS : Dq K kSo 0 := ⟨.str, fun h => by obtain ⟨rfl, h⟩ := h; exact ⟨.str _, h⟩, fun _ => Nat.le_refl _, fun x y => by simp [PyData.eqv]⟩
theorem dp_all (D : Dq K t i) {H : Hp} {vs : List V} {xs : List α} (h : All2 (t.r H) vs xs) : DpAll K H vs (xs.map D.enc) ∧ PyData.canLayAll0 (xs.map D.enc) = true := by
  induction h with
  | nil => exact ⟨.nil, rfl⟩
  | cons r _ ih => exact ⟨.cons (D.dp r).1 ih.1, by rw [List.map_cons, PyData.canLayAll0, (D.dp r).2, ih.2]; rfl⟩
theorem dep_all (D : Dq K t i) : ∀ xs : List α, PyData.depthAll (xs.map D.enc) ≤ i
  | [] => Nat.zero_le _
  | x :: xs => by rw [List.map_cons, PyData.depthAll]; exact Nat.max_le.mpr ⟨D.dep x, dep_all D xs⟩
theorem eq_all (D : Dq K t i) : ∀ xs ys : List α, PyData.eqvAll (xs.map D.enc) (ys.map D.enc) = true ↔ xs = ys
  | [], [] => by simp [PyData.eqvAll]
  | x :: xs, [] => by simp [PyData.eqvAll]
  | [], y :: ys => by simp [PyData.eqvAll]
  | x :: xs, y :: ys => by simp only [List.map_cons, PyData.eqvAll, Bool.and_eq_true, D.eq, eq_all D xs ys, List.cons.injEq]
def dL (D : Dq K t i) : Dq K (kL K t) (i + 1) := ⟨fun xs => .list (xs.map D.enc), fun ⟨p, vs, e, h, a⟩ => by subst e; exact ⟨.lst h (dp_all D a).1, by rw [PyData.canLay0]; exact (dp_all D a).2⟩, fun xs => by rw [PyData.depth]; have := dep_all D xs; omega, fun x y => by rw [PyData.eqv]; exact eq_all D x y⟩
def dT (D : Dq K t i) : Dq K (kT K t) (i + 1) := ⟨fun xs => .tuple (xs.map D.enc), fun ⟨p, vs, e, h, a⟩ => by subst e; exact ⟨.tup h (dp_all D a).1, by rw [PyData.canLay0]; exact (dp_all D a).2⟩, fun xs => by rw [PyData.depth]; have := dep_all D xs; omega, fun x y => by rw [PyData.eqv]; exact eq_all D x y⟩
def d2 (A : Dq K t i) (B : Dq K u j) : Dq K (k2 K t u) (max i j + 1) := ⟨fun x => .tuple [A.enc x.1, B.enc x.2], fun ⟨p, v1, v2, e, h, h1, h2⟩ => by subst e; exact ⟨.tup h (.cons (A.dp h1).1 (.cons (B.dp h2).1 .nil)), by simp [PyData.canLay0, PyData.canLayAll0, (A.dp h1).2, (B.dp h2).2]⟩,
  fun x => by simp only [PyData.depth, PyData.depthAll]; have := A.dep x.1; have := B.dep x.2; omega, fun x y => by simp [PyData.eqv, PyData.eqvAll, A.eq, B.eq, Prod.ext_iff]⟩
def d3 (A : Dq K t i) (B : Dq K u j) (C : Dq K w k) : Dq K (k3 K t u w) (max i (max j k) + 1) := ⟨fun x => .tuple [A.enc x.1, B.enc x.2.1, C.enc x.2.2], fun ⟨p, v1, v2, v3, e, h, h1, h2, h3⟩ => by subst e; exact ⟨.tup h (.cons (A.dp h1).1 (.cons (B.dp h2).1 (.cons (C.dp h3).1 .nil))), by simp [PyData.canLay0, PyData.canLayAll0, (A.dp h1).2, (B.dp h2).2, (C.dp h3).2]⟩,
  fun x => by simp only [PyData.depth, PyData.depthAll]; have := A.dep x.1; have := B.dep x.2.1; have := C.dep x.2.2; omega, fun x y => by simp [PyData.eqv, PyData.eqvAll, A.eq, B.eq, C.eq, Prod.ext_iff]⟩
theorem eqv_none_of {d : PyData} (h : d ≠ .none) : PyData.eqv .none d = false ∧ PyData.eqv d .none = false := by cases d <;> first | exact absurd rfl h | exact ⟨rfl, rfl⟩
def dO (A : Dq K t i) (hn : ∀ x, A.enc x ≠ .none) : Dq K (kO t) i := ⟨fun x => match x with | none => .none | some y => A.enc y, fun {H v x} h => by
    cases x with
    | none => cases h; exact ⟨.non, rfl⟩
    | some y => exact A.dp h.1, fun x => by cases x; exact Nat.zero_le _; exact A.dep _, fun x y => by
    cases x <;> cases y
    · exact ⟨fun _ => rfl, fun _ => rfl⟩
    · simp [(eqv_none_of (hn _)).1]
    · simp [(eqv_none_of (hn _)).2]
    · simp [A.eq]⟩
theorem shaped_of {d : PyData} (h : d.canLay0 = true) (l : d.depth ≤ 64) : SeqAt.shaped d = true := by
  unfold SeqAt.shaped
  rw [h]
  simpa using l
theorem o_eqD {x y : α} [Decidable (x = y)] (D : Dq K t i) (h : i ≤ 64) : Op2 (rEqD K) t x t y kB (decide (x = y)) := fun M v1 v2 H l a b Q q =>
  ⟨_, _, dp_upM del_le _ _ (D.dp a).1, dp_upM del_le _ _ (D.dp b).1, shaped_of (D.dp a).2 (Nat.le_trans (D.dep x) h), shaped_of (D.dp b).2 (Nat.le_trans (D.dep y) h), q _ H (Ex.refl _) (by
    show V.bl _ = V.bl _
    congr 1
    rw [Bool.eq_iff_iff, D.eq, decide_eq_true_iff])⟩
theorem o_neD {x y : α} [Decidable (x = y)] (D : Dq K t i) (h : i ≤ 64) : Op2 (rNeD K) t x t y kB (!decide (x = y)) := fun M v1 v2 H l a b Q q =>
  ⟨_, _, dp_upM del_le _ _ (D.dp a).1, dp_upM del_le _ _ (D.dp b).1, shaped_of (D.dp a).2 (Nat.le_trans (D.dep x) h), shaped_of (D.dp b).2 (Nat.le_trans (D.dep y) h), q _ H (Ex.refl _) (by
    show V.bl _ = V.bl _
    congr 2
    rw [Bool.eq_iff_iff, D.eq, decide_eq_true_iff])⟩
end
end Rw
namespace Rw
open PySem PySem.Spec PyProof.Rows L2 Evl Cy
/-! ### dice -/
abbrev Dice := Int × Int × Int
def roll (x : Dice) (m : Int) : Int × Dice :=
  if (decide (x.2.2 = 2) || (decide (x.2.2 = 1) && decide (0 < x.1))) = true then (x.1 % m, (x.1 / m, x.2.1, x.2.2))
  else (((x.1 * 48271 + x.2.1 * 69621 + 11) % 2147483647 / 7 + (x.1 * 48271 + x.2.1 * 69621 + 11) % 2147483647) % m, ((x.1 * 48271 + x.2.1 * 69621 + 11) % 2147483647, x.2.1 + 1, 0))
theorem roll_in (x : Dice) {m : Int} (h : 0 < m) : 0 ≤ (roll x m).1 ∧ (roll x m).1 < m := by
  unfold roll
  split
  · exact ⟨Int.emod_nonneg _ (by omega), Int.emod_lt_of_pos _ h⟩
  · exact ⟨Int.emod_nonneg _ (by omega), Int.emod_lt_of_pos _ h⟩
def spRollX : Sp := fun vs H Q _ => ∃ (d : Addr) (x : Dice) (m : Int), vs = [.ref d, .int m] ∧ H d = some (.lst [.int x.1, .int x.2.1, .int x.2.2]) ∧ 0 < m ∧ m < 1000000 ∧
  ∀ H', ExB d H H' → H' d = some (.lst [.int (roll x m).2.1, .int (roll x m).2.2.1, .int (roll x m).2.2.2]) → Q (.int (roll x m).1) H'
/-- a plain def's promise: it changes nothing -/
def spD {α β : Type} (A : AR α) (pre : α → Prop) (f : α → Re β) (t : Ty β) (cl : Nat → Addr) : Sp := fun vs H Q E => ∃ M a, (∀ m ∈ M, H m ≠ none) ∧ A (del M H) vs a ∧ pre a ∧
  (∀ y v H', f a = .ok y → Ex H H' → t.r (del M H') v y → Q v H') ∧ (∀ k H', f a = .er k → Ex H H' → E (.ref (cl k)) none H')
/-- a def's promise that rolls the dice that it is given first -/
def spR {α β : Type} (A : AR α) (pre : α → Prop) (f : α → Dice → β × Dice) (t : Ty β) : Sp := fun vs H Q _ => ∃ M d x ws a, vs = .ref d :: ws ∧ d ∈ M ∧ (∀ m ∈ M, H m ≠ none) ∧ M.Nodup ∧ H d = some (.lst [.int x.1, .int x.2.1, .int x.2.2]) ∧ A (del M H) ws a ∧ pre a ∧
  ∀ v H', Ex (del [d] H) (del [d] H') → H' d = some (.lst [.int (f a x).2.1, .int (f a x).2.2.1, .int (f a x).2.2.2]) → t.r (del M H') v (f a x).1 → Q v H'
section
variable {K : PySem.W.Frag} {α β γ δ R τ : Type} {E E' : XK} {cl : Nat → Addr} {M : List Addr} {σ : L2.St} {I I' H H' : Hp} {S S' S1 S2 S3 : List Cell} {te ta tb tc to : TE} {tt : TT} {tr : TA} {t : Ty α} {u : Ty β} {w' : Ty γ} {x : α} {y : β} {v : V} {xs : List α}
theorem em_call {A : AR α} {B : AR γ} {a : α} {a' : γ} {pre : α → Prop} {f : α → Re β} {dvs : List V} (ha : Ea E cl M tr σ I S B (.ok a') S1) (hA : ∀ H vs, B H vs a' → A H (vs ++ dvs) a) (hp : pre a) : Em E cl M (tCall (spD A pre f u cl) dvs E tr) σ I S u (f a) S1 :=
  ⟨ha.ad, fun H1 i w Q q qe => ea_of ha H1 i w _ fun vs H2 e w2 r => ⟨M, a, w2.live, hA _ _ r, hp, fun y v H3 ey e3 r3 => q y v H3 ey (e.trans (ex_del e3)) (w2.ex e3) r3, fun k H3 ek e3 => qe k H3 ek (e.trans (ex_del e3)) (w2.ex e3)⟩⟩
/-- where it raises nothing -/
theorem em_callP {A : AR α} {B : AR γ} {a : α} {a' : γ} {pre : α → Prop} {f : α → Re β} {dvs : List V} (ha : Ea E cl M tr σ I S B (.ok a') S1) (hA : ∀ H vs, B H vs a' → A H (vs ++ dvs) a) (hp : pre a) (hy : f a = .ok y) : Em E cl M (tCall (spD A pre f u cl) dvs E' tr) σ I S u (.ok y) S1 :=
  em_mk ha.ad fun H1 i w Q q => ea_of ha H1 i w _ fun vs H2 e w2 r => ⟨M, a, w2.live, hA _ _ r, hp, fun y' v H3 ey e3 r3 => q v H3 (e.trans (ex_del e3)) (w2.ex e3) (by rw [hy] at ey; cases ey; exact r3), fun k H3 ek e3 => by rw [hy] at ek; cases ek⟩
theorem args_id {A : AR α} {a : α} : ∀ (H : Hp) (vs : List V), A H vs a → A H (vs ++ []) a := fun H vs h => by rw [List.append_nil]; exact h
/-- an object of a class of the program's own -/
def Ob (t : Ty α) (C : Addr) (m : Str) : Prop := ∀ H v x, t.r H v x → ∃ a dx fs, v = .ref a ∧ H a = some (.ins C dx fs) ∧ fs.lookup m = none
theorem em_meth {C : Addr} {m : Str} {A : AR (α × β)} {B : AR γ} {b : β} {b' : γ} {pre : α × β → Prop} {f : α × β → Re δ} {u : Ty δ} {dvs : List V} (ho : Em E cl M to σ I S t (.ok x) S1) (ob : Ob t C m) (ha : Ea E cl M tr σ I S1 B (.ok b') S2) (hA : ∀ H v vs, t.r H v x → B H vs b' → A H (v :: (vs ++ dvs)) (x, b)) (hp : pre (x, b)) : Em E cl M (tMeth C m (spD A pre f u cl) dvs E to tr) σ I S u (f (x, b)) S2 :=
  ⟨ha.ad.trans ho.ad, fun H1 i w Q q qe => em_of ho H1 i w _ fun v H2 e w2 r => by
    obtain ⟨a, dx, fs, rfl, ha1, hl⟩ := ob _ _ _ r
    refine ⟨a, dx, fs, rfl, (del_some.mp ha1).2, hl, ea_of ha H2 (i.trans (w.grow e)) w2 _ fun vs H3 e3 w3 r3 => ⟨M, (x, b), w3.live, hA _ _ _ (t.up (w2.grow e3) r) r3, hp, fun y v H4 ey e4 r4 => q y v H4 ey ((ads_tr ho.ad e e3).trans (ex_del e4)) (w3.ex e4) r4, fun k H4 ek e4 => qe k H4 ek ((ads_tr ho.ad e e3).trans (ex_del e4)) (w3.ex e4)⟩⟩⟩
theorem em_methP {C : Addr} {m : Str} {A : AR (α × β)} {B : AR γ} {b : β} {b' : γ} {pre : α × β → Prop} {f : α × β → Re δ} {u : Ty δ} {dvs : List V} {y : δ} (ho : Em E cl M to σ I S t (.ok x) S1) (ob : Ob t C m) (ha : Ea E cl M tr σ I S1 B (.ok b') S2) (hA : ∀ H v vs, t.r H v x → B H vs b' → A H (v :: (vs ++ dvs)) (x, b)) (hp : pre (x, b)) (hy : f (x, b) = .ok y) : Em E cl M (tMeth C m (spD A pre f u cl) dvs E' to tr) σ I S u (.ok y) S2 :=
  em_mk (ha.ad.trans ho.ad) fun H1 i w Q q => em_of ho H1 i w _ fun v H2 e w2 r => by
    obtain ⟨a, dx, fs, rfl, ha1, hl⟩ := ob _ _ _ r
    refine ⟨a, dx, fs, rfl, (del_some.mp ha1).2, hl, ea_of ha H2 (i.trans (w.grow e)) w2 _ fun vs H3 e3 w3 r3 => ⟨M, (x, b), w3.live, hA _ _ _ (t.up (w2.grow e3) r) r3, hp, fun y v H4 ey e4 r4 => q v H4 ((ads_tr ho.ad e e3).trans (ex_del e4)) (w3.ex e4) (by rw [hy] at ey; cases ey; exact r4), fun k H4 ek e4 => by rw [hy] at ek; cases ek⟩⟩
theorem exb_del {d : Addr} : ExB d H H' ↔ Ex (del [d] H) (del [d] H') :=
  ⟨fun h a o e => del_some.mpr ⟨(del_some.mp e).1, h a o (fun z => (del_some.mp e).1 (by rw [z]; exact List.mem_singleton.mpr rfl)) (del_some.mp e).2⟩, fun h a o n e => (del_some.mp (h a o (del_some.mpr ⟨fun z => n (List.mem_singleton.mp z), e⟩))).2⟩
/-- the dice at n of what may change are rolled -/
theorem dice_put {n : Nat} {d : Addr} {z z' : Dice} (w : Holds M S H) (hk : S[n]? = some (cDice d z)) (e : ExB d H H') (hd : H' d = some (.lst [.int z'.1, .int z'.2.1, .int z'.2.2])) : Holds M (S.set n (cDice d z')) H' ∧ Ex (del (ads S) H) (del (ads S) H') := by
  have dS : d ∈ ads S := List.mem_map.mpr ⟨_, List.mem_of_getElem? hk, rfl⟩
  have dM : d ∈ M := w.sub d dS
  have ee : Ex (del (ads S) H) (del (ads S) H') := ex_sub (A := [d]) (fun a h => by rw [List.mem_singleton.mp h]; exact dS) (exb_del.mp e)
  refine ⟨?_, ee⟩
  have w1 : Holds M (S.set n (cDice d z')) (upd H d (.lst [.int z'.1, .int z'.2.1, .int z'.2.2])) := w.put hk rfl rfl
  refine w1.ex fun a o h => ?_
  by_cases ha : a = d
  · rw [ha] at h ⊢
    rw [upd_same] at h
    rw [hd]
    exact h
  · rw [upd_ne ha] at h
    exact e a o ha h
theorem em_roll {n : Nat} {d : Addr} {z : Dice} {m : Int} (h : Ea E cl M tr σ I S (aC (kPtr d) (aC kI a0)) (.ok ((), m, ())) S') (hk : S'[n]? = some (cDice d z)) (hm : 0 < m ∧ m < 1000000) : Em E cl M (tCall spRollX [] E' tr) σ I S kI (.ok (roll z m).1) (S'.set n (cDice d (roll z m).2)) :=
  em_mk ((ads_set (c' := cDice d (roll z m).2) hk rfl).trans h.ad) fun H1 i w Q q => ea_of h H1 i w _ fun vs H2 e w2 r => by
    obtain ⟨v1, r1, rfl, g1, v2, r2, rfl, g2, rfl⟩ := r
    obtain rfl : v1 = .ref d := g1
    obtain rfl : v2 = .int m := g2
    obtain ⟨_, o, h2, ro⟩ := w2.at_ _ (List.mem_of_getElem? hk)
    obtain rfl : o = .lst [.int z.1, .int z.2.1, .int z.2.2] := ro
    refine ⟨d, z, m, rfl, h2, hm.1, hm.2, fun H3 e3 h3 => ?_⟩
    obtain ⟨w3, x3⟩ := dice_put w2 hk e3 h3
    exact q _ H3 (ads_tr h.ad e x3) w3 rfl
theorem em_callR {n : Nat} {d : Addr} {z : Dice} {A : AR α} {B : AR γ} {a : α} {a' : γ} {pre : α → Prop} {f : α → Dice → β × Dice} {dvs : List V} (h : Ea E cl M tr σ I S (aC (kPtr d) B) (.ok ((), a')) S') (hA : ∀ H vs, B H vs a' → A H (vs ++ dvs) a) (hk : S'[n]? = some (cDice d z)) (hp : pre a) (mn : M.Nodup) : Em E cl M (tCall (spR A pre f u) dvs E' tr) σ I S u (.ok (f a z).1) (S'.set n (cDice d (f a z).2)) :=
  em_mk ((ads_set (c' := cDice d (f a z).2) hk rfl).trans h.ad) fun H1 i w Q q => ea_of h H1 i w _ fun vs H2 e w2 r => by
    obtain ⟨v1, r1, rfl, g1, g2⟩ := r
    obtain rfl : v1 = .ref d := g1
    obtain ⟨dM, o, h2, ro⟩ := w2.at_ _ (List.mem_of_getElem? hk)
    obtain rfl : o = .lst [.int z.1, .int z.2.1, .int z.2.2] := ro
    refine ⟨M, d, z, r1 ++ dvs, a, rfl, dM, w2.live, mn, h2, hA _ _ g2, hp, fun v H3 e3 h3 r3 => ?_⟩
    obtain ⟨w3, x3⟩ := dice_put w2 hk (exb_del.mpr e3) h3
    exact q _ H3 (ads_tr h.ad e x3) w3 r3
end
/-! ### calendars -/
def kCal (K : PySem.W.Frag) (C : Addr) : Ty Ca := ⟨fun H v c => ∃ a, v = .ref a ∧ CalP K C H a c ∧ Small c, fun e ⟨a, h1, h2, h3⟩ => ⟨a, h1, h2.ex e, h3⟩⟩
section
variable {K : PySem.W.Frag} {α β γ δ R τ : Type} {E E' : XK} {cl : Nat → Addr} {M : List Addr} {σ : L2.St} {I I' H H' : Hp} {S S' S1 S2 S3 : List Cell} {te ta tb tc to : TE} {tt : TT} {tr : TA} {t : Ty α} {u : Ty β} {C : Addr} {c : Ca} {y : β}
/-- what an old promise hands back, in a kind -/
def RsT (K : PySem.W.Frag) (r : Rs) (u : Ty β) (y : β) : Prop := match r with
  | .ok z => ∀ H, u.r H z y
  | .tup zs => ∀ H p, SqT K H p zs → u.r H (.ref p) y
  | .lst zs => ∀ H p, SqL K H p zs → u.r H (.ref p) y
  | _ => False
theorem em_oldG {f : Ca → List V → Option Rs} {r : Rs} {ws dvs : List V} {B : AR γ} {b : γ} (h : Ea E cl M tr σ I S (aC (kCal K C) B) (.ok (c, b)) S') (hB : ∀ H vs, B H vs b → vs = ws) (hf : f c (ws ++ dvs) = some r) (hr : RsT K r u y) : Em E cl M (tCall (spM K C cl f) dvs E' tr) σ I S u (.ok y) S' :=
  em_mk h.ad fun H1 i w Q q => ea_of h H1 i w _ fun vs H2 e w2 r2 => by
    obtain ⟨v, rs, rfl, ⟨a, rfl, hc, hs⟩, hb⟩ := r2
    obtain rfl := hB _ _ hb
    have hc2 : CalP K C H2 a c := hc.ex del_le
    refine ⟨a, c, rs ++ dvs, r, rfl, hc2, hs, hf, ?_⟩
    cases r with
    | ok z => exact fun H3 e3 => q z H3 (e.trans (ex_del e3)) (w2.ex e3) (hr _)
    | tup zs => exact fun p H3 hp e3 h3 => q _ H3 (e.trans (ex_del e3)) (w2.ex e3) (hr _ p (st_of (del_at (fresh_not w2.live hp) h3)))
    | lst zs => exact fun p H3 hp e3 h3 => q _ H3 (e.trans (ex_del e3)) (w2.ex e3) (hr _ p (sq_of (del_at (fresh_not w2.live hp) h3)))
    | err k => exact hr.elim
theorem em_oldM {m : Str} {f : Ca → List V → Option Rs} {r : Rs} {ws dvs : List V} {B : AR γ} {b : γ} (ho : Em E cl M to σ I S (kCal K C) (.ok c) S1) (h : Ea E cl M tr σ I S1 B (.ok b) S') (hB : ∀ H vs, B H vs b → vs = ws) (hm : ∀ tm ty dl ts, (calF c tm ty dl ts).lookup m = none) (hf : f c (ws ++ dvs) = some r) (hr : RsT K r u y) : Em E cl M (tMeth C m (spM K C cl f) dvs E' to tr) σ I S u (.ok y) S' :=
  em_mk (h.ad.trans ho.ad) fun H1 i w Q q => em_of ho H1 i w _ fun v H2 e w2 r2 => by
    obtain ⟨a, rfl, hc, hs⟩ := r2
    have hc2 : CalP K C H2 a c := hc.ex del_le
    obtain ⟨dx, tm, ty, dl, ts, kvs, st, h1, hrest⟩ := hc2
    refine ⟨a, dx, _, rfl, h1, hm _ _ _ _, ea_of h H2 (i.trans (w.grow e)) w2 _ fun vs H3 e3 w3 r3 => ?_⟩
    obtain rfl := hB _ _ r3
    have hc3 : CalP K C H3 a c := (hc.ex (w2.grow e3)).ex del_le
    refine ⟨a, c, vs ++ dvs, r, rfl, hc3, hs, hf, ?_⟩
    cases r with
    | ok z => exact fun H4 e4 => q z H4 ((ads_tr ho.ad e e3).trans (ex_del e4)) (w3.ex e4) (hr _)
    | tup zs => exact fun p H4 hp e4 h4 => q _ H4 ((ads_tr ho.ad e e3).trans (ex_del e4)) (w3.ex e4) (hr _ p (st_of (del_at (fresh_not w3.live hp) h4)))
    | lst zs => exact fun p H4 hp e4 h4 => q _ H4 ((ads_tr ho.ad e e3).trans (ex_del e4)) (w3.ex e4) (hr _ p (sq_of (del_at (fresh_not w3.live hp) h4)))
    | err k => exact hr.elim
end
end Rw
namespace Rw
open PySem PySem.Spec PyProof.Rows L2 Evl
section
variable {X : Cx} {pins : List (Addr × Obj)} {σ : L2.St} {H : Hp} {s : Shared}
/-- lambda: body -/
def tLamC (T : List (Addr × Str)) (P : Addr) (q : Str) (params : Arguments) (body : Expr) (scope : Scope) (cells : List (Str × Addr)) : TE := fun _ H Q => LamX.Tabs T H ∧
  ∀ f cc H1, H f = none → ExB P H H1 → LamX.Tabs T H1 → H1 f = some (LamC f q params body scope cells cc) → H1 cc = some (LamX.CodeO cc q) → Q (.ref f) H1
theorem pe_lamC {T : List (Addr × Str)} {c P : Addr} {params : Arguments} {body : Expr} {scope : Scope} {pos : Pos} (L : LamX.LamS X.env.scope scope) (TB : LamX.TabB X.base X.mg c P) (codeX : X.env.code = .ref c)
    (inT : (P, X.env.qual ++ "<lambda>") ∈ T) (oneT : ∀ p ∈ T, p.1 = P → p.2 = X.env.qual ++ "<lambda>") (nodef : defaultsOf params X.env = ([], [])) :
    PE X (.Lambda params body scope pos) (tLamC T P (X.env.qual ++ "<lambda>") params body scope (cloFrom X.env.cells scope.names [])) := by
  refine ⟨fun pins s σ H Q I h => ?_⟩
  obtain ⟨tabs0, h⟩ := h
  obtain ⟨trs, atP, okP, allP⟩ := tabs0 _ inT
  generalize hclo : cloFrom X.env.cells scope.names [] = CL at h ⊢
  have frees := L.has I.ok
  refine PySem.W.kla_eval nodef ?_
  have bltP : s.heap.BuiltinsAt X.mg P := TB.bm.keeps I.bk
  have heapP : s.heap.get? P = some { cls := .none, data := .fields trs } := I.hok P _ atP
  cases among : codeAmong pos trs.toList with
  | none =>
    refine PySem.W.kla_makeFunction (mg := X.mg) (c := c) (P := P) (ps := trs) (closure_ok frees) I.ok.glob (I.mod.glob.keeps I.bk) codeX (TB.code.keeps I.bk) heapP okP among TB.gP bltP fun cc tv hp tt kept ge0 lt0 rec0 tab0 => ?_
    rw [hclo]
    obtain ⟨c2, co, fs, t, f2, coAt, coData, coQual⟩ := rec0
    cases f2
    have ge1 : s.heap.objs.size ≤ hp.objs.size := Nat.le_trans ge0 (Nat.le_of_lt lt0)
    have newC : H cc = none := I.hok.fresh ge0
    have J1 := LamX.inv_table (t' := tt) (more := #[rawInt pos.line, rawInt pos.col, .ref cc]) (h' := hp) I atP kept tab0 ge0 ⟨co, fs, t, coAt, coData, coQual⟩
    have extH : ExB P H (upd (upd H P (.tbl (trs ++ #[rawInt pos.line, rawInt pos.col, .ref cc]))) cc (LamX.CodeO cc (X.env.qual ++ "<lambda>"))) := fun b o n e => by
      rw [upd_ne (ne_of_none e newC), upd_ne n]
      exact e
    have snocL : (trs ++ #[rawInt pos.line, rawInt pos.col, .ref cc]).toList = trs.toList ++ [rawInt pos.line, rawInt pos.col, .ref cc] := by simp
    have tabs1 : LamX.Tabs T (upd (upd H P (.tbl (trs ++ #[rawInt pos.line, rawInt pos.col, .ref cc]))) cc (LamX.CodeO cc (X.env.qual ++ "<lambda>"))) := fun p hp => by
      by_cases isP : p.1 = P
      · rw [oneT p hp isP, isP]
        refine ⟨_, by rw [upd_ne (ne_of_none atP newC), upd_same], by rw [snocL]; exact PySem.TriplesOk_snoc _ _ _ _ okP, fun pp cd find => ?_⟩
        rw [snocL] at find
        rcases LamX.among_app _ okP find with z | z
        · obtain ⟨c9, f1, f2⟩ := allP pp cd z
          exact ⟨c9, f1, extH _ _ (fun z => LamX.codeO_ne _ (Option.some.inj ((f2.symm.trans (by rw [z])).trans atP))) f2⟩
        · exact ⟨cc, z, upd_same⟩
      · obtain ⟨trs', t1, t2, t3⟩ := tabs0 p hp
        refine ⟨trs', by rw [upd_ne (ne_of_none t1 newC), upd_ne isP]; exact t1, t2, fun pp cd find => ?_⟩
        obtain ⟨c9, f1, f2⟩ := t3 pp cd find
        exact ⟨c9, f1, extH _ _ (fun z => LamX.codeO_ne _ (Option.some.inj ((f2.symm.trans (by rw [z])).trans atP))) f2⟩
    -- the function object
    have objF : (hp.push (PySem.W.kla_obj "<lambda>" (X.env.qual ++ "<lambda>") params body scope CL ((X.mg "__name__").getD .none) cc tv)).get? hp.objs.size = some (PySem.W.kla_obj "<lambda>" (X.env.qual ++ "<lambda>") params body scope CL ((X.mg "__name__").getD .none) cc tv) := Heap.get?_push_size _ rfl
    generalize eqH1 : (upd (upd H P (.tbl (trs ++ #[rawInt pos.line, rawInt pos.col, .ref cc]))) cc (LamX.CodeO cc (X.env.qual ++ "<lambda>"))) = H1 at J1 extH tabs1
    have newF : H1 hp.objs.size = none := J1.hok.fresh (Nat.le_refl _)
    have J2 := Inv.laid (a := hp.objs.size) (o := LamC hp.objs.size (X.env.qual ++ "<lambda>") params body scope CL cc) (t' := tt) (h' := hp.push (PySem.W.kla_obj "<lambda>" (X.env.qual ++ "<lambda>") params body scope CL ((X.mg "__name__").getD .none) cc tv)) J1 (fun b u e => Heap.get?_push_of_some _ e) (Nat.le_refl _)
      ⟨⟨_, _, objF⟩, ⟨_, objF⟩, fun h1 h2 ⟨pm, ct, e⟩ st => ⟨pm, ct, st _ e⟩⟩
    have extH2 : ExB P H (upd H1 hp.objs.size (LamC hp.objs.size (X.env.qual ++ "<lambda>") params body scope CL cc)) := fun b o n e => by
      rw [upd_ne (ne_of_none (extH b o n e) newF)]
      exact extH b o n e
    have atC : H1 cc = some (LamX.CodeO cc (X.env.qual ++ "<lambda>")) := by rw [← eqH1]; exact upd_same
    refine ⟨.ref hp.objs.size, _, J2, rfl, h hp.objs.size cc _ (I.hok.fresh ge1) extH2 (tabs1.ext fun b o e => by rw [upd_ne (ne_of_none e newF)]; exact e) upd_same ?_⟩
    rw [upd_ne (ne_of_none atC newF)]
    exact atC
  | some cd =>
    obtain ⟨cc, e, oldC⟩ := allP pos cd among
    subst e
    refine PySem.W.kla_makeFunctionHit (mg := X.mg) (c := c) (P := P) (ps := trs) (closure_ok frees) I.ok.glob (I.mod.glob.keeps I.bk) codeX (TB.code.keeps I.bk) heapP okP among bltP fun tv hp tt kept ge1 => ?_
    rw [hclo]
    have objF : (hp.push (PySem.W.kla_obj "<lambda>" (X.env.qual ++ "<lambda>") params body scope CL ((X.mg "__name__").getD .none) cc tv)).get? hp.objs.size = some (PySem.W.kla_obj "<lambda>" (X.env.qual ++ "<lambda>") params body scope CL ((X.mg "__name__").getD .none) cc tv) := Heap.get?_push_size _ rfl
    have newF : H hp.objs.size = none := I.hok.fresh ge1
    have J2 := Inv.laid (a := hp.objs.size) (o := LamC hp.objs.size (X.env.qual ++ "<lambda>") params body scope CL cc) (t' := tt) (h' := hp.push (PySem.W.kla_obj "<lambda>" (X.env.qual ++ "<lambda>") params body scope CL ((X.mg "__name__").getD .none) cc tv)) I (fun b u e => Heap.get?_push_of_some _ (kept b u e)) ge1
      ⟨⟨_, _, objF⟩, ⟨_, objF⟩, fun h1 h2 ⟨pm, ct, e⟩ st => ⟨pm, ct, st _ e⟩⟩
    have extH2 : ∀ b o, H b = some o → upd H hp.objs.size (LamC hp.objs.size (X.env.qual ++ "<lambda>") params body scope CL cc) b = some o := fun b o e => by
      rw [upd_ne (ne_of_none e newF)]
      exact e
    exact ⟨.ref hp.objs.size, _, J2, rfl, h hp.objs.size cc _ newF (ExB.of extH2) (tabs0.ext extH2) upd_same (extH2 _ _ oldC)⟩

end
/-! ### a comprehension whose block is told where it was entered -/
/-- from within the block back to the def around it -/
theorem out_of {X : Cx} {pins p2 : List (Addr × Obj)} {σ σ2 : L2.St} {H H2 : Hp} {s s2 : Shared} {scope : Scope} {ce : Env} {fp : List Addr} (I : Inv X pins σ H s) (ok : ∀ b ∈ fp, FpOk X pins H b) (J : Inv (X.blk s H scope ce fp) p2 σ2 H2 s2) : Inv X pins σ H2 s2 :=
  I.call' (ch := fp) J.os J.base J.hok J.bare fun b hb => let ⟨_, f1, _, f3, f4, f5⟩ := ok b hb; ⟨f3, f1, f4, f5⟩
def tLcK (wi : TI) (g : TG) (tt : L2.St → TT) (te : L2.St → TE) (vs : List Nat) : TE := fun σ H Q => tLc wi g (tt σ) (te σ) vs σ H Q
section
variable {X : Cx}
theorem pe_lcK {elt tg iter : Expr} {ifs : List Expr} {scope : Scope} {own : List (Str × Nat)} {pos : Pos} {wi : TI} {g : TG} {tt : L2.St → TT} {te : L2.St → TE} (hc : X.calm = true) (nd : X.N.Nodup) (hi : PI X tg iter wi) (ok : BlkOk X.N X.env.scope scope own)
    (hg : ∀ (s : Shared) (H : Hp) (C : Addr) (cl : List (Str × Addr)) (fp : List Addr), PG (X.blk s H scope (compEnvC scope cl C X.env) fp) tg g)
    (ht : ∀ (pins : List (Addr × Obj)) (σ : L2.St) (s : Shared) (H : Hp) (C : Addr) (cl : List (Str × Addr)) (fp : List Addr), Inv X pins σ H s → (∀ b ∈ fp, FpOk X pins H b) → PTs (X.blk s H scope (compEnvC scope cl C X.env) fp) ifs (tt σ))
    (he : ∀ (pins : List (Addr × Obj)) (σ : L2.St) (s : Shared) (H : Hp) (C : Addr) (cl : List (Str × Addr)) (fp : List Addr), Inv X pins σ H s → (∀ b ∈ fp, FpOk X pins H b) → PE (X.blk s H scope (compEnvC scope cl C X.env) fp) elt (te σ)) (hs : ∀ x, foldedSetIterable iter X.env x = pure x := by intro _; rfl) :
    PE X (.ListComp elt [⟨tg, iter, ifs, 0⟩] scope pos) (tLcK wi g tt te (own.map (·.2))) := by
  refine ⟨fun ps s0 σ H0 Q I0 want => ?_⟩
  rw [eval_ListComp]
  have caught : ∀ y ∈ scope.names, y.2 = .free → ∃ c, X.env.cells.lookup y.1 = some c := fun y hy e => (ok.free y hy e).elim (fun k => I0.ok.has _ (.inl k)) fun k => I0.ok.has _ (.inr k)
  refine wpAny_comprehension_free (use := none) rfl hs (closure_ok caught) ok.kind (fun y hy e => by rw [ok.uniq y hy, e]) (thn (hi.run ps s0 σ H0 _ I0 want) fun src s1 h1 => thn h1 fun itr s2 h2 => ?_)
  obtain ⟨it, fp, tn, J, Hi, rfl, Ii, T, at0, fi, more⟩ := h2
  refine wpAny_newObj_type (newEnv_comp ?_) (by show 0 ≤ sizeLine; decide)
  generalize eqD : s2.heap.objs.size = D
  have isnew : Hi D = none := Ii.hok.fresh (Nat.le_of_eq eqD)
  obtain ⟨W, ⟨m0, w0⟩, turn⟩ := more D isnew
  generalize eqs : ({ s2 with heap := s2.heap.push { cls := .type "list", data := .seq ([] : List Value).toArray } } : Shared) = sl
  have hl : sl.heap = s2.heap.push { cls := .type "list", data := .seq ([] : List Value).toArray } := by rw [← eqs]
  have Il : Inv X ps σ (upd Hi D (.lst [])) sl := by
    rw [← eqs]
    exact Ii.laid (t' := s2.toks) (fun b o e => Heap.get?_push_of_some _ e) (Nat.le_of_eq eqD) ⟨Nat.zero_le _, [], 0, .nil, by rw [← eqD]; exact Heap.get?_push_size _ rfl⟩
  have low : ∀ b ∈ fp, b < s2.heap.objs.size := fun b hb => let ⟨_, e, _⟩ := T.obj _ _ at0 b hb; Heap.lt_size e
  have fl : ∀ b ∈ fp, FpOk X ps (upd Hi D (.lst [])) b := fun b hb => ⟨by rw [upd_ne (by rw [← eqD]; exact Nat.ne_of_lt (low b hb))]; exact (fi b hb).1, (fi b hb).2⟩
  have atl : tn 0 sl.heap := T.keep _ _ _ at0 fun b _ o e => by rw [hl]; exact Heap.get?_push_of_some _ e
  have Ib := block_start Il ok nd fun b hb => ⟨fl b hb, by rw [hl, Heap.size_push]; exact Nat.lt_succ_of_lt (low b hb)⟩
  have pg := hg sl (upd Hi D (.lst [])) sl.heap.objs.size (cellsFrom (sl.heap.objs.size + 1) scope.names (cloFrom X.env.cells scope.names [])) fp
  have pt := ht ps σ sl (upd Hi D (.lst [])) sl.heap.objs.size (cellsFrom (sl.heap.objs.size + 1) scope.names (cloFrom X.env.cells scope.names [])) fp Il fl
  have pe := he ps σ sl (upd Hi D (.lst [])) sl.heap.objs.size (cellsFrom (sl.heap.objs.size + 1) scope.names (cloFrom X.env.cells scope.names [])) fp Il fl
  show codeAny _ _ (.compStart _ 0 (.ref it) (.ref D) (compEnvC scope (cellsFrom (sl.heap.objs.size + 1) scope.names (cloFrom X.env.cells scope.names [])) sl.heap.objs.size X.env)) (compPost (model X.prog X.w) X.A X.xe none (EP X ps σ Q) (.ref D) sl.heap.objs.size) _
  generalize eqce : compEnvC scope (cellsFrom (sl.heap.objs.size + 1) scope.names (cloFrom X.env.cells scope.names [])) sl.heap.objs.size X.env = ce at Ib pg pt pe ⊢
  have locs : ce.locals = sl.heap.objs.size := by rw [← eqce]; rfl
  generalize eqH : upd Hi D (.lst []) = Hl at Il Ib pg pt pe w0 fl
  generalize eqb : ({ sl with heap := pushCells (sl.heap.push { cls := .type "dict", data := .dict #[] }) scope.names } : Shared) = sb at Ib ⊢
  have atb : tn 0 sb.heap := T.keep _ _ _ atl fun b _ o e => by rw [← eqb]; exact pushCells_keeps _ _ _ _ (Heap.get?_push_of_some _ e)
  have still : ∀ {σ' : L2.St} {H' : Hp} {s' : Shared}, Inv (X.blk sl Hl scope ce fp) [] σ' H' s' → (∀ b ∈ fp, H' b = none) → ∀ b ∈ fp, FpOk (X.blk sl Hl scope ce fp) [] H' b := fun I' n b hb =>
    ⟨n b hb, (I'.ok.exf b hb).1, I'.ok.exfs b hb, .inl hb, fun x c e => (I'.ok.exf b hb).2 x c e, fun p hp => by simp at hp⟩
  refine codeAny_compStart_list ?go (T.self X.A 0 _ _ _ atb ?go)
  refine compLoop_any (fun n s' => ∃ i H', Inv (X.blk sl Hl scope ce fp) [] (wipe σ (own.map (·.2))) H' s' ∧ tn i s'.heap ∧ (∀ b ∈ fp, H' b = none) ∧ W i n H') (fun n s5 ⟨i, H5, I5, at5, n5, w5⟩ => ?_) m0 ⟨0, Hl, Ib, atb, fun b hb => (fl b hb).1, w0⟩
  rcases turn i n H5 w5 with ⟨stop, qq⟩ | ⟨go, Nx, falls, step⟩
  · refine thnF (T.done (X.blk sl Hl scope ce fp) rfl rfl rfl hc i [] s5 _ H5 (fun _ _ => False) I5 (still I5 n5) at5 stop) fun r s6 ⟨hr, I6⟩ => ?_
    subst hr
    have I7 : Inv X ps σ H5 s6 := out_of Il fl I6
    have nC : H5 sl.heap.objs.size = none := by rw [← locs]; exact I6.free
    obtain ⟨m, hn, _⟩ := I6.loc
    have hn : s6.heap.Ns ce.locals m := hn
    rw [locs] at hn
    refine ⟨m, hn, fun h'' sb' => ?_⟩
    obtain ⟨f0, f1, f2, f3, f4, f5⟩ : FpOk X ps H5 sl.heap.objs.size := Il.fpOk (Nat.le_refl _) nC
    exact ⟨.ref D, H5, I7.turned (t' := s6.toks) (fun b o hb e => (sb'.2 b hb).trans e) f0 f1 f3 f4 f5, rfl, qq⟩
  · refine thnF (T.item (X.blk sl Hl scope ce fp) rfl rfl rfl hc i [] s5 _ H5 (fun _ _ => False) I5 (still I5 n5) at5 go) fun r s6 ⟨u, hr, h6⟩ => ?_
    subst hr
    refine thnF h6 fun _ s7 ⟨x, H7, I7, r7, y7, at7, n7⟩ => ?_
    refine thnF (pg.run _ s7 _ H7 x u _ (I7.pinned (still I7 n7) (T.obj _ _ at7)) r7 (step x H7 y7)) fun _ s8 ⟨σ8, H8, I8, hw8, q8⟩ => ?_
    refine thnF (pt.run _ s8 σ8 H8 _ I8 q8) fun b s9 ⟨H9, I9, q9⟩ => ?_
    have fin : ∀ {s' : Shared} {H' : Hp}, Inv (X.blk sl Hl scope ce fp) ([] ++ pinsAt fp s7.heap) σ8 H' s' → Nx H' → ∃ m, m < n ∧ ∃ i H', Inv (X.blk sl Hl scope ce fp) [] (wipe σ (own.map (·.2))) H' s' ∧ tn i s'.heap ∧ (∀ b ∈ fp, H' b = none) ∧ W i m H' := fun {s' H'} I' nx => by
      obtain ⟨m', hm, w'⟩ := falls H' nx
      have pinned : ∀ b ∈ fp, ∀ o, s7.heap.get? b = some o → s'.heap.get? b = some o ∧ H' b = none := fun b hb o e => ⟨(I'.pin (b, o) (List.mem_append_right _ (List.mem_append_right _ (mem_pinsAt hb e)))).1, (I'.pin (b, o) (List.mem_append_right _ (List.mem_append_right _ (mem_pinsAt hb e)))).2.1⟩
      refine ⟨m', hm, i + 1, H', (I'.unpinned (pins := [])).weak (by rw [← hw8, wipe_length]) (fun j v e => (wipe_some (by rw [← hw8] at e; exact e)).1), T.keep _ _ _ at7 fun b hb o e => (pinned b hb o e).1, fun b hb => ?_, w'⟩
      obtain ⟨o, e, _⟩ := T.obj _ _ at7 b hb
      exact (pinned b hb o e).2
    cases b with
    | false => exact fin I9 (by simpa using q9)
    | true =>
      simp only [if_true] at q9 ⊢
      exact thnF (pe.run _ s9 σ8 H9 _ I9 q9) fun z s10 ⟨yv, H10, I10, r10, acc, hD10, hz10, nx⟩ => app_ok (X := X.blk sl Hl scope ce fp) I10 hD10 hz10 r10 fun s11 I11 => fin I11 nx
end
end Rw
namespace Rw
open PySem PySem.Spec PyProof.Rows L2 Evl
/-- _law_told(e) within a block, e a lambda of the def around it -/
def tToldB (X : Cx) (σ0 : L2.St) (c : Nat → Addr) (k : Nat) (ta : TA) : TE := fun σ H Q => ta σ H fun vs H1 => ∃ (f cc : Addr) (params : Arguments) (body : Expr) (scope : Scope) (t : XK → TE), vs = [.ref f] ∧ H1 f = some (LamC f (X.env.qual ++ "<lambda>") params body scope (cloFrom X.env.cells scope.names []) cc) ∧ H1 cc = some (LamX.CodeO cc (X.env.qual ++ "<lambda>")) ∧ LamX.LamS X.env.scope scope ∧
  (∀ (pm cv ctv : Value), bindArgs (PySem.W.kla_fn "<lambda>" (X.env.qual ++ "<lambda>") params body scope (cloFrom X.env.cells scope.names []) pm cv ctv) ⟨[], []⟩ = pure []) ∧
  (∀ (A : Around) (outer : List Env) (s : Shared) (H : Hp) (E : XK), Room k (A.deeper (LamX.lamEnv X scope s.heap.objs.size f cc)) → PE (LamX.lamCx X A outer s H E scope f cc) body (t E)) ∧ t (ETold c Q) σ0 H1 Q
theorem pe_toldB {X : Cx} {pins0 : List (Addr × Obj)} {σ0 : L2.St} {H0 : Hp} {s0 : Shared} {scopeB : Scope} {ceB : Env} {fp : List Addr} (I0 : Inv X pins0 σ0 H0 s0) (fpo : ∀ b ∈ fp, FpOk X pins0 H0 b) {c : Nat → Addr} {k : Nat} {g : Addr} {oc kV dc pm cdv ct : Value} {od an : Option Addr} {osl : Array (Option Value)} {p pos : Pos} {e : Expr} {ta : TA} (B : Exs X.K X.mg c) (hm : X.mg "_law_told" = some (.ref g)) (kp : PySem.W.keepIn X.K (.ref g) = true)
    (lk : X.K.lookup g = some ⟨oc, od, .func (PySem.W.fnOf "_law_told" "_law_told" (defArgs sTold) (defBody sTold) (defScope sTold) .none kV dc pm an cdv ct), osl⟩) (hcg : PySem.W.codeIn X.K cdv "_law_told" = true) (b : Binds X.K (PySem.W.fnOf "_law_told" "_law_told" (defArgs sTold) (defBody sTold) (defScope sTold) .none kV dc pm an cdv ct) ["what"] [])
    (room : Room (k + 2) X.A) (ha : PA (X.blk s0 H0 scopeB ceB fp) [e] ta) (hg : Gl (X.blk s0 H0 scopeB ceB fp) "_law_told" := by rfl) (he : starEach [e] ceB = (false, eval e ceB) :: starEach [] ceB := by rfl) (hpl : (backTo pos (starEach [] ceB)).any (·.1) = false := by rfl) :
    PE (X.blk s0 H0 scopeB ceB fp) (.Call (.Name "_law_told" p) [e] [] pos) (tToldB X σ0 c k ta) := by
  refine ⟨fun pins s σ H Q I h => ?_⟩
  refine wpAny_Call_Name_kw (ld_glob I hg hm ?_ (by decide))
  refine PySem.W.callWith_K (h₀ := X.base) I.ok.mod.kin kp (thn (ha.run pos pins s σ H _ I h) fun us s1 ⟨vs, H1, I1, r, q⟩ => ⟨I1.kIn, ?_⟩) he hpl
  obtain ⟨f, cc, params, body, scope, t, rfl, atf, atc, L, binds, runs, q⟩ := q
  have I1 : Inv (X.blk s0 H0 scopeB ceB fp) pins σ H1 s1 := I1
  have IX := out_of I0 fpo I1
  obtain rfl : us = [Value.ref f] := Vals.ref1 r
  have ran : codeAny (model X.prog X.w) X.A (.call (.ref g) ⟨[.ref f], []⟩) (CR (L2.CX X.prog X.w) X.stack X.prog X.w H1 s1 Q E0) s1 := by
    refine LamX.run_ofS (N := ["what"]) (ps := ["what"]) (us := [.ref f]) (vs := [.ref f]) lk hcg scTold room IX.env0 (b s1 [.ref f] IX.kIn rfl) (.cons rfl .nil) rfl fun room' => ?_
    refine ⟨_, pss_one (ps_try_many (tb := fun W D σZ HZ => ∃ E' : XK, (∀ cls d σ' H', E' cls d H' → W cls d σ' H') ∧ σZ[0]? = some (some (.ref f)) ∧ HZ f = some (LamC f (X.env.qual ++ "<lambda>") params body scope (cloFrom X.env.cells scope.names []) cc) ∧ HZ cc = some (LamX.CodeO cc (X.env.qual ++ "<lambda>")) ∧ t E' σ0 HZ D.rt) rfl rfl takes_none5
        (fun W pn xe tk _ => ⟨fun pz s' uz Hz D Iz h' => ?_⟩)
        (HdsOk.cons ⟨rfl, by decide, .inl (B.e 0 (by decide)).g⟩ (fun _ _ _ _ _ _ _ => pss_one (ps_ret pe_str)) (HdsOk.cons ⟨rfl, by decide, .inl (B.e 1 (by decide)).g⟩ (fun _ _ _ _ _ _ _ => pss_one (ps_ret pe_str)) (HdsOk.cons ⟨rfl, by decide, .inl (B.e 2 (by decide)).g⟩ (fun _ _ _ _ _ _ _ => pss_one (ps_ret pe_str)) (HdsOk.cons ⟨rfl, by decide, .inl (B.e 3 (by decide)).g⟩ (fun _ _ _ _ _ _ _ => pss_one (ps_ret pe_str)) (HdsOk.cons ⟨rfl, by decide, .inl (B.e 4 (by decide)).g⟩ (fun _ _ _ _ _ _ _ => pss_one (ps_ret pe_str)) (HdsOk.cons ⟨rfl, by decide, .inl (B.e 5 (by decide)).g⟩ (fun _ _ _ _ _ _ _ => pss_one (ps_ret pe_str)) (HdsOk.cons ⟨rfl, by decide, .inl (B.e 6 (by decide)).g⟩ (fun _ _ _ _ _ _ _ => pss_one (ps_ret pe_str)) (HdsOk.cons ⟨rfl, by decide, .inl (B.e 7 (by decide)).g⟩ (fun _ _ _ _ _ _ _ => pss_one (ps_ret pe_str)) (HdsOk.cons ⟨rfl, by decide, .inl (B.e 8 (by decide)).g⟩ (fun _ _ _ _ _ _ _ => pss_one (ps_ret pe_str)) (HdsOk.cons ⟨rfl, by decide, .inl (B.e 9 (by decide)).g⟩ (fun _ _ _ _ _ _ _ => pss_one (ps_ret pe_str)) (HdsOk.cons ⟨rfl, by decide, .inl (B.e 10 (by decide)).g⟩ (fun _ _ _ _ _ _ _ => pss_one (ps_ret pe_str)) (HdsOk.nil))))))))))))), ?_⟩
    · obtain ⟨E', hE, g1, g2, g3, g4⟩ := h'
      exact (pss_one (ps_ret (pe_actC (E := E') (i := 0) (k := k) IX L binds tk hE room' (fun A outer s H hr2 => runs A outer s H E' hr2) rfl (.inl rfl)))).run pz s' uz Hz D Iz ⟨g1, g2, g3, g4⟩
    · refine ⟨ETold c Q, fun cls d σ' H' hE => ?_, rfl, atf, atc, q⟩
      obtain ⟨i, hi, rfl, q⟩ := hE
      exact ⟨decide (i = 0), B.m i 0 hi (by omega), fun hb _ _ => (by obtain rfl : i = 0 := of_decide_eq_true hb; exact q), fun hb0 => (by have n0 := of_decide_eq_false hb0; exact ⟨decide (i = 1), B.m i 1 hi (by omega), fun hb _ _ => (by obtain rfl : i = 1 := of_decide_eq_true hb; exact q), fun hb1 => (by have n1 := of_decide_eq_false hb1; exact ⟨decide (i = 2), B.m i 2 hi (by omega), fun hb _ _ => (by obtain rfl : i = 2 := of_decide_eq_true hb; exact q), fun hb2 => (by have n2 := of_decide_eq_false hb2; exact ⟨decide (i = 3), B.m i 3 hi (by omega), fun hb _ _ => (by obtain rfl : i = 3 := of_decide_eq_true hb; exact q), fun hb3 => (by have n3 := of_decide_eq_false hb3; exact ⟨decide (i = 4), B.m i 4 hi (by omega), fun hb _ _ => (by obtain rfl : i = 4 := of_decide_eq_true hb; exact q), fun hb4 => (by have n4 := of_decide_eq_false hb4; exact ⟨decide (i = 5), B.m i 5 hi (by omega), fun hb _ _ => (by obtain rfl : i = 5 := of_decide_eq_true hb; exact q), fun hb5 => (by have n5 := of_decide_eq_false hb5; exact ⟨decide (i = 6), B.m i 6 hi (by omega), fun hb _ _ => (by obtain rfl : i = 6 := of_decide_eq_true hb; exact q), fun hb6 => (by have n6 := of_decide_eq_false hb6; exact ⟨decide (i = 7), B.m i 7 hi (by omega), fun hb _ _ => (by obtain rfl : i = 7 := of_decide_eq_true hb; exact q), fun hb7 => (by have n7 := of_decide_eq_false hb7; exact ⟨decide (i = 8), B.m i 8 hi (by omega), fun hb _ _ => (by obtain rfl : i = 8 := of_decide_eq_true hb; exact q), fun hb8 => (by have n8 := of_decide_eq_false hb8; exact ⟨decide (i = 9), B.m i 9 hi (by omega), fun hb _ _ => (by obtain rfl : i = 9 := of_decide_eq_true hb; exact q), fun hb9 => (by have n9 := of_decide_eq_false hb9; exact ⟨decide (i = 10), B.m i 10 hi (by omega), fun hb _ _ => (by obtain rfl : i = 10 := of_decide_eq_true hb; exact q), fun hb10 => (by have n10 := of_decide_eq_false hb10; exact (by omega : False).elim)⟩)⟩)⟩)⟩)⟩)⟩)⟩)⟩)⟩)⟩)⟩
  refine wpAny_call (codeAny_mono ran fun r s2 got => ?_)
  cases r with
  | error e => exact (passL (X := X.blk s0 H0 scopeB ceB fp)) pins σ H1 s1 e s2 I1 got
  | ok fl =>
    cases fl with
    | ret u => exact I1.after got
    | next => exact False.elim got
    | brk => exact False.elim got
    | cont => exact False.elim got
end Rw
namespace Rw
open PySem PySem.Spec PyProof.Rows L2 Evl Cy
section
variable {K : PySem.W.Frag} {α β γ δ R τ : Type} {E E' : XK} {cl : Nat → Addr} {M : List Addr} {σ : L2.St} {I I' H H' : Hp} {S S' S1 S2 S3 : List Cell} {te ta tb tc to : TE} {tt : TT} {tr : TA} {t : Ty α} {u : Ty β} {w' : Ty γ} {x : α} {y : β} {v : V} {xs : List α}
/-- one thing that may change is changed -/
theorem Holds.chg {n : Nat} {c c' : Cell} {o : HO} (w : Holds M S H) (hk : S[n]? = some c) (ha : c'.a = c.a) (e : ExB c.a H H') (hc : H' c.a = some o) (hr : c'.r (del M H') o c'.x) : Holds M (S.set n c') H' ∧ Ex (del (ads S) H) (del (ads S) H') := by
  have cS : c.a ∈ ads S := List.mem_map.mpr ⟨_, List.mem_of_getElem? hk, rfl⟩
  have cM : c.a ∈ M := w.sub _ cS
  have ee : Ex (del (ads S) H) (del (ads S) H') := ex_sub (A := [c.a]) (fun a h => by rw [List.mem_singleton.mp h]; exact cS) (exb_del.mp e)
  have em := w.grow ee
  have ea := ads_set hk ha
  refine ⟨⟨fun z hz => ?_, by rw [ea]; exact w.one, fun m hm => ?_⟩, ee⟩
  · obtain ⟨i, hi⟩ := List.mem_iff_getElem?.mp hz
    have lt : n < S.length := (List.getElem?_eq_some_iff.mp hk).1
    rw [List.getElem?_set] at hi
    by_cases h : n = i
    · subst h
      rw [if_pos rfl, if_pos lt] at hi
      obtain rfl := Option.some.inj hi
      exact ⟨by rw [ha]; exact cM, o, by rw [ha]; exact hc, hr⟩
    · rw [if_neg h] at hi
      obtain ⟨h1, u, h2, h3⟩ := w.at_ z (List.mem_of_getElem? hi)
      refine ⟨h1, u, e _ _ (fun q => ?_) h2, z.up em h3⟩
      have g1 : (ads S)[i]? = some z.a := by unfold ads; rw [List.getElem?_map, hi]; rfl
      have g2 : (ads S)[n]? = some c.a := by unfold ads; rw [List.getElem?_map, hk]; rfl
      rw [q] at g1
      have li : i < (ads S).length := (List.getElem?_eq_some_iff.mp g1).1
      exact h ((List.getElem?_inj li w.one).mp (g1.trans g2.symm)).symm
  · by_cases h : m = c.a
    · rw [h, hc]; exact fun z => nomatch z
    · cases g : H m with
      | none => exact absurd g (w.live m hm)
      | some o => rw [e m o h g]; exact fun z => nomatch z
theorem set_same {c : Cell} {n : Nat} (hk : S[n]? = some c) : S.set n c = S := by
  apply List.ext_getElem? fun i => ?_
  rw [List.getElem?_set]
  by_cases h : n = i
  · subst h
    rw [if_pos rfl, if_pos (List.getElem?_eq_some_iff.mp hk).1, hk]
  · rw [if_neg h]
/-! ### lambdas that are kept -/
/-- the table of a def's code, which lambdas fill -/
def cTab (P : Addr) (q : Str) : Cell := ⟨P, Unit, fun I o _ => ∃ ps : Array Value, o = .tbl ps ∧ TriplesOk ps.toList ∧ ∀ (pos : Pos) (cv : Value), codeAmong pos ps.toList = some cv → ∃ c, cv = .ref c ∧ I c = some (LamX.CodeO c q), fun e ⟨ps, a, b, c⟩ => ⟨ps, a, b, fun pos cv h => let ⟨z, g1, g2⟩ := c pos cv h; ⟨z, g1, e _ _ g2⟩⟩, ()⟩
/-- none of what may change is a code -/
def NoCode (M : List Addr) (S : List Cell) : Prop := (∀ m ∈ M, m ∈ ads S) ∧ ∀ c ∈ S, ∀ I o, c.r I o c.x → ∀ z q, o ≠ LamX.CodeO z q
theorem nc_nil : NoCode [] [] := ⟨fun _ h => h, fun c h => by cases h⟩
theorem nc_cons {c : Cell} (h : NoCode M S) (k : ∀ I o, c.r I o c.x → ∀ z q, o ≠ LamX.CodeO z q) : NoCode (c.a :: M) (c :: S) :=
  ⟨fun m hm => by rcases List.mem_cons.mp hm with z | z; exact List.mem_cons.mpr (.inl z); exact List.mem_cons_of_mem _ (h.1 m z), fun z hz => by rcases List.mem_cons.mp hz with e | e; rw [e]; exact k; exact h.2 z e⟩
theorem nc_dice {d : Addr} {z : Dice} : ∀ I o, (cDice d z).r I o (cDice d z).x → ∀ c q, o ≠ LamX.CodeO c q := fun I o h c q e => by
  obtain rfl : o = _ := h
  unfold LamX.CodeO at e
  cases e
theorem nc_tab {P : Addr} {p : Str} : ∀ I o, (cTab P p).r I o (cTab P p).x → ∀ c q, o ≠ LamX.CodeO c q := fun I o h c q e => by
  obtain ⟨ps, rfl, _⟩ := h
  exact LamX.codeO_ne _ e.symm
theorem nc_list {d : Addr} {z : List α} : ∀ I o, (cL d t z).r I o (cL d t z).x → ∀ c q, o ≠ LamX.CodeO c q := fun I o h c q e => by
  obtain ⟨vs, rfl, _⟩ := h
  unfold LamX.CodeO at e
  cases e
theorem em_lamC {n : Nat} {P : Addr} {q : Str} {params : Arguments} {body : Expr} {scope : Scope} {cells : List (Str × Addr)} (hk : S[n]? = some (cTab P q)) (nc : NoCode M S) (r : ∀ f cc I', Ex I I' → I' f = some (LamC f q params body scope cells cc) → I' cc = some (LamX.CodeO cc q) → t.r I' (.ref f) x) :
    Em E cl M (tLamC [(P, q)] P q params body scope cells) σ I S t (.ok x) S := by
  refine em_mk rfl fun H1 i w Q qq => ?_
  obtain ⟨PM, o, h1, ps, rfl, ok, all⟩ := w.at_ _ (List.mem_of_getElem? hk)
  refine ⟨fun p hp => ?_, fun f cc H2 fn e tabs hf hc => ?_⟩
  · obtain rfl := List.mem_singleton.mp hp
    exact ⟨ps, h1, ok, fun pos cv h => let ⟨z, g1, g2⟩ := all pos cv h; ⟨z, g1, (del_some.mp g2).2⟩⟩
  · obtain ⟨ps2, g1, g2, g3⟩ := tabs (P, q) (List.mem_singleton.mpr rfl)
    have kd : ∀ z p, H2 z = some (LamX.CodeO z p) → del M H2 z = some (LamX.CodeO z p) := fun z p h => by
      refine del_some.mpr ⟨fun zm => ?_, h⟩
      obtain ⟨c, hc, rfl⟩ := List.mem_map.mp (nc.1 z zm)
      obtain ⟨_, u, hu, ru⟩ := w.at_ c hc
      by_cases zP : c.a = P
      · rw [zP] at h
        rw [h] at g1
        exact LamX.codeO_ne _ (Option.some.inj g1)
      · rw [e _ _ zP hu] at h
        exact nc.2 c hc _ _ ru _ _ (Option.some.inj h)
    obtain ⟨w2, x2⟩ := w.chg (c' := cTab P q) hk rfl e g1 ⟨ps2, rfl, g2, fun pos cv h => let ⟨z, k1, k2⟩ := g3 pos cv h; ⟨z, k1, kd z q k2⟩⟩
    rw [set_same hk] at w2
    exact qq _ H2 x2 w2 (r f cc _ (i.trans (w.grow x2)) (del_at (fresh_not w.live fn) hf) (kd cc q hc))
/-- a lambda of the def X, which raises: what it is told as -/
def kTold (X : Cx) (cl : Nat → Addr) (k : Nat) (ag : L2.St → Prop) : Ty Str := ⟨fun I v z => ∃ (f cc : Addr) (params : Arguments) (body : Expr) (scope : Scope) (tb : XK → TE) (i : Nat), v = .ref f ∧ I f = some (LamC f (X.env.qual ++ "<lambda>") params body scope (cloFrom X.env.cells scope.names []) cc) ∧ I cc = some (LamX.CodeO cc (X.env.qual ++ "<lambda>")) ∧
    LamX.LamS X.env.scope scope ∧ (∀ (pm cv ctv : Value), bindArgs (PySem.W.kla_fn "<lambda>" (X.env.qual ++ "<lambda>") params body scope (cloFrom X.env.cells scope.names []) pm cv ctv) ⟨[], []⟩ = pure []) ∧
    (∀ (A : Around) (outer : List Env) (s : Shared) (H : Hp) (E : XK), Room k (A.deeper (LamX.lamEnv X scope s.heap.objs.size f cc)) → PE (LamX.lamCx X A outer s H E scope f cc) body (tb E)) ∧ i < 11 ∧ z = kindName i ∧
    ∀ E M S σ' I', Ex I I' → ag σ' → Em E cl M (tb E) σ' I' S kN (.er i) S,
  fun e ⟨f, cc, params, body, scope, tb, i, h1, h2, h3, h4, h5, h6, h7, h8, h9⟩ => ⟨f, cc, params, body, scope, tb, i, h1, e _ _ h2, e _ _ h3, h4, h5, h6, h7, h8, fun E M S σ' I' e2 => h9 E M S σ' I' (e.trans e2)⟩⟩
theorem em_er {t' : Ty β} {k : Nat} (h : Em E cl M te σ I S t (.er k) S') : Em E cl M te σ I S t' (.er k) S' := ⟨h.ad, fun H1 i w Q _ qe => h.run H1 i w Q (fun x v H2 e => nomatch e) fun k H2 e => qe k H2 (by cases e; rfl)⟩
theorem kind_ok : ∀ i, i < 11 → (PyData.str (kindName i)).canLay0 = true := by decide +kernel
theorem em_toldB {X : Cx} {k : Nat} {σ0 : L2.St} {ag : L2.St → Prop} {z : Str} (ha : Ea E' cl M tr σ I S (aC (kTold X cl k ag) a0) (.ok (z, ())) S') (hag : ag σ0) : Em E' cl M (tToldB X σ0 cl k tr) σ I S kS (.ok z) S' :=
  em_mk ha.ad fun H1 i w Q q => ea_of ha H1 i w _ fun vs H2 e w2 r => by
    obtain ⟨v, rs, rfl, ⟨f, cc, params, body, scope, tb, j, rfl, h2, h3, h4, h5, h6, h7, rfl, h9⟩, rfl⟩ := r
    exact ⟨f, cc, params, body, scope, tb, rfl, (del_some.mp h2).2, (del_some.mp h3).2, h4, h5, h6, (h9 (ETold cl Q) M S' σ0 (del M H2) (Ex.refl _) hag).run H2 (Ex.refl _) w2 Q (fun x v H3 z => nomatch z) fun k H3 ek e3 w3 => by cases ek; exact ⟨j, h7, rfl, q _ H3 (ads_tr ha.ad e e3) w3 rfl⟩⟩
theorem em_toldC {X : Cx} {k : Nat} {ag : L2.St → Prop} {z : Str} (ha : Ea E' cl M tr σ I S (aC (kTold X cl k ag) a0) (.ok (z, ())) S') (hag : ag σ) : Em E' cl M (tToldC X cl k tr) σ I S kS (.ok z) S' :=
  em_mk ha.ad fun H1 i w Q q => ea_of ha H1 i w _ fun vs H2 e w2 r => by
    obtain ⟨v, rs, rfl, ⟨f, cc, params, body, scope, tb, j, rfl, h2, h3, h4, h5, h6, h7, rfl, h9⟩, rfl⟩ := r
    exact ⟨f, cc, params, body, scope, tb, rfl, (del_some.mp h2).2, (del_some.mp h3).2, h4, h5, h6, (h9 (ETold cl Q) M S' σ (del M H2) (Ex.refl _) hag).run H2 (Ex.refl _) w2 Q (fun x v H3 z => nomatch z) fun k H3 ek e3 w3 => by cases ek; exact ⟨j, h7, rfl, q _ H3 (ads_tr ha.ad e e3) w3 rfl⟩⟩
/-! ### more operations -/
theorem filter_yes (l : List α) (f : α → β) : (l.filter fun _ => true).map f = l.map f := by rw [List.filter_eq_self.mpr fun _ _ => rfl]
theorem o_intI {i : Int} : OpN (fun xs H Q => (∃ i, xs = [V.int i] ∧ Q (V.int i) H) ∨ ∃ k, xs = [V.bl k] ∧ Q (V.int (if k = true then 1 else 0)) H) (aC kI a0) (i, ()) kI i := fun M us H l a Q q => by
  obtain ⟨v, r, rfl, rfl, rfl⟩ := a
  exact .inl ⟨i, rfl, q _ H (Ex.refl H) rfl⟩
theorem o_intB {b : Bool} : OpN (fun xs H Q => (∃ i, xs = [V.int i] ∧ Q (V.int i) H) ∨ ∃ k, xs = [V.bl k] ∧ Q (V.int (if k = true then 1 else 0)) H) (aC kB a0) (b, ()) kI (if b = true then 1 else 0) := fun M us H l a Q q => by
  obtain ⟨v, r, rfl, rfl, rfl⟩ := a
  exact .inr ⟨b, rfl, q _ H (Ex.refl H) rfl⟩
theorem o_abs {i : Int} : OpN (fun xs H Q => ∃ i, xs = [V.int i] ∧ Q (V.int (if i < 0 then -i else i)) H) (aC kI a0) (i, ()) kI (if i < 0 then -i else i) := fun M us H l a Q q => by
  obtain ⟨v, r, rfl, rfl, rfl⟩ := a
  exact ⟨i, rfl, q _ H (Ex.refl H) rfl⟩
theorem o_lenL : OpN (fun xs H Q => ∃ p ys, xs = [.ref p] ∧ (SqL K H p ys ∨ SqT K H p ys) ∧ Q (.int ys.length) H) (aC (kL K t) a0) (xs, ()) kI (xs.length : Int) := fun M us H l a Q q => by
  obtain ⟨v, r, rfl, ⟨p, vs, rfl, hp, ha⟩, rfl⟩ := a
  exact ⟨p, vs, rfl, .inl (ex_l del_le hp), q _ H (Ex.refl H) (by show V.int _ = V.int _; rw [ha.len])⟩
theorem o_lenT : OpN (fun xs H Q => ∃ p ys, xs = [.ref p] ∧ (SqL K H p ys ∨ SqT K H p ys) ∧ Q (.int ys.length) H) (aC (kT K t) a0) (xs, ()) kI (xs.length : Int) := fun M us H l a Q q => by
  obtain ⟨v, r, rfl, ⟨p, vs, rfl, hp, ha⟩, rfl⟩ := a
  exact ⟨p, vs, rfl, .inr (ex_t del_le hp), q _ H (Ex.refl H) (by show V.int _ = V.int _; rw [ha.len])⟩
theorem mk_list {H : Hp} {vs : List V} {Q : VK} (l : ∀ m ∈ M, H m ≠ none) (a : All2 (t.r (del M H)) vs xs) (q : ∀ v H', Ex H H' → (kL K t).r (del M H') v xs → Q v H') (p : Addr) (hp : H p = none) : Q (.ref p) (upd H p (.lst vs)) :=
  q _ _ (Ex.new hp) ⟨p, vs, rfl, sq_of (del_at (fresh_not l hp) upd_same), all2_up t (ex_del (Ex.new hp)) a⟩
theorem mk_tup {H : Hp} {vs : List V} {Q : VK} (l : ∀ m ∈ M, H m ≠ none) (a : All2 (t.r (del M H)) vs xs) (q : ∀ v H', Ex H H' → (kT K t).r (del M H') v xs → Q v H') (p : Addr) (hp : H p = none) : Q (.ref p) (upd H p (.tup vs)) :=
  q _ _ (Ex.new hp) ⟨p, vs, rfl, st_of (del_at (fresh_not l hp) upd_same), all2_up t (ex_del (Ex.new hp)) a⟩
theorem o_listL : OpN (fun xs H Q => ∃ p ys, xs = [.ref p] ∧ (SqL K H p ys ∨ SqT K H p ys) ∧ ∀ l, H l = none → Q (.ref l) (upd H l (.lst ys))) (aC (kL K t) a0) (xs, ()) (kL K t) xs := fun M us H l a Q q => by
  obtain ⟨v, r, rfl, ⟨p, vs, rfl, hp, ha⟩, rfl⟩ := a
  exact ⟨p, vs, rfl, .inl (ex_l del_le hp), mk_list l ha q⟩
theorem o_listT : OpN (fun xs H Q => ∃ p ys, xs = [.ref p] ∧ (SqL K H p ys ∨ SqT K H p ys) ∧ ∀ l, H l = none → Q (.ref l) (upd H l (.lst ys))) (aC (kT K t) a0) (xs, ()) (kL K t) xs := fun M us H l a Q q => by
  obtain ⟨v, r, rfl, ⟨p, vs, rfl, hp, ha⟩, rfl⟩ := a
  exact ⟨p, vs, rfl, .inr (ex_t del_le hp), mk_list l ha q⟩
theorem all_ints {H : Hp} {vs : List V} {ns : List Int} (a : All2 (kI.r H) vs ns) : vs = ns.map V.int := by
  induction a with
  | nil => rfl
  | cons r _ ih => rw [List.map_cons, ← ih, show _ = V.int _ from r]
theorem all_bools {H : Hp} {vs : List V} {ns : List Bool} (a : All2 (kB.r H) vs ns) : vs = ns.map V.bl := by
  induction a with
  | nil => rfl
  | cons r _ ih => rw [List.map_cons, ← ih, show _ = V.bl _ from r]
theorem o_sumL {ns : List Int} : OpN (rSum K) (aC (kL K kI) a0) (ns, ()) kI ns.sum := fun M us H l a Q q => by
  obtain ⟨v, r, rfl, ⟨p, vs, rfl, hp, ha⟩, rfl⟩ := a
  exact ⟨p, ns, rfl, ex_l del_le (by rw [← all_ints ha]; exact hp), q _ H (Ex.refl H) rfl⟩
theorem o_isN {x : Option α} : Op2 (fun x y H Q => y = .non ∧ Q (.bl (decide (x = .non))) H) (kO t) x kN () kB x.isNone := fun M u w H l a b Q q => by
  obtain rfl : w = .non := b
  refine ⟨rfl, q _ H (Ex.refl H) ?_⟩
  cases x with
  | none => rw [show u = .non from a]; rfl
  | some y => show V.bl _ = V.bl _; rw [decide_eq_false a.2]; rfl
theorem o_notN {x : Option α} : Op2 (fun x y H Q => y = .non ∧ Q (.bl (!decide (x = .non))) H) (kO t) x kN () kB x.isSome := fun M u w H l a b Q q => by
  obtain rfl : w = .non := b
  refine ⟨rfl, q _ H (Ex.refl H) ?_⟩
  cases x with
  | none => rw [show u = .non from a]; rfl
  | some y => show V.bl _ = V.bl _; rw [decide_eq_false a.2]; rfl
/-- None or a number against a number -/
theorem o_eqOI {x : Option Int} {j : Int} : Op2 rEq (kO kI) x kI j kB (decide (x = some j)) := fun M u w H l a b Q q => by
  obtain rfl : w = .int j := b
  cases x with
  | none =>
    obtain rfl : u = .non := a
    exact ⟨rfl, q _ H (Ex.refl H) (by show V.bl _ = V.bl _; congr 1)⟩
  | some y =>
    obtain rfl : u = .int y := a.1
    exact ⟨rfl, q _ H (Ex.refl H) (by show V.bl _ = V.bl _; congr 1; simp)⟩
theorem em_some (h : Em E cl M te σ I S t (.ok x) S') (nn : ∀ H v, t.r H v x → v ≠ .non) : Em E cl M te σ I S (kO t) (.ok (some x)) S' :=
  em_mk h.ad fun H1 i w Q q => em_of h H1 i w Q fun v H2 e w2 r => q v H2 e w2 ⟨r, nn _ _ r⟩
theorem nn_2 {a : Ty α} {b : Ty β} {x : α × β} : ∀ H v, (k2 K a b).r H v x → v ≠ .non := fun H v ⟨p, _, _, h, _⟩ z => by rw [h] at z; cases z
theorem nn_I {x : Int} : ∀ H v, kI.r H v x → v ≠ .non := fun H v h z => by rw [show v = .int x from h] at z; cases z
/-- x in (not in) a list of data -/
theorem o_inL {i : Nat} (D : Dq K t i) (h : i < 64) {x : α} {xs : List α} [Decidable (x ∈ xs)] : Op2 (rInD K) t x (kL K t) xs kB (decide (x ∈ xs)) := fun M v1 v2 H l a b Q q => by
  obtain ⟨p, vs, rfl, hp, ha⟩ := b
  have ha2 : All2 (t.r H) vs xs := all2_up t del_le ha
  have al := dp_all D ha2
  refine ⟨D.enc x, xs.map D.enc, dp_upM del_le _ _ (D.dp a).1, .lst (ex_l del_le hp) al.1, shaped_of (D.dp a).2 (Nat.le_trans (D.dep x) (by omega)), shaped_of (by rw [PyData.canLay0]; exact al.2) (by rw [PyData.depth]; have := dep_all D xs; omega), q _ H (Ex.refl H) ?_⟩
  show V.bl _ = V.bl _
  congr 1
  rw [Bool.eq_iff_iff, List.any_eq_true, decide_eq_true_iff]
  constructor
  · rintro ⟨z, hz, e⟩
    obtain ⟨y, hy, rfl⟩ := List.mem_map.mp hz
    rw [← (D.eq _ _).mp e]
    exact hy
  · intro h
    exact ⟨D.enc x, List.mem_map.mpr ⟨x, h, rfl⟩, (D.eq _ _).mpr rfl⟩
theorem o_niL {i : Nat} (D : Dq K t i) (h : i < 64) {x : α} {xs : List α} [Decidable (x ∈ xs)] : Op2 (rNotInD K) t x (kL K t) xs kB (!decide (x ∈ xs)) := fun M v1 v2 H l a b Q q => by
  obtain ⟨p, vs, rfl, hp, ha⟩ := b
  have ha2 : All2 (t.r H) vs xs := all2_up t del_le ha
  have al := dp_all D ha2
  refine ⟨D.enc x, xs.map D.enc, dp_upM del_le _ _ (D.dp a).1, .lst (ex_l del_le hp) al.1, shaped_of (D.dp a).2 (Nat.le_trans (D.dep x) (by omega)), shaped_of (by rw [PyData.canLay0]; exact al.2) (by rw [PyData.depth]; have := dep_all D xs; omega), q _ H (Ex.refl H) ?_⟩
  show V.bl _ = V.bl _
  congr 2
  rw [Bool.eq_iff_iff, List.any_eq_true, decide_eq_true_iff]
  constructor
  · rintro ⟨z, hz, e⟩
    obtain ⟨y, hy, rfl⟩ := List.mem_map.mp hz
    rw [← (D.eq _ _).mp e]
    exact hy
  · intro h
    exact ⟨D.enc x, List.mem_map.mpr ⟨x, h, rfl⟩, (D.eq _ _).mpr rfl⟩
/-! dicts that are only asked -/
/-- a dict of whole numbers to values, told by what is found -/
def kFn (t : Ty α) : Ty (Int → Option α) := ⟨fun H v f => ∃ p kvs, v = .ref p ∧ H p = some (.dK kvs) ∧ ∀ k : Int, (valV kvs (.inl k) = none ∧ f k = none) ∨ ∃ w y, valV kvs (.inl k) = some w ∧ f k = some y ∧ t.r H w y,
  fun e ⟨p, kvs, h1, h2, h3⟩ => ⟨p, kvs, h1, e _ _ h2, fun k => (h3 k).imp id fun ⟨w, y, a, b, c⟩ => ⟨w, y, a, b, t.up e c⟩⟩⟩
def dictOf (l : List (Int × α)) (k : Int) : Option α := (l.reverse.find? fun q => decide (q.1 = k)).map (·.2)
theorem dictOf_cons (l : List (Int × α)) (a : Int × α) (k : Int) : dictOf (a :: l) k = (dictOf l k).or (if a.1 = k then some a.2 else none) := by
  unfold dictOf
  rw [List.reverse_cons, List.find?_append, Option.map_or]
  congr 1
  by_cases h : a.1 = k
  · simp [h]
  · simp [h]
/-- keys and values answer to a function -/
def KeyFn (R : V → α → Prop) (kvs : List (Key × V)) (f : Int → Option α) : Prop := ∀ k : Int, (valV kvs (.inl k) = none ∧ f k = none) ∨ ∃ w y, valV kvs (.inl k) = some w ∧ f k = some y ∧ R w y
theorem keyFn_put {R : V → α → Prop} {kvs : List (Key × V)} {f : Int → Option α} {k : Int} {w : V} {y : α} (h : KeyFn R kvs f) (r : R w y) : KeyFn R (putK kvs (.inl k) w) (fun j => if j = k then some y else f j) := fun j => by
  rw [valV_put]
  by_cases e : j = k
  · rw [e, if_pos rfl]
    exact .inr ⟨w, y, rfl, by simp, r⟩
  · rw [if_neg (fun z => e (Sum.inl.inj z))]
    simp only [if_neg e]
    exact h j
theorem keyFn_merge {R : V → α → Prop} : ∀ (l : List (Int × α)) (kvs acc : List (Key × V)) (f : Int → Option α), All2 (fun (kv : Key × V) (x : Int × α) => kv.1 = .inl x.1 ∧ R kv.2 x.2) kvs l → KeyFn R acc f → KeyFn R (mergeK acc kvs) (fun k => (dictOf l k).or (f k))
  | [], kvs, acc, f, h, g => by
    cases h
    exact g
  | a :: l, kvs, acc, f, h, g => by
    cases h with
    | @cons kv _ m _ r h =>
      obtain ⟨k, w⟩ := kv
      obtain ⟨hk, hr⟩ := r
      have hk : k = .inl a.1 := hk
      subst hk
      have step := keyFn_merge l m (putK acc (.inl a.1) w) _ h (keyFn_put (k := a.1) g hr)
      intro k
      have s := step k
      simp only [dictOf_cons] at s ⊢
      have e : ((dictOf l k).or (if a.1 = k then some a.2 else none)).or (f k) = (dictOf l k).or (if k = a.1 then some a.2 else f k) := by
        rw [Option.or_assoc]
        congr 1
        by_cases z : a.1 = k
        · simp [z]
        · have z2 : ¬ k = a.1 := fun y => z y.symm
          simp [z, z2]
      simp only [e]
      exact s
theorem o_dictP {l : List (Int × α)} : OpN (fun xs H Q => ∃ (a : Addr) (ps : List Addr) (kvs : List (Key × V)), xs = [.ref a] ∧ SqL K H a (ps.map V.ref) ∧ Paired (fun p kv => SqT K H p [kV kv.1, kv.2]) ps kvs ∧ ∀ p, H p = none → Q (.ref p) (upd H p (.dK (mergeK [] kvs)))) (aC (kL K (k2 K kI t)) a0) (l, ()) (kFn t) (dictOf l) := fun M us H live a Q q => by
  obtain ⟨v, r, rfl, ⟨p, vs, rfl, hp, ha⟩, rfl⟩ := a
  have cut : ∀ (vs : List V) (l : List (Int × α)), All2 ((k2 K kI t).r (del M H)) vs l → ∃ ps kvs, vs = ps.map V.ref ∧ Paired (fun p (kv : Key × V) => SqT K H p [kV kv.1, kv.2]) ps kvs ∧ All2 (fun (kv : Key × V) (x : Int × α) => kv.1 = .inl x.1 ∧ t.r (del M H) kv.2 x.2) kvs l := by
    intro vs l h
    induction h with
    | nil => exact ⟨[], [], rfl, .nil, .nil⟩
    | cons r _ ih =>
      obtain ⟨p, u, w, rfl, hs, h1, h2⟩ := r
      obtain ⟨ps, kvs, rfl, b, c⟩ := ih
      obtain rfl : u = .int _ := h1
      exact ⟨p :: ps, (.inl _, w) :: kvs, rfl, .cons (ex_t del_le hs) b, .cons ⟨rfl, h2⟩ c⟩
  obtain ⟨ps, kvs, rfl, b, c⟩ := cut vs l ha
  refine ⟨p, ps, kvs, rfl, ex_l del_le hp, b, fun d hd => q _ _ (Ex.new hd) ⟨d, _, rfl, del_at (fresh_not live hd) upd_same, ?_⟩⟩
  have fin := keyFn_merge (R := t.r (del M H)) l kvs [] (fun _ => none) c fun k => .inl ⟨rfl, rfl⟩
  intro k
  have g := fin k
  simp only [Option.or_none] at g
  rcases g with h | ⟨w, y, h1, h2, h3⟩
  · exact .inl h
  · exact .inr ⟨w, y, h1, h2, t.up (ex_del (Ex.new hd)) h3⟩
theorem em_dget {f : Int → Option α} {k : Int} (ha : Em E cl M ta σ I S (kFn t) (.ok f) S1) (hb : Em E cl M tb σ I S1 kI (.ok k) S2) (h : f k = some x) : Em E cl M (tDGet ta tb) σ I S t (.ok x) S2 :=
  em_mk (hb.ad.trans ha.ad) fun H1 i w Q q => em_of ha H1 i w _ fun v1 H2 e1 w1 r1 => em_of hb H2 (i.trans (w.grow e1)) w1 _ fun v2 H3 e2 w2 r2 => by
    obtain ⟨p, kvs, rfl, hp, hk⟩ := (kFn t).up (w1.grow e2) r1
    obtain rfl : v2 = .int k := r2
    rcases hk k with ⟨_, z⟩ | ⟨w, y, g1, g2, g3⟩
    · rw [h] at z; cases z
    · rw [h] at g2
      obtain rfl := Option.some.inj g2
      exact ⟨p, w, rfl, by rw [← g1]; exact DGet.k (k := .inl k) (del_some.mp hp).2, q w H3 (ads_tr ha.ad e1 e2) w2 g3⟩
theorem em_dget1 {f : Int → Option α} {k : Int} (ha : Em E cl M ta σ I S (kFn t) (.ok f) S1) (hb : Em E cl M tb σ I S1 kI (.ok k) S2) (nn : ∀ H v x, t.r H v x → v ≠ .non) : Em E cl M (tDGet1 ta tb) σ I S (kO t) (.ok (f k)) S2 :=
  em_mk (hb.ad.trans ha.ad) fun H1 i w Q q => em_of ha H1 i w _ fun v1 H2 e1 w1 r1 => by
    obtain ⟨p, kvs, rfl, hp, hk⟩ := r1
    refine ⟨p, rfl, .inl ⟨kvs, .inl (del_some.mp hp).2⟩, em_of hb H2 (i.trans (w.grow e1)) w1 _ fun v2 H3 e2 w2 r2 => ?_⟩
    obtain rfl : v2 = .int k := r2
    have hp3 := (w1.grow e2) _ _ hp
    refine ⟨valV kvs (.inl k), DGet.k (k := .inl k) (del_some.mp hp3).2, ?_⟩
    rcases hk k with ⟨a, b⟩ | ⟨w, y, g1, g2, g3⟩
    · rw [a]
      exact q _ H3 (ads_tr ha.ad e1 e2) w2 (by rw [b]; rfl)
    · rw [g1]
      exact q w H3 (ads_tr ha.ad e1 e2) w2 (by rw [g2]; exact ⟨t.up (w1.grow e2) g3, nn _ _ _ g3⟩)
end
end Rw
namespace Rw
open PySem PySem.Spec PyProof.Rows L2 Evl
/-- the greatest of a dict's values: whole numbers, one at least -/
def tTopVal (td : TE) : TE := fun σ H Q => td σ H fun x H1 => ∃ (d : Addr) (kvs : List (Key × V)) (ns : List Int), x = V.ref d ∧ H1 d = some (.dK kvs) ∧ kvs.map (·.2) = ns.map V.int ∧ 0 < ns.length ∧ ∀ m, m ∈ ns → (∀ n ∈ ns, n ≤ m) → Q (.int m) H1
theorem val_nth {kvs : List (Key × V)} {ns : List Int} (e : kvs.map (·.2) = ns.map V.int) {i : Nat} {k : Key} {x : V} (h : kvs[i]? = some (k, x)) : x = .int (ns.getD i 0) := by
  have a : (kvs.map (·.2))[i]? = some x := by rw [List.getElem?_map, h]; rfl
  rw [e, List.getElem?_map] at a
  cases b : ns[i]? with
  | none => rw [b] at a; cases a
  | some n => rw [b] at a; rw [← Option.some.inj a, List.getD_eq_getElem?_getD, b]; rfl
theorem top_in {ns : List Int} (h : 0 < ns.length) : ns.getD (argBest (fun i j => decide (ns.getD i 0 > ns.getD j 0)) (ns.length - 1)) 0 ∈ ns ∧ ∀ n ∈ ns, n ≤ ns.getD (argBest (fun i j => decide (ns.getD i 0 > ns.getD j 0)) (ns.length - 1)) 0 := by
  obtain ⟨lo, all⟩ := argBest_gt (fun i => ns.getD i 0) (ns.length - 1)
  generalize argBest (fun i j => decide (ns.getD i 0 > ns.getD j 0)) (ns.length - 1) = b at lo all ⊢
  have get : ∀ i, i < ns.length → ns.getD i 0 ∈ ns := fun i hi => by rw [List.getD_eq_getElem?_getD, List.getElem?_eq_getElem hi]; exact List.getElem_mem hi
  refine ⟨get b (by omega), fun n hn => ?_⟩
  obtain ⟨i, hi, rfl⟩ := List.mem_iff_getElem.mp hn
  have g := all i (by omega)
  rw [show ns.getD i 0 = ns[i] by rw [List.getD_eq_getElem?_getD, List.getElem?_eq_getElem hi]; rfl] at g
  exact g
section
variable {X : Cx} {o : Expr} {p pos apos mpos : Pos} {td : TE}
theorem pe_topVal (hc : X.calm = true) (hm : X.mg "max" = none) (hd : PE X o td) (hg : Gl X "max" := by rfl) (hbase : attributeBase o "values" X.env (eval o X.env) = eval o X.env := by rfl) (hline : (apos.endLine == mpos.line) = true := by rfl)
    (hse : starEach [Expr.Call (.Attribute o "values" apos) [] [] mpos] X.env = [(false, eval (Expr.Call (.Attribute o "values" apos) [] [] mpos) X.env)] := by rfl) :
    PE X (.Call (.Name "max" p) [.Call (.Attribute o "values" apos) [] [] mpos] [] pos) (tTopVal td) := ⟨fun pins s σ H Q I want => by
  refine wpAny_Call_Name_kw (ld_blt I hg hm (u := .builtin "max") (by first | rfl | decide +kernel) ?_ (by decide +kernel) (by decide +kernel))
  rw [hse]
  refine PySem.callWith_builtin1 (wpAny_Call_method0_late hbase hline (thn (hd.run pins s σ H _ I want) fun v st ⟨x, G, J, rel, d, kvs, ns, ex, atd, vals, some1, q⟩ => ?_))
  subst ex
  obtain rfl : v = Value.ref d := rel
  obtain ⟨_, sys, rows, like, held⟩ := dk_of J.hok atd
  obtain ⟨ep, tab⟩ := held.dictAt
  have tab0 := tab
  obtain ⟨ob, _, obAt, obIs, _⟩ := tab0
  refine ⟨"dict", "dict.values", F.plainAttrs_dict, F.slot_dict_values, F.type_dict_values, ⟨ob, obAt, obIs.1⟩, fun b e => (by cases e; exact ⟨ob, obAt, obIs.2.1⟩), Calls.callWith_builtin rfl (PySem.evalArgs_none (call_meetsIn F.slot_dict_values ⟨ob, obAt, obIs.1⟩ F.entry_dict_values (F.args_dict_values_1 _) (meets_dict_values (mixKind X.prog X.w) d sys) ⟨⟨rows, held⟩, ?_⟩))⟩
  generalize vo : ({ cls := .type "dict_values", data := .fields #[.ref d] } : Obj) = view
  have up1 : ∀ b u, st.heap.get? b = some u → (st.heap.push view).get? b = some u := fun b u e => Heap.get?_push_of_some _ e
  have rows_len : rows.length = ns.length := by
    have a := congrArg List.length vals
    rw [List.length_map, List.length_map] at a
    rw [← KV.length like, a]
  have nums : ∀ (i : Nat) (u : Value), (∃ k, rows[i]? = some (k, u)) → ∃ t, u = Value.int (ns.getD i 0) t := fun i u ⟨k, hk⟩ => by
    obtain ⟨x, h1, h2⟩ := KV.at' like hk
    rw [val_nth vals h1] at h2
    exact h2
  have viewAt : (st.heap.push view).get? st.heap.objs.size = some view := Heap.get?_push_size _ (by rw [← vo]; rfl)
  have size1 : (st.heap.push view).objs.size = st.heap.objs.size + 1 := Heap.size_push _ _
  have below : d < st.heap.objs.size := Heap.lt_size obAt
  refine call_max_walk (wpAny_pyIter_values (v := st.heap.objs.size) (d := d) ⟨view, viewAt, by rw [← vo], by rw [← vo]⟩ (tab.keep up1) ?_)
  refine ⟨_, _, _, _, _, _, _, rfl, Walks.dictValues (knd := mixKind X.prog X.w) (A := X.A.in1) (I.ok.hd hc) (st.heap.push view).objs.size d (by rw [size1]; exact Nat.ne_of_lt (Nat.lt_succ_of_lt below)) rows ep, ⟨⟨_, Heap.get?_push_size _ rfl, rfl, rfl⟩, (tab.keep up1).keep fun b u e => Heap.get?_push_of_some _ e⟩, fun b hb => ?_, by omega, CmpOf.ints_gt (fun i => ns.getD i 0) nums, fun u h' tk isbest kept => ?_⟩
  · show b < ((st.heap.push view).push _).objs.size
    rw [Heap.size_push]
    rcases List.mem_cons.mp hb with z | z
    · rw [z]
      exact Nat.lt_succ_self _
    · rw [List.mem_singleton.mp z, size1]
      exact Nat.lt_succ_of_lt (Nat.lt_succ_of_lt below)
  · obtain ⟨t, rfl⟩ := nums _ u isbest
    obtain ⟨t1, t2⟩ := top_in some1
    rw [rows_len]
    refine ⟨.int _, G, J.kept (t' := tk) fun b u e => kept b u (fun z => ?_) (Heap.get?_push_of_some _ (up1 b u e)), ⟨t, rfl⟩, q _ t1 t2⟩
    have lo := Heap.lt_size e
    rw [List.mem_singleton.mp z, size1] at lo
    exact Nat.not_succ_lt_self lo⟩
end
end Rw
namespace Rw
/-- a for whose turns never end it badly -/
theorem forK_ok {α τ : Type} {b : α → τ → (τ → Bool) → (τ → Bool) → Bool} {k : τ → Bool} (Inv : List α → τ → Prop) (step : ∀ x rest s kn, Inv (x :: rest) s → (∀ s', Inv rest s' → kn s' = true) → b x s kn k = true) (fin : ∀ s, Inv [] s → k s = true) : ∀ (xs : List α) (s : τ), Inv xs s → forK b k xs s = true
  | [], s, h => fin s h
  | x :: xs, s, h => step x xs s _ h fun s' h' => forK_ok Inv step fin xs s' h'
/-- rising lists of the same numbers are one -/
theorem rise_ext : ∀ {l m : List Int}, l.Pairwise (· < ·) → m.Pairwise (· < ·) → (∀ x, x ∈ l ↔ x ∈ m) → l = m
  | [], [], _, _, _ => rfl
  | [], b :: m, _, _, h => by have := (h b).mpr List.mem_cons_self; cases this
  | a :: l, [], _, _, h => by have := (h a).mp List.mem_cons_self; cases this
  | a :: l, b :: m, hl, hm, h => by
    obtain ⟨l1, l2⟩ := List.pairwise_cons.mp hl
    obtain ⟨m1, m2⟩ := List.pairwise_cons.mp hm
    have e : a = b := by
      rcases List.mem_cons.mp ((h a).mp List.mem_cons_self) with z | z
      · exact z
      · rcases List.mem_cons.mp ((h b).mpr List.mem_cons_self) with y | y
        · exact y.symm
        · have := m1 a z; have := l1 b y; omega
    subst e
    rw [rise_ext l2 m2 fun x => ⟨fun hx => ?_, fun hx => ?_⟩]
    · rcases List.mem_cons.mp ((h x).mp (List.mem_cons_of_mem _ hx)) with z | z
      · have := l1 x hx; omega
      · exact z
    · rcases List.mem_cons.mp ((h x).mpr (List.mem_cons_of_mem _ hx)) with z | z
      · have := m1 x hx; omega
      · exact z
theorem rise_rng (lo hi : Int) : (rng lo hi).Pairwise (· < ·) := by
  unfold rng
  rw [List.pairwise_map]
  exact (List.pairwise_lt_range (n := (hi - lo).toNat)).imp fun h => by omega
theorem rise_filter {l : List Int} (h : l.Pairwise (· < ·)) (p : Int → Bool) : (l.filter p).Pairwise (· < ·) := h.sublist (List.filter_sublist)
/-- so many numbers from a on by steps -/
def steps (a w : Int) (k : Nat) : List Int := (List.range k).map fun i => a + ((i : Nat) : Int) * w
theorem steps_len {a w : Int} {k : Nat} : (steps a w k).length = k := by unfold steps; rw [List.length_map, List.length_range]
theorem steps_head {a w : Int} {k : Nat} (h : 0 < k) : (steps a w k).headD 0 = a := by
  cases k with
  | zero => omega
  | succ k =>
    unfold steps
    rw [List.range_succ_eq_map]
    simp
theorem steps_rise {a w : Int} {k : Nat} (h : 0 < w) : (steps a w k).Pairwise (· < ·) := by
  unfold steps
  rw [List.pairwise_map]
  refine (List.pairwise_lt_range (n := k)).imp fun {i j} q => ?_
  have : ((i : Nat) : Int) * w < ((j : Nat) : Int) * w := Int.mul_lt_mul_of_pos_right (by omega) h
  omega
theorem steps_mem {a w x : Int} {k : Nat} : x ∈ steps a w k ↔ ∃ i : Nat, i < k ∧ x = a + (i : Int) * w := by
  unfold steps
  rw [List.mem_map]
  constructor
  · rintro ⟨i, hi, rfl⟩
    exact ⟨i, List.mem_range.mp hi, rfl⟩
  · rintro ⟨i, hi, rfl⟩
    exact ⟨i, List.mem_range.mpr hi, rfl⟩
theorem filter_steps {lo hi a w : Int} {k : Nat} {p : Int → Bool} (hw : 0 < w) (h : ∀ x, (lo ≤ x ∧ x < hi ∧ p x = true) ↔ ∃ i : Nat, i < k ∧ x = a + (i : Int) * w) : (rng lo hi).filter p = steps a w k := by
  refine rise_ext (rise_filter (rise_rng _ _) _) (steps_rise hw) fun x => ?_
  rw [List.mem_filter, rng_mem, steps_mem, ← h]
  exact ⟨fun ⟨⟨a, b⟩, c⟩ => ⟨a, b, c⟩, fun ⟨a, b, c⟩ => ⟨⟨a, b⟩, c⟩⟩
end Rw
namespace Rw
open PySem PySem.Spec PyProof.Rows L2 Evl
local macro_rules | `(tactic| walk_at "sq") => `(tactic| first | assumption | exact SqL.of (by assumption) | exact SqT.of (by assumption))
local macro_rules | `(tactic| walk_at "at") => `(tactic| first | exact atI_nat (j := 0) rfl | exact atI_nat (j := 1) rfl | exact atI_nat (j := 2) rfl | exact atI_nat (j := 3) rfl)
local macro_rules | `(tactic| walk_at "rv") => `(tactic| first
  | with_reducible exact rv_I0
  | ((with_reducible refine' rv_I ?k1); (case k1 => first | (show (0 : Int) < _; omega) | exact ⟨by omega, by omega⟩ | exact .inr ⟨by omega, by omega⟩ | exact .inl ⟨by omega, by omega⟩ | exact ⟨by decide, by decide, by decide⟩))
  | ((with_reducible refine' rv_eq ?k1); (case k1 => exact rfl))
  | ((with_reducible refine' rv_ne ?k1); (case k1 => exact rfl))
  | (refine' rv_ixL ?k1 ?k2; (case k1 => walk_at "sq"); (case k2 => walk_at "at"))
  | (refine' rv_ixT ?k1 ?k2; (case k1 => walk_at "sq"); (case k2 => walk_at "at")))
local macro_rules | `(tactic| walk_at "rc") => `(tactic| first | exact rc_int1 | exact rc_int1b | exact rc_abs)
local macro_rules | `(tactic| walk_at "ea") => `(tactic| first
  | with_reducible exact ea_nil
  | ((with_reducible refine' ea_cons ?k1 ?k2); (case k1 => walk_at "ev"); (case k2 => walk_at "ea")))
local macro_rules | `(tactic| walk_at "ev") => `(tactic| first
  | with_reducible exact ev_c
  | ((with_reducible refine' ev_var ?k1); (case k1 => exact rfl))
  | ((with_reducible refine' ev_op ?k1 ?k2 ?k3); (case k1 => walk_at "ev"); (case k2 => walk_at "ev"); (case k3 => walk_at "rv"))
  | ((with_reducible refine' et_chain ?k1 ?k2 ?k3 ?k4 ?k5); (case k1 => walk_at "ev"); (case k2 => walk_at "ev"); (case k3 => (intro _; walk_at "ev")); (case k4 => walk_at "rv"); (case k5 => (intro _; walk_at "rv")))
  | ((with_reducible refine' ev_cb ?k1 ?k2); (case k1 => walk_at "ea"); (case k2 => walk_at "rc")))
local macro_rules | `(tactic| walk_at "et") => `(tactic| first
  | ((with_reducible refine' et_test ?k1); (case k1 => walk_at "ev"))
  | ((with_reducible refine' et_B ?k1); (case k1 => walk_at "ev"))
  | ((with_reducible refine' et_and ?k1 ?k2); (case k1 => walk_at "et"); (case k2 => (intro _; walk_at "et")))
  | ((with_reducible refine' et_or ?k1 ?k2); (case k1 => walk_at "et"); (case k2 => (intro _; walk_at "et")))
  | ((with_reducible refine' et_not ?k1); (case k1 => walk_at "et")))

abbrev sRounds : Stmt := topS 25
theorem scRounds : FnScope ["script", "most", "cells", "cell"] ["script", "most"] (defScope sRounds) := ⟨rfl, rfl, rfl, by decide +kernel, rfl, by decide +kernel, by decide +kernel⟩
theorem cut_take1 (xs : List V) : cutV xs none (some 1) = xs.take 1 := by
  unfold cutV
  have e : HT.sIx xs.length xs.length (some 1) = min 1 xs.length := HT.sIx_nat xs.length xs.length 1
  rw [HT.sIx_none, e]
  cases xs with
  | nil => rfl
  | cons x r =>
    rw [show min 1 (x :: r).length = 1 by rw [List.length_cons]; omega]
    rfl
section
variable {P : Program} {w : World} {K : PySem.W.Frag} {mg : Str → Option Value} {base : Heap}
def spRounds (K : PySem.W.Frag) : Sp := fun vs H Q _ => ∃ (s : Addr) (ns : List Int), vs = [.ref s, .int 1] ∧ SqL K H s (ns.map V.int) ∧
  ∀ r d a b c H', H r = none → H d = none → r ≠ d → Ex H H' → H' r = some (.lst [.ref d]) → H' d = some (.lst [.int a, .int b, .int c]) → Q (.ref r) H'
theorem ok_rounds {f : Addr} {fd : FuncData} (F : Fun K "_law_rounds" "_law_rounds" sRounds f fd) (cD : Cal P w K mg base 1 "_law_dice" spDice []) : FnOk P w K mg base (L2.CX P w) 2 f fd ["script", "most"] (spRounds K) := by
  refine F.okX scRounds (fun vs H Q E h => ?_) (fun cdv A outer s H vs Q E hr h => ?_)
  · obtain ⟨s, ns, rfl, _⟩ := h
    rfl
  · obtain ⟨sc, ns, rfl, hS, q⟩ := h
    refine ⟨_, pss_cons (ps_set (i := 2) scRounds.nd rfl (.inl rfl) (pe_slice sl_list (pv 0) po_none (po_some (pv 1))))
      (pss_cons (ps_if (pt_cmpR (op_eqD hr.units) (pv 2) (pe_lst pa_nil) (nomark _)) (pss_one (ps_set (i := 2) scRounds.nd rfl (.inl rfl) (pe_lst (pa_cons pe_int pa_nil)))) pss_nil)
      (pss_one (ps_ret (pe_lc (own := [("cell", 3)]) (g := gName 3) (tt := tYes) rfl scRounds.nd (pi_list (pv 2)) (blkOk_by (own := [("cell", 3)]) (N := ["script", "most", "cells", "cell"]) (sc := defScope sRounds) (by decide +kernel)) (fun _ _ _ _ _ => pg_name (i := 3) scRounds.nd rfl (Or.inl rfl)) (fun _ _ _ _ _ => pts_nil) (fun _ _ _ _ _ => pe_k cD hr (by decide) passL (pa_cons (pv 3) pa_nil)))))), ?_⟩
    -- the comprehension, over a list of one item
    have fin : ∀ (l2 : Addr) (x : Int) (H1 : Hp), Ex H H1 → H1 l2 = some (.lst [.int x]) → tRet (tLc (iList K (tVar 2)) (gName 3) tYes (tCall spDice [] E0 (tCons (tVar 3) tNil)) [3]) { nx := fun _ H' => Q .non H', rt := Q } [some (.ref sc), some (.int 1), some (.ref l2), none] H1 := fun l2 x H1 e1 hl => by
      refine ⟨.ref l2, rfl, l2, rfl, ⟨_, SqL.of hl⟩, fun Dl hD => lc_list (K := K) (a := l2) (xs := [.int x]) (fun i H' => (i = 0 ∧ H' = upd H1 Dl (.lst [])) ∨ (i = 1 ∧ ∃ d a b c, H1 d = none ∧ Dl ≠ d ∧ Ex H1 H' ∧ H' Dl = some (.lst [.ref d]) ∧ H' d = some (.lst [.int a, .int b, .int c])))
        (.inl ⟨rfl, rfl⟩) (fun i H' _ hP => ?_) (fun i y H' hy hP => ?_) fun H' hP => ?_⟩
      · have nl : l2 ≠ Dl := ne_of_none hl hD
        rcases hP with ⟨_, rfl⟩ | ⟨_, d, a, b, c, _, _, e, _⟩
        · exact SqL.of (by rw [upd_ne nl]; exact hl)
        · exact SqL.of (e _ _ hl)
      · have hi : i = 0 := by
          cases i with
          | zero => rfl
          | succ i => simp at hy
        subst hi
        obtain rfl : V.int x = y := Option.some.inj hy
        rcases hP with ⟨_, rfl⟩ | ⟨h, _⟩
        · refine ⟨rfl, .int x, rfl, x, rfl, fun p a b c H2 hp e2 h2 => ?_⟩
          have hDl : H2 Dl = some (.lst []) := e2 _ _ upd_same
          have npD : Dl ≠ p := ne_of_none (H := upd H1 Dl (.lst [])) upd_same hp
          have hp1 : H1 p = none := by rw [upd_ne npD.symm] at hp; exact hp
          refine ⟨[], hDl, by decide, .inr ⟨rfl, p, a, b, c, hp1, npD, fun z o hz => ?_, upd_same, by rw [upd_ne npD.symm]; exact h2⟩⟩
          rw [upd_ne (ne_of_none hz hD)]
          exact e2 _ _ (by rw [upd_ne (ne_of_none hz hD)]; exact hz)
        · cases h
      · rcases hP with ⟨h, _⟩ | ⟨_, d, a, b, c, hd, ne, e, g1, g2⟩
        · cases h
        · exact q Dl d a b c H' (fresh_back e1 hD) (fresh_back e1 hd) ne (e1.trans e) g1 g2
    refine q_asgL (xs := (ns.map V.int).take 1) (by
        have h := el_sl (K := K) (σ := [some (.ref sc), some (.int 1), none, none]) (H := H) (ev_var (i := 0) rfl) eo_none (eo_some (ev_var (i := 1) rfl)) hS
        rw [cut_take1] at h
        exact h) fun l H1 hl e1 h1 => ?_
    cases ns with
    | nil =>
      have h1 : H1 l = some (.lst []) := h1
      refine q_when (b := true) (fun H2 e2 Q2 q2 => ⟨.ref l, rfl, by decide, fun l2 hl2 => ⟨.list [], .list [], .lst (SqL.of (by rw [upd_ne (ne_of_none (e2 _ _ h1) hl2)]; exact e2 _ _ h1)) .nil, .lst (SqL.of upd_same) .nil, rfl, rfl, true, rfl, q2 _ (Ex.new hl2)⟩⟩) (fun _ H2 e2 => ?_) (fun z => nomatch z)
      refine s_asgL (el_lst (by walk_at "ea") (by show 1 ≤ 100000; decide)) fun l2 H3 hl2 e3 h3 => fin l2 0 H3 ((e1.trans e2).trans e3) h3
    | cons n r =>
      have h1 : H1 l = some (.lst [.int n]) := h1
      refine q_when (b := false) (fun H2 e2 Q2 q2 => ⟨.ref l, rfl, by decide, fun l2 hl2 => ⟨.list [.int n], .list [], .lst (SqL.of (by rw [upd_ne (ne_of_none (e2 _ _ h1) hl2)]; exact e2 _ _ h1)) (.cons (.int n) .nil), .lst (SqL.of upd_same) .nil, rfl, rfl, false, rfl, q2 _ (Ex.new hl2)⟩⟩) (fun z => nomatch z) (fun _ H2 e2 => ?_)
      exact fin l n H2 (e1.trans e2) (e2 _ _ h1)
end
end Rw
namespace Rw
open PySem PySem.Spec PyProof.Rows L2 Evl Cy
section
variable {K : PySem.W.Frag} {α β γ δ R τ : Type} {E E' : XK} {cl : Nat → Addr} {M : List Addr} {σ : L2.St} {I I' H H' : Hp} {S S' S1 S2 S3 : List Cell} {te ta tb tc to : TE} {tt : TT} {tr : TA} {t : Ty α} {u : Ty β} {w' : Ty γ} {x : α} {y : β} {v : V} {xs : List α} {C D : Addr}  {n : Int}
theorem hB1 {i : Int} : ∀ (H : Hp) (vs : List V), aC kI a0 H vs (i, ()) → vs = [.int i] := fun H vs ⟨v, r, e, h1, h2⟩ => by rw [e, show v = .int i from h1, show r = [] from h2]
theorem hB2 {i j : Int} : ∀ (H : Hp) (vs : List V), aC kI (aC kI a0) H vs (i, j, ()) → vs = [.int i, .int j] := fun H vs ⟨v, r, e, h1, h2⟩ => by rw [e, show v = .int i from h1, hB1 H r h2]
theorem hB3 {i j k : Int} : ∀ (H : Hp) (vs : List V), aC kI (aC kI (aC kI a0)) H vs (i, j, k, ()) → vs = [.int i, .int j, .int k] := fun H vs ⟨v, r, e, h1, h2⟩ => by rw [e, show v = .int i from h1, hB2 H r h2]
theorem hB0 : ∀ (H : Hp) (vs : List V), a0 H vs () → vs = [] := fun H vs h => h
theorem rsI {i : Int} : RsT K (.ok (.int i)) kI i := fun H => rfl
theorem rs3 {i j k : Int} : RsT K (.tup [.int i, .int j, .int k]) (k3 K kI kI kI) (i, j, k) := fun H p h => ⟨p, _, _, _, rfl, h, rfl, rfl, rfl⟩
/-- what may change are lists and tables alone -/
def LT (M : List Addr) (S : List Cell) : Prop := (∀ m ∈ M, m ∈ ads S) ∧ ∀ c ∈ S, ∀ I o, c.r I o c.x → (∃ l, o = .lst l) ∨ ∃ p, o = .tbl p
theorem lt_nil : LT [] [] := ⟨fun _ h => h, fun c h => by cases h⟩
theorem lt_cons {c : Cell} (h : LT M S) (k : ∀ I o, c.r I o c.x → (∃ l, o = .lst l) ∨ ∃ p, o = .tbl p) : LT (c.a :: M) (c :: S) :=
  ⟨fun m hm => by rcases List.mem_cons.mp hm with z | z; exact List.mem_cons.mpr (.inl z); exact List.mem_cons_of_mem _ (h.1 m z), fun z hz => by rcases List.mem_cons.mp hz with e | e; rw [e]; exact k; exact h.2 z e⟩
theorem lt_dice {d : Addr} {z : Dice} : ∀ I o, (cDice d z).r I o (cDice d z).x → (∃ l, o = .lst l) ∨ ∃ p, o = .tbl p := fun I o h => .inl ⟨_, h⟩
theorem lt_tab {P : Addr} {p : Str} : ∀ I o, (cTab P p).r I o (cTab P p).x → (∃ l, o = .lst l) ∨ ∃ p, o = .tbl p := fun I o ⟨ps, h, _⟩ => .inr ⟨ps, h⟩
theorem LT.not {w : Holds M S H} (h : LT M S) {a : Addr} {o : HO} (e : H a = some o) (n1 : ∀ l, o ≠ .lst l) (n2 : ∀ p, o ≠ .tbl p) : a ∉ M := fun z => by
  obtain ⟨c, hc, rfl⟩ := List.mem_map.mp (h.1 a z)
  obtain ⟨_, u, hu, ru⟩ := w.at_ c hc
  rw [e] at hu
  obtain rfl := Option.some.inj hu
  rcases h.2 c hc _ _ ru with ⟨l, q⟩ | ⟨p, q⟩
  · exact n1 l q
  · exact n2 p q
theorem LT.sqT {w : Holds M S H} (h : LT M S) {a : Addr} {vs : List V} (e : SqT K H a vs) : SqT K (del M H) a vs := by
  rcases e with (e | ⟨o, e⟩) | e
  · exact .inl (.inl (del_at (h.not (w := w) e (fun _ z => nomatch z) (fun _ z => nomatch z)) e))
  · exact .inl (.inr ⟨o, del_at (h.not (w := w) e (fun _ z => nomatch z) (fun _ z => nomatch z)) e⟩)
  · exact .inr e
end
/-! ### a dict of numbers in the making -/
def putN (l : List (Int × Int)) (k v : Int) : List (Int × Int) := if (l.any fun q => decide (q.1 = k)) = true then l.map (fun q => if q.1 = k then (q.1, v) else q) else l ++ [(k, v)]
def pairV (q : Int × Int) : Key × V := (.inl q.1, .int q.2)
theorem putK_pair (l : List (Int × Int)) (k v : Int) : putK (l.map pairV) (.inl k) (.int v) = (putN l k v).map pairV := by
  unfold putK putN
  have e : ((l.map pairV).any fun kv => decide (kv.1 = (.inl k : Key))) = (l.any fun q => decide (q.1 = k)) := by
    rw [List.any_map]
    congr 1
    funext q
    show decide ((Sum.inl q.1 : Key) = .inl k) = decide (q.1 = k)
    simp
  rw [e]
  split
  · rw [List.map_map, List.map_map]
    congr 1
    funext q
    show (if (Sum.inl q.1 : Key) = .inl k then ((Sum.inl q.1 : Key), V.int v) else pairV q) = pairV (if q.1 = k then (q.1, v) else q)
    by_cases h : q.1 = k
    · rw [if_pos (by rw [h]), if_pos h]
      rfl
    · rw [if_neg (fun z => h (Sum.inl.inj z)), if_neg h]
  · rw [List.map_append]
    rfl
theorem valV_pair (l : List (Int × Int)) (k : Int) : valV (l.map pairV) (.inl k) = (l.lookup k).map V.int := by
  induction l with
  | nil => rfl
  | cons q l ih =>
    rw [List.map_cons]
    by_cases h : q.1 = k
    · rw [valV_pos (by show (Sum.inl q.1 : Key) = _; rw [h]), List.lookup_cons]
      rw [show (k == q.1) = true by simp [h]]
      rfl
    · rw [valV_neg (by show ¬ (Sum.inl q.1 : Key) = .inl k; exact fun z => h (Sum.inl.inj z)), ih, List.lookup_cons]
      rw [show (k == q.1) = false by simp; exact fun z => h z.symm]
def cD (p : Addr) (l : List (Int × Int)) : Cell := ⟨p, List (Int × Int), fun _ o l => o = .dK (l.map pairV), fun _ h => h, l⟩
/-- the same, as it stays -/
def kDN : Ty (List (Int × Int)) := ⟨fun H v l => ∃ p, v = .ref p ∧ H p = some (.dK (l.map pairV)), fun e ⟨p, a, b⟩ => ⟨p, a, e _ _ b⟩⟩
section
variable {K : PySem.W.Frag} {α β γ δ R τ : Type} {E E' : XK} {cl : Nat → Addr} {M : List Addr} {σ : L2.St} {I I' H H' : Hp} {S S' S1 S2 S3 : List Cell} {te ta tb tc to : TE} {tt : TT} {tr : TA} {t : Ty α} {u : Ty β} {x : α} {y : β} {v : V} {xs : List α} {P : R → Prop} {D : Ends} {tz : TS} {p : Addr} {l : List (Int × Int)}
/-- a, b = {}, None: a in the making -/
theorem g_parD {i j : Nat} (w : Holds M S H) (c : ∀ p H2, H p = none → Gr M S H H2 → Holds (p :: M) (cD p [] :: S) H2 → Ex (del M H) (del (p :: M) H2) → tz D ((σ.set i (some (.ref p))).set j (some v)) H2) : tSeq (tPar i j (tCons tDNewK (tCons (tC v) tNil))) tz D σ H := fun p hp => by
  have e0 : Ex H (upd H p (.dK [])) := Ex.new hp
  exact ⟨_, v, rfl, c p _ hp ⟨ex_del e0, ex_del e0⟩ (w.new (c := cD p []) hp e0 upd_same rfl) ((del_new hp).trans (ex_del e0))⟩
/-- d[k] = e, d the n-th of what may change -/
theorem g_setD {n : Nat} {j v : Int} {k : List (Int × Int) → R} (w : Holds M S H) (o : P (lt (putN l j v) k)) (h : Em E cl M te σ (del M H) S kI (.ok v) S) (ha : Em E cl M ta σ (del M H) S (kPtr p) (.ok ()) S) (hb : Em E cl M tb σ (del M H) S kI (.ok j) S) (hk : S[n]? = some (cD p l)) (hz : l.length < 100000)
    (c : ∀ l' H2, l' = putN l j v → P (k l') → Gr M S H H2 → Holds M (S.set n (cD p l')) H2 → tz D σ H2) : tSeq (tAsg te (gSub ta tb rSetD)) tz D σ H :=
  em_of h H (Ex.refl _) w _ fun v1 H1 e1 w1 r1 => em_of ha H1 (w.grow e1) w1 _ fun v2 H2 e2 w2 r2 => em_of hb H2 ((w.grow e1).trans (w1.grow e2)) w2 _ fun v3 H3 e3 w3 r3 => by
    obtain rfl : v1 = .int v := r1
    obtain rfl : v2 = .ref p := r2
    obtain rfl : v3 = .int j := r3
    obtain ⟨pM, o3, h3, ro⟩ := w3.at_ _ (List.mem_of_getElem? hk)
    obtain rfl : o3 = .dK (l.map pairV) := ro
    have pS : p ∈ ads S := List.mem_map.mpr ⟨_, List.mem_of_getElem? hk, rfl⟩
    have pM : p ∈ M := pM
    refine ⟨p, _, rfl, DPut.k (k := .inl j) h3 (by rw [List.length_map]; exact sz_lt hz), ?_⟩
    rw [putK_pair]
    exact c _ _ rfl o ⟨by rw [del_upd pS]; exact (e1.trans e2).trans e3, by rw [del_upd pM]; exact ((w.grow e1).trans (w1.grow e2)).trans (w2.grow e3)⟩ (w3.put (c' := cD p (putN l j v)) hk rfl rfl)
theorem g_setDL {n : Nat} {j v : Int} {k : List (Int × Int) → R} (w : Holds M S H) (o : P (lt (putN l j v) k)) (h : Em E cl M te σ (del M H) S kI (.ok v) S) (ha : Em E cl M ta σ (del M H) S (kPtr p) (.ok ()) S) (hb : Em E cl M tb σ (del M H) S kI (.ok j) S) (hk : S[n]? = some (cD p l)) (hz : l.length < 100000)
    (c : ∀ l' H2, l' = putN l j v → P (k l') → Gr M S H H2 → Holds M (S.set n (cD p l')) H2 → D.nx σ H2) : tAsg te (gSub ta tb rSetD) D σ H :=
  g_setD (tz := fun _ σ H => D.nx σ H) (D := { D with nx := D.nx }) w o h ha hb hk hz c
/-- it stays as it is from now on -/
theorem cellD_end (w : Holds (p :: M) (cD p l :: S) H) (n : p ∉ M) : kDN.r (del M H) (.ref p) l := by
  obtain ⟨_, o, h, r⟩ := w.at_ _ List.mem_cons_self
  obtain rfl : o = .dK (l.map pairV) := r
  exact ⟨p, rfl, del_at n h⟩
theorem em_dgetN {k v : Int} (ha : Em E cl M ta σ I S kDN (.ok l) S1) (hb : Em E cl M tb σ I S1 kI (.ok k) S2) (h : l.lookup k = some v) : Em E cl M (tDGet ta tb) σ I S kI (.ok v) S2 :=
  em_mk (hb.ad.trans ha.ad) fun H1 i w Q q => em_of ha H1 i w _ fun v1 H2 e1 w1 r1 => em_of hb H2 (i.trans (w.grow e1)) w1 _ fun v2 H3 e2 w2 r2 => by
    obtain ⟨p, rfl, hp⟩ := kDN.up (w1.grow e2) r1
    obtain rfl : v2 = .int k := r2
    refine ⟨p, .int v, rfl, ?_, q _ H3 (ads_tr ha.ad e1 e2) w2 rfl⟩
    have g := DGet.k (k := (.inl k : Key)) (del_some.mp hp).2
    rw [valV_pair, h] at g
    exact g
def topOf (l : List Int) : Int := l.foldl max (l.headD 0)
theorem fold_max : ∀ (l : List Int) (a : Int), a ≤ l.foldl max a ∧ (∀ x ∈ l, x ≤ l.foldl max a) ∧ (l.foldl max a = a ∨ l.foldl max a ∈ l)
  | [], a => ⟨Int.le_refl _, fun x h => (by cases h), .inl rfl⟩
  | b :: l, a => by
    obtain ⟨h1, h2, h3⟩ := fold_max l (max a b)
    rw [List.foldl_cons]
    refine ⟨by omega, fun x hx => ?_, ?_⟩
    · rcases List.mem_cons.mp hx with z | z
      · rw [z]; omega
      · exact h2 x z
    · rcases h3 with z | z
      · rw [z]
        rcases Int.le_total a b with q | q
        · right; rw [Int.max_eq_right q]; exact List.mem_cons_self
        · left; exact Int.max_eq_left q
      · exact .inr (List.mem_cons_of_mem _ z)
theorem topOf_is {l : List Int} {m : Int} (h : m ∈ l) (k : ∀ n ∈ l, n ≤ m) : topOf l = m := by
  unfold topOf
  obtain ⟨h1, h2, h3⟩ := fold_max l (l.headD 0)
  have a := h2 m h
  have hd : l.headD 0 ∈ l := by cases l with
    | nil => cases h
    | cons a l => exact List.mem_cons_self
  have b : l.foldl max (l.headD 0) ≤ m := by
    rcases h3 with z | z
    · rw [z]; exact k _ hd
    · exact k _ z
  omega
theorem em_topVal (ha : Em E cl M ta σ I S kDN (.ok l) S1) (h : 0 < l.length) : Em E cl M (tTopVal ta) σ I S kI (.ok (topOf (l.map (·.2)))) S1 :=
  em_mk ha.ad fun H1 i w Q q => em_of ha H1 i w _ fun v1 H2 e1 w1 r1 => by
    obtain ⟨p, rfl, hp⟩ := r1
    refine ⟨p, l.map pairV, l.map (·.2), rfl, (del_some.mp hp).2, by rw [List.map_map, List.map_map]; rfl, by rw [List.length_map]; exact h, fun m hm k => ?_⟩
    rw [topOf_is hm k] at q
    exact q _ H2 e1 w1 rfl
theorem em_slP {a : Ty α} {b : Ty β} {c : Ty γ} {z : γ} (ha : Em E cl M ta σ I S (k3 K a b c) (.ok (x, y, z)) S') : Em E cl M (tSl (rSlT K) ta tNoPart (tPart (tC (.int 2)))) σ I S (k2 K a b) (.ok (x, y)) S' :=
  em_mk ha.ad fun H1 i w Q q => em_of ha H1 i w _ fun v1 H2 e1 w1 r1 => by
    obtain ⟨p, v1, v2, v3, rfl, hp, h1, h2, h3⟩ := r1
    refine ⟨2, rfl, p, _, rfl, ex_t del_le hp, fun z => absurd (show HT.sIx 3 3 (some 2) = 3 from z.2) (by decide), fun q2 hq => q _ _ (e1.trans (ex_del (Ex.new hq))) (w1.ex (Ex.new hq)) ⟨q2, v1, v2, rfl, st_of (del_at (fresh_not w1.live hq) upd_same), a.up (ex_del (Ex.new hq)) h1, b.up (ex_del (Ex.new hq)) h2⟩⟩
theorem g_par3 {a b e : Nat} {x1 : α} {x2 : β} {x3 : γ} {t3 : Ty γ} {k : α → β → γ → R} (w : Holds M S H) (o : P (lt x1 fun a => lt x2 fun b => lt x3 fun c => k a b c)) (h : Ea E cl M tr σ (del M H) S (aC t (aC u (aC t3 a0))) (.ok (x1, x2, x3, ())) S') (c : ∀ y1 y2 y3 v1 v2 v3 H2, y1 = x1 → y2 = x2 → y3 = x3 → P (k y1 y2 y3) → Gr M S H H2 → Holds M S' H2 → t.r (del M H2) v1 y1 → u.r (del M H2) v2 y2 → t3.r (del M H2) v3 y3 → tz D (((σ.set a (some v1)).set b (some v2)).set e (some v3)) H2) : tSeq (tPar3 a b e tr) tz D σ H :=
  ea_of h H (Ex.refl _) w _ fun vs H2 e w2 r => by
    obtain ⟨v1, r1, rfl, g1, v2, r2, rfl, g2, v3, r3, rfl, g3, rfl⟩ := r
    exact ⟨v1, v2, v3, rfl, c x1 x2 x3 v1 v2 v3 H2 rfl rfl rfl o (.of w e) w2 g1 g2 g3⟩
theorem g_tup3 {a b e : Nat} {x1 : α} {x2 : β} {x3 : γ} {t3 : Ty γ} {k : α → β → γ → R} (w : Holds M S H) (o : P (lt x1 fun a => lt x2 fun b => lt x3 fun c => k a b c)) (h : Ea E cl M tr σ (del M H) S (aC t (aC u (aC t3 a0))) (.ok (x1, x2, x3, ())) S') (c : ∀ y1 y2 y3 v1 v2 v3 H2, y1 = x1 → y2 = x2 → y3 = x3 → P (k y1 y2 y3) → Gr M S H H2 → Holds M S' H2 → t.r (del M H2) v1 y1 → u.r (del M H2) v2 y2 → t3.r (del M H2) v3 y3 → tz D (((σ.set a (some v1)).set b (some v2)).set e (some v3)) H2) : tSeq (tAsg (tTup tr) (gTup K 3 (gCons (gName a) (gCons (gName b) (gCons (gName e) gNil))))) tz D σ H :=
  ea_of h H (Ex.refl _) w _ fun vs H2 e w2 r => by
    obtain ⟨v1, r1, rfl, g1, v2, r2, rfl, g2, v3, r3, rfl, g3, rfl⟩ := r
    refine ⟨by show 3 ≤ sizeLine; decide, fun p hp => ⟨p, _, rfl, SqT.of upd_same, rfl, v1, _, rfl, v2, _, rfl, v3, _, rfl, rfl, ?_⟩⟩
    have e2 : Ex H2 (upd H2 p (.tup [v1, v2, v3])) := Ex.new hp
    exact c x1 x2 x3 v1 v2 v3 _ rfl rfl rfl o (.of w (e.trans (ex_del e2))) (w2.ex e2) (t.up (ex_del e2) g1) (u.up (ex_del e2) g2) (t3.up (ex_del e2) g3)
theorem g_tup2 {i j : Nat} {kk : α → β → R} (w : Holds M S H) (o : P (lt x fun a => lt y fun b => kk a b)) (h : Ea E cl M tr σ (del M H) S (aC t (aC u a0)) (.ok (x, y, ())) S') (c : ∀ x' y' v1 v2 H2, x' = x → y' = y → P (kk x' y') → Gr M S H H2 → Holds M S' H2 → t.r (del M H2) v1 x' → u.r (del M H2) v2 y' → tz D ((σ.set i (some v1)).set j (some v2)) H2) : tSeq (tAsg (tTup tr) (gTup K 2 (gCons (gName i) (gCons (gName j) gNil)))) tz D σ H :=
  ea_of h H (Ex.refl _) w _ fun vs H2 e w2 r => by
    obtain ⟨v1, r1, rfl, g1, v2, r2, rfl, g2, rfl⟩ := r
    refine ⟨by show 2 ≤ sizeLine; decide, fun p hp => ⟨p, _, rfl, SqT.of upd_same, rfl, v1, _, rfl, v2, _, rfl, rfl, ?_⟩⟩
    have e2 : Ex H2 (upd H2 p (.tup [v1, v2])) := Ex.new hp
    exact c x y v1 v2 _ rfl rfl o (.of w (e.trans (ex_del e2))) (w2.ex e2) (t.up (ex_del e2) g1) (u.up (ex_del e2) g2)
theorem g_tupD {i j : Nat} (w : Holds M S H) (c : ∀ p H2, H p = none → Gr M S H H2 → Holds (p :: M) (cD p [] :: S) H2 → Ex (del M H) (del (p :: M) H2) → tz D ((σ.set i (some (.ref p))).set j (some v)) H2) : tSeq (tAsg (tTup (tCons tDNewK (tCons (tC v) tNil))) (gTup K 2 (gCons (gName i) (gCons (gName j) gNil)))) tz D σ H := fun p hp => by
  have e0 : Ex H (upd H p (.dK [])) := Ex.new hp
  refine ⟨by show 2 ≤ sizeLine; decide, fun q hq => ⟨q, _, rfl, SqT.of upd_same, rfl, _, _, rfl, v, _, rfl, rfl, ?_⟩⟩
  have e1 : Ex (upd H p (.dK [])) (upd (upd H p (.dK [])) q (.tup [.ref p, v])) := Ex.new hq
  have e2 := e0.trans e1
  exact c p _ hp ⟨ex_del e2, ex_del e2⟩ (w.new (c := cD p []) hp e2 (e1 _ _ upd_same) rfl) ((del_new hp).trans (ex_del e2))
theorem opt_r {x : Option α} {d : α} {v : V} {I : Hp} (h : x.isSome = true) (r : (kO t).r I v x) : t.r I v (x.getD d) := by
  cases x with
  | none => cases h
  | some y => exact r.1
theorem head_at {l : List Int} (h : (!decide (l = [])) = true) : l[0]? = some (l.headD 0) := by
  cases l with
  | nil => simp at h
  | cons a l => rfl
end
theorem all_intsR {H : Hp} (ns : List Int) : All2 (kI.r H) (ns.map V.int) ns := by
  induction ns with
  | nil => exact .nil
  | cons n ns ih => exact .cons rfl ih
theorem _root_.L2.Room.u1 {k : Nat} {A : Around} (r : Room k A) : A.units + 1 < cLine := by have := r.un; omega
theorem _root_.L2.Room.u65 {k : Nat} {A : Around} (r : Room k A) : A.units + 65 < cLine := by have := r.un; omega
/-! ### bounds -/
theorem dictOf_fn {l : List Int} {f : Int → Int} {k : Int} (h : k ∈ l) : dictOf (l.map fun n => (n, f n)) k = some (f k) := by
  unfold dictOf
  cases e : (l.map fun n => (n, f n)).reverse.find? (fun q => decide (q.1 = k)) with
  | none =>
    rw [List.find?_eq_none] at e
    exact absurd (decide_eq_true rfl) (e (k, f k) (List.mem_reverse.mpr (List.mem_map.mpr ⟨k, h, rfl⟩)))
  | some q =>
    have a := List.find?_some e
    have b := List.mem_reverse.mp (List.mem_of_find?_eq_some e)
    obtain ⟨n, _, rfl⟩ := List.mem_map.mp b
    have a : n = k := of_decide_eq_true a
    rw [a]
    rfl
theorem dictOf_none {l : List Int} {f : Int → Int} {k : Int} (h : k ∉ l) : dictOf (l.map fun n => (n, f n)) k = none := by
  unfold dictOf
  rw [Option.map_eq_none_iff, List.find?_eq_none]
  intro q hq
  obtain ⟨n, hn, rfl⟩ := List.mem_map.mp (List.mem_reverse.mp hq)
  intro z
  have z : n = k := of_decide_eq_true z
  exact h (z ▸ hn)
theorem ix_tupK {X : Cx} {K : PySem.W.Frag} (h : X.K = K := by rfl) : IxR X (rIxT K) := by
  subst h
  exact ix_tup
/-- the loop over the one cell of the script, its dice and the table of lambdas -/
theorem q_dice {K : PySem.W.Frag} {a PT : Addr} {LQ : Str} {ns : List Int} {σ : L2.St} {H : Hp} {ta : TA} {D : Ends} {tu tz : TS} {j : Nat} (hv : EvA ta σ H [.ref a, .int 1]) (hS : SqL K H a (ns.map V.int)) (hT : H PT = some (.tbl #[])) (Sg : L2.St → Prop) (s0 : Sg σ)
    (hs : ∀ d z σ' H', Sg σ' → Holds [d, PT] [cDice d z, cTab PT LQ] H' → ∀ Nx : L2.St → Hp → Prop, (∀ z' σ2 H2, Sg σ2 → Gr [d, PT] [cDice d z, cTab PT LQ] H' H2 → Holds [d, PT] [cDice d z', cTab PT LQ] H2 → Nx σ2 H2) → tu { D with nx := Nx, ct := Nx, bk := tz D } (σ'.set j (some (.ref d))) H')
    (hd : ∀ M S σ' H', Sg σ' → Holds M S H' → tz D σ' H') :
    tSeq (tFor (iList K (tCall (spRounds K) [] E0 ta)) (gName j) tu) tz D σ H :=
  hv H (Ex.refl H) _ fun H1 e1 => ⟨a, ns, rfl, ex_l e1 hS, fun r d x y z H2 hr hd0 hne e2 h2 h3 => by
    have hP : H2 PT = some (.tbl #[]) := e2 _ _ (e1 _ _ hT)
    have dP : d ≠ PT := fun q => by rw [q, hP] at h3; cases h3
    have rP : r ≠ PT := fun q => by rw [q, hP] at h2; cases h2
    have w0 : Holds [d, PT] [cDice d (x, y, z), cTab PT LQ] H2 := by
      refine ⟨fun c hc => ?_, by simp [ads, cDice, cTab, dP], fun m hm => ?_⟩
      · rcases List.mem_cons.mp hc with q | q
        · rw [q]; exact ⟨List.mem_cons_self, _, h3, rfl⟩
        · rw [List.mem_singleton.mp q]
          refine ⟨by simp [cTab], _, hP, #[], rfl, by first | trivial | decide, fun pos cv z => ?_⟩
          cases z
      · rcases List.mem_cons.mp hm with q | q
        · rw [q, h3]; exact fun z => nomatch z
        · rw [List.mem_singleton.mp q, hP]; exact fun z => nomatch z
    have rM : r ∉ [d, PT] := by simp [hne, rP]
    have keep : ∀ H', Ex (del [d, PT] H2) (del [d, PT] H') → H' r = some (.lst [.ref d]) := fun H' e => (del_some.mp (e r _ (del_some.mpr ⟨rM, h2⟩))).2
    refine ⟨r, rfl, ⟨_, SqL.of h2⟩, for_list (xs := [.ref d]) (fun _ σ' H' => Sg σ' ∧ Ex (del [d, PT] H2) (del [d, PT] H') ∧ ∃ z, Holds [d, PT] [cDice d z, cTab PT LQ] H') ⟨s0, Ex.refl _, _, w0⟩ (fun i σ' H' _ p => SqL.of (keep H' p.2.1)) (fun i v σ' H' hi p => ?_) (fun σ' H' p => ?_)⟩
    · obtain rfl : v = .ref d := by
        cases i with
        | zero => exact (Option.some.inj hi).symm
        | succ i => simp at hi
      obtain ⟨p1, p2, z, p3⟩ := p
      exact hs d z σ' H' p1 p3 _ fun z' σ2 H3 g1 g2 g3 => ⟨g1, p2.trans g2.im, z', g3⟩
    · obtain ⟨p1, p2, z, p3⟩ := p
      exact hd _ _ σ' H' p1 p3⟩
theorem lookup_putN (l : List (Int × Int)) (k v j : Int) : (putN l k v).lookup j = if j = k then some v else l.lookup j := by
  have a := valV_pair (putN l k v) j
  rw [← putK_pair, valV_put, valV_pair] at a
  by_cases h : j = k
  · rw [if_pos (by rw [h])] at a
    rw [if_pos h]
    cases e : (putN l k v).lookup j with
    | none => rw [e] at a; cases a
    | some y => rw [e] at a; have a := Option.some.inj a; injection a with a; rw [a]
  · rw [if_neg (fun z => h (Sum.inl.inj z))] at a
    rw [if_neg h]
    cases e : (putN l k v).lookup j with
    | none => rw [e] at a; cases e2 : l.lookup j with
      | none => rfl
      | some y => rw [e2] at a; cases a
    | some y => rw [e] at a; cases e2 : l.lookup j with
      | none => rw [e2] at a; cases a
      | some z => rw [e2] at a; have a := Option.some.inj a; injection a with a; rw [a]
theorem len_putN (l : List (Int × Int)) (k v : Int) : (putN l k v).length ≤ l.length + 1 := by
  unfold putN
  split
  · rw [List.length_map]; omega
  · rw [List.length_append]; exact Nat.le_refl _
section
variable {K : PySem.W.Frag} {α : Type} {t : Ty α} {E : XK} {cl : Nat → Addr} {M : List Addr} {σ : L2.St} {I : Hp} {S : List Cell}
/-- a list against the bare one -/
theorem em_lcK {β : Type} {u : Ty β} {r : Re β} {S' : List Cell} {wi : TI} {g : TG} {tt : L2.St → TT} {te : L2.St → TE} {vs : List Nat} (h : Em E cl M (tLc wi g (tt σ) (te σ) vs) σ I S u r S') : Em E cl M (tLcK wi g tt te vs) σ I S u r S' := ⟨h.ad, h.run⟩
theorem some_r {v : V} {x : α} (r : t.r I v x) (nn : v ≠ .non) : (kO t).r I v (some x) := ⟨r, nn⟩
theorem none_r : (kO t).r I .non none := rfl
theorem em_noneL : Em E cl M (tLst tNil) σ I S (kL K t) (.ok []) S := em_lst K em_nilL (by simp)
theorem o_neNil : Op2 (rNeD K) (kL K t) ([] : List α) (kL K t) [] kB false := fun M v1 v2 H l a b Q q => by
  obtain ⟨p, vs, rfl, hp, ha⟩ := a
  obtain ⟨p2, vs2, rfl, hp2, ha2⟩ := b
  cases ha
  cases ha2
  exact ⟨.list [], .list [], .lst (ex_l del_le hp) .nil, .lst (ex_l del_le hp2) .nil, rfl, rfl, q _ H (Ex.refl H) rfl⟩
theorem told_r {X : Cx} {k i : Nat} {ag : L2.St → Prop} {params : Arguments} {body : Expr} {scope : Scope} {tb : XK → TE} (h4 : LamX.LamS X.env.scope scope) (h5 : ∀ (pm cv ctv : Value), bindArgs (PySem.W.kla_fn "<lambda>" (X.env.qual ++ "<lambda>") params body scope (cloFrom X.env.cells scope.names []) pm cv ctv) ⟨[], []⟩ = pure [])
    (h6 : ∀ (f cc : Addr) (A : Around) (outer : List Env) (s : Shared) (H : Hp) (E : XK), Room k (A.deeper (LamX.lamEnv X scope s.heap.objs.size f cc)) → PE (LamX.lamCx X A outer s H E scope f cc) body (tb E)) (hi : i < 11) (h9 : ∀ E M S σ' I', Ex I I' → ag σ' → Em E cl M (tb E) σ' I' S kN (.er i) S) :
    ∀ f cc I', Ex I I' → I' f = some (LamC f (X.env.qual ++ "<lambda>") params body scope (cloFrom X.env.cells scope.names []) cc) → I' cc = some (LamX.CodeO cc (X.env.qual ++ "<lambda>")) → (kTold X cl k ag).r I' (.ref f) (kindName i) := fun f cc I' e h2 h3 =>
  ⟨f, cc, params, body, scope, tb, i, rfl, h2, h3, h4, h5, h6 f cc, hi, rfl, fun E M S σ' I2 e2 => h9 E M S σ' I2 (e.trans e2)⟩
end
/-- where _law_told stands -/
def ToldF (K : PySem.W.Frag) (mg : Str → Option Value) : Prop := ∃ (g : Addr) (oc kV dc pm cdv ct : Value) (od an : Option Addr) (osl : Array (Option Value)), mg "_law_told" = some (.ref g) ∧ PySem.W.keepIn K (.ref g) = true ∧
  K.lookup g = some ⟨oc, od, .func (PySem.W.fnOf "_law_told" "_law_told" (defArgs sTold) (defBody sTold) (defScope sTold) .none kV dc pm an cdv ct), osl⟩ ∧ PySem.W.codeIn K cdv "_law_told" = true ∧ Binds K (PySem.W.fnOf "_law_told" "_law_told" (defArgs sTold) (defBody sTold) (defScope sTold) .none kV dc pm an cdv ct) ["what"] []
theorem Gr.back {M : List Addr} {S S1 : List Cell} {H H1 : Hp} {p : Addr} (w : Holds M S H) (g : Gr M S H H1) (w1 : Holds M S1 H1) (h : H1 p = none) : H p = none := by
  cases e : H p with
  | none => rfl
  | some o =>
    have pM : p ∉ M := fun z => w1.live p z h
    have := (del_some.mp (g.im p o (del_some.mpr ⟨pM, e⟩))).2
    rw [h] at this
    cases this
theorem Gr.lone2 {M : List Addr} {S : List Cell} {c : Cell} {H H1 H2 : Hp} (hp : H c.a = none) (a : Gr M S H H1) (b : Gr (c.a :: M) (c :: S) H1 H2) : Gr M S H H2 := by
  have go : ∀ A, Ex (del A H) (del A H1) → Ex (del (c.a :: A) H1) (del (c.a :: A) H2) → Ex (del A H) (del A H2) := fun A e f x o h => by
    obtain ⟨n, hx⟩ := del_some.mp h
    have n2 : x ∉ c.a :: A := fun z => by
      rcases List.mem_cons.mp z with z | z
      · rw [z, hp] at hx; cases hx
      · exact n z
    have g := (del_some.mp (e x o h)).2
    exact del_some.mpr ⟨n, (del_some.mp (f x o (del_some.mpr ⟨n2, g⟩))).2⟩
  exact ⟨go _ a.fr b.fr, go _ a.im b.im⟩
def Pt (b : Bool) : Prop := b = true
end Rw
namespace Rw
open PySem PySem.Spec PyProof.Rows L2 Evl
theorem meets_str_eq_ref (a : Str) (t : Tok) (x : Addr) : Meets (Builtin.«str.__eq__» ⟨[.str a t, .ref x], []⟩) (fun A R s => (∃ C dx, s.heap.get? x = some (PySem.W.instObj C dx)) ∧ R (.ok (.ret .notImplemented)) s) := by
  intro prog w A R s h
  obtain ⟨⟨C, dx, h1⟩, q⟩ := h
  obtain ⟨hp, g, d, tk, os⟩ := s
  unfold Builtin.«str.__eq__»
  wp_walk
  exact q
section
variable {M : Model} {prog : Program} {w : World} {A : Around} {E : Value → Shared → Prop} {s : Shared} {K : PySem.W.Frag} {x C dx : Addr} {ox : Obj} {od : Option Obj} {b : Str} {t : Tok}
theorem isSame_strR {R : Bool → Shared → Prop} (h : R false s) : wpAny M A (isSame (.ref x) (.str b t)) R E s := wpAny_of_eq (rfl : isSame (.ref x) (.str b t) = pure false) h
theorem entry_str {Q : Fin → Shared → Prop} (hq : Q (.done (.ret .notImplemented)) s) : wpAny M A (Builtin.«object.__eq__» ⟨[.ref x, .str b t], []⟩) Q E s := by
  unfold Builtin.«object.__eq__»
  repeat (first | with_reducible refine isSame_strR ?_ | wp_step)
  exact hq
theorem call_objEqS {Q : Value → Shared → Prop} (X : K.In s.heap) (I : PySem.W.InstAt s.heap x ox C od) (hm : PySem.W.mroIn K C (.type "object") = some true) (hq : Q .notImplemented s) :
    wpAny (model prog w) A (call (.builtin "object.__eq__") [.ref x, .str b t]) Q E s :=
  wpAny_call (codeAny_call_builtin F.cmp_object.eq.plain F.cmpEntry_eq (PySem.W.check_slot F.cmpKind_eq F.cmpSplit_eq (I.type.andThen (PySem.W.looks_mroIn X hm)) (F.cmpArgs_eq _ _) (entry_str hq)))
theorem sub_strC : PySem.W.subIn K (.type "str") (.ref C) = some false := by
  have e : fastBuiltinMro "str" = some [.type "str", .type "object"] := by decide +kernel
  show (fastBuiltinMro "str").map (·.contains (.ref C)) = some false
  rw [e]
  first
    | rfl
    | simp
theorem rc_strI (hu : A.units < cLine) (X : K.In s.heap) (I : PySem.W.InstAt s.heap x ox C od) (hx : s.heap.get? x = some (PySem.W.instObj C dx)) (hm : PySem.W.mroIn K C (.type "object") = some true) (hs : PySem.W.findIn K (.ref C) "__eq__" = some (some (.builtin "object.__eq__"))) :
    SeqAt.RcAt A s (.ref x) (.str b t) false := fun prog w E Q h => by
  have one : wpAny (model prog w) A (tryCompare (.ref x) "__eq__" (.str b t)) (fun r s' => r = none ∧ s' = s) E s := by
    unfold tryCompare
    exact wpAny_bind (HN.ifBound_objEq X I hs (call_objEqS X I hm (wpAny_pure ⟨rfl, rfl⟩)))
  have two : wpAny (model prog w) A (tryCompare (.str b t) "__eq__" (.ref x)) (fun r s' => r = none ∧ s' = s) E s :=
    wpAny_tryCompare_declines (typeIs_str s b t) F.slot_str_eq_refl (call_meets F.slot_str_eq_refl (typeIs_str s b t) F.entry_str_eq (F.args_str_eq_2 _ _) (meets_str_eq_ref b t x) ⟨⟨C, dx, hx⟩, rfl, rfl, rfl⟩)
  simp only [richCompare, cmpInfo_Eq, oneThing_ref]
  refine wpAny_holding (wpAny_bind (wpAny_cRoomFor hu ?_))
  refine wpAny_bind (I.type.here ?_)
  refine wpAny_bind (wpAny_typeOf (typeIs_str s b t) ?_)
  split
  · refine wpAny_bind ((PySem.W.looks_subIn X sub_strC).here ?_)
    simp only [Bool.false_eq_true, if_false, Bool.not_false, if_true]
    refine wpAny_bind (m := tryCompare (.ref x) _ (.str b t)) (wpAny_mono one (fun r s1 z => ?_) fun _ _ e => e)
    obtain ⟨z1, z2⟩ := z
    subst z1
    subst z2
    refine wpAny_bind (m := tryCompare (.str b t) _ (.ref x)) (wpAny_mono two (fun r s2 z => ?_) fun _ _ e => e)
    obtain ⟨z1, z2⟩ := z
    subst z1
    subst z2
    exact wpAny_bind (wpAny_rule (wpAny_bind (wpAny_of_eq (rfl : isSame (.ref x) (.str b t) = pure false) (wpAny_pure h))))
  · rename_i q
    exact absurd (by simp) q
end
/-- an instance without an __eq__ of its own -/
structure NoEq (K : PySem.W.Frag) (C : Addr) : Prop where
  mro : PySem.W.mroIn K C (.type "object") = some true
  find : PySem.W.findIn K (.ref C) "__eq__" = some (some (.builtin "object.__eq__"))
/-- a text, or such an instance, against a text -/
def rEqIS (K : PySem.W.Frag) : R2 := fun x y H Q => ∃ b : Str, y = .str b ∧ ((∃ a : Str, x = .str a ∧ Q (.bl (decide (a = b))) H) ∨ ∃ p C dx fs, x = .ref p ∧ H p = some (.ins C dx fs) ∧ NoEq K C ∧ Q (.bl false) H)
theorem op_eqIS {X : Cx} (hu : X.A.units < cLine) : OpR X (compareOp .Eq) (rEqIS X.K) := by
  intro pins s σ H x y v u Q I rx ry h
  obtain ⟨b, rfl, h⟩ := h
  rcases h with ⟨a, rfl, q⟩ | ⟨p, C, dx, fs, rfl, hp, ne, q⟩
  · refine op_eq pins s σ H _ _ v u Q I rx ry ⟨rfl, ?_⟩
    rw [show decide (V.str a = V.str b) = decide (a = b) by simp]
    exact q
  · obtain ⟨t, rfl⟩ := ry
    obtain rfl : v = Value.ref p := rx
    obtain ⟨mA, O, _⟩ := ins_get I.hok hp
    obtain ⟨od, J, _⟩ := O.look
    show wpAny _ _ (richCompare .Eq _ _) _ _ _
    exact rc_strI hu I.kIn J O.obj ne.mro ne.find _ _ _ _ ⟨.bl false, H, I, rfl, q⟩
end Rw
namespace Rw
open PySem PySem.Spec PyProof.Rows L2 Evl
section
variable {K : PySem.W.Frag} {α β γ δ R τ : Type} {E E' : XK} {cl : Nat → Addr} {M : List Addr} {σ : L2.St} {I I' H H' : Hp} {S S' S1 S2 S3 : List Cell} {te ta tb tc to : TE} {tt : TT} {tr : TA} {t : Ty α} {u : Ty β} {w' : Ty γ} {v : V}  {n : Int} 
theorem o_divmod {i j : Int} (h : CDiv i j) : OpN (fun xs H Q => ∃ i j, xs = [.int i, .int j] ∧ CDiv i j ∧ ∀ p, H p = none → Q (.ref p) (upd H p (.tup [.int (i / j), .int (i % j)]))) (aC kI (aC kI a0)) (i, j, ()) (k2 K kI kI) (i / j, i % j) := fun M us H l a Q q => by
  obtain rfl := hB2 _ _ a
  exact ⟨i, j, rfl, h, fun p hp => q _ _ (Ex.new hp) ⟨p, _, _, rfl, st_of (del_at (fresh_not l hp) upd_same), rfl, rfl⟩⟩
theorem o_min2 {i j : Int} : OpN (fun xs H Q => ∃ i j, xs = [V.int i, V.int j] ∧ Q (.int (if j < i then j else i)) H) (aC kI (aC kI a0)) (i, j, ()) kI (if j < i then j else i) := fun M us H l a Q q => by
  obtain rfl := hB2 _ _ a
  exact ⟨i, j, rfl, q _ H (Ex.refl H) rfl⟩
theorem o_max2 {i j : Int} : OpN (fun xs H Q => ∃ i j, xs = [V.int i, V.int j] ∧ Q (.int (if j > i then j else i)) H) (aC kI (aC kI a0)) (i, j, ()) kI (if j > i then j else i) := fun M us H l a Q q => by
  obtain rfl := hB2 _ _ a
  exact ⟨i, j, rfl, q _ H (Ex.refl H) rfl⟩
/-- a range that is kept -/
def kRng : Ty (Int × Int) := ⟨fun H v x => ∃ a, v = .ref a ∧ H a = some (.rng x.1 x.2), fun e ⟨a, h1, h2⟩ => ⟨a, h1, e _ _ h2⟩⟩
theorem o_range2 {i j : Int} : OpN (fun vs H Q => ∃ i j, vs = [V.int i, V.int j] ∧ ∀ p, H p = none → Q (.ref p) (upd H p (.rng i j))) (aC kI (aC kI a0)) (i, j, ()) kRng (i, j) := fun M us H l a Q q => by
  obtain rfl := hB2 _ _ a
  exact ⟨i, j, rfl, fun p hp => q _ _ (Ex.new hp) ⟨p, rfl, del_at (fresh_not l hp) upd_same⟩⟩
theorem ei_RV {lo n : Int} (h : Em E cl M te σ I S kRng (.ok (lo, n)) S') (b : -(2 ^ 62) ≤ lo ∧ lo < 2 ^ 62 ∧ -(2 ^ 62) ≤ n ∧ n < 2 ^ 62) : Ei E cl M (iRngV te) σ I S kI (rng lo n) S' :=
  ⟨h.ad, fun H1 i w R q => em_of h H1 i w _ fun v H2 e w2 r => by
    obtain ⟨a, rfl, ha⟩ := r
    refine ⟨a, lo, n, rfl, (del_some.mp ha).2, b, q _ H2 (fun _ => True) _ e w2 (by rw [rng_len]; exact walk_range) (fun _ _ => trivial) ?_⟩
    intro i H v H' x hx e2 y
    obtain ⟨rfl, rfl⟩ := y
    exact ⟨Ex.refl _, fun M' l e3 => by rw [(rng_at hx).1]; rfl⟩⟩
theorem o_ixLI {xs : List α} {x : α} {i : Int} (h : atI xs i = some x) : Op2 (rIxL K) (kL K t) xs kI i t x := fun M u w H l a b Q q => by
  obtain ⟨p, vs, rfl, hp, ha⟩ := a
  obtain rfl : w = .int i := b
  obtain ⟨j, hj, hx⟩ : ∃ j, ixN xs.length i = some j ∧ xs[j]? = some x := by
    unfold atI at h
    cases hj : ixN xs.length i with
    | none => rw [hj] at h; cases h
    | some j => rw [hj] at h; exact ⟨j, rfl, h⟩
  obtain ⟨v, hv, hr⟩ := ha.at2 hx
  refine ⟨p, vs, i, v, rfl, rfl, ex_l del_le hp, ?_, q v H (Ex.refl H) hr⟩
  unfold atI
  rw [ha.len]
  show (ixN xs.length i).bind _ = _
  rw [hj]
  exact hv
end
end Rw
namespace Rw
open PySem PySem.Spec PyProof.Rows L2 Evl
/-- built-ins of the text's own names -/
structure BD (mg : Str → Option Value) : Prop where
  len : mg "len" = none
  min : mg "min" = none
  max : mg "max" = none
  range : mg "range" = none
  divmod : mg "divmod" = none
  sum : mg "sum" = none
  int : mg "int" = none
  abs : mg "abs" = none
def Pr {β : Type} (z r : Re β) : Prop := z = r
section
variable {K : PySem.W.Frag} {α β γ δ R τ : Type} {E E' : XK} {cl : Nat → Addr} {M : List Addr} {σ : L2.St} {I I' H H' : Hp} {S S' S1 S2 S3 : List Cell} {te ta tb tc to : TE} {tt : TT} {tr : TA} {t : Ty α} {u : Ty β} {w' : Ty γ} {v : V}  {n : Int} {x : α} {y : β}
theorem fMd_ok {y m : Int} (h : 0 ≤ m ∧ m < (c.months.length : Int)) : fMonthDays c ([.int y, .int m] ++ []) = some (.ok (.int (c.md y m.toNat))) := by
  show some (if _ then _ else _) = _
  rw [if_pos h]
/-- the last argument may raise -/
theorem em_consR {r : Re γ} {w : Ty γ} {ta tb : TE} (h : Em E cl M ta σ I S t (.ok x) S1) (k : Em E cl M tb σ I S1 w r S2) : Ea E cl M (tCons ta (tCons tb tNil)) σ I S (aC t (aC w a0)) (r.bind fun y => .ok (x, y, ())) S2 :=
  ⟨k.ad.trans h.ad, fun H1 i w Q q qe => em_of h H1 i w _ fun v H2 e w1 r1 => k.run H2 (i.trans (w.grow e)) w1 _ (fun y v2 H3 ey e2 w2 r2 => q (x, y, ()) [v, v2] H3 (by rw [ey]; rfl) (ads_tr h.ad e e2) w2 ⟨v, _, rfl, t.up (w1.grow e2) r1, v2, _, rfl, r2, rfl⟩)
    (fun j H3 ej e2 w2 => qe j H3 (by rw [ej]; rfl) (ads_tr h.ad e e2) w2)⟩
theorem em_chainR {r r' : R2} {b : Bool} {rz : Re γ} {b' : γ → Bool} {w : Ty γ} (ha : Em E cl M ta σ I S t (.ok x) S1) (hb : Em E cl M tb σ I S1 u (.ok y) S2) (hc : b = true → Em E cl M tc σ I S2 w rz S2) (ho : Op2 r t x u y kB b) (ho' : ∀ z, rz = .ok z → Op2 r' u y w z kB (b' z)) : Em E cl M (tChain r r' ta tb tc) σ I S kB (cond b (rz.bind fun z => .ok (b' z)) (.ok false)) S2 :=
  ⟨hb.ad.trans ha.ad, fun H1 i w Q q qe => em_of ha H1 i w _ fun v1 H2 e1 w1 r1 => em_of hb H2 (i.trans (w.grow e1)) w1 _ fun v2 H3 e2 w2 r2 =>
    ho M v1 v2 H3 w2.live (t.up (w1.grow e2) r1) r2 _ fun v H4 e3 r3 => by
      have e13 := (ads_tr ha.ad e1 e2).trans (ex_del e3)
      refine ⟨b, r3, ?_⟩
      cases b with
      | true =>
        rw [if_pos rfl]
        have a2 : ads S2 = ads S := hb.ad.trans ha.ad
        have w3 := w2.ex e3
        refine (hc rfl).run H4 (i.trans (w.grow e13)) (w2.ex e3) _ (fun z v4 H5 ez e4 w4 r4 => ?_) (fun k H5 ek e4 w4 => qe k H5 (by rw [ek]; rfl) (ads_tr a2 e13 e4) w4)
        exact ho' z ez M v2 v4 H5 w4.live (u.up ((ex_del e3).trans (w3.grow e4)) r2) r4 Q fun v5 H6 e5 r5 => q (b' z) v5 H6 (by rw [ez]; rfl) ((ads_tr a2 e13 e4).trans (ex_del e5)) (w4.ex e5) r5
      | false =>
        rw [if_neg Bool.false_ne_true]
        exact q false _ H4 rfl e13 (w2.ex e3) rfl⟩
theorem gt_testR {r : Re Bool} (h : Em E cl M te σ I S kB r S') : Et E cl M (tTest te) σ I S r S' := ⟨h.ad, fun H1 i w Q q qe => h.run H1 i w _ (fun b v H2 eb e w' r => ⟨b, r, q b H2 eb e w'⟩) qe⟩
theorem gt_notR {r : Re Bool} (h : Et E cl M tt σ I S r S') : Et E cl M (tNot tt) σ I S (r.bind fun b => .ok (!b)) S' := ⟨h.ad, fun H1 i w Q q qe => h.run H1 i w _ (fun b H2 eb e w' => q (!b) H2 (by rw [eb]; rfl) e w') (fun k H2 ek e w' => qe k H2 (by rw [ek]; rfl) e w')⟩
/-- a test that may raise, of a def that may -/
theorem g_ifX {P : Re β → Prop} {A B : Re β} {r : Re Bool} {tu tw tz : TS} {D : Ends} (w : Holds M S H) (o : P (lr r fun b => cond b A B)) (h : Et E cl M tt σ (del M H) S r S') (c1 : r = .ok true → P A → ∀ H2, Gr M S H H2 → Holds M S' H2 → tu { D with nx := tz D } σ H2) (c2 : r = .ok false → P B → ∀ H2, Gr M S H H2 → Holds M S' H2 → tw { D with nx := tz D } σ H2)
    (c3 : ∀ k H2, r = .er k → P (.er k) → Gr M S H H2 → Holds M S' H2 → E (.ref (cl k)) none H2) : tSeq (tIfS tt tu tw) tz D σ H :=
  h.run H (Ex.refl _) w _ (fun b H2 eb e w2 => by
    subst eb
    cases b with
    | true => exact c1 rfl o H2 (.of w e) w2
    | false => exact c2 rfl o H2 (.of w e) w2) fun k H2 ek e w2 => c3 k H2 ek (by subst ek; exact o) (.of w e) w2
/-- x += e -/
theorem g_aug {i : Nat} {P : R → Prop} {k : Int → R} {a b z : Int} {tip : TIp} {tz : TS} {D : Ends} (w : Holds M S H) (o : P (lt z k)) (hσ : σ[i]? = some (some (.int a))) (h : Em E cl M te σ (del M H) S kI (.ok b) S') (ht : ∀ H Q, Q (.int z) H → tip (.int a) (.int b) H Q) (c : ∀ x' H2, x' = z → P (k x') → Gr M S H H2 → Holds M S' H2 → tz D (σ.set i (some (.int x'))) H2) : tSeq (tAug i te tip) tz D σ H :=
  ⟨_, hσ, em_of h H (Ex.refl _) w _ fun v H2 e w2 r => by
    obtain rfl : v = .int b := r
    exact ht H2 _ (c z H2 rfl o (.of w e) w2)⟩
theorem g_augL {i : Nat} {P : R → Prop} {k : Int → R} {a b z : Int} {tip : TIp} {D : Ends} (w : Holds M S H) (o : P (lt z k)) (hσ : σ[i]? = some (some (.int a))) (h : Em E cl M te σ (del M H) S kI (.ok b) S') (ht : ∀ H Q, Q (.int z) H → tip (.int a) (.int b) H Q) (c : ∀ x' H2, x' = z → P (k x') → Gr M S H H2 → Holds M S' H2 → D.nx (σ.set i (some (.int x'))) H2) : tAug i te tip D σ H :=
  ⟨_, hσ, em_of h H (Ex.refl _) w _ fun v H2 e w2 r => by
    obtain rfl : v = .int b := r
    exact ht H2 _ (c z H2 rfl o (.of w e) w2)⟩
theorem hold0 {H : Hp} {M : List Addr} (l : ∀ m ∈ M, H m ≠ none) : Holds M [] H := ⟨fun c hc => (by cases hc), List.nodup_nil, l⟩
end
end Rw
namespace Rw
open PySem PySem.Spec PyProof.Rows L2 Evl
section
variable {K : PySem.W.Frag} {α β γ δ R τ : Type} {E E' : XK} {cl : Nat → Addr} {M : List Addr} {σ : L2.St} {I I' H H' : Hp} {S S' S1 S2 S3 : List Cell} {te ta tb tc to : TE} {tt : TT} {tr : TA} {t : Ty α} {u : Ty β} {w' : Ty γ} {v : V}  {n : Int} {x : α} {y : β}
theorem args_m {A : AR β} {b : β} : ∀ (H : Hp) (v : V) (vs : List V), t.r H v x → A H vs b → aC t A H (v :: (vs ++ [])) (x, b) := fun H v vs r h => ⟨v, vs ++ [], rfl, r, by rw [List.append_nil]; exact h⟩
theorem at_in {xs : List Int} {i : Int} (h : 0 - (xs.length : Int) ≤ i ∧ i < (xs.length : Int)) : atI xs i = some ((atI xs i).getD 0) := by
  have k : ∀ j : Nat, j < xs.length → (some j).bind (fun j => xs[j]?) = some (((some j).bind fun j => xs[j]?).getD 0) := fun j hj => by
    show xs[j]? = some (xs[j]?.getD 0)
    rw [List.getElem?_eq_getElem hj]
    rfl
  unfold atI ixN
  by_cases h0 : 0 ≤ i
  · rw [if_pos h0, if_pos h.2]
    exact k _ (by omega)
  · rw [if_neg h0, if_pos (by omega)]
    exact k _ (by omega)
end
end Rw
namespace Rw
open PySem PySem.Spec PyProof.Rows L2 Evl
/-- an answer, or the word of what was raised -/
def kRe {α : Type} (u : Ty α) : Ty (Re α) := ⟨fun H v r => match r with | .ok y => u.r H v y | .er i => v = .str (kindName i) ∧ i < 11, fun {H H' v r} e h => by
  cases r with
  | ok y => exact u.up e h
  | er i => exact h⟩
/-- a lambda that is told -/
def kLam {α : Type} (X : Cx) (cl : Nat → Addr) (k : Nat) (ag : L2.St → Prop) (u : Ty α) : Ty (Re α) := ⟨fun I v z => ∃ (f cc : Addr) (params : Arguments) (body : Expr) (scope : Scope) (tb : XK → TE), v = .ref f ∧ I f = some (LamC f (X.env.qual ++ "<lambda>") params body scope (cloFrom X.env.cells scope.names []) cc) ∧ I cc = some (LamX.CodeO cc (X.env.qual ++ "<lambda>")) ∧
    LamX.LamS X.env.scope scope ∧ (∀ (pm cv ctv : Value), bindArgs (PySem.W.kla_fn "<lambda>" (X.env.qual ++ "<lambda>") params body scope (cloFrom X.env.cells scope.names []) pm cv ctv) ⟨[], []⟩ = pure []) ∧
    (∀ (A : Around) (outer : List Env) (s : Shared) (H : Hp) (E : XK), Room k (A.deeper (LamX.lamEnv X scope s.heap.objs.size f cc)) → PE (LamX.lamCx X A outer s H E scope f cc) body (tb E)) ∧ (∀ i, z = .er i → i < 11) ∧
    ∀ E M S σ' I', Ex I I' → ag σ' → Em E cl M (tb E) σ' I' S u z S,
  fun e ⟨f, cc, params, body, scope, tb, h1, h2, h3, h4, h5, h6, h7, h9⟩ => ⟨f, cc, params, body, scope, tb, h1, e _ _ h2, e _ _ h3, h4, h5, h6, h7, fun E M S σ' I' e2 => h9 E M S σ' I' (e.trans e2)⟩⟩
theorem lam_r {α : Type} {u : Ty α} {z : Re α} {I : Hp} {cl : Nat → Addr} {X : Cx} {k : Nat} {ag : L2.St → Prop} {params : Arguments} {body : Expr} {scope : Scope} {tb : XK → TE} (h4 : LamX.LamS X.env.scope scope) (h5 : ∀ (pm cv ctv : Value), bindArgs (PySem.W.kla_fn "<lambda>" (X.env.qual ++ "<lambda>") params body scope (cloFrom X.env.cells scope.names []) pm cv ctv) ⟨[], []⟩ = pure [])
    (h6 : ∀ (f cc : Addr) (A : Around) (outer : List Env) (s : Shared) (H : Hp) (E : XK), Room k (A.deeper (LamX.lamEnv X scope s.heap.objs.size f cc)) → PE (LamX.lamCx X A outer s H E scope f cc) body (tb E)) (hi : ∀ i, z = .er i → i < 11) (h9 : ∀ E M S σ' I', Ex I I' → ag σ' → Em E cl M (tb E) σ' I' S u z S) :
    ∀ f cc I', Ex I I' → I' f = some (LamC f (X.env.qual ++ "<lambda>") params body scope (cloFrom X.env.cells scope.names []) cc) → I' cc = some (LamX.CodeO cc (X.env.qual ++ "<lambda>")) → (kLam X cl k ag u).r I' (.ref f) z := fun f cc I' e h2 h3 =>
  ⟨f, cc, params, body, scope, tb, rfl, h2, h3, h4, h5, h6 f cc, hi, fun E M S σ' I2 e2 => h9 E M S σ' I2 (e.trans e2)⟩
section
variable {K : PySem.W.Frag} {α β γ δ R τ : Type} {E E' : XK} {cl : Nat → Addr} {M : List Addr} {σ : L2.St} {I I' H H' : Hp} {S S' S1 S2 S3 : List Cell} {te ta tb tc to : TE} {tt : TT} {tr : TA} {t : Ty α} {u : Ty β} {w' : Ty γ} {v : V}  {n : Int} {x : α} {y : β}
theorem em_toldR {X : Cx} {k : Nat} {ag : L2.St → Prop} {z : Re β} (ha : Ea E' cl M tr σ I S (aC (kLam X cl k ag u) a0) (.ok (z, ())) S') (hag : ag σ) : Em E' cl M (tToldC X cl k tr) σ I S (kRe u) (.ok z) S' :=
  em_mk ha.ad fun H1 i w Q q => ea_of ha H1 i w _ fun vs H2 e w2 r => by
    obtain ⟨v, rs, rfl, ⟨f, cc, params, body, scope, tb, rfl, h2, h3, h4, h5, h6, h7, h9⟩, rfl⟩ := r
    exact ⟨f, cc, params, body, scope, tb, rfl, (del_some.mp h2).2, (del_some.mp h3).2, h4, h5, h6, (h9 (ETold cl Q) M S' σ (del M H2) (Ex.refl _) hag).run H2 (Ex.refl _) w2 Q (fun y v H3 ez e3 w3 r3 => q v H3 (ads_tr ha.ad e e3) w3 (by subst ez; exact r3)) fun k H3 ek e3 w3 => ⟨k, h7 k ek, rfl, q _ H3 (ads_tr ha.ad e e3) w3 (by subst ek; exact ⟨rfl, h7 _ rfl⟩)⟩⟩
theorem re_ok {z : Re β} {y : β} (e : z = .ok y) (r : (kRe u).r I v z) : u.r I v y := by subst e; exact r
theorem re_er {z : Re β} {i : Nat} (e : z = .er i) (r : (kRe u).r I v z) : v = .str (kindName i) := by subst e; exact r.1
theorem em_reS {z : Re β} {i : Nat} (e : z = .er i) (h : Em E cl M te σ I S (kRe u) (.ok z) S') : Em E cl M te σ I S kSo (.ok (kindName i)) S' :=
  em_mk h.ad fun H1 i1 w Q q => em_of h H1 i1 w _ fun v H2 e2 w2 r => q v H2 e2 w2 (by subst e; exact ⟨r.1, kind_ok _ r.2⟩)
theorem em_reS0 {z : Re β} {i : Nat} (e : z = .er i) (h : Em E cl M te σ I S (kRe u) (.ok z) S') : Em E cl M te σ I S kS (.ok (kindName i)) S' :=
  em_mk h.ad fun H1 i1 w Q q => em_of h H1 i1 w _ fun v H2 e2 w2 r => q v H2 e2 w2 (by subst e; exact r.1)
theorem rng_get {f i : Int} (h : 0 ≤ i ∧ i < f) : (rng 0 f)[i.toNat]? = some i := by
  unfold rng
  rw [List.getElem?_map, List.getElem?_range (by omega)]
  show some ((0 : Int) + ((i.toNat : Nat) : Int)) = some i
  congr 1
  omega
instance reDec {α : Type} [DecidableEq α] : DecidableEq (Re α) := fun a b => match a, b with
  | .ok x, .ok y => if h : x = y then isTrue (by rw [h]) else isFalse (fun e => h (by cases e; rfl))
  | .er i, .er j => if h : i = j then isTrue (by rw [h]) else isFalse (fun e => h (by cases e; rfl))
  | .ok _, .er _ => isFalse (fun e => nomatch e)
  | .er _, .ok _ => isFalse (fun e => nomatch e)
/-- numbers or the word 'day' compared -/
theorem o_neRe {a b : Re Int} (ha : ∀ i, a = .er i → i = 1) (hb : ∀ i, b = .er i → i = 1) : Op2 rNe (kRe kI) a (kRe kI) b kB (!decide (a = b)) := fun M v1 v2 H l r1 r2 Q q => by
  cases a with
  | ok i =>
    obtain rfl : v1 = .int i := r1
    cases b with
    | ok j =>
      obtain rfl : v2 = .int j := r2
      exact ⟨rfl, q _ H (Ex.refl H) (by show V.bl _ = V.bl _; congr 1 <;> simp)⟩
    | er j =>
      obtain ⟨rfl, _⟩ := r2
      exact ⟨rfl, q _ H (Ex.refl H) (by show V.bl _ = V.bl _; congr 1 <;> simp)⟩
  | er i =>
    obtain rfl := ha i rfl
    obtain ⟨rfl, _⟩ := r1
    cases b with
    | ok j =>
      obtain rfl : v2 = .int j := r2
      exact ⟨rfl, q _ H (Ex.refl H) (by show V.bl _ = V.bl _; congr 1 <;> simp)⟩
    | er j =>
      obtain rfl := hb j rfl
      obtain ⟨rfl, _⟩ := r2
      exact ⟨rfl, q _ H (Ex.refl H) (by show V.bl _ = V.bl _; congr 1 <;> simp)⟩
theorem em_ok {t : Ty α} (h : Em E cl M te σ I S t (.ok x) S') : Em E cl M te σ I S (kRe t) (.ok (.ok x)) S' := em_ty h fun _ _ r => r
theorem em_day : Em E cl M (tC (.str "day")) σ I S (kRe (α := α) t) (.ok (.er 1)) S := em_c ⟨rfl, by decide⟩
/-- lists as they were just made -/
def kX (t : Ty α) : Ty (List α) := ⟨fun H v xs => ∃ p vs, v = .ref p ∧ H p = some (.lst vs) ∧ All2 (t.r H) vs xs, fun e ⟨p, vs, a, b, c⟩ => ⟨p, vs, a, e _ _ b, all2_up t e c⟩⟩
theorem em_lstX {xs : List α} (h : Ea E cl M tr σ I S (aL t) (.ok xs) S') (hl : xs.length ≤ 100000) : Em E cl M (tLst tr) σ I S (kX t) (.ok xs) S' :=
  em_mk h.ad fun H1 i w Q q => ea_of h H1 i w _ fun vs H2 e w1 r => ⟨sz_of (by rw [r.len]; exact hl), fun p hp => q _ _ (e.trans (ex_del (Ex.new hp))) (w1.ex (Ex.new hp)) ⟨p, vs, rfl, del_at (fresh_not w1.live hp) upd_same, all2_up t (ex_del (Ex.new hp)) r⟩⟩
theorem o_catX {xs ys : List α} (hl : xs.length + ys.length ≤ 100000) : Op2 rCat (kX t) xs (kX t) ys (kL K t) (xs ++ ys) := fun M u w H l a b Q q => by
  obtain ⟨p, vs, rfl, hp, ha⟩ := a
  obtain ⟨p2, ws, rfl, hp2, hb⟩ := b
  exact ⟨p, p2, vs, ws, rfl, rfl, (del_some.mp hp).2, (del_some.mp hp2).2, sz_of (by rw [ha.len, hb.len]; exact hl), fun q2 hq => q _ _ (Ex.new hq) ⟨q2, _, rfl, sq_of (del_at (fresh_not l hq) upd_same), all2_up t (ex_del (Ex.new hq)) (ha.app hb)⟩⟩
end
end Rw
namespace Rw
open PySem PySem.Spec PyProof.Rows L2 Evl
theorem cond_er {α : Type} {b : Bool} {i k : Nat} {r : Re α} (h : cond b (.er k) r = .er i) (hk : k < 11) (hr : r = .er i → i < 11) : i < 11 := by
  cases b with
  | true => cases h; exact hk
  | false => exact hr h
theorem rng_app {a b d : Int} (h1 : a ≤ b) (h2 : b ≤ d) : rng a d = rng a b ++ rng b d := by
  unfold rng
  rw [show (d - a).toNat = (b - a).toNat + (d - b).toNat by omega, List.range_add, List.map_append, List.map_map]
  congr 1
  apply List.map_congr_left
  intro k _
  show a + ((((b - a).toNat + k : Nat)) : Int) = b + (k : Int)
  omega
theorem filter_cut {a b lo hi : Int} {p q : Int → Bool} (h1 : a ≤ lo) (h2 : lo ≤ hi) (h3 : hi ≤ b) (hp : ∀ x, a ≤ x → x < b → p x = (decide (lo ≤ x ∧ x < hi) && q x)) : (rng a b).filter p = (rng lo hi).filter q := by
  rw [rng_app h1 (Int.le_trans h2 h3), rng_app h2 h3, List.filter_append, List.filter_append]
  have e1 : (rng a lo).filter p = [] := by
    rw [List.filter_eq_nil_iff]
    intro x hx
    rw [rng_mem] at hx
    rw [hp x hx.1 (by omega), decide_eq_false (by omega)]
    simp
  have e3 : (rng hi b).filter p = [] := by
    rw [List.filter_eq_nil_iff]
    intro x hx
    rw [rng_mem] at hx
    rw [hp x (by omega) hx.2, decide_eq_false (by omega)]
    simp
  have e2 : (rng lo hi).filter p = (rng lo hi).filter q := by
    apply List.filter_congr
    intro x hx
    rw [rng_mem] at hx
    rw [hp x (by omega) (by omega), decide_eq_true ⟨hx.1, hx.2⟩, Bool.true_and]
  rw [e1, e2, e3, List.nil_append, List.append_nil]
theorem nrm {tz : TS} {D : Ends} {σ σ' : L2.St} {H : Hp} (h : σ = σ') (k : tz D σ' H) : tz D σ H := by rw [h]; exact k
/-- what follows is shown once -/
theorem g_ifR {tt : TT} {tu tw tz : TS} {D : Ends} {σ : L2.St} {H : Hp} (Rel : L2.St → Hp → Prop) (hr : ∀ σ' H', Rel σ' H' → tz D σ' H') (hb : (∀ σ' H', Rel σ' H' → tz D σ' H') → tSeq (tIfS tt tu tw) tz D σ H) : tSeq (tIfS tt tu tw) tz D σ H := hb hr
theorem call_len_seqK {X : Cx} {K : PySem.W.Frag} (h : X.K = K := by rfl) : CallR X (.builtin "len") (fun xs H Q => ∃ p ys, xs = [.ref p] ∧ (SqL K H p ys ∨ SqT K H p ys) ∧ Q (.int ys.length) H) := by
  subst h
  exact call_len_seq
theorem o_ixLG {K : PySem.W.Frag} {α : Type} {t : Ty α} {xs : List α} {i : Int} {z : α} (h : 0 ≤ i ∧ i < (xs.length : Int)) : Op2 (rIxL K) (kL K t) xs kI i t (xs.getD i.toNat z) :=
  o_ixL (n := i.toNat) (by rw [List.getD_eq_getElem?_getD, List.getElem?_eq_getElem (show i.toNat < xs.length by omega)]; rfl) (by omega)
end Rw
namespace Rw
open PySem PySem.Spec PyProof.Rows L2 Evl
/-! ### objects of the program's own classes, by their fields -/
def kOb {β : Type} (C : Addr) (R : Hp → List (Str × V) → β → Prop) (up : ∀ {H H' : Hp} {fs : List (Str × V)} {b : β}, Ex H H' → R H fs b → R H' fs b) : Ty β :=
  ⟨fun H v b => ∃ x dx fs, v = .ref x ∧ H x = some (.ins C dx fs) ∧ R H fs b, fun e ⟨x, dx, fs, a, b, c⟩ => ⟨x, dx, fs, a, e _ _ b, up e c⟩⟩
/-- an object in the making, or one that changes: its fields as they stand -/
def cIns (x D dx : Addr) (fs : List (Str × V)) : Cell := ⟨x, List (Str × V), fun _ o l => o = .ins D dx l, fun _ h => h, fs⟩
def UpA {α : Type} (A : AR α) : Prop := ∀ {H H' : Hp} {vs : List V} {a : α}, Ex H H' → A H vs a → A H' vs a
theorem up_a0 : UpA a0 := fun _ h => h
theorem up_aC {α β : Type} {t : Ty α} {A : AR β} (u : UpA A) : UpA (aC t A) := fun e ⟨v, r, h1, h2, h3⟩ => ⟨v, r, h1, t.up e h2, u e h3⟩
/-- __init__ of a class whose objects change no more: its arguments, what it asks, what it makes -/
def spIni {α β : Type} (C : Addr) (A : AR α) (pre : α → Prop) (f : α → Re β) (R : Hp → List (Str × V) → β → Prop) (cl : Nat → Addr) : Sp := fun vs H Q E => ∃ M x dx ws a, vs = .ref x :: ws ∧ x ∈ M ∧ (∀ m ∈ M, H m ≠ none) ∧ H x = some (.ins C dx []) ∧ A (del M H) ws a ∧ pre a ∧
  (∀ b fs H', f a = .ok b → H' x = some (.ins C dx fs) → Ex (del [x] H) (del [x] H') → R (del M H') fs b → Q .non H') ∧ (∀ k H', f a = .er k → Ex (del [x] H) (del [x] H') → E (.ref (cl k)) none H')
theorem putF_le {f : Str} {v : V} {n : Nat} : ∀ {fs : List (Str × V)}, fs.length ≤ n → (putF f v fs).length ≤ n + 1
  | [], _ => by show 1 ≤ _; omega
  | (g, y) :: r, h => by
    unfold putF
    split
    · exact Nat.le_succ_of_le h
    · cases n with
      | zero => simp at h
      | succ n => exact Nat.succ_le_succ (putF_le (by simpa using h))
section
variable {K : PySem.W.Frag} {α β γ δ R τ : Type} {E E' : XK} {cl : Nat → Addr} {M : List Addr} {σ : L2.St} {I I' H H' : Hp} {S S' S1 S2 S3 : List Cell} {te ta tb tc to tv : TE} {tt : TT} {tr : TA} {t : Ty α} {u : Ty β} {C x dx : Addr} {fs : List (Str × V)} {nm : Str} {v : V} {D : Ends} {tz : TS}
theorem em_mkOb {α' : Type} {A : AR α'} {B : AR γ} {a : α'} {b' : γ} {pre : α' → Prop} {f : α' → Re β} {Rr : Hp → List (Str × V) → β → Prop} {up : ∀ {H H' : Hp} {fs : List (Str × V)} {b : β}, Ex H H' → Rr H fs b → Rr H' fs b} {dvs : List V}
    (h : Ea E' cl M tr σ I S B (.ok b') S') (hA : ∀ H vs, B H vs b' → A H (vs ++ dvs) a) (uA : UpA A) (hp : pre a) : Em E' cl M (tMake C (spIni C A pre f Rr cl) dvs E' tr) σ I S (kOb C Rr up) (f a) S' :=
  ⟨h.ad, fun H1 i w Q q qe => ea_of h H1 i w _ fun vs H2 e2 w2 r2 => by
    refine fun x dx nx nd ne => ?_
    have eN : Ex H2 (upd (upd H2 dx (.own x)) x (.ins C dx [])) := (Ex.new nd).trans (Ex.new (by rw [upd_ne (Ne.symm ne)]; exact nx))
    have xM : x ∉ M := fun z => w2.live _ z nx
    have e3 : ∀ H', Ex (del [x] (upd (upd H2 dx (.own x)) x (.ins C dx []))) (del [x] H') → Ex H2 H' := fun H' eB b o e => by
      have hb : b ≠ x := fun z => by rw [z, nx] at e; cases e
      exact (del_some.mp (eB b o (del_some.mpr ⟨by simp [hb], eN _ _ e⟩))).2
    refine ⟨x :: M, x, dx, vs ++ dvs, a, rfl, List.mem_cons_self, fun m hm => ?_, upd_same, uA ((del_new nx).trans (ex_del eN)) (hA _ _ r2), hp, fun b fs H' hf hx eB hR => ⟨rfl, ?_⟩, fun k H' hf eB => ?_⟩
    · rcases List.mem_cons.mp hm with z | z
      · rw [z, upd_same]; exact fun z => nomatch z
      · cases h2 : H2 m with
        | none => exact absurd h2 (w2.live m z)
        | some o => rw [eN m o h2]; exact fun z => nomatch z
    · exact q b _ H' hf (e2.trans (ex_del (e3 H' eB))) (w2.ex (e3 H' eB)) ⟨x, dx, fs, rfl, del_at xM hx, up del_free hR⟩
    · exact qe k H' hf (e2.trans (ex_del (e3 H' eB))) (w2.ex (e3 H' eB))⟩
theorem em_mkObP {α' : Type} {A : AR α'} {B : AR γ} {a : α'} {b' : γ} {y : β} {pre : α' → Prop} {f : α' → Re β} {Rr : Hp → List (Str × V) → β → Prop} {up : ∀ {H H' : Hp} {fs : List (Str × V)} {b : β}, Ex H H' → Rr H fs b → Rr H' fs b} {dvs : List V}
    (h : Ea E cl M tr σ I S B (.ok b') S') (hA : ∀ H vs, B H vs b' → A H (vs ++ dvs) a) (uA : UpA A) (hp : pre a) (hf : f a = .ok y) : Em E cl M (tMake C (spIni C A pre f Rr cl) dvs E' tr) σ I S (kOb C Rr up) (.ok y) S' :=
  em_mk h.ad fun H1 i w Q q => ea_of h H1 i w _ fun vs H2 e2 w2 r2 => by
    refine fun x dx nx nd ne => ?_
    have eN : Ex H2 (upd (upd H2 dx (.own x)) x (.ins C dx [])) := (Ex.new nd).trans (Ex.new (by rw [upd_ne (Ne.symm ne)]; exact nx))
    have xM : x ∉ M := fun z => w2.live _ z nx
    have e3 : ∀ H', Ex (del [x] (upd (upd H2 dx (.own x)) x (.ins C dx []))) (del [x] H') → Ex H2 H' := fun H' eB b o e => by
      have hb : b ≠ x := fun z => by rw [z, nx] at e; cases e
      exact (del_some.mp (eB b o (del_some.mpr ⟨by simp [hb], eN _ _ e⟩))).2
    refine ⟨x :: M, x, dx, vs ++ dvs, a, rfl, List.mem_cons_self, fun m hm => ?_, upd_same, uA ((del_new nx).trans (ex_del eN)) (hA _ _ r2), hp, fun b fs H' hf' hx eB hR => ⟨rfl, ?_⟩, fun k H' hf' eB => ?_⟩
    · rcases List.mem_cons.mp hm with z | z
      · rw [z, upd_same]; exact fun z => nomatch z
      · cases h2 : H2 m with
        | none => exact absurd h2 (w2.live m z)
        | some o => rw [eN m o h2]; exact fun z => nomatch z
    · rw [hf] at hf'
      cases hf'
      exact q _ H' (e2.trans (ex_del (e3 H' eB))) (w2.ex (e3 H' eB)) ⟨x, dx, fs, rfl, del_at xM hx, up del_free hR⟩
    · rw [hf] at hf'; cases hf'
/-- o.nm of an object -/
theorem em_obF {b : β} {y : α} {Rr : Hp → List (Str × V) → β → Prop} {up : ∀ {H H' : Hp} {fs : List (Str × V)} {b : β}, Ex H H' → Rr H fs b → Rr H' fs b} (hc : Cls K C) (hn : NoAttr K C nm) (hl : ∀ H fs, Rr H fs b → ∃ v, fs.lookup nm = some v ∧ t.r H v y) (h : Em E cl M to σ I S (kOb C Rr up) (.ok b) S') : Em E cl M (tFld K to nm) σ I S t (.ok y) S' :=
  em_mk h.ad fun H1 i w Q q => em_of h H1 i w _ fun v H2 e w2 r => by
    obtain ⟨x, dx, fs, rfl, h1, h2⟩ := r
    obtain ⟨v, h3, h4⟩ := hl _ _ h2
    exact ⟨x, C, dx, fs, v, rfl, (del_some.mp h1).2, hc, hn, h3, q v H2 e w2 h4⟩
/-- self.nm, self in the making -/
theorem em_cellF {n : Nat} {y : α} (ho : Em E cl M to σ I S (kPtr x) (.ok ()) S) (hk : S[n]? = some (cIns x C dx fs)) (hc : Cls K C) (hn : NoAttr K C nm) (hl : fs.lookup nm = some v) (r : t.r I v y) : Em E cl M (tFld K to nm) σ I S t (.ok y) S :=
  em_mk ho.ad fun H1 i w Q q => em_of ho H1 i w _ fun v' H2 e w2 r' => by
    obtain rfl : v' = .ref x := r'
    obtain ⟨_, o, h1, h2⟩ := w2.at_ _ (List.mem_of_getElem? hk)
    obtain rfl : o = .ins C dx fs := h2
    exact ⟨x, C, dx, fs, v, rfl, h1, hc, hn, hl, q v H2 e w2 (t.up (i.trans (w.grow e)) r)⟩
/-- self.nm = e -/
theorem g_fld {n : Nat} {y : α} (w : Holds M S H) (h : Em E cl M tv σ (del M H) S t (.ok y) S1) (ho : Em E cl M to σ (del M H) S1 (kPtr x) (.ok ()) S1) (hk : S1[n]? = some (cIns x C dx fs)) (hc : Cls K C) (hn : NoAttr K C nm) (hl : fs.length < 1000)
    (k : ∀ v H2, Gr M S H H2 → Holds M (S1.set n (cIns x C dx (putF nm v fs))) H2 → t.r (del M H2) v y → tz D σ H2) : tSeq (sFld K to tv nm) tz D σ H :=
  em_of h H (Ex.refl _) w _ fun v H2 e w2 r => em_of ho H2 (w.grow e) w2 _ fun v' H3 e3 w3 r' => by
    obtain rfl : v' = .ref x := r'
    obtain ⟨hM, o, h1, h2⟩ := w3.at_ _ (List.mem_of_getElem? hk)
    obtain rfl : o = .ins C dx fs := h2
    have w4 : Holds M (S1.set n (cIns x C dx (putF nm v fs))) (upd H3 x (.ins C dx (putF nm v fs))) := w3.put (c := cIns x C dx fs) (c' := cIns x C dx (putF nm v fs)) hk rfl rfl
    have xs : x ∈ ads S := by
      have : x ∈ ads S1 := List.mem_map.mpr ⟨_, List.mem_of_getElem? hk, rfl⟩
      rw [h.ad] at this
      exact this
    have e4 : Ex (del (ads S) H3) (del (ads S) (upd H3 x (.ins C dx (putF nm v fs)))) := by rw [del_upd xs]; exact Ex.refl _
    have e03 : Ex (del (ads S) H) (del (ads S) H3) := ads_tr h.ad e e3
    refine ⟨x, C, dx, fs, rfl, h1, hc, hn, hl, k v _ (.of w (e03.trans e4)) w4 ?_⟩
    rw [del_upd (show x ∈ M from hM)]
    exact t.up (w2.grow e3) r
theorem g_fldL {n : Nat} {y : α} (w : Holds M S H) (h : Em E cl M tv σ (del M H) S t (.ok y) S1) (ho : Em E cl M to σ (del M H) S1 (kPtr x) (.ok ()) S1) (hk : S1[n]? = some (cIns x C dx fs)) (hc : Cls K C) (hn : NoAttr K C nm) (hl : fs.length < 1000)
    (k : ∀ v H2, Gr M S H H2 → Holds M (S1.set n (cIns x C dx (putF nm v fs))) H2 → t.r (del M H2) v y → D.nx σ H2) : sFld K to tv nm D σ H :=
  g_fld (tz := fun D σ H => D.nx σ H) (D := D) w h ho hk hc hn hl k
theorem pe_GI {X : Cx} {pos : Pos} {x : Str} {i : Int} (h : ∃ t, X.mg x = some (.int i t)) (hg : Gl X x := by rfl) (hd : (x == "__debug__") = false := by rfl) : PE X (.Name x pos) (tC (.int i)) :=
  let ⟨t, e⟩ := h
  pe_glob hg e ⟨t, rfl⟩ hd
theorem o_tupT {K : PySem.W.Frag} {α : Type} {t : Ty α} {xs : List α} : OpN (fun xs H Q => ∃ p ys, xs = [.ref p] ∧ ((SqL K H p ys ∧ ∀ l, H l = none → Q (.ref l) (upd H l (.tup ys))) ∨ (SqT K H p ys ∧ Q (.ref p) H))) (aC (kT K t) a0) (xs, ()) (kT K t) xs := fun M us H l a Q q => by
  obtain ⟨v, r, rfl, ⟨p, vs, rfl, hp, ha⟩, rfl⟩ := a
  exact ⟨p, vs, rfl, .inr ⟨ex_t del_le hp, q _ H (Ex.refl H) ⟨p, vs, rfl, hp, ha⟩⟩⟩
theorem o_tup2 {K : PySem.W.Frag} {α β : Type} {t : Ty α} {u : Ty β} {x : α × β} : OpN (fun xs H Q => ∃ p ys, xs = [.ref p] ∧ ((SqL K H p ys ∧ ∀ l, H l = none → Q (.ref l) (upd H l (.tup ys))) ∨ (SqT K H p ys ∧ Q (.ref p) H))) (aC (k2 K t u) a0) (x, ()) (k2 K t u) x := fun M us H l a Q q => by
  obtain ⟨v, r, rfl, ⟨p, v1, v2, rfl, hp, ha⟩, rfl⟩ := a
  exact ⟨p, _, rfl, .inr ⟨ex_t del_le hp, q _ H (Ex.refl H) ⟨p, v1, v2, rfl, hp, ha⟩⟩⟩
end
end Rw
namespace Rw
open PySem PySem.Spec PyProof.Rows L2 Evl
section
variable {K : PySem.W.Frag} {α β γ δ R τ : Type} {E E' : XK} {cl : Nat → Addr} {M : List Addr} {σ : L2.St} {I I' H H' : Hp} {S S' S1 S2 S3 : List Cell} {te ta tb tc to tv : TE} {tt : TT} {tr tk : TA} {t : Ty α} {u : Ty β} {w' : Ty γ} {C x dx : Addr} {D : Ends} {tz : TS}
theorem cond_ok {b : Bool} {x y : α} : cond b (Re.ok x) (Re.ok y) = Re.ok (cond b x y) := by cases b <;> rfl
theorem args_mG {t : Ty α} {A : AR β} {x : α} {b : β} : ∀ (H : Hp) (v : V) (vs : List V), t.r H v x → A H vs b → aC t A H (v :: (vs ++ [])) (x, b) := fun H v vs r h => ⟨v, vs ++ [], rfl, r, by rw [List.append_nil]; exact h⟩
theorem em_2T {x y : α} (h : Em E cl M te σ I S (k2 K t t) (.ok (x, y)) S') : Em E cl M te σ I S (kT K t) (.ok [x, y]) S' :=
  em_ty h fun H v ⟨p, a, b, e, s, ra, rb⟩ => ⟨p, [a, b], e, s, .cons ra (.cons rb .nil)⟩
theorem em_3T {x y z : α} (h : Em E cl M te σ I S (k3 K t t t) (.ok (x, y, z)) S') : Em E cl M te σ I S (kT K t) (.ok [x, y, z]) S' :=
  em_ty h fun H v ⟨p, a, b, c, e, s, ra, rb, rc⟩ => ⟨p, [a, b, c], e, s, .cons ra (.cons rb (.cons rc .nil))⟩
theorem o_catT {xs ys : List α} (h : xs ≠ []) (hl : xs.length + ys.length ≤ 100000) : Op2 (rCatT K) (kT K t) xs (kT K t) ys (kT K t) (xs ++ ys) := fun M v1 v2 H l a b Q q => by
  obtain ⟨p, vs, rfl, hp, ha⟩ := a
  obtain ⟨p2, vs2, rfl, hp2, ha2⟩ := b
  exact ⟨p, p2, vs, vs2, rfl, rfl, ex_t del_le hp, ex_t del_le hp2, (fun z => by subst z; cases ha; exact h rfl), sz_of (by rw [ha.len, ha2.len]; exact hl), (fun z => by subst z; cases ha2; exact q _ H (Ex.refl H) ⟨p, vs, rfl, hp, by rw [List.append_nil]; exact ha⟩), fun _ q2 hq => q _ _ (Ex.new hq) ⟨q2, _, rfl, st_of (del_at (fresh_not l hq) upd_same), all2_up t (ex_del (Ex.new hq)) (ha.app ha2)⟩⟩
theorem o_catL {xs ys : List α} (hl : xs.length + ys.length ≤ 100000) (hX : ∀ (M : List Addr) (H : Hp) (v : V), (kL K t).r (del M H) v xs → ∃ p vs, v = .ref p ∧ H p = some (.lst vs) ∧ All2 (t.r (del M H)) vs xs) (hY : ∀ (M : List Addr) (H : Hp) (v : V), (kL K t).r (del M H) v ys → ∃ p vs, v = .ref p ∧ H p = some (.lst vs) ∧ All2 (t.r (del M H)) vs ys) : Op2 rCat (kL K t) xs (kL K t) ys (kL K t) (xs ++ ys) := fun M u w H l a b Q q => by
  obtain ⟨p, vs, rfl, hp, ha⟩ := hX _ _ _ a
  obtain ⟨p2, ws, rfl, hp2, hb⟩ := hY _ _ _ b
  exact ⟨p, p2, vs, ws, rfl, rfl, hp, hp2, sz_of (by rw [ha.len, hb.len]; exact hl), fun q2 hq => q _ _ (Ex.new hq) ⟨q2, _, rfl, sq_of (del_at (fresh_not l hq) upd_same), all2_up t (ex_del (Ex.new hq)) (ha.app hb)⟩⟩
theorem em_kXL {xs : List α} (h : Em E cl M te σ I S (kX t) (.ok xs) S') : Em E cl M te σ I S (kL K t) (.ok xs) S' :=
  em_ty h fun H v ⟨p, vs, e, s, r⟩ => ⟨p, vs, e, sq_of s, r⟩
theorem o_tupL {K : PySem.W.Frag} {α : Type} {t : Ty α} {xs : List α} : OpN (fun xs H Q => ∃ p ys, xs = [.ref p] ∧ ((SqL K H p ys ∧ ∀ l, H l = none → Q (.ref l) (upd H l (.tup ys))) ∨ (SqT K H p ys ∧ Q (.ref p) H))) (aC (kL K t) a0) (xs, ()) (kT K t) xs := fun M us H l a Q q => by
  obtain ⟨v, r, rfl, ⟨p, vs, rfl, hp, ha⟩, rfl⟩ := a
  exact ⟨p, vs, rfl, .inl ⟨ex_l del_le hp, mk_tup l ha q⟩⟩
/-! ### least and greatest -/
def minOf (l : List Int) : Int := l.foldl min (l.headD 0)
theorem fold_min : ∀ (l : List Int) (a : Int), l.foldl min a ≤ a ∧ (∀ x ∈ l, l.foldl min a ≤ x) ∧ (l.foldl min a = a ∨ l.foldl min a ∈ l)
  | [], a => ⟨Int.le_refl _, fun x h => (by cases h), .inl rfl⟩
  | b :: l, a => by
    obtain ⟨h1, h2, h3⟩ := fold_min l (min a b)
    rw [List.foldl_cons]
    refine ⟨by omega, fun x hx => ?_, ?_⟩
    · rcases List.mem_cons.mp hx with z | z
      · rw [z]; omega
      · exact h2 x z
    · rcases h3 with z | z
      · rw [z]
        rcases Int.le_total a b with q | q
        · left; exact Int.min_eq_left q
        · right; rw [Int.min_eq_right q]; exact List.mem_cons_self
      · exact .inr (List.mem_cons_of_mem _ z)
theorem minOf_is {l : List Int} {m : Int} (h : m ∈ l) (k : ∀ n ∈ l, m ≤ n) : minOf l = m := by
  unfold minOf
  obtain ⟨h1, h2, h3⟩ := fold_min l (l.headD 0)
  have a := h2 m h
  have hd : l.headD 0 ∈ l := by cases l with
    | nil => cases h
    | cons a l => exact List.mem_cons_self
  have b : m ≤ l.foldl min (l.headD 0) := by
    rcases h3 with z | z
    · rw [z]; exact k _ hd
    · exact k _ z
  omega
theorem minOf_mem {l : List Int} (h : 0 < l.length) : minOf l ∈ l ∧ ∀ n ∈ l, minOf l ≤ n := by
  unfold minOf
  obtain ⟨h1, h2, h3⟩ := fold_min l (l.headD 0)
  refine ⟨?_, h2⟩
  rcases h3 with z | z
  · rw [z]
    cases l with
    | nil => cases h
    | cons a l => exact List.mem_cons_self
  · exact z
theorem topOf_mem {l : List Int} (h : 0 < l.length) : topOf l ∈ l ∧ ∀ n ∈ l, n ≤ topOf l := by
  unfold topOf
  obtain ⟨h1, h2, h3⟩ := fold_max l (l.headD 0)
  refine ⟨?_, h2⟩
  rcases h3 with z | z
  · rw [z]
    cases l with
    | nil => cases h
    | cons a l => exact List.mem_cons_self
  · exact z
theorem o_minT {ns : List Int} (h : 0 < ns.length) : OpN (rMinT K) (aC (kT K kI) a0) (ns, ()) kI (minOf ns) := fun M us H l a Q q => by
  obtain ⟨v, r, rfl, ⟨p, vs, rfl, hp, ha⟩, rfl⟩ := a
  exact ⟨p, ns, rfl, ex_t del_le (by rw [← all_ints ha]; exact hp), h, fun m h1 h2 => q _ H (Ex.refl H) (by rw [minOf_is h1 h2]; rfl)⟩
theorem o_minL {ns : List Int} (h : 0 < ns.length) : OpN (rMin K) (aC (kL K kI) a0) (ns, ()) kI (minOf ns) := fun M us H l a Q q => by
  obtain ⟨v, r, rfl, ⟨p, vs, rfl, hp, ha⟩, rfl⟩ := a
  exact ⟨p, ns, rfl, ex_l del_le (by rw [← all_ints ha]; exact hp), h, fun m h1 h2 => q _ H (Ex.refl H) (by rw [minOf_is h1 h2]; rfl)⟩
theorem o_maxL {ns : List Int} (h : 0 < ns.length) : OpN (rMax K) (aC (kL K kI) a0) (ns, ()) kI (topOf ns) := fun M us H l a Q q => by
  obtain ⟨v, r, rfl, ⟨p, vs, rfl, hp, ha⟩, rfl⟩ := a
  exact ⟨p, ns, rfl, ex_l del_le (by rw [← all_ints ha]; exact hp), h, fun m h1 h2 => q _ H (Ex.refl H) (by rw [topOf_is h1 h2]; rfl)⟩
theorem o_sumT {ns : List Int} : OpN (rSumT K) (aC (kT K kI) a0) (ns, ()) kI ns.sum := fun M us H l a Q q => by
  obtain ⟨v, r, rfl, ⟨p, vs, rfl, hp, ha⟩, rfl⟩ := a
  exact ⟨p, ns, rfl, ex_t del_le (by rw [← all_ints ha]; exact hp), q _ H (Ex.refl H) rfl⟩
theorem em_ckw {ns : List Int} {d : Int} (h : Ea E cl M tr σ I S (aC (kL K kI) a0) (.ok (ns, ())) S1) (h2 : Ea E cl M tk σ I S1 (aC kI a0) (.ok (d, ())) S2) : Em E cl M (tCKw (rMaxD K) tr tk) σ I S kI (.ok (maxD d ns)) S2 :=
  em_mk (h2.ad.trans h.ad) fun H1 i w Q q => ea_of h H1 i w _ fun us H2 e2 w2 r2 => ea_of h2 H2 (i.trans (w.grow e2)) w2 _ fun zs H3 e3 w3 r3 => by
    obtain ⟨v, r, rfl, hv, rfl⟩ := r2
    obtain ⟨p, vs, rfl, hp, ha⟩ := (kL K kI).up (w2.grow e3) hv
    obtain ⟨z, r', rfl, rfl, rfl⟩ := r3
    exact ⟨p, ns, d, rfl, rfl, ex_l del_le (by rw [← all_ints ha]; exact hp), q _ H3 (ads_tr h.ad e2 e3) w3 rfl⟩
theorem o_negI {i : Int} : Op1 (rU fun i => .int (-i)) kI i kI (-i) := fun M v H l a Q q => by
  obtain rfl : v = .int i := a
  exact ⟨i, rfl, q _ H (Ex.refl H) rfl⟩
/-! ### x in a list, a list's count -/
theorem op_notInK {X : Cx} (h : X.K = K := by rfl) : OpR X (compareOp .NotIn) (rIn K true) := by
  subst h
  exact op_notIn_seq
theorem inV_int {i : Int} : ∀ {xs : List Int} {vs : List V} {H : Hp}, All2 (kI.r H) vs xs → (vs.all flatV = true ∧ inV (.int i) vs = decide (i ∈ xs))
  | [], vs, H, h => by cases h; exact ⟨rfl, rfl⟩
  | x :: xs, vs, H, h => by
    cases h with
    | cons a t =>
      obtain ⟨p, q⟩ := inV_int (i := i) t
      cases a
      refine ⟨by rw [List.all_cons, p]; rfl, ?_⟩
      show (eqV (.int x) (.int i) || inV (.int i) _) = _
      rw [q]
      show (decide (x = i) || _) = _
      by_cases e : x = i
      · rw [decide_eq_true e, Bool.true_or, decide_eq_true (by rw [e]; exact List.mem_cons_self)]
      · rw [decide_eq_false e, Bool.false_or]
        congr 1
        rw [List.mem_cons]
        simp [Ne.symm e, eq_comm]
theorem o_inI {neg : Bool} {i : Int} {xs : List Int} : Op2 (rIn K neg) kI i (kL K kI) xs kB (if neg then !decide (i ∈ xs) else decide (i ∈ xs)) := fun M v1 v2 H l a b Q q => by
  obtain ⟨p, vs, rfl, hp, ha⟩ := b
  obtain rfl : v1 = .int i := a
  obtain ⟨f1, f2⟩ := inV_int (i := i) ha
  refine ⟨p, vs, rfl, .inl (ex_l del_le hp), rfl, f1, ?_⟩
  rw [f2]
  exact q _ H (Ex.refl H) rfl
theorem o_inIT {neg : Bool} {i : Int} {xs : List Int} : Op2 (rIn K neg) kI i (kT K kI) xs kB (if neg then !decide (i ∈ xs) else decide (i ∈ xs)) := fun M v1 v2 H l a b Q q => by
  obtain ⟨p, vs, rfl, hp, ha⟩ := b
  obtain rfl : v1 = .int i := a
  obtain ⟨f1, f2⟩ := inV_int (i := i) ha
  refine ⟨p, vs, rfl, .inr (ex_t del_le hp), rfl, f1, ?_⟩
  rw [f2]
  exact q _ H (Ex.refl H) rfl
def cntI (i : Int) (ns : List Int) : Int := ((ns.countP fun n => decide (n = i) : Nat) : Int)
def rCntI (K : PySem.W.Frag) : V → List V → Hp → VK → Prop := fun x xs H Q => ∃ (a : Addr) (ns : List Int) (i : Int), x = .ref a ∧ xs = [.int i] ∧ SqL K H a (ns.map V.int) ∧ Q (.int (cntI i ns)) H
theorem vals_cnt {i : Int} {y : Value} (ry : RelV (.int i) y) : ∀ {ns : List Int} {us : List Value}, Vals (ns.map V.int) us → us.countP (eqU (.int i)) = ns.countP (fun n => decide (n = i))
  | [], us, h => by cases h; rfl
  | n :: ns, us, h => by
    cases h with
    | cons a t =>
      rename_i u us'
      rw [List.countP_cons, List.countP_cons, vals_cnt ry t, eqU_of a rfl]
      show _ + (if decide (n = i) = true then 1 else 0) = _
      rfl
theorem mt_cntI {X : Cx} : MtR X "list.count" (rCntI X.K) := fun pn sh st Hh v0 vs0 v1 us0 Q0 IV rv0 rvs hh => by
  obtain ⟨a, ns, i, rfl, rfl, hs, q⟩ := hh
  cases rv0
  cases rvs with
  | cons ry rt =>
    rename_i uy ut
    cases rt
    obtain ⟨its, rr, ⟨⟨c0, d0, da0, sl0⟩, n0, ho, hc0, hd0, hda⟩, hlen⟩ := IV.list hs
    simp only at hc0 hda
    subst hc0 hda
    have fl : (ns.map V.int).all flatV = true := by simp [flatV]
    refine call_meets PySem.F.slot_list_count ⟨_, ho, rfl⟩ PySem.F.entry_list_count (PySem.F.args_list_count_2 _ _) (SeqAt.list_countAt a its.toArray n0 d0 sl0 uy (eqU (.int i))) ⟨ho, fun u' hu' => mem_eqAt ry rfl rr fl u' (by simpa using hu'), ?_⟩
    refine ⟨.int (cntI i ns), Hh, IV.tok _, ⟨sh.toks, ?_⟩, q⟩
    unfold cntI
    rw [← vals_cnt ry rr]
theorem em_cntI {ns : List Int} {i : Int} (h : Em E cl M te σ I S (kL K kI) (.ok ns) S1) (h2 : Ea E cl M tr σ I S1 (aC kI a0) (.ok (i, ())) S2) : Em E cl M (tBM K "list" (rCntI K) te tr) σ I S kI (.ok (cntI i ns)) S2 :=
  em_mk (h2.ad.trans h.ad) fun H1 i1 w Q q => em_of h H1 i1 w _ fun v H2 e2 w2 r2 => by
    obtain ⟨p, vs, rfl, hp, ha⟩ := r2
    refine ⟨.inl ⟨rfl, vs, ex_l del_le hp⟩, ea_of h2 H2 (i1.trans (w.grow e2)) w2 _ fun us H3 e3 w3 r3 => ?_⟩
    obtain ⟨z, r', rfl, rfl, rfl⟩ := r3
    exact ⟨p, ns, i, rfl, rfl, ex_l ((w2.grow e3).trans del_le) (by rw [← all_ints ha]; exact hp), q _ H3 (ads_tr h.ad e2 e3) w3 rfl⟩
end
end Rw
namespace Rw
open PySem PySem.Spec PyProof.Rows L2 Evl
section
variable {K : PySem.W.Frag} {α β γ δ R τ : Type} {E E' : XK} {cl : Nat → Addr} {M : List Addr} {σ : L2.St} {I I' H H' : Hp} {S S' S1 S2 S3 : List Cell} {te ta tb tc to tv : TE} {tt : TT} {tr tk : TA} {t : Ty α} {u : Ty β} {p x dx : Addr} {D : Ends} {tz : TS} {l : List (Int × Int)} {P : R → Prop}
theorem g_newD {i : Nat} (w : Holds M S H) (c : ∀ p H2, H p = none → Gr M S H H2 → Holds (p :: M) (cD p [] :: S) H2 → Ex (del M H) (del (p :: M) H2) → tz D (σ.set i (some (.ref p))) H2) : tSeq (tAsg tDNewK (gName i)) tz D σ H := fun p hp => by
  have e0 : Ex H (upd H p (.dK [])) := Ex.new hp
  exact c p _ hp ⟨ex_del e0, ex_del e0⟩ (w.new (c := cD p []) hp e0 upd_same rfl) ((del_new hp).trans (ex_del e0))
theorem g_appL {n : Nat} {p : Addr} {acc0 acc : List α} {x : α} {k : List α → R} (w : Holds M S H) (o : P (lt (acc ++ [x]) k)) (ha : Em E cl M ta σ (del M H) S (kPtr p) (.ok ()) S) (h : Em E cl M te σ (del M H) S t (.ok x) S') (hk0 : S[n]? = some (cL p t acc0)) (hk : S'[n]? = some (cL p t acc)) (hz : acc.length < 100000)
    (c : ∀ acc' H2, acc' = acc ++ [x] → P (k acc') → Gr M S H H2 → Holds M (S'.set n (cL p t acc')) H2 → D.nx σ H2) : tDrop (tBM K "list" rAppend ta (tCons te tNil)) D σ H :=
  g_app (tz := fun D' σ' H' => D.nx σ' H') (D := D) w o ha h hk0 hk hz c
theorem em_cellGet {n : Nat} {k d : Int} (ha : Em E cl M ta σ I S (kPtr p) (.ok ()) S) (hb : Em E cl M tb σ I S kI (.ok k) S) (hc : Em E cl M tc σ I S kI (.ok d) S) (hk : S[n]? = some (cD p l)) : Em E cl M (tDGet2 ta tb tc) σ I S kI (.ok ((l.lookup k).getD d)) S :=
  em_mk rfl fun H1 i w Q q => em_of ha H1 i w _ fun v1 H2 e1 w1 r1 => by
    obtain rfl : v1 = .ref p := r1
    obtain ⟨_, o2, h2, ro⟩ := w1.at_ _ (List.mem_of_getElem? hk)
    obtain rfl : o2 = .dK (l.map pairV) := ro
    refine ⟨p, rfl, .inl ⟨_, .inl h2⟩, em_of hb H2 (i.trans (w.grow e1)) w1 _ fun v2 H3 e2 w2 r2 => em_of hc H3 ((i.trans (w.grow e1)).trans (w1.grow e2)) w2 _ fun v3 H4 e3 w3 r3 => ?_⟩
    obtain rfl : v2 = .int k := r2
    obtain rfl : v3 = .int d := r3
    obtain ⟨_, o4, h4, ro4⟩ := w3.at_ _ (List.mem_of_getElem? hk)
    obtain rfl : o4 = .dK (l.map pairV) := ro4
    refine ⟨valV (l.map pairV) (.inl k), DGet.k (k := .inl k) h4, ?_⟩
    rw [valV_pair]
    refine q _ H4 ((e1.trans e2).trans e3) w3 ?_
    cases l.lookup k with
    | none => rfl
    | some y => rfl
/-- two dicts of numbers that hold the same: never unlike -/
theorem o_neDic {l2 : List (Int × Int)} (hl : l.length = l2.length) (h : ∀ q ∈ l, l2.lookup q.1 = some q.2) : Op2 rNeDA kDN l kDN l2 kB false := fun M v1 v2 H lv a b Q q => by
  obtain ⟨p1, rfl, h1⟩ := a
  obtain ⟨p2, rfl, h2⟩ := b
  refine ⟨p1, p2, _, _, rfl, rfl, (del_some.mp h1).2, (del_some.mp h2).2, by rw [List.length_map, List.length_map]; exact hl, fun z hz => ?_, q _ H (Ex.refl H) rfl⟩
  obtain ⟨y, hy, rfl⟩ := List.mem_map.mp hz
  refine ⟨?_, rfl⟩
  show valV (l2.map pairV) (.inl y.1) = some (.int y.2)
  rw [valV_pair, h y hy]
  rfl
/-- dict(pairs) -/
def dictP (l : List (Int × Int)) : List (Int × Int) := l.foldl (fun acc q => putN acc q.1 q.2) []
theorem merge_pair : ∀ (l acc : List (Int × Int)), mergeK (acc.map pairV) (l.map pairV) = (l.foldl (fun acc q => putN acc q.1 q.2) acc).map pairV
  | [], acc => rfl
  | q :: l, acc => by
    rw [List.map_cons, List.foldl_cons]
    show mergeK (putK (acc.map pairV) (.inl q.1) (.int q.2)) (l.map pairV) = _
    rw [putK_pair]
    exact merge_pair l _
theorem pairs_r {I : Hp} : ∀ {l : List (Int × Int)} {vs : List V}, All2 ((k2 K kI kI).r I) vs l → ∃ ps : List Addr, vs = ps.map V.ref ∧ Paired (fun p (kv : Key × V) => SqT K I p [kV kv.1, kv.2]) ps (l.map pairV)
  | [], vs, h => by cases h; exact ⟨[], rfl, .nil⟩
  | q :: l, vs, h => by
    cases h with
    | cons a t =>
      obtain ⟨ps, rfl, hp⟩ := pairs_r t
      obtain ⟨p, u, w, rfl, hs, ru, rw_⟩ := a
      obtain rfl : u = .int q.1 := ru
      obtain rfl : w = .int q.2 := rw_
      exact ⟨p :: ps, rfl, .cons hs hp⟩
theorem paired_up {H H' : Hp} (e : Ex H H') {ps : List Addr} {ks : List (Key × V)} (h : Paired (fun p (kv : Key × V) => SqT K H p [kV kv.1, kv.2]) ps ks) : Paired (fun p (kv : Key × V) => SqT K H' p [kV kv.1, kv.2]) ps ks := by
  induction h with
  | nil => exact .nil
  | cons a _ ih => exact .cons (ex_t e a) ih
theorem o_dictPr : OpN (fun xs H Q => ∃ (a : Addr) (ps : List Addr) (kvs : List (Key × V)), xs = [.ref a] ∧ SqL K H a (ps.map V.ref) ∧ Paired (fun p kv => SqT K H p [kV kv.1, kv.2]) ps kvs ∧ ∀ p, H p = none → Q (.ref p) (upd H p (.dK (mergeK [] kvs)))) (aC (kL K (k2 K kI kI)) a0) (l, ()) kDN (dictP l) := fun M us H lv a Q q => by
  obtain ⟨v, r, rfl, ⟨p, vs, rfl, hp, ha⟩, rfl⟩ := a
  obtain ⟨ps, rfl, hps⟩ := pairs_r ha
  refine ⟨p, ps, _, rfl, ex_l del_le hp, paired_up del_le hps, fun p2 hp2 => q _ _ (Ex.new hp2) ⟨p2, rfl, ?_⟩⟩
  have e : mergeK [] (l.map pairV) = (dictP l).map pairV := merge_pair l []
  rw [e]
  exact del_at (fresh_not lv hp2) upd_same
end
end Rw
namespace Rw
open PySem PySem.Spec PyProof.Rows L2 Evl
section
variable {K : PySem.W.Frag} {α β γ δ R τ : Type} {E : XK} {cl : Nat → Addr} {M : List Addr} {σ : L2.St} {I I' H H' : Hp} {S S' S1 S2 S3 : List Cell} {te ta tb tc to : TE} {tt : TT} {tr : TA} {t : Ty α} {u : Ty β} {w' : Ty γ} {x : α} {y : β} {v : V} {xs : List α}
theorem em_lcEX {wi : TI} {g : TG} {vs : List Nat} {B : Hp → α → L2.St → Prop} {ct : α → τ → Bool × τ} {f : α → τ → β × τ} {Sx : τ → List Cell} {s0 : τ} (hi : Ei E cl M wi σ I S t xs (Sx s0)) (hz : xs.length ≤ 100000 - 1) (hS : ∀ s, ads (Sx s) = ads (Sx s0))
    (hg : Eg g t (wipe σ vs) B) (hw : ∀ I x σ', B I x σ' → wipe σ' vs = wipe σ vs)
    (ht : ∀ D acc I' x s σ', Ex I I' → x ∈ xs → B I' x σ' → Et E cl (D :: M) tt σ' I' (cL D u acc :: Sx s) (.ok (ct x s).1) (cL D u acc :: Sx (ct x s).2))
    (he : ∀ D acc I' x s σ', Ex I I' → x ∈ xs → (ct x s).1 = true → B I' x σ' → Em E cl (D :: M) te σ' I' (cL D u acc :: Sx (ct x s).2) u (.ok (f x (ct x s).2).1) (cL D u acc :: Sx (f x (ct x s).2).2)) :
    Em E cl M (tLc wi g tt te vs) σ I S (kX u) (.ok (runE ct f xs s0).1) (Sx (runE ct f xs s0).2) := by
  refine em_mk ((hS _).trans hi.ad) fun H0 i0 w0 Q q => hi.run H0 i0 w0 _ fun J H2 G Y e2 w2 wk gG gY D hD => ?_
  let acc : Nat → List β := fun i => (runE ct f (xs.take i) s0).1
  let st : Nat → τ := fun i => (runE ct f (xs.take i) s0).2
  let Pv : Nat → Hp → Prop := fun i H' => Holds (D :: M) (cL D u (acc i) :: Sx (st i)) H' ∧ Ex (del (D :: ads (Sx s0)) (upd H2 D (.lst []))) (del (D :: ads (Sx s0)) H')
  have dM : D ∉ M := fresh_not w2.live hD
  have toM : ∀ {i H'}, Pv i H' → Ex (del M H2) (del (D :: M) H') := fun {i H'} p => by
    refine ex_lone (o := .lst []) hD (ex_sub (A := D :: ads (Sx s0)) (fun a h => ?_) p.2)
    rcases List.mem_cons.mp h with z | z
    · rw [z]; exact List.mem_cons_self
    · exact List.mem_cons_of_mem _ (w2.sub a z)
  have stop : ∀ i, i < xs.length → ∃ x, xs[i]? = some x := fun i hi => ⟨xs[i], by simp [hi]⟩
  have accLen : ∀ i, (acc i).length ≤ i := by
    intro i
    have : ∀ (l : List α) (s : τ), (runE ct f l s).1.length ≤ l.length := by
      intro l
      induction l with
      | nil => intro s; exact Nat.le_refl _
      | cons a l ih =>
        intro s
        simp only [runE]
        split
        · simp only [List.length_cons]
          exact Nat.succ_le_succ (ih _)
        · exact Nat.le_succ_of_le (ih _)
    exact Nat.le_trans (this _ _) (by rw [List.length_take]; omega)
  refine lc_it wk Pv ⟨?_, Ex.refl _⟩ (fun i H' hi p => gG H' ((toM p).trans del_le2)) (fun i v H Hy hi p y => ?_) (fun H' p => ?_)
  · have e0 : acc 0 = [] := by show (runE ct f (xs.take 0) s0).1 = []; rw [List.take_zero]; rfl
    have e1 : st 0 = s0 := by show (runE ct f (xs.take 0) s0).2 = s0; rw [List.take_zero]; rfl
    show Holds (D :: M) (cL D u (acc 0) :: Sx (st 0)) _
    rw [e0, e1]
    exact w2.new (c := cL D u []) hD (Ex.new hD) upd_same ⟨[], rfl, .nil⟩
  · obtain ⟨x, hx⟩ := stop i hi
    have xm : x ∈ xs := List.mem_of_getElem? hx
    obtain ⟨eH, rv⟩ := gY i H v Hy x hx ((toM p).trans del_le2) y
    have rx := rv (D :: M) p.1.live (toM p)
    have wy := p.1.ex eH
    have i1 : Ex I (del (D :: M) Hy) := ((i0.trans (w0.grow e2)).trans (toM p)).trans (ex_del eH)
    refine hg v Hy x _ rx del_le _ fun σ' b => ⟨hw _ x σ' b, ?_⟩
    have tk : xs.take (i + 1) = xs.take i ++ [x] := by rw [List.take_add_one, hx]; rfl
    have nx : runE ct f (xs.take (i + 1)) s0 = (if (ct x (st i)).1 = true then (acc i ++ [(f x (ct x (st i)).2).1], (f x (ct x (st i)).2).2) else (acc i, (ct x (st i)).2)) := by rw [tk, runE_app]
    have fr : Ex (del (D :: ads (Sx s0)) (upd H2 D (.lst []))) (del (D :: ads (Sx s0)) Hy) := p.2.trans (ex_del eH)
    have same : ∀ s, ads (cL D u (acc i) :: Sx s) = D :: ads (Sx s0) := fun s => by show D :: ads (Sx s) = _; rw [hS s]
    refine et_of (ht D (acc i) _ x (st i) σ' i1 xm b) Hy (Ex.refl _) wy _ fun H3 e3 w3 => ?_
    rw [same] at e3
    cases hc : (ct x (st i)).1 with
    | true =>
      rw [if_pos rfl]
      have i3 : Ex (del (D :: M) Hy) (del (D :: M) H3) := wy.grow (by rw [same]; exact e3)
      refine em_of (he D (acc i) _ x _ σ' i1 xm hc b) H3 i3 w3 _ fun vy H4 e4 w4 r4 => ?_
      rw [same] at e4
      obtain ⟨_, o4, h4, ys, rfl, a4⟩ := w4.at_ _ List.mem_cons_self
      refine ⟨ys, h4, ?_, ?_, ?_⟩
      · rw [All2.len a4]
        exact sz_lt (by have := accLen i; show (acc i).length < _; omega)
      · have a1 : acc (i + 1) = acc i ++ [(f x (ct x (st i)).2).1] := by show (runE ct f (xs.take (i + 1)) s0).1 = _; rw [nx]; simp [hc]
        have s1 : st (i + 1) = (f x (ct x (st i)).2).2 := by show (runE ct f (xs.take (i + 1)) s0).2 = _; rw [nx]; simp [hc]
        show Holds (D :: M) (cL D u (acc (i + 1)) :: Sx (st (i + 1))) _
        rw [a1, s1]
        exact w4.put (k := 0) (c := cL D u (acc i)) (c' := cL D u (acc i ++ [(f x (ct x (st i)).2).1])) rfl rfl ⟨_, rfl, a4.app (.one r4)⟩
      · rw [show del (D :: ads (Sx s0)) (upd H4 D (.lst (ys ++ [vy]))) = del (D :: ads (Sx s0)) H4 from del_upd List.mem_cons_self]
        exact (fr.trans e3).trans e4
    | false =>
      rw [if_neg Bool.false_ne_true]
      refine ⟨?_, fr.trans e3⟩
      have a1 : acc (i + 1) = acc i := by show (runE ct f (xs.take (i + 1)) s0).1 = _; rw [nx]; simp [hc]
      have s1 : st (i + 1) = (ct x (st i)).2 := by show (runE ct f (xs.take (i + 1)) s0).2 = _; rw [nx]; simp [hc]
      rw [a1, s1]
      exact w3
  · have al : acc xs.length = (runE ct f xs s0).1 := by show (runE ct f (xs.take xs.length) s0).1 = _; rw [List.take_length]
    have sl : st xs.length = (runE ct f xs s0).2 := by show (runE ct f (xs.take xs.length) s0).2 = _; rw [List.take_length]
    obtain ⟨pw, pe⟩ := p
    rw [al, sl] at pw
    obtain ⟨_, o4, h4, ys, rfl, a4⟩ := pw.at_ _ List.mem_cons_self
    refine q _ H' ?_ (pw.drop (c := cL D u _) dM) ⟨D, ys, rfl, del_at dM h4, all2_up u del_le2 a4⟩
    rw [← hi.ad]
    rw [← hi.ad] at e2
    exact e2.trans ((ex_lone (M := ads (Sx s0)) hD pe).trans del_le2)
theorem em_lcX {wi : TI} {g : TG} {vs : List Nat} {B : Hp → α → L2.St → Prop} (c : α → Bool) (f : α → β) (hi : Ei E cl M wi σ I S t xs S1) (hz : xs.length ≤ 100000 - 1) (hg : Eg g t (wipe σ vs) B) (hw : ∀ I x σ', B I x σ' → wipe σ' vs = wipe σ vs)
    (ht : ∀ M' S' I' x σ', Ex I I' → x ∈ xs → B I' x σ' → Et E cl M' tt σ' I' S' (.ok (c x)) S') (he : ∀ M' S' I' x σ', Ex I I' → x ∈ xs → c x = true → B I' x σ' → Em E cl M' te σ' I' S' u (.ok (f x)) S') :
    Em E cl M (tLc wi g tt te vs) σ I S (kX u) (.ok ((xs.filter c).map f)) S1 := by
  have h := em_lcEX (u := u) (te := te) (tt := tt) (ct := fun x (s : Unit) => (c x, s)) (f := fun x (s : Unit) => (f x, s)) (Sx := fun _ => S1) (s0 := ()) hi hz (fun _ => rfl) hg hw (fun D acc I' x s σ' a b d => ht _ _ I' x σ' a b d) (fun D acc I' x s σ' a b d z => he _ _ I' x σ' a b d z)
  rw [runE_pure] at h
  exact h
end
theorem q_dice2 {K : PySem.W.Frag} {a PT : Addr} {LQ : Str} {ns : List Int} {σ : L2.St} {H : Hp} {ta : TA} {D : Ends} {tu tz : TS} {j : Nat} (hv : EvA ta σ H [.ref a, .int 1]) (hS : SqL K H a (ns.map V.int)) (hT : H PT = some (.tbl #[])) (Sg : L2.St → Prop) (s0 : Sg σ)
    (hs : ∀ d z σ' H', Sg σ' → Holds [d, PT] [cDice d z, cTab PT LQ] H' → ∀ Nx : L2.St → Hp → Prop, (∀ z' σ2 H2, Sg σ2 → Gr [d, PT] [cDice d z, cTab PT LQ] H' H2 → Holds [d, PT] [cDice d z', cTab PT LQ] H2 → Nx σ2 H2) → tu { D with nx := Nx, ct := Nx, bk := tz D } (σ'.set j (some (.ref d))) H')
    (hd : ∀ d z σ' H', Sg σ' → Holds [d, PT] [cDice d z, cTab PT LQ] H' → tz D σ' H') :
    tSeq (tFor (iList K (tCall (spRounds K) [] E0 ta)) (gName j) tu) tz D σ H :=
  hv H (Ex.refl H) _ fun H1 e1 => ⟨a, ns, rfl, ex_l e1 hS, fun r d x y z H2 hr hd0 hne e2 h2 h3 => by
    have hP : H2 PT = some (.tbl #[]) := e2 _ _ (e1 _ _ hT)
    have dP : d ≠ PT := fun q => by rw [q, hP] at h3; cases h3
    have rP : r ≠ PT := fun q => by rw [q, hP] at h2; cases h2
    have w0 : Holds [d, PT] [cDice d (x, y, z), cTab PT LQ] H2 := by
      refine ⟨fun c hc => ?_, by simp [ads, cDice, cTab, dP], fun m hm => ?_⟩
      · rcases List.mem_cons.mp hc with q | q
        · rw [q]; exact ⟨List.mem_cons_self, _, h3, rfl⟩
        · rw [List.mem_singleton.mp q]
          refine ⟨by simp [cTab], _, hP, #[], rfl, by first | trivial | decide, fun pos cv z => ?_⟩
          cases z
      · rcases List.mem_cons.mp hm with q | q
        · rw [q, h3]; exact fun z => nomatch z
        · rw [List.mem_singleton.mp q, hP]; exact fun z => nomatch z
    have rM : r ∉ [d, PT] := by simp [hne, rP]
    have keep : ∀ H', Ex (del [d, PT] H2) (del [d, PT] H') → H' r = some (.lst [.ref d]) := fun H' e => (del_some.mp (e r _ (del_some.mpr ⟨rM, h2⟩))).2
    refine ⟨r, rfl, ⟨_, SqL.of h2⟩, for_list (xs := [.ref d]) (fun _ σ' H' => Sg σ' ∧ Ex (del [d, PT] H2) (del [d, PT] H') ∧ ∃ z, Holds [d, PT] [cDice d z, cTab PT LQ] H') ⟨s0, Ex.refl _, _, w0⟩ (fun i σ' H' _ p => SqL.of (keep H' p.2.1)) (fun i v σ' H' hi p => ?_) (fun σ' H' p => ?_)⟩
    · obtain rfl : v = .ref d := by
        cases i with
        | zero => exact (Option.some.inj hi).symm
        | succ i => simp at hi
      obtain ⟨p1, p2, z, p3⟩ := p
      exact hs d z σ' H' p1 p3 _ fun z' σ2 H3 g1 g2 g3 => ⟨g1, p2.trans g2.im, z', g3⟩
    · obtain ⟨p1, p2, z, p3⟩ := p
      exact hd d z σ' H' p1 p3⟩
theorem q_dice3 {K : PySem.W.Frag} {a PT : Addr} {LQ : Str} {ns : List Int} {σ : L2.St} {H : Hp} {ta : TA} {D : Ends} {tu tz : TS} {j : Nat} (hv : EvA ta σ H [.ref a, .int 1]) (hS : SqL K H a (ns.map V.int)) (hT : H PT = some (.tbl #[])) (Sg : L2.St → Prop) (s0 : Sg σ)
    (hs : ∀ d z σ' H', Sg σ' → Holds [d, PT] [cDice d z, cTab PT LQ] H' → ∀ Nx : L2.St → Hp → Prop, (∀ z' σ2 H2, Sg σ2 → Gr [d, PT] [cDice d z, cTab PT LQ] H' H2 → Holds [d, PT] [cDice d z', cTab PT LQ] H2 → Nx σ2 H2) → tu { D with nx := Nx, ct := Nx, bk := tz D } (σ'.set j (some (.ref d))) H')
    (hd : ∀ d z σ' H', Sg σ' → (∀ a o, a ≠ PT → H a = some o → H' a = some o) → Holds [d, PT] [cDice d z, cTab PT LQ] H' → tz D σ' H') :
    tSeq (tFor (iList K (tCall (spRounds K) [] E0 ta)) (gName j) tu) tz D σ H :=
  hv H (Ex.refl H) _ fun H1 e1 => ⟨a, ns, rfl, ex_l e1 hS, fun r d x y z H2 hr hd0 hne e2 h2 h3 => by
    have hP : H2 PT = some (.tbl #[]) := e2 _ _ (e1 _ _ hT)
    have dP : d ≠ PT := fun q => by rw [q, hP] at h3; cases h3
    have rP : r ≠ PT := fun q => by rw [q, hP] at h2; cases h2
    have w0 : Holds [d, PT] [cDice d (x, y, z), cTab PT LQ] H2 := by
      refine ⟨fun c hc => ?_, by simp [ads, cDice, cTab, dP], fun m hm => ?_⟩
      · rcases List.mem_cons.mp hc with q | q
        · rw [q]; exact ⟨List.mem_cons_self, _, h3, rfl⟩
        · rw [List.mem_singleton.mp q]
          refine ⟨by simp [cTab], _, hP, #[], rfl, by first | trivial | decide, fun pos cv z => ?_⟩
          cases z
      · rcases List.mem_cons.mp hm with q | q
        · rw [q, h3]; exact fun z => nomatch z
        · rw [List.mem_singleton.mp q, hP]; exact fun z => nomatch z
    have rM : r ∉ [d, PT] := by simp [hne, rP]
    have keep : ∀ H', Ex (del [d, PT] H2) (del [d, PT] H') → H' r = some (.lst [.ref d]) := fun H' e => (del_some.mp (e r _ (del_some.mpr ⟨rM, h2⟩))).2
    refine ⟨r, rfl, ⟨_, SqL.of h2⟩, for_list (xs := [.ref d]) (fun _ σ' H' => Sg σ' ∧ Ex (del [d, PT] H2) (del [d, PT] H') ∧ ∃ z, Holds [d, PT] [cDice d z, cTab PT LQ] H') ⟨s0, Ex.refl _, _, w0⟩ (fun i σ' H' _ p => SqL.of (keep H' p.2.1)) (fun i v σ' H' hi p => ?_) (fun σ' H' p => ?_)⟩
    · obtain rfl : v = .ref d := by
        cases i with
        | zero => exact (Option.some.inj hi).symm
        | succ i => simp at hi
      obtain ⟨p1, p2, z, p3⟩ := p
      exact hs d z σ' H' p1 p3 _ fun z' σ2 H3 g1 g2 g3 => ⟨g1, p2.trans g2.im, z', g3⟩
    · obtain ⟨p1, p2, z, p3⟩ := p
      exact hd d z σ' H' p1 (fun b o nb hb => (del_some.mp (p2 b o (del_some.mpr ⟨by rw [List.mem_cons, List.mem_singleton]; rintro (e | e); exact absurd (e1 _ _ hb) (by rw [e, hd0]; exact fun z => nomatch z); exact nb e, e2 _ _ (e1 _ _ hb)⟩))).2) p3⟩

section
variable {K : PySem.W.Frag} {α β γ δ R τ : Type} {E E' : XK} {cl : Nat → Addr} {M : List Addr} {σ : L2.St} {I I' H H' : Hp} {S S' S1 S2 S3 : List Cell} {te ta tb tc to tv : TE} {t : Ty α} {u : Ty β}
theorem em_toEr {r : Re α} {i : Nat} (h : Em E cl M te σ I S t r S') (e : r = .er i) : Em E cl M te σ I S kN (.er i) S' := by
  subst e
  exact em_er h
theorem em_kXL2 {xs : List α} (h : Em E cl M te σ I S (kL K t) (.ok xs) S') : Em E cl M te σ I S (kL K t) (.ok xs) S' := h
theorem o_eqNil : Op2 (rEqD K) (kL K t) ([] : List α) (kL K t) [] kB true := fun M v1 v2 H l a b Q q => by
  obtain ⟨p, vs, rfl, hp, ha⟩ := a
  obtain ⟨p2, vs2, rfl, hp2, ha2⟩ := b
  cases ha
  cases ha2
  exact ⟨.list [], .list [], .lst (ex_l del_le hp) .nil, .lst (ex_l del_le hp2) .nil, rfl, rfl, q _ H (Ex.refl H) rfl⟩
theorem ix_listK {X : Cx} {K : PySem.W.Frag} (h : X.K = K := by rfl) : IxR X (rIxL K) := by
  subst h
  exact ix_list
end
theorem cr_maxK {X : Cx} {K : PySem.W.Frag} (hc : X.calm = true) (h : X.K = K := by rfl) : CallR X (.builtin "max") (rMax K) := by
  subst h
  exact cr_max hc
theorem cr_minK {X : Cx} {K : PySem.W.Frag} (hc : X.calm = true) (h : X.K = K := by rfl) : CallR X (.builtin "min") (rMin K) := by
  subst h
  exact cr_min hc
theorem cr_minTK {X : Cx} {K : PySem.W.Frag} (hc : X.calm = true) (h : X.K = K := by rfl) : CallR X (.builtin "min") (rMinT K) := by
  subst h
  exact cr_minT hc
theorem cr_sumK {X : Cx} {K : PySem.W.Frag} (hc : X.calm = true) (h : X.K = K := by rfl) : CallR X (.builtin "sum") (rSum K) := by
  subst h
  exact cr_sum hc
theorem cr_sumTK {X : Cx} {K : PySem.W.Frag} (hc : X.calm = true) (h : X.K = K := by rfl) : CallR X (.builtin "sum") (rSumT K) := by
  subst h
  exact cr_sumT hc
theorem pe_cntK {X : Cx} {K : PySem.W.Frag} {o e : Expr} {es : List Expr} {to : TE} {t : TA} {apos cpos : Pos} (ho : PE X o to) (ha : PA X (e :: es) t) (h : X.K = K := by rfl)
    (h1 : attributeBase o "count" X.env (eval o X.env) = eval o X.env := by rfl)
    (h2 : ((backTo cpos (starEach (e :: es) X.env)).all (fun x => !x.1) && (backToKw cpos (keywordEach [] X.env)).all (fun x => x.1.isSome) && decide ((e :: es).length + ([] : List Keyword).length + (if ([] : List Keyword).isEmpty then 0 else 1) < 30)) = true := by rfl)
    (h3 : (apos.endLine == cpos.line) = true := by rfl) (h4 : starEach (e :: es) X.env = (false, eval e X.env) :: starEach es X.env := by rfl) (h5 : (backTo cpos (starEach es X.env)).any (·.1) = false := by rfl) :
    PE X (.Call (.Attribute o "count" apos) (e :: es) [] cpos) (tBM K "list" (rCntI K) to t) := by
  subst h
  exact pe_bm PySem.F.plainAttrs_list PySem.F.slot_list_count PySem.F.type_list_count mt_cntI ho ha h1 h2 h3 h4 h5
theorem op_eqDK {X : Cx} {K : PySem.W.Frag} (hu : X.A.units + 64 < cLine) (h : X.K = K := by rfl) : OpR X (compareOp .Eq) (rEqD K) := by
  subst h
  exact op_eqD hu
theorem op_neDK {X : Cx} {K : PySem.W.Frag} (hu : X.A.units + 64 < cLine) (h : X.K = K := by rfl) : OpR X (compareOp .NotEq) (rNeD K) := by
  subst h
  exact op_neD hu
theorem forK_true {α : Type} {b : α → Unit → (Unit → Bool) → (Unit → Bool) → Bool} {kn : Unit → Bool} (hk : kn () = true) : ∀ {xs : List α}, (∀ x ∈ xs, ∀ k1 k2 : Unit → Bool, k1 () = true → b x () k1 k2 = true) → forK b kn xs () = true
  | [], _ => hk
  | x :: xs, h => h x List.mem_cons_self _ _ (forK_true hk fun y hy => h y (List.mem_cons_of_mem _ hy))
section
variable {α β R : Type} {E : XK} {cl : Nat → Addr} {M : List Addr} {σ : L2.St} {H : Hp} {S S' : List Cell} {tr : TA} {t : Ty α} {u : Ty β} {x : α} {y : β} {P : R → Prop} {D : Ends}
theorem g_parL {i j : Nat} {kk : α → β → R} (w : Holds M S H) (o : P (lt x fun a => lt y fun b => kk a b)) (h : Ea E cl M tr σ (del M H) S (aC t (aC u a0)) (.ok (x, y, ())) S') (c : ∀ x' y' v1 v2 H2, x' = x → y' = y → P (kk x' y') → Gr M S H H2 → Holds M S' H2 → t.r (del M H2) v1 x' → u.r (del M H2) v2 y' → D.nx ((σ.set i (some v1)).set j (some v2)) H2) : tPar i j tr D σ H :=
  g_par (tz := fun _ σ' H' => D.nx σ' H') (D := D) w o h c
theorem g_tup2L {i j : Nat} {K : PySem.W.Frag} {kk : α → β → R} (w : Holds M S H) (o : P (lt x fun a => lt y fun b => kk a b)) (h : Ea E cl M tr σ (del M H) S (aC t (aC u a0)) (.ok (x, y, ())) S') (c : ∀ x' y' v1 v2 H2, x' = x → y' = y → P (kk x' y') → Gr M S H H2 → Holds M S' H2 → t.r (del M H2) v1 x' → u.r (del M H2) v2 y' → D.nx ((σ.set i (some v1)).set j (some v2)) H2) : tAsg (tTup tr) (gTup K 2 (gCons (gName i) (gCons (gName j) gNil))) D σ H :=
  g_tup2 (tz := fun _ σ' H' => D.nx σ' H') (D := D) w o h c
end
theorem cf {t r : Bool} (h : t = false) (k : r = true) : cond t false r = true := by rw [h]; exact k
theorem nd {p : Prop} [Decidable p] (h : p) : (!decide p) = false := by rw [decide_eq_true h]; rfl
theorem or_ff {a b : Bool} (h : a = false) (k : b = false) : (a || b) = false := by rw [h, k]; rfl
theorem atI_map {f : Int → Int} {n k : Int} (h : 0 ≤ k ∧ k < n) : (atI ((rng 0 n).map f) k).getD 0 = f k := by
  have e := atI_nat (xs := (rng 0 n).map f) (j := k.toNat) (v := f k) (by rw [List.getElem?_map, rng_get h]; rfl)
  rw [Int.toNat_of_nonneg h.1] at e
  rw [e]
  rfl
end Rw
/-! sorted of a dict's whole numbers, any number of them -/
namespace L2
open PySem PySem.Spec PyProof.Rows Srt SrtO
section
variable {X : Cx}
def rSortDK : List V → Hp → VK → Prop := fun xs H Q => ∃ (a : Addr) (kvs : List (Key × V)) (ks : List Int), xs = [.ref a] ∧ Rd H a (.dK kvs) ∧ kvs.map (·.1) = ks.map Sum.inl ∧ ks.length ≤ 100000 ∧
    ∀ (ys : List Int) (p : Addr), ys.Perm ks → ys.Pairwise (· ≤ ·) → H p = none → Q (.ref p) (upd H p (.lst (ys.map V.int)))
theorem cr_sortedDK (hcalm : X.calm = true) : CallR X (.builtin "sorted") rSortDK := by
  intro pn sh st Hh vs0 us0 Q0 IV rv hh
  obtain ⟨a, kvs, ks, ex, hd, hks, h64, q⟩ := hh
  subst ex
  obtain ⟨u, eu, rx⟩ := vals1 rv
  subst eu
  cases rx
  obtain ⟨z, lo, vs, rel, dd⟩ := dk_rd IV.hok hd
  obtain ⟨ep, hat⟩ := dd.dictAt
  have hkeys : vs.map (·.1) = ks.map Sum.inl := rel.keys.symm.trans hks
  have hl : vs.length = ks.length := by
    have e := congrArg List.length hkeys
    rw [List.length_map, List.length_map] at e
    exact e
  have h16 : vs.length ≤ sizeLine := by rw [hl, sizeLine_eq]; omega
  refine Calls.call_function_entry PyProof.Rows.kind_sorted PyProof.Rows.plain_sorted PyProof.Rows.entry_sorted (PyProof.Rows.args_sorted1 _) (?_ : _)
  unfold Builtin.«sorted»
  refine wpAny_bind (m := checkCount "sorted" 1 1 _) (wpAny_pure (?_ : _)); refine wpAny_bind (PySem.W.kdu_collect (A := X.A.in1) (PySem.W.kdl_dict (knd := mixKind X.prog X.w) (kvs := vs) (ep := ep) lo) (IV.ok.hd hcalm) hat h16 fun h1 tk acc hk hacc => (?_ : _))
  have hal : acc.toList.length = ks.length := by rw [Array.length_toList, hacc.1, hl]
  have hS : IntsAre acc.toList ks := ints_each hal fun j v e => by
    obtain ⟨k, x, e1, e2⟩ := hacc.2 j v (by rw [← Array.getElem?_toList]; exact e)
    have e3 : (vs.map (·.1))[j]? = some k := by rw [List.getElem?_map, e1]; rfl
    rw [hkeys, List.getElem?_map] at e3
    cases e4 : ks[j]? with
    | none => rw [e4] at e3; cases e3
    | some y =>
      rw [e4] at e3
      have e5 : Sum.inl y = k := Option.some.inj e3
      subst e5
      rcases keyIs_shape (show keyIs (Sum.inl y) v = true from e2) with ⟨i, t, ek, ev⟩ | ⟨z, t, ek, ev⟩
      · cases ek
        exact ⟨y, t, rfl, ev⟩
      · cases ek
  have I1 : Inv X pn st Hh { sh with heap := h1, toks := tk } := IV.kept hk
  have hz : acc.toList.length ≤ sizeLine := by rw [hal, sizeLine_eq]; omega
  refine wpAny_bind (wpAny_newList (?_ : _) hz)
  have hoL : (h1.push (seqObj "list" acc.toList.toArray 0)).get? h1.objs.size = some (seqObj "list" acc.toList.toArray 0) := Heap.get?_push_size _ rfl
  show wpAny _ _ _ _ _ { sh with heap := h1.push (seqObj "list" acc.toList.toArray 0), toks := tk }
  refine wpAny_bind (wpAny_holding (wpAny_call_entry PyProof.Rows.slot_list_sort ⟨_, hoL, rfl⟩ PyProof.Rows.entry_list_sort
    (SrtO.list_sort_ord (s := { sh with heap := h1.push (seqObj "list" acc.toList.toArray 0), toks := tk }) SrtO.swo_int hoL hz (fun h2 => SrtO.ints_sortable hS h2) fun out g1 g2 => ⟨_, rfl, (?_ : _)⟩) (PyProof.Rows.args_list_sort _)))
  obtain ⟨k1, k2, k3⟩ := SrtO.ints_out hS g1 g2
  obtain ⟨e', he'⟩ := PyProof.Rows.sortedHeap_at (vs := acc.toList) (out := out.toArray) hoL
  have hlen : ((out.map SrtO.iv).map V.int).length ≤ sizeLine := by
    rw [List.length_map, k2.length_eq, sizeLine_eq]
    omega
  refine wpAny_pure ⟨_, rfl, .ref h1.objs.size, upd Hh h1.objs.size (.lst ((out.map SrtO.iv).map V.int)), I1.laid (t' := tk) (fun b u e => ?_) (Nat.le_refl _)
    (show ObjOk X.prog X.w _ _ _ (.lst ((out.map SrtO.iv).map V.int)) from ⟨hlen, out, e', vals_of_ints k1, he'⟩), rfl, q _ _ k2 k3 (I1.hok.fresh (Nat.le_refl _))⟩
  have hb : b < h1.objs.size := Heap.lt_size e
  rw [PyProof.Rows.sortedHeap_old (Nat.ne_of_lt hb) (by rw [size_push']; exact Nat.lt_succ_of_lt hb)]
  exact Heap.get?_push_of_some _ e
end
end L2
/-! set(l) of a list of whole numbers, by the library's loop -/
namespace L2
open PySem PySem.Spec PyProof.Rows
abbrev nSet (w : World) : Obj := ⟨.type "set", none, .set #[] 0 (.fresh 0 0 (!w.params.followText "set-order")), #[]⟩
section
variable {P : Program} {w : World} {A : Around} {E : Value → Shared → Prop} {s : Shared}
def SetDone (w : World) (s : Shared) (ns : List Int) (t : Shared) : Prop := ∃ (h' : Heap) (tk c : Nat), t = { s with heap := h', toks := tk } ∧
  SetR w h' s.heap.objs.size (fun j => decide (j ∈ ns)) c ∧ c ≤ ns.length ∧ ∀ (b : Addr) (o : Obj), s.heap.get? b = some o → h'.get? b = some o
theorem set_list_at {l : Addr} {its : Array Value} (ns : List Int) {Q : Value → Shared → Prop} (hh : A.handled = none) (hl : s.heap.IsList l its) (hi : IntsAre its.toList ns) (hb : ns.length + 1 < scanBound)
    (h : ∀ t, SetDone w s ns t → Q (.ref s.heap.objs.size) t) : wpAny (model P w) A (call (.type "set") [.ref l]) Q E s := by
  have len : its.size = ns.length := by rw [← Array.length_toList]; exact IntsAre.length hi
  obtain ⟨c, tl, hmro⟩ := F.called_set.mro
  have hmade := F.called_set.made; have hsub := F.called_set.sub; have h1 := F.called_set.notType; have h2 := F.called_set.canCreate; have hct := F.typeCall_set_1 (.ref l)
  apply wpAny_call; apply codeAny_of_tree
  show wpAny _ _ (callAny (.type "set") _) _ _ _; refine wpAny_pure ⟨Code.quiet_builtin _ (by decide +kernel), codeAny_builtin F.entry_type_call ?_⟩; rw [Around.under_plain (weight_type_call_type "set" [.ref l] []) rfl]
  repeat (any_goals (first | assumption | wp_step))
  refine codeAny_mono (code_set_led1 (.ref l) (E := E) (Q₁ := fun ob t => ob = .ref s.heap.objs.size ∧ t = { s with heap := s.heap.push (nSet w) }) ⟨rfl, rfl⟩) fun r t hr => ?_
  match r, hr with
  | .ok (.ret ob), hr =>
    obtain ⟨e1, e2⟩ := hr
    subst e1 e2
    have at0 : (s.heap.push (nSet w)).get? s.heap.objs.size = some (nSet w) := Heap.get?_push_size _ rfl
    have ty : Shared.TypeIs { s with heap := s.heap.push (nSet w) } (.ref s.heap.objs.size) "set" := ⟨_, at0, rfl⟩
    have hli := F.called_set.init.lookup; have hbi := F.called_set.init.bind (.ref s.heap.objs.size)
    repeat (any_goals (first | assumption | wp_step))
    refine codeAny_mono (codeAny_call_builtin (R := wants (fun r t => r = .none ∧ SetDone w s ns t) E) F.called_set.init.plain F.entry_set_init (check_set_init_1 ty ?_)) fun r2 t2 hr2 => ?_
    · obtain ⟨⟨oc, od, oda, osl⟩, ho, ec, n, ed⟩ := hl
      simp only at ec ed; subst ec ed
      have hs1 := F.sub_list_set; have hs2 := F.sub_list_frozenset; have ne : (Value.type "list" == Value.type "dict") = false := by decide
      have hl1 : (s.heap.push (nSet w)).IsList l its := ⟨_, Heap.get?_push_of_some _ ho, rfl, n, rfl⟩
      have ho' := Heap.get?_push_of_some (nSet w) ho
      unfold Builtin.«set.__init__» noKeywords Builtin.Frozenset.updateFrom
      generalize hPI : pyIter = PI
      wp_walk
      subst hPI
      refine wpAny_pyIter_list hl1 ?_
      refine wpAny_bind (wpAny_runValue ?_)
      have lt0 : l < s.heap.objs.size := Heap.lt_size ho
      have hh3 : A.in1.in1.in1.handled = none := by simp [hh]
      have sz : (s.heap.push (nSet w)).objs.size = s.heap.objs.size + 1 := Heap.size_push ..
      have nI : l ≠ (s.heap.push (nSet w)).objs.size := fun z => absurd (z ▸ lt0 : (s.heap.push (nSet w)).objs.size < s.heap.objs.size) (by rw [sz]; exact Nat.not_lt.mpr (Nat.le_succ _))
      have nf : s.heap.objs.size ∉ [(s.heap.push (nSet w)).objs.size, l] := by
        rw [sz]
        intro z
        rcases List.mem_cons.mp z with z | z
        · exact absurd z (Nat.ne_of_lt (Nat.lt_succ_self _))
        · exact absurd (List.mem_singleton.mp z) (Nat.ne_of_gt lt0)
      have val : ∀ (i : Nat) (v : Value), its[i]? = some v → ∃ k t, ns[i]? = some k ∧ v = .int k t := fun i v hv => by
        have hi2 : i < ns.length := by rw [← len]; exact (Array.getElem?_eq_some_iff.mp hv).1
        obtain ⟨t, e⟩ := IntsAre.int_at hi i v (by rw [Array.getElem?_toList]; exact hv)
        exact ⟨ns[i], t, List.getElem?_eq_getElem hi2, by rw [e, List.getD_eq_getElem?_getD, List.getElem?_eq_getElem hi2]; rfl⟩
      refine set_update_ints ((Walks.list hh3 _ l nI its).toS) s.heap.objs.size nf ns len hb val (its.size - 0) 0 _ (by omega) (Nat.zero_le _) ⟨⟨_, Heap.get?_push_size _ rfl, rfl, rfl⟩, (hl1.push _)⟩ ⟨0, Nat.le_refl 0, setR_new_at (Heap.get?_push_of_some _ at0)⟩ fun t' c' hm hc' hS' => ?_
      obtain ⟨h', g2, d2, tk2, os2⟩ := t'
      obtain rfl : g2 = s.gens := hm.gens
      obtain rfl : d2 = s.drawn := hm.drawn
      obtain rfl : os2 = s.os := hm.os
      show wpAny _ _ _ _ _ _; refine wpAny_pure ?_; show wpAny _ _ (ret Value.none) _ _ _; refine wpAny_pure ⟨rfl, h', tk2, c', rfl, hS', by rw [← len]; exact hc', fun b o e => ?_⟩
      have lb : b < s.heap.objs.size := Heap.lt_size e
      refine hm.heap b o (fun z => ?_) (Heap.get?_push_of_some _ (Heap.get?_push_of_some _ e))
      rcases List.mem_cons.mp z with z | z
      · exact absurd z (Nat.ne_of_lt lb)
      · exact absurd ((List.mem_singleton.mp z).trans sz) (Nat.ne_of_lt (Nat.lt_succ_of_lt lb))
    · match r2, hr2 with
      | .ok (.ret r), hr2 =>
        obtain ⟨rfl, hd⟩ := hr2
        repeat (any_goals (first | assumption | wp_step))
        exact h _ hd
      | .error e, hr2 => exact hr2
      | .ok .next, hr2 => exact hr2.elim
      | .ok .brk, hr2 => exact hr2.elim
      | .ok .cont, hr2 => exact hr2.elim
  | .error e, hr => exact hr
  | .ok .next, hr => exact hr.elim
  | .ok .brk, hr => exact hr.elim
  | .ok .cont, hr => exact hr.elim
end
/-- rising whole numbers: each member once -/
def insS (x : Int) : List Int → List Int
  | [] => [x]
  | y :: r => if x < y then x :: y :: r else if x = y then y :: r else y :: insS x r
def setL : List Int → List Int
  | [] => []
  | x :: r => insS x (setL r)
theorem insS_mem {x k : Int} : ∀ {l : List Int}, k ∈ insS x l ↔ k = x ∨ k ∈ l
  | [] => by simp [insS]
  | y :: r => by
    unfold insS
    split
    · simp
    · split
      · rename_i h; subst h; simp
      · rw [List.mem_cons, List.mem_cons, insS_mem]
        constructor
        · rintro (h | h | h)
          · exact .inr (.inl h)
          · exact .inl h
          · exact .inr (.inr h)
        · rintro (h | h | h)
          · exact .inr (.inl h)
          · exact .inl h
          · exact .inr (.inr h)
theorem insS_up {x : Int} : ∀ {l : List Int}, l.Pairwise (· < ·) → (insS x l).Pairwise (· < ·)
  | [], _ => by simp [insS]
  | y :: r, h => by
    unfold insS
    have hr := List.pairwise_cons.mp h
    split
    · rename_i hx
      refine List.pairwise_cons.mpr ⟨fun z hz => ?_, h⟩
      rcases List.mem_cons.mp hz with e | e
      · rw [e]; exact hx
      · exact Int.lt_trans hx (hr.1 z e)
    · split
      · exact h
      · refine List.pairwise_cons.mpr ⟨fun z hz => ?_, insS_up hr.2⟩
        rcases insS_mem.mp hz with e | e
        · rw [e]; omega
        · exact hr.1 z e
theorem setL_mem {k : Int} : ∀ {l : List Int}, k ∈ setL l ↔ k ∈ l
  | [] => Iff.rfl
  | x :: r => by rw [setL, insS_mem, List.mem_cons, setL_mem]
theorem setL_up : ∀ (l : List Int), (setL l).Pairwise (· < ·)
  | [] => .nil
  | x :: r => insS_up (setL_up r)
theorem up_same : ∀ {l r : List Int}, l.Pairwise (· < ·) → r.Pairwise (· < ·) → (∀ k, k ∈ l ↔ k ∈ r) → l = r
  | [], [], _, _, _ => rfl
  | [], y :: r, _, _, h => absurd ((h y).mpr List.mem_cons_self) List.not_mem_nil
  | x :: l, [], _, _, h => absurd ((h x).mp List.mem_cons_self) List.not_mem_nil
  | x :: l, y :: r, hl, hr, h => by
    have a := List.pairwise_cons.mp hl
    have b := List.pairwise_cons.mp hr
    have e : x = y := by
      have h1 := (h x).mp List.mem_cons_self
      have h2 := (h y).mpr List.mem_cons_self
      rcases List.mem_cons.mp h1 with z | z
      · exact z
      · rcases List.mem_cons.mp h2 with q | q
        · exact q.symm
        · have := b.1 x z; have := a.1 y q; omega
    subst e
    refine congrArg (x :: ·) (up_same a.2 b.2 fun k => ⟨fun m => ?_, fun m => ?_⟩)
    · rcases List.mem_cons.mp ((h k).mp (List.mem_cons_of_mem _ m)) with z | z
      · have := a.1 k m; omega
      · exact z
    · rcases List.mem_cons.mp ((h k).mpr (List.mem_cons_of_mem _ m)) with z | z
      · have := b.1 k m; omega
      · exact z
theorem up_nodup {l : List Int} (h : l.Pairwise (· < ·)) : l.Nodup := h.imp fun h e => by omega
theorem setR_count {w : World} {h : Heap} {a : Addr} {ns : List Int} {c : Nat} (R : SetR w h a (fun j => decide (j ∈ ns)) c) : c = (setL ns).length := by
  obtain ⟨o, es, ep, t, _, _, _, _, nd, hm, _, _, hn, _⟩ := R
  have p : (es.toList.map keyOf).Perm (setL ns) := (List.perm_ext_iff_of_nodup nd (up_nodup (setL_up ns))).mpr fun k => by rw [setL_mem, ← hm k, decide_eq_true_eq]
  rw [← p.length_eq, List.length_map, Array.length_toList, hn]
/-- set(l) -/
def rSetIL (K : PySem.W.Frag) (w : World) : List V → Hp → VK → Prop := fun xs H Q => ∃ (l : Addr) (ns : List Int), xs = [.ref l] ∧ SqL K H l (ns.map V.int) ∧ ns.length ≤ 1000 ∧
  ∀ p, H p = none → Q (.ref p) (upd H p (SetO w p (fun j => decide (j ∈ ns)) (setL ns).length))
theorem cr_setIL {X : Cx} (hc : X.calm = true) : CallR X (.type "set") (rSetIL X.K X.w) := by
  intro pins s σ H xs us Q I r h
  obtain ⟨l, ns, rfl, hl, hz, q⟩ := h
  rw [Vals.ref1 r]
  obtain ⟨its, rv, pl, _⟩ := I.list hl
  have hn : H s.heap.objs.size = none := I.hok.fresh (Nat.le_refl _)
  refine set_list_at ns (I.ok.hd hc) pl.isList (ints_of_vals rv) (by unfold scanBound; omega) fun t ⟨h', tk, c, e, R, hcn, k⟩ => ?_
  subst e
  rw [setR_count R] at R
  exact ⟨.ref s.heap.objs.size, upd H s.heap.objs.size (SetO X.w s.heap.objs.size _ _), I.laid (t' := tk) k (Nat.le_refl _) (setO_new R), rfl, q _ hn⟩
end L2
namespace Rw
open PySem PySem.Spec PyProof.Rows L2 Evl
section
variable {K : PySem.W.Frag} {α β γ δ R τ : Type} {E E' : XK} {cl : Nat → Addr} {M : List Addr} {σ : L2.St} {I I' H H' : Hp} {S S' S1 S2 S3 : List Cell} {te ta tb tc to tv : TE} {tt : TT} {tr tk : TA} {t : Ty α} {u : Ty β} {D : Ends} {tz : TS} {l : List (Int × Int)} {P : R → Prop}
/-! ### a list of two, taken apart -/
def kL2 (K : PySem.W.Frag) (t : Ty α) : Ty (α × α) := ⟨fun H v p => (kL K t).r H v [p.1, p.2], fun e h => (kL K t).up e h⟩
theorem em_L2 {a b : α} (h : Em E cl M te σ I S (kL K t) (.ok [a, b]) S') : Em E cl M te σ I S (kL2 K t) (.ok (a, b)) S' := em_ty h fun _ _ r => r
theorem eg_u2 {i j : Nat} : Eg (gUnl K 2 (gCons (gName i) (gCons (gName j) gNil))) (kL2 K t) σ (fun I x σ' => ∃ v w, t.r I v x.1 ∧ t.r I w x.2 ∧ σ' = (σ.set i (some v)).set j (some w)) := fun v H x I r e k q => by
  obtain ⟨p, vs, rfl, hp, ha⟩ := r
  cases ha with
  | cons h1 ha =>
    cases ha with
    | cons h2 ha =>
      cases ha
      exact ⟨p, _, rfl, ex_l e hp, rfl, _, _, rfl, _, _, rfl, rfl, q _ ⟨_, _, h1, h2, rfl⟩⟩
/-! ### list(range(a, b)) -/
theorem rgV_rng {a b : Int} : rgV a b = (rng a b).map V.int := by unfold rgV rng; rw [List.map_map]; rfl
theorem em_listRg {a b : Int} (ha : Em E cl M ta σ I S kI (.ok a) S1) (hb : Em E cl M tb σ I S1 kI (.ok b) S2) (h : -1000000 ≤ a ∧ a ≤ 1000000 ∧ -1000000 ≤ b ∧ b ≤ 1000000) : Em E cl M (tLstRg (tRg2 ta tb)) σ I S (kX kI) (.ok (rng a b)) S2 :=
  em_mk (hb.ad.trans ha.ad) fun H1 i w Q q => em_of ha H1 i w _ fun v1 H2 e1 w1 r1 => em_of hb H2 (i.trans (w.grow e1)) w1 _ fun v2 H3 e2 w2 r2 => by
    obtain rfl : v1 = .int a := r1
    obtain rfl : v2 = .int b := r2
    refine ⟨a, b, rfl, rfl, ⟨by omega, by omega, by omega, by omega, by omega⟩, fun p hp => ?_⟩
    have e3 : Ex H3 (upd H3 p (.lst (rgV a b))) := Ex.new hp
    rw [rgV_rng] at e3 ⊢
    exact q _ _ ((ads_tr ha.ad e1 e2).trans (ex_del e3)) (w2.ex e3) ⟨p, _, rfl, del_at (fresh_not w2.live hp) upd_same, all_intsR _⟩
theorem em_XL {xs : List α} (h : Em E cl M te σ I S (kX t) (.ok xs) S') : Em E cl M te σ I S (kL K t) (.ok xs) S' :=
  em_ty h fun H v ⟨p, vs, a, b, c⟩ => ⟨p, vs, a, sq_of b, c⟩
/-! ### is True, is not True -/
theorem o_isB {a b : Bool} : Op2 (fun x y H Q => ∃ a b, x = .bl a ∧ y = .bl b ∧ Q (.bl (decide (a = b))) H) kB a kB b kB (decide (a = b)) := fun M u w H l r1 r2 Q q => by
  obtain rfl : u = .bl a := r1
  obtain rfl : w = .bl b := r2
  exact ⟨a, b, rfl, rfl, q _ H (Ex.refl H) rfl⟩
theorem o_isnB {a b : Bool} : Op2 (fun x y H Q => ∃ a b, x = .bl a ∧ y = .bl b ∧ Q (.bl (!decide (a = b))) H) kB a kB b kB (!decide (a = b)) := fun M u w H l r1 r2 Q q => by
  obtain rfl : u = .bl a := r1
  obtain rfl : w = .bl b := r2
  exact ⟨a, b, rfl, rfl, q _ H (Ex.refl H) rfl⟩
theorem at_inG {xs : List α} {i : Int} {z : α} (h : 0 - (xs.length : Int) ≤ i ∧ i < (xs.length : Int)) : atI xs i = some ((atI xs i).getD z) := by
  have e : ∃ j, j < xs.length ∧ ixN xs.length i = some j := by
    unfold ixN
    split
    · rw [if_pos h.2]; exact ⟨i.toNat, by omega, rfl⟩
    · rw [if_pos (by omega)]; exact ⟨(i + xs.length).toNat, by omega, rfl⟩
  obtain ⟨j, hj, e⟩ := e
  unfold atI
  rw [e]
  show xs[j]? = some (xs[j]?.getD z)
  rw [List.getElem?_eq_getElem hj]
  rfl
/-! ### sorted of a dict -/
theorem putN_keys {l : List (Int × Int)} {k v : Int} (h : (l.map (·.1)).Nodup) : ((putN l k v).map (·.1)).Nodup ∧ ∀ x, x ∈ (putN l k v).map (·.1) ↔ x = k ∨ x ∈ l.map (·.1) := by
  unfold putN
  split
  · rename_i c
    have e : (l.map (fun q => if q.1 = k then (q.1, v) else q)).map (·.1) = l.map (·.1) := by
      rw [List.map_map]
      apply List.map_congr_left
      intro q _
      show (if q.1 = k then (q.1, v) else q).1 = q.1
      split <;> rfl
    rw [e]
    refine ⟨h, fun x => ⟨.inr, fun z => z.elim (fun y => ?_) id⟩⟩
    subst y
    obtain ⟨q, hq, hk⟩ := List.any_eq_true.mp c
    exact List.mem_map.mpr ⟨q, hq, of_decide_eq_true hk⟩
  · rename_i c
    have nk : k ∉ l.map (·.1) := fun z => by
      obtain ⟨q, hq, hk⟩ := List.mem_map.mp z
      exact c (List.any_eq_true.mpr ⟨q, hq, decide_eq_true hk⟩)
    rw [List.map_append]
    refine ⟨List.nodup_append.mpr ⟨h, by simp, fun a ha b hb => ?_⟩, fun x => ?_⟩
    · rw [List.map_cons, List.map_nil, List.mem_singleton] at hb
      subst hb
      exact fun e => nk (e ▸ ha)
    · rw [List.mem_append, List.map_cons, List.map_nil, List.mem_singleton]
      exact Or.comm
theorem dictP_keys (l : List (Int × Int)) : ((dictP l).map (·.1)).Nodup ∧ ∀ x, x ∈ (dictP l).map (·.1) ↔ x ∈ l.map (·.1) := by
  have k : ∀ (l acc : List (Int × Int)), (acc.map (·.1)).Nodup → ((l.foldl (fun acc q => putN acc q.1 q.2) acc).map (·.1)).Nodup ∧ ∀ x, x ∈ (l.foldl (fun acc q => putN acc q.1 q.2) acc).map (·.1) ↔ x ∈ acc.map (·.1) ∨ x ∈ l.map (·.1) := by
    intro l
    induction l with
    | nil => intro acc h; exact ⟨h, fun x => by simp⟩
    | cons q l ih =>
      intro acc h
      obtain ⟨n, m⟩ := putN_keys (k := q.1) (v := q.2) h
      obtain ⟨n2, m2⟩ := ih _ n
      refine ⟨n2, fun x => ?_⟩
      rw [List.foldl_cons, m2, m, List.map_cons, List.mem_cons]
      constructor
      · rintro ((q | q) | q)
        · exact .inr (.inl q)
        · exact .inl q
        · exact .inr (.inr q)
      · rintro (q | q | q)
        · exact .inl (.inr q)
        · exact .inl (.inl q)
        · exact .inr q
  obtain ⟨n, m⟩ := k l [] (by simp)
  exact ⟨n, fun x => (m x).trans (by simp)⟩
theorem le_up : ∀ {l : List Int}, l.Pairwise (· ≤ ·) → l.Nodup → l.Pairwise (· < ·)
  | [], _, _ => .nil
  | x :: l, h, n => by
    have a := List.pairwise_cons.mp h
    have b := List.nodup_cons.mp n
    refine List.pairwise_cons.mpr ⟨fun y hy => ?_, le_up a.2 b.2⟩
    have := a.1 y hy
    have : x ≠ y := fun e => b.1 (e ▸ hy)
    omega
theorem o_sortDK (hn : (l.map (·.1)).Nodup) (hz : l.length ≤ 100000) : OpN rSortDK (aC kDN a0) (l, ()) (kL K kI) (setL (l.map (·.1))) := fun M us H lv a Q q => by
  obtain ⟨v, r, rfl, ⟨p, rfl, hp⟩, rfl⟩ := a
  refine ⟨p, l.map pairV, l.map (·.1), rfl, .inl (del_some.mp hp).2, by rw [List.map_map, List.map_map]; rfl, by rw [List.length_map]; exact hz, fun ys p2 perm up new => ?_⟩
  have e : ys = setL (l.map (·.1)) := up_same (le_up up (perm.nodup_iff.mpr hn)) (setL_up _) fun k => by rw [perm.mem_iff, setL_mem]
  subst e
  exact q _ _ (Ex.new new) ⟨p2, _, rfl, sq_of (del_at (fresh_not lv new) upd_same), all_intsR _⟩
end
end Rw
namespace Rw
open PySem PySem.Spec PyProof.Rows L2 Evl
theorem pi_listK {X : Cx} {K : PySem.W.Frag} {tg l : Expr} {tl : TE} (hl : PE X l tl) (h : X.K = K := by rfl) : PI X tg l (iList K tl) := by
  subst h
  exact pi_list hl
theorem pi_tupK {X : Cx} {K : PySem.W.Frag} {tg l : Expr} {tl : TE} (hl : PE X l tl) (h : X.K = K := by rfl) : PI X tg l (iTup K tl) := by
  subst h
  exact pi_tup hl
theorem em_someO {α : Type} {t : Ty α} {E : XK} {cl : Nat → Addr} {M : List Addr} {te : TE} {σ : L2.St} {I : Hp} {S S' : List Cell} {x : α} (nn : ∀ H v, t.r H v x → v ≠ .non) (h : Em E cl M te σ I S t (.ok x) S') : Em E cl M te σ I S (kO t) (.ok (some x)) S' :=
  em_ty h fun H v r => some_r r (nn H v r)
theorem dictP_len (l : List (Int × Int)) : (dictP l).length ≤ l.length := by
  have k : ∀ (l acc : List (Int × Int)), (l.foldl (fun acc q => putN acc q.1 q.2) acc).length ≤ acc.length + l.length := by
    intro l
    induction l with
    | nil => intro acc; exact Nat.le_refl _
    | cons q l ih =>
      intro acc
      have := ih (putN acc q.1 q.2)
      have := len_putN acc q.1 q.2
      rw [List.foldl_cons, List.length_cons]
      omega
  have := k l []
  rw [List.length_nil, Nat.zero_add] at this
  exact this
end Rw
namespace Rw
open PySem PySem.Spec PyProof.Rows L2 Evl
section
variable {K : PySem.W.Frag} {α β γ δ R τ : Type} {E E' : XK} {cl : Nat → Addr} {M : List Addr} {σ : L2.St} {I I' H H' : Hp} {S S' S1 S2 S3 : List Cell} {te ta tb tc to tv ti : TE} {tt : TT} {tr tk : TA} {t : Ty α} {u : Ty β} {w' : Ty γ} {z' : Ty δ} {x : α} {y : β} {z : γ} {q' : δ} {D : Ends} {tz : TS} {i j k l n0 : Nat}
/-! ### four parts -/
def k4 (K : PySem.W.Frag) (a : Ty α) (b : Ty β) (c : Ty γ) (d : Ty δ) : Ty (α × β × γ × δ) := ⟨fun H v x => ∃ p u1 u2 u3 u4, v = .ref p ∧ SqT K H p [u1, u2, u3, u4] ∧ a.r H u1 x.1 ∧ b.r H u2 x.2.1 ∧ c.r H u3 x.2.2.1 ∧ d.r H u4 x.2.2.2, fun e ⟨p, u1, u2, u3, u4, h1, h2, h3, h4, h5, h6⟩ => ⟨p, u1, u2, u3, u4, h1, ex_t e h2, a.up e h3, b.up e h4, c.up e h5, d.up e h6⟩⟩
theorem em_t4 (K : PySem.W.Frag) (h : Ea E cl M tr σ I S (aC t (aC u (aC w' (aC z' a0)))) (.ok (x, y, z, q', ())) S') : Em E cl M (tTup tr) σ I S (k4 K t u w' z') (.ok (x, y, z, q')) S' :=
  em_mk h.ad fun H1 i w0 Q q => ea_of h H1 i w0 _ fun vs H2 e w1 r => by
    obtain ⟨v1, r1, rfl, g1, v2, r2, rfl, g2, v3, r3, rfl, g3, v4, r4, rfl, g4, rfl⟩ := r
    refine ⟨by show 4 ≤ sizeLine; decide, fun p hp => q _ _ (e.trans (ex_del (Ex.new hp))) (w1.ex (Ex.new hp)) ⟨p, v1, v2, v3, v4, rfl, st_of (del_at (fresh_not w1.live hp) upd_same), t.up (ex_del (Ex.new hp)) g1, u.up (ex_del (Ex.new hp)) g2, w'.up (ex_del (Ex.new hp)) g3, z'.up (ex_del (Ex.new hp)) g4⟩⟩
theorem eg_4 {m : Nat} : Eg (gTup K 4 (gCons (gName i) (gCons (gName j) (gCons (gName l) (gCons (gName m) gNil))))) (k4 K t u w' z') σ (fun I x σ' => ∃ v1 v2 v3 v4, t.r I v1 x.1 ∧ u.r I v2 x.2.1 ∧ w'.r I v3 x.2.2.1 ∧ z'.r I v4 x.2.2.2 ∧ σ' = (((σ.set i (some v1)).set j (some v2)).set l (some v3)).set m (some v4)) := fun v H x I r e k q => by
  obtain ⟨p, v1, v2, v3, v4, rfl, hp, h1, h2, h3, h4⟩ := r
  exact ⟨p, _, rfl, ex_t e hp, rfl, v1, _, rfl, v2, _, rfl, v3, _, rfl, v4, [], rfl, rfl, q _ ⟨v1, v2, v3, v4, h1, h2, h3, h4, rfl⟩⟩
def d4 (A : Dq K t i) (B : Dq K u j) (C : Dq K w' k) (D : Dq K z' l) : Dq K (k4 K t u w' z') (max i (max j (max k l)) + 1) := ⟨fun x => .tuple [A.enc x.1, B.enc x.2.1, C.enc x.2.2.1, D.enc x.2.2.2], fun ⟨p, v1, v2, v3, v4, e, h, h1, h2, h3, h4⟩ => by subst e; exact ⟨.tup h (.cons (A.dp h1).1 (.cons (B.dp h2).1 (.cons (C.dp h3).1 (.cons (D.dp h4).1 .nil)))), by simp [PyData.canLay0, PyData.canLayAll0, (A.dp h1).2, (B.dp h2).2, (C.dp h3).2, (D.dp h4).2]⟩,
  fun x => by simp only [PyData.depth, PyData.depthAll]; have := A.dep x.1; have := B.dep x.2.1; have := C.dep x.2.2.1; have := D.dep x.2.2.2; omega, fun x y => by simp [PyData.eqv, PyData.eqvAll, A.eq, B.eq, C.eq, D.eq, Prod.ext_iff]⟩
theorem nn_3 {a : Ty α} {b : Ty β} {c : Ty γ} {x : α × β × γ} : ∀ H v, (k3 K a b c).r H v x → v ≠ .non := fun H v ⟨p, _, _, _, h, _⟩ z => by rw [h] at z; cases z
theorem nn_4 {a : Ty α} {b : Ty β} {c : Ty γ} {d : Ty δ} {x : α × β × γ × δ} : ∀ H v, (k4 K a b c d).r H v x → v ≠ .non := fun H v ⟨p, _, _, _, _, h, _⟩ z => by rw [h] at z; cases z
/-- three numbers of one kind are a triple -/
theorem em_T3 {a b c : α} (h : Em E cl M te σ I S (kT K t) (.ok [a, b, c]) S') : Em E cl M te σ I S (k3 K t t t) (.ok (a, b, c)) S' :=
  em_ty h fun H v ⟨p, vs, e, s, r⟩ => by
    cases r with
    | cons r1 r =>
      cases r with
      | cons r2 r =>
        cases r with
        | cons r3 r =>
          cases r
          exact ⟨p, _, _, _, e, s, r1, r2, r3⟩
/-! ### any(..) -/
theorem all_boolsE {H : Hp} : ∀ {vs : List V} {bs : List Bool}, All2 (kB.r H) vs bs → vs = bs.map V.bl
  | _, _, .nil => rfl
  | _, _, .cons a b => by rw [List.map_cons, ← all_boolsE b]; exact congrArg (· :: _) a
theorem o_any {bs : List Bool} : OpN (rAny K) (aC (kL K kB) a0) (bs, ()) kB (bs.any id) := fun M us H lv a Q q => by
  obtain ⟨v, r, rfl, ⟨p, vs, rfl, hp, ha⟩, rfl⟩ := a
  exact ⟨p, bs, rfl, ex_l del_le (by rw [← all_boolsE ha]; exact hp), q _ H (Ex.refl H) rfl⟩
/-! ### enumerate(tuple) -/
theorem walk_enT {p : Addr} {vs : List V} : Walk (ItEn K p) vs.length (fun H => SqT K H p vs) (YPair (fun i => some (.int (i : Nat))) (fun i => vs[i]?)) :=
  ⟨fun i _ hi q => ⟨vs, vs[i], q, by simp [hi]⟩, fun _ q => ⟨vs, q, rfl⟩, fun i _ _ _ _ q ⟨T, y, e1, e2, e3, e4⟩ => ⟨T, .int i, y, e1, e2, e3, rfl, e4 vs q⟩⟩
def enL (xs : List α) : List (Int × α) := xs.zipIdx.map fun q => (((q.2 : Nat) : Int), q.1)
theorem enL_len {xs : List α} : (enL xs).length = xs.length := by unfold enL; rw [List.length_map, List.length_zipIdx]
theorem enL_at {xs : List α} {n : Nat} {q : Int × α} : (enL xs)[n]? = some q ↔ q.1 = (n : Int) ∧ xs[n]? = some q.2 := by
  unfold enL
  rw [List.getElem?_map, List.getElem?_zipIdx]
  cases h : xs[n]? with
  | none => simp
  | some y =>
    obtain ⟨a, b⟩ := q
    simp [eq_comm]
theorem ei_EnT {xs : List α} (h : Ea E cl M tr σ I S (aC (kT K t) a0) (.ok (xs, ())) S') : Ei E cl M (iEnumT K tr) σ I S (k2 K kI t) (enL xs) S' :=
  ⟨h.ad, fun H1 i w R q => ea_of h H1 i w _ fun us H2 e w1 r => by
    obtain ⟨v, rs, rfl, ⟨p, vs, rfl, hp, ha⟩, rfl⟩ := r
    refine ⟨p, vs, rfl, ex_t del_le hp, q _ H2 (fun H => SqT K H p vs) _ e w1 (by rw [enL_len, ← ha.len]; exact walk_enT) (fun H' e2 => ex_t (e2.trans del_le) hp) ?_⟩
    intro i H v H' x hx e2 y
    obtain ⟨T, a, b, rfl, hT, rfl, h1, h2⟩ := y
    obtain ⟨x1, x2⟩ := enL_at.mp hx
    obtain ⟨v', hv', r⟩ := ha.at2 x2
    have h2 : vs[i]? = some b := h2
    have h1 : some (V.int (i : Nat)) = some a := h1
    rw [hv'] at h2
    obtain rfl := Option.some.inj h2
    obtain rfl := Option.some.inj h1
    refine ⟨Ex.new hT, fun M' l e3 => ⟨T, _, _, rfl, st_of (del_at (fresh_not l hT) upd_same), by show V.int _ = V.int _; rw [x1], t.up (e3.trans (ex_del (Ex.new hT))) r⟩⟩⟩
theorem eg_22 : Eg (gTup K 2 (gCons (gName i) (gCons (gTup K 2 (gCons (gName j) (gCons (gName l) gNil))) gNil))) (k2 K t (k2 K u w')) σ (fun I x σ' => ∃ v1 v2 v3, t.r I v1 x.1 ∧ u.r I v2 x.2.1 ∧ w'.r I v3 x.2.2 ∧ σ' = ((σ.set i (some v1)).set j (some v2)).set l (some v3)) := fun v H x I r e k q => by
  obtain ⟨p, v1, v2, rfl, hp, h1, p2, w1, w2, rfl, hp2, h2, h3⟩ := r
  exact ⟨p, _, rfl, ex_t e hp, rfl, v1, _, rfl, _, [], rfl, ⟨p2, _, rfl, ex_t e hp2, rfl, w1, _, rfl, w2, [], rfl, rfl, rfl, q _ ⟨v1, w1, w2, h1, h2, h3, rfl⟩⟩⟩
/-! ### a table of what a plain function gives -/
def kTab (f : Int → α) (hi : Int) (t : Ty α) : Ty Unit := ⟨fun H v _ => ∃ p kvs, v = .ref p ∧ H p = some (.dK kvs) ∧ ∀ k : Int, 0 ≤ k → k < hi → ∃ u, valV kvs (.inl k) = some u ∧ t.r H u (f k), fun e ⟨p, kvs, a, b, c⟩ => ⟨p, kvs, a, e _ _ b, fun k h1 h2 => let ⟨u, d, r⟩ := c k h1 h2; ⟨u, d, t.up e r⟩⟩⟩
theorem merge_has {H : Hp} {f : Int → α} (t : Ty α) : ∀ {xs : List Int} {kvs acc : List (Key × V)}, All2 (fun kv n => kv.1 = (.inl n : Key) ∧ t.r H kv.2 (f n)) kvs xs → ∀ k : Int, (k ∈ xs ∨ ∃ u, valV acc (.inl k) = some u ∧ t.r H u (f k)) → ∃ u, valV (mergeK acc kvs) (.inl k) = some u ∧ t.r H u (f k)
  | [], kvs, acc, h, k, z => by
    cases h
    exact z.elim (fun y => by cases y) id
  | n :: xs, kvs, acc, h, k, z => by
    cases h with
    | cons a r =>
      rename_i kv kvs
      obtain ⟨a1, a2⟩ := a
      show ∃ u, valV (mergeK (putK acc kv.1 kv.2) kvs) (.inl k) = some u ∧ _
      refine merge_has t r k ?_
      rw [a1, valV_put]
      by_cases e : k = n
      · subst e
        exact .inr ⟨_, by rw [if_pos rfl], a2⟩
      · rcases z with z | z
        · rcases List.mem_cons.mp z with y | y
          · exact absurd y e
          · exact .inl y
        · refine .inr ?_
          rw [if_neg (fun y => e (by injection y))]
          exact z
theorem pairs_g {I : Hp} {f : Int → α} (t : Ty α) : ∀ {xs : List Int} {vs : List V}, All2 ((k2 K kI t).r I) vs (xs.map fun n => (n, f n)) → ∃ (ps : List Addr) (kvs : List (Key × V)), vs = ps.map V.ref ∧ Paired (fun p (kv : Key × V) => SqT K I p [kV kv.1, kv.2]) ps kvs ∧ All2 (fun kv n => kv.1 = (.inl n : Key) ∧ t.r I kv.2 (f n)) kvs xs
  | [], vs, h => by cases h; exact ⟨[], [], rfl, .nil, .nil⟩
  | n :: xs, vs, h => by
    rw [List.map_cons] at h
    cases h with
    | cons a r =>
      obtain ⟨ps, kvs, rfl, hp, ha⟩ := pairs_g t r
      obtain ⟨p, u1, u2, rfl, hs, r1, r2⟩ := a
      obtain rfl : u1 = .int n := r1
      exact ⟨p :: ps, (.inl n, u2) :: kvs, rfl, .cons hs hp, .cons ⟨rfl, r2⟩ ha⟩
theorem o_dictTab {f : Int → α} {F : Int} : OpN (fun xs H Q => ∃ (a : Addr) (ps : List Addr) (kvs : List (Key × V)), xs = [.ref a] ∧ SqL K H a (ps.map V.ref) ∧ Paired (fun p kv => SqT K H p [kV kv.1, kv.2]) ps kvs ∧ ∀ p, H p = none → Q (.ref p) (upd H p (.dK (mergeK [] kvs)))) (aC (kL K (k2 K kI t)) a0) ((rng 0 F).map fun n => (n, f n), ()) (kTab f F t) () := fun M us H lv a Q q => by
  obtain ⟨v, r, rfl, ⟨p, vs, rfl, hp, ha⟩, rfl⟩ := a
  obtain ⟨ps, kvs, rfl, h1, h2⟩ := pairs_g t ha
  refine ⟨p, ps, kvs, rfl, ex_l del_le hp, paired_up del_le h1, fun p2 hp2 => q _ _ (Ex.new hp2) ⟨p2, _, rfl, del_at (fresh_not lv hp2) upd_same, fun k k0 k1 => ?_⟩⟩
  obtain ⟨u, e, ru⟩ := merge_has (acc := []) t h2 k (.inl (rng_mem.mpr ⟨k0, k1⟩))
  exact ⟨u, e, t.up (ex_del (Ex.new hp2)) ru⟩
theorem em_tabGet {f : Int → α} {hi k : Int} (ha : Em E cl M ta σ I S (kTab f hi t) (.ok ()) S1) (hb : Em E cl M tb σ I S1 kI (.ok k) S2) (h : 0 ≤ k ∧ k < hi) : Em E cl M (tDGet ta tb) σ I S t (.ok (f k)) S2 :=
  em_mk (hb.ad.trans ha.ad) fun H1 i w Q q => em_of ha H1 i w _ fun v1 H2 e1 w1 r1 => em_of hb H2 (i.trans (w.grow e1)) w1 _ fun v2 H3 e2 w2 r2 => by
    obtain rfl : v2 = .int k := r2
    obtain ⟨p, kvs, rfl, hp, c⟩ := (kTab f hi t).up (w1.grow e2) r1
    obtain ⟨u, e, r⟩ := c k h.1 h.2
    exact ⟨p, u, rfl, by rw [← e]; exact DGet.k (k := .inl k) (del_some.mp hp).2, q _ H3 (ads_tr ha.ad e1 e2) w2 r⟩
/-! ### texts in a row of texts -/
theorem inV_str {s : Str} : ∀ {xs : List Str} {vs : List V} {H : Hp}, All2 (kS.r H) vs xs → (vs.all flatV = true ∧ inV (.str s) vs = decide (s ∈ xs))
  | [], vs, H, h => by cases h; exact ⟨rfl, rfl⟩
  | x :: xs, vs, H, h => by
    cases h with
    | cons a t =>
      obtain ⟨p, q⟩ := inV_str (s := s) t
      cases a
      refine ⟨by rw [List.all_cons, p]; rfl, ?_⟩
      show (eqV (.str x) (.str s) || inV (.str s) _) = _
      rw [q]
      have e0 : eqV (.str x) (.str s) = decide (x = s) := by
        show (x == s) = decide (x = s)
        by_cases e : x = s
        · rw [decide_eq_true e]; exact beq_iff_eq.mpr e
        · rw [decide_eq_false e]; exact beq_eq_false_iff_ne.mpr e
      rw [e0]
      by_cases e : x = s
      · rw [decide_eq_true e, Bool.true_or, decide_eq_true (by rw [e]; exact List.mem_cons_self)]
      · rw [decide_eq_false e, Bool.false_or]
        congr 1
        rw [List.mem_cons]
        simp [Ne.symm e, eq_comm]
theorem o_inST {neg : Bool} {s : Str} {xs : List Str} : Op2 (rIn K neg) kS s (kT K kS) xs kB (if neg then !decide (s ∈ xs) else decide (s ∈ xs)) := fun M v1 v2 H l a b Q q => by
  obtain ⟨p, vs, rfl, hp, ha⟩ := b
  obtain rfl : v1 = .str s := a
  obtain ⟨f1, f2⟩ := inV_str (s := s) ha
  refine ⟨p, vs, rfl, .inr (ex_t del_le hp), rfl, f1, ?_⟩
  rw [f2]
  exact q _ H (Ex.refl H) rfl
theorem call_tuple_ofK {X : Cx} {K : PySem.W.Frag} (h : X.K = K := by rfl) : CallR X (.type "tuple") (fun xs H Q => ∃ p ys, xs = [.ref p] ∧ ((SqL K H p ys ∧ ∀ l, H l = none → Q (.ref l) (upd H l (.tup ys))) ∨ (SqT K H p ys ∧ Q (.ref p) H))) := by
  subst h
  exact call_tuple_of
end
end Rw
namespace Rw
open PySem PySem.Spec PyProof.Rows L2 Evl
section
variable {K : PySem.W.Frag} {α β γ δ R τ : Type} {E E' : XK} {cl : Nat → Addr} {M : List Addr} {σ : L2.St} {I I' H H' : Hp} {S S' S1 S2 S3 : List Cell} {te ta tb tc to tv ti : TE} {tt : TT} {tr tk : TA} {t : Ty α} {u : Ty β} {w' : Ty γ} {x : α} {y : β}
/-! ### what may raise, within -/
theorem em_consR1 {r : Re γ} (k : Em E cl M tb σ I S w' r S2) : Ea E cl M (tCons tb tNil) σ I S (aC w' a0) (r.bind fun y => .ok (y, ())) S2 :=
  ⟨k.ad, fun H1 i w Q q qe => k.run H1 i w _ (fun y v2 H3 ey e2 w2 r2 => q (y, ()) [v2] H3 (by rw [ey]; rfl) e2 w2 ⟨v2, _, rfl, r2, rfl⟩) (fun j H3 ej e2 w2 => qe j H3 (by rw [ej]; rfl) e2 w2)⟩
theorem em_opR1 {rl : R2} {r : Re α} {g : α → γ} (ha : Em E cl M ta σ I S t r S1) (hb : Em E cl M tb σ I S1 u (.ok y) S1) (ho : ∀ x, Op2 rl t x u y w' (g x)) : Em E cl M (tOp rl ta tb) σ I S w' (r.bind fun x => .ok (g x)) S1 := by
  cases r with
  | ok x => exact em_op ha hb (ho x)
  | er k => exact ⟨ha.ad, fun H1 i w Q q qe => ha.run H1 i w _ (fun _ _ _ z => nomatch z) fun j H2 ej e2 w2 => qe j H2 (by cases ej; rfl) e2 w2⟩
theorem em_opR2 {rl : R2} {r : Re β} {g : β → γ} (ha : Em E cl M ta σ I S t (.ok x) S1) (hb : Em E cl M tb σ I S1 u r S2) (ho : ∀ y, r = .ok y → Op2 rl t x u y w' (g y)) : Em E cl M (tOp rl ta tb) σ I S w' (r.bind fun y => .ok (g y)) S2 := by
  cases r with
  | ok y => exact em_op ha hb (ho y rfl)
  | er k => exact ⟨hb.ad.trans ha.ad, fun H1 i w Q q qe => em_of ha H1 i w _ fun v H2 e w2 r2 => hb.run H2 (i.trans (w.grow e)) w2 _ (fun _ _ _ z => nomatch z) fun j H3 ej e3 w3 => qe j H3 (by cases ej; rfl) (ads_tr ha.ad e e3) w3⟩
end
end Rw
namespace Rw
open PySem PySem.Spec PyProof.Rows L2 Evl
theorem o_ixTG {K : PySem.W.Frag} {α : Type} {t : Ty α} {xs : List α} {x : α} {i : Int} (h : atI xs i = some x) : Op2 (rIxT K) (kT K t) xs kI i t x := fun M u w H l a b Q q => by
  obtain ⟨p, vs, rfl, hp, ha⟩ := a
  obtain rfl : w = .int i := b
  obtain ⟨j, hj, hx⟩ : ∃ j, ixN xs.length i = some j ∧ xs[j]? = some x := by
    unfold atI at h
    cases hj : ixN xs.length i with
    | none => rw [hj] at h; cases h
    | some j => rw [hj] at h; exact ⟨j, rfl, h⟩
  obtain ⟨v, hv, hr⟩ := ha.at2 hx
  refine ⟨p, vs, i, v, rfl, rfl, ex_t del_le hp, ?_, q v H (Ex.refl H) hr⟩
  unfold atI
  rw [ha.len]
  show (ixN xs.length i).bind _ = _
  rw [hj]
  exact hv
end Rw
/-! a comprehension whose element may raise -/
namespace Rw
open PySem PySem.Spec PyProof.Rows L2 Evl
/-- the context of a block out of which exceptions go on -/
abbrev blkE (X : Cx) (s : Shared) (H : Hp) (scope : Scope) (ce : Env) (fp : List Addr) : Cx :=
  { X.blk s H scope ce fp with xe := notedBy (model X.prog X.w) X.A ce (CompFails (model X.prog X.w) X.A X.xe ce) }
section
variable {X : Cx} {pins : List (Addr × Obj)} {σ : L2.St} {H : Hp} {s s' : Shared} {W : WX} {E : XK} {C : Addr} {u : Value}
theorem block_out (tk : Takes X W) (hW : ∀ c d σ H, E c d H → W c d σ H) (I : Inv X pins σ H s) (fC : FpOk X pins H C) (nC : ∃ m, s.heap.Ns C m) (hs : X.stack = X.env :: X.outer) (hf : X.env.frame = some X.env.locals)
    {ce : Env} (cf : ce.frame = X.env.frame) (cl : ce.locals = C) (ncf : C ∉ frs X.stack) (c : L2.CX X.prog X.w X.stack H s E u s') :
    notedBy (model X.prog X.w) X.A ce (CompFails (model X.prog X.w) X.A X.xe ce) u s' := by
  obtain ⟨a, B, H2, cls, d, rfl, fl, hok, ub, na, os, ag, hE⟩ := c
  have hfr : X.A.frames = some (X.env :: X.outer) := by rw [I.ok.frames, hs]
  obtain ⟨f0, f1, f2, f3, f4, f5⟩ := fC
  obtain ⟨m, oC, es, ep, eC, dC, nsr⟩ := nC
  have bC : B.get? C = some oC := ub.keep C oC eC f0 ncf
  have cH2 : H2 C = none := ub.free C oC eC f0
  show wpAny _ _ (noteFrame (.ref a) ce) _ _ s'
  rw [noteFrame_env _ cf]
  have fl1 : HandSPX.FlyingZ B (X.env :: X.outer) a (Zc cls d) s'.heap := hs ▸ fl
  refine HandSPX.looks_onZ Zc.steady hfr hf fl1 fun h1 hh up1 => ?_
  obtain ⟨st1, an, ff1, tz1⟩ := hh
  refine ⟨m, ⟨oC, es, ep, by rw [cl]; exact st1 C oC bC, dC, nsr⟩, fun h2 m2 hn2 sb => ?_⟩
  rw [cl] at hn2 sb
  obtain ⟨B2, g1, g2⟩ := restrict h2 fun b => (B.get? b).isSome
  have inB : ∀ b o, B.get? b = some o → B2.get? b = h2.get? b := fun b o e => g1 b (by rw [e]; rfl)
  have outB : ∀ b, B.get? b = none → B2.get? b = none := fun b e => g2 b (by rw [e]; rfl)
  have stay2 : B2.StaysIn h2 := fun b o e => by
    cases q : B.get? b with
    | some o' => rw [← inB b o' q]; exact e
    | none => rw [outB b q] at e; cases e
  have ff2 : h2.FunFrames B2 (X.env :: X.outer) := by
    refine funFrames_none (Heap.FunFrames.sameBut sb hn2 ff1) fun L hL => outB L ?_
    exact (ff1.mem hL).1
  obtain ⟨oe, vs, T, oT, ts, he, hz, hd, v1, hnT, hTe, hT, hdT, t3⟩ := tz1
  have aC : a ≠ C := fun z => by rw [z, bC] at an; cases an
  have TC : T ≠ C := fun z => by rw [z, bC] at hnT; cases hnT
  have he2 := (sb.2 a aC).trans he
  have hT2 := (sb.2 T TC).trans hT
  have tz2 : HandSPX.TracedZ h2 B2 a (Zc cls d) (rawInt X.env.locals) := ⟨oe, vs, T, oT, ts, he2, hz, hd, v1, outB T hnT, hTe, hT2, hdT, t3⟩
  unfold PySem.passOn
  refine wpAny_bind (wpAny_field he2 hd v1 ?_)
  have isT : (Value.ref T == Value.none) = false := rfl
  rw [isT]
  simp only [Bool.false_eq_true, if_false]
  rw [cf, hf]
  refine wpAny_bind (HandSPX.setFlight_onZ ⟨stay2, outB a an, ff2, tz2⟩ fun h3 hh3 up3 => wpAny_throw ?_)
  obtain ⟨st3, an3, ff3, tz3⟩ := hh3
  -- the state without the exception
  obtain ⟨G, k1, k2⟩ := restrict h3 fun b => (B.get? b).isSome || decide (b ∈ frs X.stack)
  have frB : ∀ b, b ∈ frs X.stack → B.get? b = none := fun b hb => (ff1.mem (hs ▸ hb)).1
  have inG : ∀ b o, B.get? b = some o → G.get? b = h3.get? b := fun b o e => k1 b (by rw [e]; rfl)
  have frG : ∀ b, b ∈ frs X.stack → G.get? b = h3.get? b := fun b hb => k1 b (by simp [hb])
  have old3 : ∀ b o, b ≠ C → B.get? b = some o → h3.get? b = some o := fun b o nb e => st3 b o ((inB b o e).trans ((sb.2 b nb).trans (st1 b o e)))
  have there3 : ∃ o, h3.get? C = some o := by
    obtain ⟨o2, _, _, e2, _⟩ := hn2
    exact ⟨o2, st3 C o2 ((inB C oC bC).trans e2)⟩
  have GB : ∀ b o, b ≠ C → B.get? b = some o → G.get? b = some o := fun b o nb e => (inG b o e).trans (old3 b o nb e)
  have slot3 : ∀ b o, b ∈ frs X.stack → s'.heap.get? b = some o → (∀ vs, o.data ≠ .fields vs) → ∃ sl, h3.get? b = some { o with slots := sl } := fun b o hb e nf => by
    obtain ⟨sl, e1⟩ := up1 b o e nf
    have nb : b ≠ C := fun z => ncf (z ▸ hb)
    obtain ⟨sl3, e3⟩ := up3 b _ ((sb.2 b nb).trans e1) nf
    exact ⟨sl3, e3⟩
  have Gsome : ∀ b o, G.get? b = some o → h3.get? b = some o ∧ ((B.get? b).isSome = true ∨ b ∈ frs X.stack) := fun b o e => by
    cases q : ((B.get? b).isSome || decide (b ∈ frs X.stack)) with
    | true => exact ⟨(k1 b q) ▸ e, by simpa using q⟩
    | false => rw [k2 b q] at e; cases e
  have I3 : Inv X pins σ H2 { s with heap := G, gens := s'.gens, drawn := s'.drawn, toks := s'.toks } := by
    refine I.call (ch := [C]) ⟨fun b o e n nb hb => ?_, fun b o e nf hb hc => ?_, fun b o e n hc => ub.free b o e n, fun b o e hc => ?_, ub.tups, ub.frzs, ub.tbls⟩ (fun b v e => ?_) ag (fun b hb => ?_)
    · exact GB b o (fun z => hb (by rw [z]; exact List.mem_singleton.mpr rfl)) (ub.keep b o e n nb)
    · obtain ⟨sl, q⟩ := ub.slot b o e hb
      obtain ⟨_, o1, q1, nf1⟩ := fl1.2.2.1.mem (hs ▸ hb)
      rw [q] at q1
      cases q1
      obtain ⟨sl3, q3⟩ := slot3 b _ hb q nf1
      exact ⟨sl3, (frG b hb).trans q3⟩
    · by_cases hb : b ∈ frs X.stack
      · obtain ⟨sl, q⟩ := ub.slot b o e hb
        obtain ⟨_, o1, q1, nf1⟩ := fl1.2.2.1.mem (hs ▸ hb)
        rw [q] at q1
        cases q1
        obtain ⟨sl3, q3⟩ := slot3 b _ hb q nf1
        exact ⟨_, (frG b hb).trans q3⟩
      · obtain ⟨o2, q⟩ := ub.there b o e hb
        exact ⟨o2, GB b o2 (fun z => hc (by rw [z]; exact List.mem_singleton.mpr rfl)) q⟩
    · refine (hok b v e).stay (fun x y hx r => GB x y (fun z => ?_) r) (fun _ r => r) fun _ _ r => r
      rcases hx with hx | hx
      · rw [← hx, z, cH2] at e; cases e
      · rw [z, cH2] at hx; cases hx
    · rw [List.mem_singleton.mp hb]
      exact ⟨f3, f1, f4, f5⟩
  refine tk _ _ ⟨a, B2, _, pins, σ, H2, cls, d, rfl, I3, fun b o e hb => ?_, fun b o e nf => ?_, ?_, na, os, ag, hW _ _ _ _ hE⟩
  · obtain ⟨e3, hd⟩ := Gsome b o e
    rcases hd with hd | hd
    · obtain ⟨o1, q1⟩ := Option.isSome_iff_exists.mp hd
      obtain ⟨o2, q2⟩ : ∃ o2, h2.get? b = some o2 := by
        by_cases z : b = C
        · obtain ⟨o2, _, _, e2, _⟩ := hn2
          exact ⟨o2, by rw [z]; exact e2⟩
        · exact ⟨o1, (sb.2 b z).trans (st1 b o1 q1)⟩
      have q3 : B2.get? b = some o2 := (inB b o1 q1).trans q2
      have q4 := st3 b o2 q3
      rw [e3] at q4
      cases q4
      exact q3
    · exact absurd hd hb
  · exact ⟨o.slots, (Gsome b o e).1⟩
  · rw [hs]
    exact .inr (.inr ⟨st3, an3, ff3, tz3⟩)
theorem inv_blkE {X : Cx} {p2 : List (Addr × Obj)} {σ2 : L2.St} {H H2 : Hp} {s s2 : Shared} {scope : Scope} {ce : Env} {fp : List Addr} (J : Inv (blkE X s H scope ce fp) p2 σ2 H2 s2) : Inv (X.blk s H scope ce fp) p2 σ2 H2 s2 :=
  { J with ok := { J.ok with } }
theorem inv_blkE' {X : Cx} {p2 : List (Addr × Obj)} {σ2 : L2.St} {H H2 : Hp} {s s2 : Shared} {scope : Scope} {ce : Env} {fp : List Addr} (J : Inv (X.blk s H scope ce fp) p2 σ2 H2 s2) : Inv (blkE X s H scope ce fp) p2 σ2 H2 s2 :=
  { J with ok := { J.ok with } }
end
section
variable {X : Cx}
theorem pe_lcR {E : XK} {E1 : Value → Shared → Prop} {elt tg iter : Expr} {ifs : List Expr} {scope : Scope} {own : List (Str × Nat)} {pos : Pos} {wi : TI} {g : TG} {tt : TT} {te : TE} (hc : X.calm = true) (nd : X.N.Nodup) (hi : PI X tg iter wi) (ok : BlkOk X.N X.env.scope scope own)
    (hg : ∀ (s : Shared) (H : Hp) (C : Addr) (cl : List (Str × Addr)) (fp : List Addr), PG (blkE X s H scope (compEnvC scope cl C X.env) fp) tg g)
    (ht : ∀ (s : Shared) (H : Hp) (C : Addr) (cl : List (Str × Addr)) (fp : List Addr), PTs (blkE X s H scope (compEnvC scope cl C X.env) fp) ifs tt)
    (he : ∀ (s : Shared) (H : Hp) (C : Addr) (cl : List (Str × Addr)) (fp : List Addr), Passes (L2.CX X.prog X.w) (blkE X s H scope (compEnvC scope cl C X.env) fp) E → PE (blkE X s H scope (compEnvC scope cl C X.env) fp) elt te)
    (sk : X.stack = X.env :: X.outer := by rfl) (fm : X.env.frame = some X.env.locals := by rfl) (exn : X.ex = [] := by rfl)
    (hx : X.xe = fun e s' => wpAny (model X.prog X.w) X.A (leaving X.env e) (fun _ s'' => L2.CX X.prog X.w X.outer X.H_0 X.s_0 E e s'') E1 s' := by rfl) (hs : ∀ x, foldedSetIterable iter X.env x = pure x := by intro _; rfl) :
    PE X (.ListComp elt [⟨tg, iter, ifs, 0⟩] scope pos) (tLc wi g tt te (own.map (·.2))) := by
  have tk := takes_of sk fm exn hx
  refine ⟨fun ps s0 σ H0 Q I0 want => ?_⟩
  rw [eval_ListComp]
  have caught : ∀ y ∈ scope.names, y.2 = .free → ∃ c, X.env.cells.lookup y.1 = some c := fun y hy e => (ok.free y hy e).elim (fun k => I0.ok.has _ (.inl k)) fun k => I0.ok.has _ (.inr k)
  refine comprehension_at (use := none) rfl hs (closure_ok caught) ok.kind (fun y hy e => by rw [ok.uniq y hy, e]) (thn (hi.run ps s0 σ H0 _ I0 want) fun src s1 h1 => thn h1 fun itr s2 h2 => ?_)
  obtain ⟨it, fp, tn, J, Hi, rfl, Ii, T, at0, fi, more⟩ := h2
  refine wpAny_newObj_type (newEnv_comp ?_) (by show 0 ≤ sizeLine; decide)
  generalize eqD : s2.heap.objs.size = D
  have isnew : Hi D = none := Ii.hok.fresh (Nat.le_of_eq eqD)
  obtain ⟨W, ⟨m0, w0⟩, turn⟩ := more D isnew
  generalize eqs : ({ s2 with heap := s2.heap.push { cls := .type "list", data := .seq ([] : List Value).toArray } } : Shared) = sl
  have hl : sl.heap = s2.heap.push { cls := .type "list", data := .seq ([] : List Value).toArray } := by rw [← eqs]
  have Il : Inv X ps σ (upd Hi D (.lst [])) sl := by
    rw [← eqs]
    exact Ii.laid (t' := s2.toks) (fun b o e => Heap.get?_push_of_some _ e) (Nat.le_of_eq eqD) ⟨Nat.zero_le _, [], 0, .nil, by rw [← eqD]; exact Heap.get?_push_size _ rfl⟩
  have low : ∀ b ∈ fp, b < s2.heap.objs.size := fun b hb => let ⟨_, e, _⟩ := T.obj _ _ at0 b hb; Heap.lt_size e
  have fl : ∀ b ∈ fp, FpOk X ps (upd Hi D (.lst [])) b := fun b hb => ⟨by rw [upd_ne (by rw [← eqD]; exact Nat.ne_of_lt (low b hb))]; exact (fi b hb).1, (fi b hb).2⟩
  have atl : tn 0 sl.heap := T.keep _ _ _ at0 fun b _ o e => by rw [hl]; exact Heap.get?_push_of_some _ e
  have Ib := inv_blkE' (block_start Il ok nd fun b hb => ⟨fl b hb, by rw [hl, Heap.size_push]; exact Nat.lt_succ_of_lt (low b hb)⟩)
  have pg := hg sl (upd Hi D (.lst [])) sl.heap.objs.size (cellsFrom (sl.heap.objs.size + 1) scope.names (cloFrom X.env.cells scope.names [])) fp
  have pt := ht sl (upd Hi D (.lst [])) sl.heap.objs.size (cellsFrom (sl.heap.objs.size + 1) scope.names (cloFrom X.env.cells scope.names [])) fp
  have pe0 := he sl (upd Hi D (.lst [])) sl.heap.objs.size (cellsFrom (sl.heap.objs.size + 1) scope.names (cloFrom X.env.cells scope.names [])) fp
  have cframe : (compEnvC scope (cellsFrom (sl.heap.objs.size + 1) scope.names (cloFrom X.env.cells scope.names [])) sl.heap.objs.size X.env).frame = X.env.frame := rfl
  show codeAny _ _ (.compStart _ 0 (.ref it) (.ref D) (compEnvC scope (cellsFrom (sl.heap.objs.size + 1) scope.names (cloFrom X.env.cells scope.names [])) sl.heap.objs.size X.env)) (compEnds (model X.prog X.w) X.A X.xe none (EP X ps σ Q) (.ref D) (compEnvC scope (cellsFrom (sl.heap.objs.size + 1) scope.names (cloFrom X.env.cells scope.names [])) sl.heap.objs.size X.env)) _
  generalize eqce : compEnvC scope (cellsFrom (sl.heap.objs.size + 1) scope.names (cloFrom X.env.cells scope.names [])) sl.heap.objs.size X.env = ce at Ib pg pt pe0 cframe ⊢
  have locs : ce.locals = sl.heap.objs.size := by rw [← eqce]; rfl
  generalize eqH : upd Hi D (.lst []) = Hl at Il Ib pg pt pe0 w0 fl
  have nfr : sl.heap.objs.size ∉ frs X.stack := fun hm => by
    obtain ⟨_, o, e, _⟩ := Il.stack.mem hm
    exact absurd (Heap.lt_size e) (Nat.lt_irrefl _)
  have pass : Passes (L2.CX X.prog X.w) (blkE X sl Hl scope ce fp) E := fun p5 σ5 H5 s5 e5 s6 I5 c5 => by
    have I6 := inv_blkE I5
    have nC : H5 sl.heap.objs.size = none := by rw [← locs]; exact I6.free
    obtain ⟨m, hn, _⟩ := I6.loc
    exact block_out tk (fun _ _ _ _ h => h) (out_of Il fl I6) (Il.fpOk (Nat.le_refl _) nC) ⟨m, by rw [← locs]; exact hn⟩ sk fm cframe locs nfr c5
  have pe := pe0 pass
  generalize eqb : ({ sl with heap := pushCells (sl.heap.push { cls := .type "dict", data := .dict #[] }) scope.names } : Shared) = sb at Ib ⊢
  have atb : tn 0 sb.heap := T.keep _ _ _ atl fun b _ o e => by rw [← eqb]; exact pushCells_keeps _ _ _ _ (Heap.get?_push_of_some _ e)
  have still : ∀ {σ' : L2.St} {H' : Hp} {s' : Shared}, Inv (blkE X sl Hl scope ce fp) [] σ' H' s' → (∀ b ∈ fp, H' b = none) → ∀ b ∈ fp, FpOk (blkE X sl Hl scope ce fp) [] H' b := fun I' n b hb =>
    ⟨n b hb, (I'.ok.exf b hb).1, I'.ok.exfs b hb, .inl hb, fun x c e => (I'.ok.exf b hb).2 x c e, fun p hp => by simp at hp⟩
  refine codeAny_compStart_list ?go (T.self X.A 0 _ _ _ atb ?go)
  refine compLoop_any (fun n s' => ∃ i H', Inv (blkE X sl Hl scope ce fp) [] (wipe σ (own.map (·.2))) H' s' ∧ tn i s'.heap ∧ (∀ b ∈ fp, H' b = none) ∧ W i n H') (fun n s5 ⟨i, H5, I5, at5, n5, w5⟩ => ?_) m0 ⟨0, Hl, Ib, atb, fun b hb => (fl b hb).1, w0⟩
  rcases turn i n H5 w5 with ⟨stop, qq⟩ | ⟨go, Nx, falls, step⟩
  · refine thnF (T.done (blkE X sl Hl scope ce fp) rfl rfl rfl hc i [] s5 _ H5 (fun _ _ => False) I5 (still I5 n5) at5 stop) fun r s6 ⟨hr, I6e⟩ => ?_
    subst hr
    have I6 := inv_blkE I6e
    have I7 : Inv X ps σ H5 s6 := out_of Il fl I6
    have nC : H5 sl.heap.objs.size = none := by rw [← locs]; exact I6.free
    obtain ⟨m, hn, _⟩ := I6.loc
    have hn : s6.heap.Ns ce.locals m := hn
    refine ⟨m, hn, fun h'' sb' => ?_⟩
    rw [locs] at sb'
    obtain ⟨f0, f1, f2, f3, f4, f5⟩ : FpOk X ps H5 sl.heap.objs.size := Il.fpOk (Nat.le_refl _) nC
    exact ⟨.ref D, H5, I7.turned (t' := s6.toks) (fun b o hb e => (sb'.2 b hb).trans e) f0 f1 f3 f4 f5, rfl, qq⟩
  · refine thnF (T.item (blkE X sl Hl scope ce fp) rfl rfl rfl hc i [] s5 _ H5 (fun _ _ => False) I5 (still I5 n5) at5 go) fun r s6 ⟨u, hr, h6⟩ => ?_
    subst hr
    refine thnF h6 fun _ s7 ⟨x, H7, I7, r7, y7, at7, n7⟩ => ?_
    refine thn (pg.run _ s7 _ H7 x u _ (I7.pinned (still I7 n7) (T.obj _ _ at7)) r7 (step x H7 y7)) fun _ s8 ⟨σ8, H8, I8, hw8, q8⟩ => ?_
    refine thn (pt.run _ s8 σ8 H8 _ I8 q8) fun b s9 ⟨H9, I9, q9⟩ => ?_
    have fin : ∀ {s' : Shared} {H' : Hp}, Inv (blkE X sl Hl scope ce fp) ([] ++ pinsAt fp s7.heap) σ8 H' s' → Nx H' → ∃ m, m < n ∧ ∃ i H', Inv (blkE X sl Hl scope ce fp) [] (wipe σ (own.map (·.2))) H' s' ∧ tn i s'.heap ∧ (∀ b ∈ fp, H' b = none) ∧ W i m H' := fun {s' H'} I' nx => by
      obtain ⟨m', hm, w'⟩ := falls H' nx
      have pinned : ∀ b ∈ fp, ∀ o, s7.heap.get? b = some o → s'.heap.get? b = some o ∧ H' b = none := fun b hb o e => ⟨(I'.pin (b, o) (List.mem_append_right _ (List.mem_append_right _ (mem_pinsAt hb e)))).1, (I'.pin (b, o) (List.mem_append_right _ (List.mem_append_right _ (mem_pinsAt hb e)))).2.1⟩
      refine ⟨m', hm, i + 1, H', (I'.unpinned (pins := [])).weak (by rw [← hw8, wipe_length]) (fun j v e => (wipe_some (by rw [← hw8] at e; exact e)).1), T.keep _ _ _ at7 fun b hb o e => (pinned b hb o e).1, fun b hb => ?_, w'⟩
      obtain ⟨o, e, _⟩ := T.obj _ _ at7 b hb
      exact (pinned b hb o e).2
    cases b with
    | false => exact fin I9 (by simpa using q9)
    | true =>
      simp only [if_true] at q9 ⊢
      exact thn (pe.run _ s9 σ8 H9 _ I9 q9) fun z s10 ⟨yv, H10, I10, r10, acc, hD10, hz10, nx⟩ => app_ok (X := blkE X sl Hl scope ce fp) I10 hD10 hz10 r10 fun s11 I11 => fin I11 nx
end
/-- a list made anew item by item, the first error told -/
def mapR {α β : Type} (f : α → Re β) : List α → Re (List β)
  | [] => .ok []
  | x :: r => match f x with
    | .er k => .er k
    | .ok y => match mapR f r with
      | .er k => .er k
      | .ok ys => .ok (y :: ys)
def okL {α β : Type} (f : α → Re β) : List α → List β
  | [] => []
  | x :: r => match f x with
    | .er _ => okL f r
    | .ok y => y :: okL f r
theorem okL_app {α β : Type} {f : α → Re β} {x : α} {y : β} (h : f x = .ok y) : ∀ l : List α, okL f (l ++ [x]) = okL f l ++ [y]
  | [] => by simp only [List.nil_append, okL, h]
  | a :: l => by
    simp only [List.cons_append, okL]
    rw [okL_app h l]
    cases f a <;> rfl
theorem okL_len {α β : Type} {f : α → Re β} : ∀ l : List α, (okL f l).length ≤ l.length
  | [] => Nat.le_refl _
  | a :: l => by
    have := okL_len (f := f) l
    simp only [okL]
    split
    · exact Nat.le_succ_of_le this
    · simp only [List.length_cons]; omega
theorem mapR_ok {α β : Type} {f : α → Re β} : ∀ {l : List α}, (∀ x ∈ l, ∃ y, f x = .ok y) → mapR f l = .ok (okL f l)
  | [], _ => rfl
  | a :: l, h => by
    obtain ⟨y, e⟩ := h a List.mem_cons_self
    simp only [mapR, okL, e]
    rw [mapR_ok fun x m => h x (List.mem_cons_of_mem _ m)]
theorem mapR_er {α β : Type} {f : α → Re β} {x : α} {k : Nat} (hx : f x = .er k) : ∀ {l r : List α}, (∀ x ∈ l, ∃ y, f x = .ok y) → mapR f (l ++ x :: r) = .er k
  | [], r, _ => by simp only [List.nil_append, mapR, hx]
  | a :: l, r, h => by
    obtain ⟨y, e⟩ := h a List.mem_cons_self
    simp only [List.cons_append, mapR, e]
    rw [mapR_er hx fun x m => h x (List.mem_cons_of_mem _ m)]
section
variable {K : PySem.W.Frag} {α β : Type} {E : XK} {cl : Nat → Addr} {M : List Addr} {σ : L2.St} {I : Hp} {S S1 : List Cell} {te : TE} {tt : TT} {t : Ty α} {u : Ty β} {xs : List α}
theorem em_lcR {wi : TI} {g : TG} {vs : List Nat} {B : Hp → α → L2.St → Prop} {f : α → Re β} (hi : Ei E cl M wi σ I S t xs S1) (hz : xs.length ≤ 100000 - 1)
    (hg : Eg g t (wipe σ vs) B) (hw : ∀ I x σ', B I x σ' → wipe σ' vs = wipe σ vs)
    (ht : ∀ M' S' I' x σ', Ex I I' → x ∈ xs → B I' x σ' → Et E cl M' tt σ' I' S' (.ok true) S')
    (he : ∀ M' S' I' x σ', Ex I I' → x ∈ xs → B I' x σ' → Em E cl M' te σ' I' S' u (f x) S') :
    Em E cl M (tLc wi g tt te vs) σ I S (kX u) (mapR f xs) S1 := by
  refine ⟨hi.ad, fun H0 i0 w0 Q q qe => hi.run H0 i0 w0 _ fun J H2 G Y e2 w2 wk gG gY D hD => ?_⟩
  have dM : D ∉ M := fresh_not w2.live hD
  let Pv : Nat → Hp → Prop := fun i H' => Holds (D :: M) (cL D u (okL f (xs.take i)) :: S1) H' ∧ Ex (del (D :: ads S1) (upd H2 D (.lst []))) (del (D :: ads S1) H') ∧ ∀ x ∈ xs.take i, ∃ y, f x = .ok y
  have toM : ∀ {i H'}, Pv i H' → Ex (del M H2) (del (D :: M) H') := fun {i H'} p => by
    refine ex_lone (o := .lst []) hD (ex_sub (A := D :: ads S1) (fun a h => ?_) p.2.1)
    rcases List.mem_cons.mp h with z | z
    · exact z ▸ List.mem_cons_self
    · exact List.mem_cons_of_mem _ (w2.sub a z)
  have back : ∀ {H'} {l : List β}, Holds (D :: M) (cL D u l :: S1) H' → Ex (del (D :: ads S1) (upd H2 D (.lst []))) (del (D :: ads S1) H') → Ex (del (ads S) H0) (del (ads S) H') ∧ Holds M S1 H' := fun {H' l} pw pe => by
    refine ⟨?_, pw.drop (c := cL D u l) dM⟩
    rw [← hi.ad]
    rw [← hi.ad] at e2
    exact e2.trans ((ex_lone (M := ads S1) hD pe).trans del_le2)
  refine lc_it wk Pv ⟨?_, Ex.refl _, fun x m => by simp at m⟩ (fun i H' hi p => gG H' ((toM p).trans del_le2)) (fun i v H Hy hlt p y => ?_) (fun H' p => ?_)
  · show Holds (D :: M) (cL D u (okL f (xs.take 0)) :: S1) _
    rw [List.take_zero]
    exact w2.new (c := cL D u []) hD (Ex.new hD) upd_same ⟨[], rfl, .nil⟩
  · obtain ⟨x, hx⟩ : ∃ x, xs[i]? = some x := ⟨xs[i], by simp [hlt]⟩
    have xm : x ∈ xs := List.mem_of_getElem? hx
    obtain ⟨eH, rv⟩ := gY i H v Hy x hx ((toM p).trans del_le2) y
    have rx := rv (D :: M) p.1.live (toM p)
    have wy := p.1.ex eH
    have i1 : Ex I (del (D :: M) Hy) := ((i0.trans (w0.grow e2)).trans (toM p)).trans (ex_del eH)
    refine hg v Hy x _ rx del_le _ fun σ' b => ⟨hw _ x σ' b, ?_⟩
    have tk : xs.take (i + 1) = xs.take i ++ [x] := by rw [List.take_add_one, hx]; rfl
    have fr : Ex (del (D :: ads S1) (upd H2 D (.lst []))) (del (D :: ads S1) Hy) := p.2.1.trans (ex_del eH)
    refine et_of (ht _ _ _ x σ' i1 xm b) Hy (Ex.refl _) wy _ fun H3 e3 w3 => ?_
    rw [if_pos rfl]
    have i3 : Ex (del (D :: M) Hy) (del (D :: M) H3) := wy.grow e3
    refine (he _ _ _ x σ' i1 xm b).run H3 i3 w3 _ (fun yv vy H4 ey e4 w4 r4 => ?_) (fun k H4 ek e4 w4 => ?_)
    · obtain ⟨_, o4, h4, ys, rfl, a4⟩ := w4.at_ _ List.mem_cons_self
      refine ⟨ys, h4, ?_, ?_, ?_, fun z hz => ?_⟩
      · rw [All2.len a4]
        exact sz_lt (by have := okL_len (f := f) (xs.take i); rw [List.length_take] at this; show (okL f (xs.take i)).length < _; omega)
      · show Holds (D :: M) (cL D u (okL f (xs.take (i + 1))) :: S1) _
        rw [tk, okL_app ey]
        exact w4.put (k := 0) (c := cL D u (okL f (xs.take i))) (c' := cL D u (okL f (xs.take i) ++ [yv])) rfl rfl ⟨_, rfl, a4.app (.one r4)⟩
      · rw [show del (D :: ads S1) (upd H4 D (.lst (ys ++ [vy]))) = del (D :: ads S1) H4 from del_upd List.mem_cons_self]
        exact (fr.trans e3).trans e4
      · rw [tk] at hz
        rcases List.mem_append.mp hz with h | h
        · exact p.2.2 z h
        · exact ⟨yv, by rw [List.mem_singleton.mp h]; exact ey⟩
    · obtain ⟨b1, b2⟩ := back w4 ((fr.trans e3).trans e4)
      refine qe k H4 ?_ b1 b2
      have cut : xs = xs.take i ++ x :: xs.drop (i + 1) := by
        conv => lhs; rw [← List.take_append_drop i xs]
        congr 1
        rw [List.drop_eq_getElem_cons hlt]
        congr 1
        rw [List.getElem?_eq_getElem hlt] at hx
        exact Option.some.inj hx
      rw [cut]
      exact mapR_er ek p.2.2
  · have all : ∀ x ∈ xs, ∃ y, f x = .ok y := fun x m => p.2.2 x (by rw [List.take_length]; exact m)
    obtain ⟨pw, pe, _⟩ := p
    rw [List.take_length] at pw
    obtain ⟨_, o4, h4, ys, rfl, a4⟩ := pw.at_ _ List.mem_cons_self
    obtain ⟨b1, b2⟩ := back pw pe
    exact q (okL f xs) _ H' (mapR_ok all) b1 b2 ⟨D, ys, rfl, del_at dM h4, all2_up u del_le2 a4⟩
end
end Rw
/-! sorted of a list whose items are data that may be ordered: pairs, pairs of pairs .. -/
namespace Rw
open PySem PySem.Spec PyProof.Rows L2 Evl
abbrev leD (b : V × PyData) (c : V × PyData) : Bool := PySem.W.dataLe false (fun z : V × PyData => z.2) b c
def rSortD (K : PySem.W.Frag) : List V → Hp → VK → Prop := fun us H Q => ∃ (a : Addr) (zs : List (V × PyData)), us = [.ref a] ∧ SqL K H a (zs.map (·.1)) ∧ (∀ z ∈ zs, Dp K H z.1 z.2) ∧ PySem.W.AllAlike (zs.map (·.2)) ∧ PySem.W.Sortable (zs.map (·.2)) ∧
  (∀ z ∈ zs, z.2.depth ≤ 60) ∧ ∀ p, H p = none → Q (.ref p) (upd H p (.lst ((zs.mergeSort leD).map (·.1))))
theorem each_of {R : Value → V × PyData → Prop} : ∀ {zs : List (V × PyData)} {its : List Value}, Vals (zs.map (·.1)) its → (∀ z ∈ zs, ∀ u, RelV z.1 u → R u z) → PySem.W.EachIs R its zs
  | [], its, r, _ => by
    cases r
    exact .nil
  | z :: zs, its, r, h => by
    cases r with
    | cons a b => exact .cons (h z List.mem_cons_self _ a) (each_of b fun y m => h y (List.mem_cons_of_mem _ m))
theorem vals_each : ∀ {zs : List (V × PyData)} {out : List Value}, PySem.W.EachIs (fun u z => RelV z.1 u) out zs → Vals (zs.map (·.1)) out
  | [], out, r => by
    cases r
    exact .nil
  | z :: zs, out, r => by
    cases r with
    | cons a b => exact .cons a (vals_each b)
theorem cr_sortD {X : Cx} {K : PySem.W.Frag} (hu : X.A.units + 64 < cLine) (hK : X.K = K := by rfl) : CallR X (.builtin "sorted") (rSortD K) := by
  subst hK
  intro pn s σ H ws us Q IV rr hh
  obtain ⟨a, zs, rfl, hs, hd, al, so, dep, q⟩ := hh
  obtain ⟨its, rv, hl, hz⟩ := IV.list hs
  obtain ⟨u, rfl, ru⟩ := vals1 rr
  obtain rfl : u = Value.ref a := ru
  have len : its.length = zs.length := by rw [← rv.length, List.length_map]
  have bd : zs.length ≤ sizeLine := by rw [List.length_map] at hz; exact hz
  refine PySem.W.sorted_data (enc := fun z : V × PyData => z.2) (R := fun u z => RelV z.1 u) hl.isList (each_of rv fun z _ u r => r) (each_of rv fun z m u r => Dp.reads IV _ _ _ (hd z m) r) al so bd (fun z m => ?_) fun out hlen hout => ?_
  · have := dep z m
    omega
  · obtain ⟨e, he⟩ := sortedAll_at s.heap its out.toArray
    refine ⟨.ref (s.heap.objs.size + 1), upd H (s.heap.objs.size + 1) (.lst ((zs.mergeSort leD).map (·.1))), IV.laid (t' := s.toks) (fun b o h => sortedAll_old h) (Nat.le_succ _) ⟨?_, out, e, vals_each hout, he⟩, rfl, q _ (IV.hok.fresh (Nat.le_succ _))⟩
    rw [List.length_map, List.length_mergeSort]
    exact bd
section
variable {K : PySem.W.Frag} {α : Type} {t : Ty α} {d : Nat}
theorem all2_zip {R : V → α → Prop} : ∀ {vs : List V} {xs : List α}, All2 R vs xs → ∃ zs : List (V × α), vs = zs.map (·.1) ∧ xs = zs.map (·.2) ∧ ∀ z ∈ zs, R z.1 z.2
  | _, _, .nil => ⟨[], rfl, rfl, fun _ h => nomatch h⟩
  | _, _, .cons r rs => by
    obtain ⟨zs, e1, e2, h⟩ := all2_zip rs
    subst e1 e2
    exact ⟨(_, _) :: zs, rfl, rfl, fun z m => (List.mem_cons.mp m).elim (fun e => by rw [e]; exact r) (h z)⟩
theorem all2_maps {R : V → α → Prop} : ∀ {zs : List (V × α)}, (∀ z ∈ zs, R z.1 z.2) → All2 R (zs.map (·.1)) (zs.map (·.2))
  | [], _ => .nil
  | z :: zs, h => .cons (h z List.mem_cons_self) (all2_maps fun y m => h y (List.mem_cons_of_mem _ m))
/-- the order of data, told of what they stand for -/
abbrev leQ (D : Dq K t d) (x y : α) : Bool := PySem.W.dataLe false D.enc x y
theorem o_sortD {xs : List α} (D : Dq K t d) (hd : d ≤ 60) (al : ∀ x ∈ xs, ∀ y ∈ xs, PySem.W.alike (D.enc x) (D.enc y) = true) (so : PySem.W.Sortable (xs.map D.enc)) : OpN (rSortD K) (aC (kL K t) a0) (xs, ()) (kX t) (xs.mergeSort (leQ D)) := fun M us H lv a Q q => by
  obtain ⟨v, r, rfl, ⟨p, vs, rfl, hp, ha⟩, rfl⟩ := a
  obtain ⟨zs, rfl, rfl, hz⟩ := all2_zip ha
  have com : ((zs.map fun z => (z.1, D.enc z.2)).mergeSort leD) = (zs.mergeSort fun a b => leQ D a.2 b.2).map fun z => (z.1, D.enc z.2) :=
    (List.map_mergeSort (r := fun a b : V × α => leQ D a.2 b.2) (s := leD) (f := fun z => (z.1, D.enc z.2)) fun a _ b _ => rfl).symm
  have com2 : (zs.map (·.2)).mergeSort (leQ D) = (zs.mergeSort fun a b => leQ D a.2 b.2).map (·.2) :=
    (List.map_mergeSort (r := fun a b : V × α => leQ D a.2 b.2) (s := leQ D) (f := (·.2)) fun a _ b _ => rfl).symm
  refine ⟨p, zs.map fun z => (z.1, D.enc z.2), rfl, ?_, fun z m => ?_, ?_, ?_, fun z m => ?_, fun p2 new => ?_⟩
  · rw [List.map_map]
    exact ex_l del_le hp
  · obtain ⟨y, my, rfl⟩ := List.mem_map.mp m
    exact dp_upM del_le _ _ (D.dp (hz y my)).1
  · rw [List.map_map]
    intro x hx y hy
    obtain ⟨x', mx, rfl⟩ := List.mem_map.mp hx
    obtain ⟨y', my, rfl⟩ := List.mem_map.mp hy
    exact al _ (List.mem_map.mpr ⟨x', mx, rfl⟩) _ (List.mem_map.mpr ⟨y', my, rfl⟩)
  · rw [List.map_map] at so ⊢
    exact so
  · obtain ⟨y, my, rfl⟩ := List.mem_map.mp m
    exact Nat.le_trans (D.dep _) hd
  · refine q _ _ (Ex.new new) ⟨p2, _, rfl, del_at (fresh_not lv new) upd_same, ?_⟩
    rw [com, List.map_map, com2]
    exact all2_up t (ex_del (Ex.new new)) (all2_maps fun z m => hz z (List.mem_mergeSort.mp m))
/-- pairs of whole numbers, by the first, then by the second -/
def leP (p q : Int × Int) : Bool := decide (p.1 < q.1 ∨ (p.1 = q.1 ∧ p.2 ≤ q.2))
def sortP (xs : List (Int × Int)) : List (Int × Int) := xs.mergeSort leP
theorem o_sortP {xs : List (Int × Int)} : OpN (rSortD K) (aC (kL K (k2 K kI kI)) a0) (xs, ()) (kX (k2 K kI kI)) (sortP xs) := by
  have h := o_sortD (K := K) (xs := xs) (d2 dI dI) (by decide) (fun x _ y _ => by simp [d2, dI, PySem.W.alike, PySem.W.alikeAll]) (.inl fun d hd => by
    obtain ⟨x, _, rfl⟩ := List.mem_map.mp hd
    exact ⟨_, _, rfl⟩)
  have e : leQ (d2 (K := K) dI dI) = leP := by
    show PySem.W.dataLe false (fun b : Int × Int => PyData.tuple [.int b.1, .int b.2]) = _
    rw [PySem.W.dataLe_ii]
    rfl
  rw [e] at h
  exact h
end
end Rw
/-! lists in the making: compared with [], read and set at their end; raising parts of statements -/
namespace Rw
open PySem PySem.Spec PyProof.Rows L2 Evl
theorem re_or {α : Type} (r : Re α) : (∃ k, r = .er k) ∨ ∃ y, r = .ok y := by
  cases r with
  | ok y => exact .inr ⟨y, rfl⟩
  | er k => exact .inl ⟨k, rfl⟩
theorem pr_lr {α β : Type} {r : Re α} {k : α → Re β} {y : α} {z : Re β} (h : r = .ok y) (o : Pr z (lr r k)) : Pr z (k y) := by
  subst h
  exact o
theorem pr_er {α β : Type} {r : Re α} {k : α → Re β} {i : Nat} {z : Re β} (h : r = .er i) (o : Pr z (lr r k)) : Pr z (.er i) := by
  subst h
  exact o
def lastD {α : Type} (z : α) (xs : List α) : α := (xs[xs.length - 1]?).getD z
def putE {α : Type} (xs : List α) (x : α) : List α := xs.set (xs.length - 1) x
theorem ix_end {n : Nat} (h : 0 < n) : ixN n (-1) = some (n - 1) := by
  unfold ixN
  rw [if_neg (by decide), if_pos (by omega)]
  congr 1
  omega
theorem ix_len {n : Nat} (h : 0 < n) : ixN n ((n : Int) - 1) = some (n - 1) := by
  unfold ixN
  rw [if_pos (by omega), if_pos (by omega)]
  congr 1
  omega
theorem at_end {α : Type} {z : α} {xs : List α} (h : xs ≠ []) : atI xs (-1) = some (lastD z xs) := by
  have l : 0 < xs.length := List.length_pos_iff.mpr h
  unfold atI lastD
  rw [ix_end l, List.getElem?_eq_getElem (by omega : xs.length - 1 < xs.length)]
  show xs[xs.length - 1]? = _
  rw [List.getElem?_eq_getElem (by omega : xs.length - 1 < xs.length)]
  rfl
theorem at_len {α : Type} {z : α} {xs : List α} (h : xs ≠ []) : atI xs ((xs.length : Int) - 1) = some (lastD z xs) := by
  have l : 0 < xs.length := List.length_pos_iff.mpr h
  unfold atI lastD
  rw [ix_len l, List.getElem?_eq_getElem (by omega : xs.length - 1 < xs.length)]
  show xs[xs.length - 1]? = _
  rw [List.getElem?_eq_getElem (by omega : xs.length - 1 < xs.length)]
  rfl
theorem all2_set {α : Type} {R : V → α → Prop} {v : V} {x : α} : ∀ {vs : List V} {xs : List α} {j : Nat}, All2 R vs xs → R v x → All2 R (vs.set j v) (xs.set j x)
  | _, _, _, .nil, _ => .nil
  | _, _, 0, .cons _ b, r => .cons r b
  | _, _, _ + 1, .cons a b, r => .cons a (all2_set b r)
theorem len_putE {α : Type} (xs : List α) (x : α) : (putE xs x).length = xs.length := List.length_set
section
variable {K : PySem.W.Frag} {α β γ R : Type} {E : XK} {cl : Nat → Addr} {M : List Addr} {σ : L2.St} {I H : Hp} {S S' S1 : List Cell} {te ta tb : TE} {tr : TA} {t : Ty α} {u : Ty β} {P : R → Prop} {D : Ends} {tz tu : TS} {d : Nat}
theorem em_cbE {A : AR α} {r : List V → Hp → VK → Prop} {k : Nat} (h : Ea E cl M tr σ I S A (.er k) S') : Em E cl M (tCB r tr) σ I S u (.er k) S' :=
  ⟨h.ad, fun H1 i w Q q qe => h.run H1 i w _ (fun _ _ _ z => nomatch z) fun j H2 e => qe j H2 (by cases e; rfl)⟩
theorem ea_er {k : Nat} {A : AR β} (h : Em E cl M te σ I S t (.er k) S') : Ea E cl M (tCons te tNil) σ I S A (.er k) S' :=
  ⟨h.ad, fun H1 i w Q q qe => h.run H1 i w _ (fun _ _ _ z => nomatch z) fun j H2 e => qe j H2 (by cases e; rfl)⟩
theorem g_forE {k : Nat} {g : TG} (w : Holds M S H) (h : Em E cl M te σ (del M H) S t (.er k) S') (c : ∀ H2, Gr M S H H2 → E (.ref (cl k)) none H2) : tSeq (tFor (iList K te) g tu) tz D σ H :=
  h.run H (Ex.refl _) w _ (fun _ _ _ z => nomatch z) fun j H2 e e2 w2 => by
    cases e
    exact c H2 ⟨e2, w.grow e2⟩
theorem g_asgE {k : Nat} {g : TG} (w : Holds M S H) (h : Em E cl M te σ (del M H) S t (.er k) S') (c : ∀ H2, Gr M S H H2 → E (.ref (cl k)) none H2) : tSeq (tAsg te g) tz D σ H :=
  h.run H (Ex.refl _) w _ (fun _ _ _ z => nomatch z) fun j H2 e e2 w2 => by
    cases e
    exact c H2 ⟨e2, w.grow e2⟩
/-- p != [], p in the making -/
theorem em_cellNe {n : Nat} {p : Addr} {acc : List α} (D : Dq K t d) (hd : d ≤ 60) (ha : Em E cl M ta σ I S (kPtr p) (.ok ()) S) (hb : Em E cl M tb σ I S (kL K t) (.ok []) S) (hk : S[n]? = some (cL p t acc)) : Em E cl M (tOp (rNeD K) ta tb) σ I S kB (.ok (!acc.isEmpty)) S :=
  em_mk rfl fun H1 i1 w Q q => em_of ha H1 i1 w _ fun v H2 e w2 r => em_of hb H2 (i1.trans (w.grow e)) w2 _ fun v2 H3 e3 w3 r3 => by
    obtain rfl : v = .ref p := r
    obtain ⟨_, o2, h2, vs2, rfl, a2⟩ := w3.at_ _ (List.mem_of_getElem? hk)
    have n1 := Dq.dp (dL D) (H := del M H3) r3
    have l1 : Dp K H3 (.ref p) (.list (acc.map D.enc)) := .lst (sq_of h2) (dp_all D (all2_up t del_le a2)).1
    have c1 : (PyData.list (acc.map D.enc)).canLay0 = true := by rw [PyData.canLay0]; exact (dp_all D a2).2
    have d1 : (PyData.list (acc.map D.enc)).depth ≤ 64 := by rw [PyData.depth]; have := dep_all D acc; omega
    refine ⟨_, _, l1, dp_upM del_le _ _ n1.1, shaped_of c1 d1, shaped_of n1.2 (Nat.le_trans ((dL D).dep []) (by omega)), q _ H3 (e.trans e3) w3 ?_⟩
    show V.bl _ = V.bl _
    congr 1
    cases acc with
    | nil => rfl
    | cons x xs => rfl
/-- p[i] = x, p in the making -/
theorem g_setL {n j : Nat} {p : Addr} {acc0 acc : List α} {i : Int} {x : α} {k : List α → R} (w : Holds M S H) (o : P (lt (acc.set j x) k)) (h : Em E cl M te σ (del M H) S t (.ok x) S1) (ha : Em E cl M ta σ (del M H) S1 (kPtr p) (.ok ()) S1) (hb : Em E cl M tb σ (del M H) S1 kI (.ok i) S1) (hk : S1[n]? = some (cL p t acc)) (hj : ixN acc.length i = some j)
    (c : ∀ acc' H2, acc' = acc.set j x → P (k acc') → Gr M S H H2 → Holds M (S1.set n (cL p t acc')) H2 → tz D σ H2) : tSeq (tAsg te (gSub ta tb rSetL)) tz D σ H :=
  em_of h H (Ex.refl _) w _ fun v1 H1 e1 w1 r1 => em_of ha H1 (w.grow e1) w1 _ fun v2 H2 e2 w2 r2 => em_of hb H2 ((w.grow e1).trans (w1.grow e2)) w2 _ fun v3 H3 e3 w3 r3 => by
    obtain rfl : v2 = .ref p := r2
    obtain rfl : v3 = .int i := r3
    obtain ⟨pM, o3, h3, vs, rfl, a3⟩ := w3.at_ _ (List.mem_of_getElem? hk)
    have pM : p ∈ M := pM
    have pS1 : p ∈ ads S1 := List.mem_map.mpr ⟨_, List.mem_of_getElem? hk, rfl⟩
    have pS : p ∈ ads S := by rw [← h.ad]; exact pS1
    have up1 : t.r (del M H3) v1 x := t.up ((w1.grow e2).trans (w2.grow e3)) r1
    refine ⟨p, vs, i, j, rfl, rfl, h3, by rw [a3.len]; exact hj, ?_⟩
    rw [h.ad] at e2 e3
    refine c _ _ rfl o ⟨?_, ?_⟩ (w3.put (c' := cL p t (acc.set j x)) hk rfl ⟨_, rfl, all2_set a3 up1⟩)
    · rw [del_upd pS]; exact (e1.trans e2).trans e3
    · rw [del_upd pM]; exact ((w.grow e1).trans (w1.grow (by rw [h.ad]; exact e2))).trans (w2.grow (by rw [h.ad]; exact e3))
end
end Rw
namespace Rw
open PySem PySem.Spec PyProof.Rows L2 Evl
theorem ne_ie {α : Type} {xs : List α} (h : (!xs.isEmpty) = true) : xs ≠ [] := fun z => by subst z; cases h
theorem ne_ief {α : Type} {xs : List α} (h : xs.isEmpty = false) : xs ≠ [] := fun z => by subst z; cases h
theorem sortP_len (xs : List (Int × Int)) : (sortP xs).length = xs.length := List.length_mergeSort _
theorem mapR_len {α β : Type} {f : α → Re β} : ∀ {xs : List α} {ys : List β}, mapR f xs = .ok ys → ys.length = xs.length
  | [], ys, h => by cases h; rfl
  | x :: xs, ys, h => by
    simp only [mapR] at h
    cases e : f x with
    | er k => rw [e] at h; cases h
    | ok y =>
      rw [e] at h
      cases e2 : mapR f xs with
      | er k => rw [e2] at h; cases h
      | ok zs =>
        rw [e2] at h
        cases h
        rw [List.length_cons, List.length_cons, mapR_len e2]
section
variable {K : PySem.W.Frag} {α β γ R : Type} {E : XK} {cl : Nat → Addr} {M : List Addr} {σ : L2.St} {I H : Hp} {S S' S1 : List Cell} {te ta tb : TE} {tr : TA} {t : Ty α} {u : Ty β} {P : R → Prop} {D : Ends} {tz tu : TS} {d : Nat}
theorem g_setLL {n j : Nat} {p : Addr} {acc : List α} {i : Int} {x : α} {k : List α → R} (w : Holds M S H) (o : P (lt (acc.set j x) k)) (h : Em E cl M te σ (del M H) S t (.ok x) S1) (ha : Em E cl M ta σ (del M H) S1 (kPtr p) (.ok ()) S1) (hb : Em E cl M tb σ (del M H) S1 kI (.ok i) S1) (hk : S1[n]? = some (cL p t acc)) (hj : ixN acc.length i = some j)
    (c : ∀ acc' H2, acc' = acc.set j x → P (k acc') → Gr M S H H2 → Holds M (S1.set n (cL p t acc')) H2 → D.nx σ H2) : tAsg te (gSub ta tb rSetL) D σ H :=
  g_setL (acc0 := acc) (tz := fun _ σ H => D.nx σ H) (D := { D with nx := D.nx }) w o h ha hb hk hj c
end
end Rw
namespace Rw
open PySem PySem.Spec PyProof.Rows L2 Evl

section
variable {P : Program} {w : World} {K : PySem.W.Frag} {mg : Str → Option Value} {base : Heap} {cl : Nat → Addr}

abbrev s_check_span : Stmt := topS 15
def check_spanN : List Str := ["span", "first", "last"]
theorem sc_check_span : FnScope check_spanN ["span"] (defScope s_check_span) := ⟨rfl, rfl, rfl, by decide +kernel, rfl, by decide +kernel, by decide +kernel⟩
def f_check_span : (Int × Int) × Unit → Re (Int × Int) := fun a => match a with
  | ((x0a, x0b), _) =>
    lt (x0a, x0b) fun _ =>
    cond (decide (x0b ≤ x0a))
    ((.er 2))
    ((.ok (x0a, x0b)))
def pre_check_span : (Int × Int) × Unit → Prop := fun a => match a with
  | ((x0a, x0b), _) => True
abbrev sp_check_span (K : PySem.W.Frag)  (cl : Nat → Addr) : Sp := spD (aC (k2 K kI kI) a0) pre_check_span f_check_span (k2 K kI kI) cl
theorem ok_check_span {f : Addr} {fd : FuncData} (F : Fun K "check_span" "check_span" s_check_span f fd) (xBadTime : Exc1 K mg "BadTime" (cl 2)) : FnOk P w K mg base (L2.CX P w) 1 f fd ["span"] (sp_check_span K  cl) := by
  refine F.okX sc_check_span (fun vs H Q E h => ?_) (fun cdv A outer s H vs Q E hr h => ?_)
  · obtain ⟨M, a, live, hA, _⟩ := h
    obtain ⟨v0, _, rfl, r0, rfl⟩ := hA
    rfl
  · obtain ⟨M, ⟨⟨x0a, x0b⟩, _⟩, live, hA, hpre, qok, qer⟩ := h
    obtain ⟨v0, _, rfl, r0, rfl⟩ := hA
    have w0 : Holds M [] H := hold0 live
    have o0 : Pr (f_check_span ((x0a, x0b), ())) (lt (x0a, x0b) fun _ =>
cond (decide (x0b ≤ x0a))
((.er 2))
((.ok (x0a, x0b)))) := rfl
    refine ⟨_, pss_cons (ps_asg (pv 0) (pg_tup rfl (pgs_cons (pg_name (i := 1) sc_check_span.nd rfl (.inl rfl)) (pgs_cons (pg_name (i := 2) sc_check_span.nd rfl (.inl rfl)) pgs_nil)))) (pss_cons (ps_if (pt_cmpR op_le (pv 2) (pv 1) (nomark _)) (pss_one (ps_raiseX xBadTime)) (pss_nil)) (pss_one (ps_ret (pe_tup (pa_cons (pv 1) (pa_cons (pv 2) pa_nil)))))), ?_⟩
    refine g_asgG (E := E) (cl := cl) (t := (k2 K kI kI)) (x := (x0a, x0b)) w0 eg_2 o0 (em_var (t := (k2 K kI kI)) (v := v0) (x := (x0a, x0b)) rfl r0) (fun p_1 σ_2 H_3 hx_4 o_5 g_6 w_7 b => ?_)
    subst hx_4
    have r_8 := (k2 K kI kI).up g_6.im r0
    obtain ⟨_, _, rfl, rfl, rfl⟩ := b
    refine g_when (E := E) (cl := cl) (b := (decide (x0b ≤ x0a))) w_7 o_5 (gt_test (em_op (em_var (t := kI) (v := (.int x0b)) (x := x0b) rfl rfl) (em_var (t := kI) (v := (.int x0a)) (x := x0a) rfl rfl) o_IB)) (fun hb_10 o_11 H_9 g_12 w_13 => ?_) (fun hb_15 o_16 H_14 g_17 w_18 => ?_)
    · simp only [decide_eq_true_eq, decide_eq_false_iff_not, Bool.and_eq_true, Bool.or_eq_true, Bool.and_eq_false_iff, Bool.or_eq_false_iff, Bool.not_eq_true', Bool.not_eq_false'] at hb_10
      have r_19 := (k2 K kI kI).up g_12.im r_8
      exact qer 2 _ o_11 (show Ex H _ from Gr.fr (g_6.then g_12 rfl))
    · simp only [decide_eq_true_eq, decide_eq_false_iff_not, Bool.and_eq_true, Bool.or_eq_true, Bool.and_eq_false_iff, Bool.or_eq_false_iff, Bool.not_eq_true', Bool.not_eq_false'] at hb_15
      have r_20 := (k2 K kI kI).up g_17.im r_8
      refine g_ret (E := E) (cl := cl) (t := (k2 K kI kI)) (x := (x0a, x0b)) w_18 (em_t2 K (em_cons (em_var (t := kI) (v := (.int x0a)) (x := x0a) rfl rfl) (em_cons (em_var (t := kI) (v := (.int x0b)) (x := x0b) rfl rfl) em_nil))) (fun v_21 H_22 g_23 w_24 r_25 => ?_)
      exact qok _ v_21 H_22 o_16 (show Ex H _ from Gr.fr ((g_6.then g_17 rfl).then g_23 rfl)) r_25

abbrev s_together : Stmt := topS 16
def togetherN : List Str := ["spans", "found", "first", "last", "span"]
theorem sc_together : FnScope togetherN ["spans"] (defScope s_together) := ⟨rfl, rfl, rfl, by decide +kernel, rfl, by decide +kernel, by decide +kernel⟩
def f_together : (List (Int × Int)) × Unit → Re (List (Int × Int)) := fun a => match a with
  | (x0, _) =>
    lr (mapR (fun p : Int × Int => f_check_span (p, ())) x0) fun ys_44 =>
    forK (fun (x_49 : (Int × Int)) (s_50 : ((List (Int × Int)))) (kn : ((List (Int × Int))) → _) (kb : ((List (Int × Int))) → _) =>
    cond ((!s_50.isEmpty) && (decide (x_49.1 ≤ (lastD ((0 : Int), (0 : Int)) s_50).2)))
    (lt (s_50.set (s_50.length - 1) ((lastD ((0 : Int), (0 : Int)) s_50).1, (if x_49.2 > (lastD ((0 : Int), (0 : Int)) s_50).2 then x_49.2 else (lastD ((0 : Int), (0 : Int)) s_50).2))) fun found_83 =>
    kn (found_83))
    (lt (s_50 ++ [(x_49.1, x_49.2)]) fun found_92 =>
    kn (found_92)))
    (fun (s_100 : ((List (Int × Int)))) =>
    (.ok s_100))
    (sortP ys_44) (([] : (List (Int × Int))))
def pre_together : (List (Int × Int)) × Unit → Prop := fun a => match a with
  | (x0, _) => x0.length ≤ 1000
abbrev sp_together (K : PySem.W.Frag)  (cl : Nat → Addr) : Sp := spD (aC (kL K (k2 K kI kI)) a0) pre_together f_together (kT K (k2 K kI kI)) cl
theorem ok_together {f : Addr} {fd : FuncData} (F : Fun K "together" "together" s_together f fd) (B : BD mg) (n_tuple : mg "tuple" = none) (n_sorted : mg "sorted" = none) (c_check_span : Cal P w K mg base 1 "check_span" (sp_check_span K cl) []) : FnOk P w K mg base (L2.CX P w) 2 f fd ["spans"] (sp_together K  cl) := by
  refine F.okX sc_together (fun vs H Q E h => ?_) (fun cdv A outer s H vs Q E hr h => ?_)
  · obtain ⟨M, a, live, hA, _⟩ := h
    obtain ⟨v0, _, rfl, r0, rfl⟩ := hA
    rfl
  · obtain ⟨M, ⟨x0, _⟩, live, hA, hpre, qok, qer⟩ := h
    obtain ⟨v0, _, rfl, r0, rfl⟩ := hA
    have hpre : x0.length ≤ 1000 := hpre
    have w0 : Holds M [] H := hold0 live
    have o0 : Pr (f_together (x0, ())) (lr (mapR (fun p : Int × Int => f_check_span (p, ())) x0) fun ys_44 =>
forK (fun (x_49 : (Int × Int)) (s_50 : ((List (Int × Int)))) (kn : ((List (Int × Int))) → _) (kb : ((List (Int × Int))) → _) =>
cond ((!s_50.isEmpty) && (decide (x_49.1 ≤ (lastD ((0 : Int), (0 : Int)) s_50).2)))
(lt (s_50.set (s_50.length - 1) ((lastD ((0 : Int), (0 : Int)) s_50).1, (if x_49.2 > (lastD ((0 : Int), (0 : Int)) s_50).2 then x_49.2 else (lastD ((0 : Int), (0 : Int)) s_50).2))) fun found_83 =>
kn (found_83))
(lt (s_50 ++ [(x_49.1, x_49.2)]) fun found_92 =>
kn (found_92)))
(fun (s_100 : ((List (Int × Int)))) =>
(.ok s_100))
(sortP ys_44) (([] : (List (Int × Int))))) := rfl
    refine ⟨_, pss_cons (ps_set (i := 1) sc_together.nd rfl (.inl rfl) (pe_lst pa_nil)) (pss_cons (ps_for (passes_of rfl) rfl (pi_list (pe_callB (cr_sortD hr.units) (by rfl) n_sorted (by decide +kernel) (pa_cons (pe_lcR (own := [("span", 4)]) (g := gName 4) (tt := tYes) (E := E) rfl sc_together.nd (pi_list (pv 0)) (blkOk_by (own := [("span", 4)]) (N := togetherN) (sc := defScope s_together) (by decide +kernel)) (fun _ _ _ _ _ => pg_name (i := 4) sc_together.nd rfl (.inl rfl)) (fun _ _ _ _ _ => pts_nil) (fun _ _ _ _ _ pb => (pe_k c_check_span hr (by decide) pb (pa_cons (pv 4) pa_nil)))) pa_nil))) (pg_tup rfl (pgs_cons (pg_name (i := 2) sc_together.nd rfl (Or.inl rfl)) (pgs_cons (pg_name (i := 3) sc_together.nd rfl (Or.inl rfl)) pgs_nil))) (pss_one (ps_if (PW.pt (pw_and (pt_cmpR (op_neD hr.units) (pv 1) (pe_lst pa_nil) (nomark _)) (pw_and1 (pt_cmpR op_le (pv 2) (pe_ix ix_tup (pe_ix ix_list (pv 1) (pe_un un_neg pe_int) (fun _ _ => rfl)) pe_int (fun _ _ => rfl)) (nomark _))))) (pss_one (ps_asg (pe_tup (pa_cons (pe_ix ix_tup (pe_ix ix_list (pv 1) (pe_un un_neg pe_int) (fun _ _ => rfl)) pe_int (fun _ _ => rfl)) (pa_cons (pe_callB (call_max2 rfl) (by rfl) B.max (by decide +kernel) (pa_cons (pe_ix ix_tup (pe_ix ix_list (pv 1) (pe_un un_neg pe_int) (fun _ _ => rfl)) pe_int (fun _ _ => rfl)) (pa_cons (pv 3) pa_nil))) pa_nil))) (pg_sub (pv 1) (pe_un un_neg pe_int) set_list))) (pss_one (ps_expr (pe_bm PySem.F.plainAttrs_list PySem.F.slot_list_append PySem.F.type_list_append mt_append (pv 1) (pa_cons (pe_tup (pa_cons (pv 2) (pa_cons (pv 3) pa_nil))) pa_nil))))))) (pss_one (ps_ret (pe_callTy call_tuple_of (by rfl) n_tuple (by decide +kernel) (pa_cons (pv 1) pa_nil))))), ?_⟩
    refine g_new (i := 1) K (k2 K kI kI) w0 fun p_26 H_27 hp_28 g_29 w_30 e_31 => ?_
    have r_32 := (kL K (k2 K kI kI)).up e_31 r0
    obtain ⟨k_43, e_45⟩ | ⟨ys_44, e_45⟩ := re_or (mapR (fun p : Int × Int => f_check_span (p, ())) x0)
    · exact g_forE (E := E) (cl := cl) (k := k_43) w_30 (em_cbE (u := kX (k2 K kI kI)) (A := aC (kL K (k2 K kI kI)) a0) (ea_er (t := kX (k2 K kI kI)) (by rw [← e_45]; exact (em_lcR (u := k2 K kI kI) (f := (fun p : Int × Int => f_check_span (p, ()))) (ei_L (em_var (t := (kL K (k2 K kI kI))) (v := v0) (x := x0) rfl r_32)) (by omega) eg_name (fun _ _ _ b => by obtain ⟨_, _, rfl⟩ := b; rfl) (fun _ _ _ _ _ _ _ _ => gt_yes) (fun M_39 S_40 I_35 x_33 s_34 e_36 m_37 b_38 => by obtain ⟨v_41, r_42, rfl⟩ := b_38; exact (em_call (pre := pre_check_span) (f := f_check_span) (a := (x_33, ())) (em_cons (em_var (t := k2 K kI kI) (v := v_41) (x := x_33) rfl r_42) em_nil) args_id trivial)))))) (fun H_47 g_48 => qer k_43 _ (pr_er e_45 o0) (show Ex H _ from Gr.fr (Gr.lone2 (c := cL p_26 (k2 K kI kI) []) (Gr.back w0 Gr.refl w0 hp_28) g_29 (Gr.cast g_48 rfl))))
    have o_46 := pr_lr e_45 o0
    have ly := mapR_len e_45
    refine g_for (E := E) (cl := cl) (xs := (sortP ys_44)) (s0 := (([] : (List (Int × Int))))) (Sx := (fun s : ((List (Int × Int))) => [cL p_26 (k2 K kI kI) (s)])) (fun (I : Hp) (rs : List (Int × Int)) (s : ((List (Int × Int)))) (σ : L2.St) => ∃ (l2 : Option V) (l3 : Option V), σ = [some v0, some (.ref p_26), l2, l3, none] ∧ ((s)).length + rs.length ≤ 1000) w_30 o_46 (ei_L (em_XL (em_cb (em_cons (em_XL (t := k2 K kI kI) (by rw [← e_45]; exact (em_lcR (u := k2 K kI kI) (f := (fun p : Int × Int => f_check_span (p, ()))) (ei_L (em_var (t := (kL K (k2 K kI kI))) (v := v0) (x := x0) rfl r_32)) (by omega) eg_name (fun _ _ _ b => by obtain ⟨_, _, rfl⟩ := b; rfl) (fun _ _ _ _ _ _ _ _ => gt_yes) (fun M_39 S_40 I_35 x_33 s_34 e_36 m_37 b_38 => by obtain ⟨v_41, r_42, rfl⟩ := b_38; exact (em_call (pre := pre_check_span) (f := f_check_span) (a := (x_33, ())) (em_cons (em_var (t := k2 K kI kI) (v := v_41) (x := x_33) rfl r_42) em_nil) args_id trivial))))) em_nil) o_sortP))) (fun _ => rfl) (fun _ => eg_2) (fun _ g => ⟨_, _, rfl, by rw [sortP_len]; simp only [List.length_nil]; omega⟩) (fun s_100 σ_101 H_102 g_103 w_104 rv_105 o_106 => ?_) (fun hd_65 x_49 s_50 σ_51 σ_52 I_53 H_54 rest_55 hm_56 g_57 w_58 ei_59 rv_60 b_61 o_62 Nx_63 nx_64 => ?_)
    · have r_108 := (kL K (k2 K kI kI)).up g_103.im r_32
      obtain ⟨l_109, l_110, rfl, iv_111⟩ := rv_105
      simp only [List.length_nil] at iv_111
      refine g_ret (E := E) (cl := cl) (t := (kT K (k2 K kI kI))) (x := s_100) w_104 (em_cellTup (n := 0) (p := p_26) (fun H vs hS Q k => ⟨p_26, vs, rfl, .inl ⟨hS, k⟩⟩) (em_var (t := kPtr p_26) (v := .ref p_26) (x := ()) rfl rfl) rfl) (fun v_112 H_113 g_114 w_115 r_116 => ?_)
      exact qok _ v_112 H_113 o_106 (show Ex H _ from Gr.fr (Gr.lone2 (c := cL p_26 (k2 K kI kI) []) (Gr.back w0 Gr.refl w0 hp_28) g_29 (Gr.cast (g_103.then g_114 rfl) rfl))) ((kT K (k2 K kI kI)).up del_free r_116)
    · obtain ⟨l_67, l_68, rfl, iv_69⟩ := rv_60
      simp only [List.length_cons] at iv_69
      have r_70 := (kL K (k2 K kI kI)).up g_57.im r_32
      obtain ⟨_, _, rfl, rfl, rfl⟩ := b_61
      refine g_ifL (E := E) (cl := cl) (b := ((!s_50.isEmpty) && (decide (x_49.1 ≤ (lastD ((0 : Int), (0 : Int)) s_50).2)))) w_58 o_62 (gt_and (gt_test (em_cellNe (n := 0) (p := p_26) (acc := s_50) (d2 dI dI) (by decide) (em_var (t := kPtr p_26) (v := .ref p_26) (x := ()) rfl rfl) (em_lst K em_nilL (by decide)) rfl)) (fun hq_71 => (gt_test (em_op (em_var (t := kI) (v := (.int x_49.1)) (x := x_49.1) rfl rfl) (em_op (em_cellAt (n := 0) (p := p_26) (acc0 := s_50) (acc := s_50) (em_var (t := kPtr p_26) (v := .ref p_26) (x := ()) rfl rfl) (em_un em_int o_negI) rfl (at_end (z := ((0 : Int), (0 : Int))) (by exact ne_ie hq_71))) em_int o_ix21) o_IB)))) (fun hb_73 o_74 H_72 g_75 w_76 => ?_) (fun hb_78 o_79 H_77 g_80 w_81 => ?_)
      · simp only [decide_eq_true_eq, decide_eq_false_iff_not, Bool.and_eq_true, Bool.or_eq_true, Bool.and_eq_false_iff, Bool.or_eq_false_iff, Bool.not_eq_true', Bool.not_eq_false'] at hb_73
        have r_82 := (kL K (k2 K kI kI)).up g_75.im r_70
        refine g_setLL (E := E) (cl := cl) (n := 0) (p := p_26) (acc := s_50) (i := (-1)) (x := ((lastD ((0 : Int), (0 : Int)) s_50).1, (if x_49.2 > (lastD ((0 : Int), (0 : Int)) s_50).2 then x_49.2 else (lastD ((0 : Int), (0 : Int)) s_50).2))) w_76 o_74 (em_t2 K (em_cons (em_op (em_cellAt (n := 0) (p := p_26) (acc0 := s_50) (acc := s_50) (em_var (t := kPtr p_26) (v := .ref p_26) (x := ()) rfl rfl) (em_un em_int o_negI) rfl (at_end (z := ((0 : Int), (0 : Int))) (by exact ne_ief hb_73.1))) em_int o_ix20) (em_cons (em_cb (em_cons (em_op (em_cellAt (n := 0) (p := p_26) (acc0 := s_50) (acc := s_50) (em_var (t := kPtr p_26) (v := .ref p_26) (x := ()) rfl rfl) (em_un em_int o_negI) rfl (at_end (z := ((0 : Int), (0 : Int))) (by exact ne_ief hb_73.1))) em_int o_ix21) (em_cons (em_var (t := kI) (v := (.int x_49.2)) (x := x_49.2) rfl rfl) em_nil)) o_max2) em_nil))) (em_var (t := kPtr p_26) (v := .ref p_26) (x := ()) rfl rfl) (em_un em_int o_negI) rfl (ix_end (List.length_pos_iff.mpr (by exact ne_ief hb_73.1))) (fun found_83 H_84 hx_85 o_86 g_87 w_88 => ?_)
        have r_89 := (kL K (k2 K kI kI)).up g_87.im r_82
        have ln_90 : found_83.length = s_50.length := by rw [hx_85, List.length_set]
        exact nx_64 (found_83) _ _ o_86 (Gr.cast (g_75.then g_87 rfl) rfl) w_88 ⟨_, _, rfl, by omega⟩
      · simp only [decide_eq_true_eq, decide_eq_false_iff_not, Bool.and_eq_true, Bool.or_eq_true, Bool.and_eq_false_iff, Bool.or_eq_false_iff, Bool.not_eq_true', Bool.not_eq_false'] at hb_78
        have r_91 := (kL K (k2 K kI kI)).up g_80.im r_70
        refine g_appL (E := E) (cl := cl) (n := 0) (t := (k2 K kI kI)) (acc0 := s_50) (acc := s_50) (x := (x_49.1, x_49.2)) w_81 o_79 (em_var (t := kPtr p_26) (v := (.ref p_26)) (x := ()) rfl rfl) (em_t2 K (em_cons (em_var (t := kI) (v := (.int x_49.1)) (x := x_49.1) rfl rfl) (em_cons (em_var (t := kI) (v := (.int x_49.2)) (x := x_49.2) rfl rfl) em_nil))) rfl rfl (by omega) (fun found_92 H_93 hx_94 o_95 g_96 w_97 => ?_)
        have r_98 := (kL K (k2 K kI kI)).up g_96.im r_91
        have ln_99 : found_92.length = s_50.length + 1 := by rw [hx_94, List.length_append]; rfl
        exact nx_64 (found_92) _ _ o_95 (Gr.cast (g_80.then g_96 rfl) rfl) w_97 ⟨_, _, rfl, by omega⟩

abbrev s_togetherT : Stmt := topS 16
def togetherTN : List Str := ["spans", "found", "first", "last", "span"]
theorem sc_togetherT : FnScope togetherTN ["spans"] (defScope s_togetherT) := ⟨rfl, rfl, rfl, by decide +kernel, rfl, by decide +kernel, by decide +kernel⟩
def f_togetherT : (List (Int × Int)) × Unit → Re (List (Int × Int)) := fun a => match a with
  | (x0, _) =>
    lr (mapR (fun p : Int × Int => f_check_span (p, ())) x0) fun ys_135 =>
    forK (fun (x_140 : (Int × Int)) (s_141 : ((List (Int × Int)))) (kn : ((List (Int × Int))) → _) (kb : ((List (Int × Int))) → _) =>
    cond ((!s_141.isEmpty) && (decide (x_140.1 ≤ (lastD ((0 : Int), (0 : Int)) s_141).2)))
    (lt (s_141.set (s_141.length - 1) ((lastD ((0 : Int), (0 : Int)) s_141).1, (if x_140.2 > (lastD ((0 : Int), (0 : Int)) s_141).2 then x_140.2 else (lastD ((0 : Int), (0 : Int)) s_141).2))) fun found_174 =>
    kn (found_174))
    (lt (s_141 ++ [(x_140.1, x_140.2)]) fun found_183 =>
    kn (found_183)))
    (fun (s_191 : ((List (Int × Int)))) =>
    (.ok s_191))
    (sortP ys_135) (([] : (List (Int × Int))))
def pre_togetherT : (List (Int × Int)) × Unit → Prop := fun a => match a with
  | (x0, _) => x0.length ≤ 1000
abbrev sp_togetherT (K : PySem.W.Frag)  (cl : Nat → Addr) : Sp := spD (aC (kT K (k2 K kI kI)) a0) pre_togetherT f_togetherT (kT K (k2 K kI kI)) cl
theorem ok_togetherT {f : Addr} {fd : FuncData} (F : Fun K "together" "together" s_togetherT f fd) (B : BD mg) (n_tuple : mg "tuple" = none) (n_sorted : mg "sorted" = none) (c_check_span : Cal P w K mg base 1 "check_span" (sp_check_span K cl) []) : FnOk P w K mg base (L2.CX P w) 2 f fd ["spans"] (sp_togetherT K  cl) := by
  refine F.okX sc_togetherT (fun vs H Q E h => ?_) (fun cdv A outer s H vs Q E hr h => ?_)
  · obtain ⟨M, a, live, hA, _⟩ := h
    obtain ⟨v0, _, rfl, r0, rfl⟩ := hA
    rfl
  · obtain ⟨M, ⟨x0, _⟩, live, hA, hpre, qok, qer⟩ := h
    obtain ⟨v0, _, rfl, r0, rfl⟩ := hA
    have hpre : x0.length ≤ 1000 := hpre
    have w0 : Holds M [] H := hold0 live
    have o0 : Pr (f_togetherT (x0, ())) (lr (mapR (fun p : Int × Int => f_check_span (p, ())) x0) fun ys_135 =>
forK (fun (x_140 : (Int × Int)) (s_141 : ((List (Int × Int)))) (kn : ((List (Int × Int))) → _) (kb : ((List (Int × Int))) → _) =>
cond ((!s_141.isEmpty) && (decide (x_140.1 ≤ (lastD ((0 : Int), (0 : Int)) s_141).2)))
(lt (s_141.set (s_141.length - 1) ((lastD ((0 : Int), (0 : Int)) s_141).1, (if x_140.2 > (lastD ((0 : Int), (0 : Int)) s_141).2 then x_140.2 else (lastD ((0 : Int), (0 : Int)) s_141).2))) fun found_174 =>
kn (found_174))
(lt (s_141 ++ [(x_140.1, x_140.2)]) fun found_183 =>
kn (found_183)))
(fun (s_191 : ((List (Int × Int)))) =>
(.ok s_191))
(sortP ys_135) (([] : (List (Int × Int))))) := rfl
    refine ⟨_, pss_cons (ps_set (i := 1) sc_togetherT.nd rfl (.inl rfl) (pe_lst pa_nil)) (pss_cons (ps_for (passes_of rfl) rfl (pi_list (pe_callB (cr_sortD hr.units) (by rfl) n_sorted (by decide +kernel) (pa_cons (pe_lcR (own := [("span", 4)]) (g := gName 4) (tt := tYes) (E := E) rfl sc_togetherT.nd (pi_tup (pv 0)) (blkOk_by (own := [("span", 4)]) (N := togetherTN) (sc := defScope s_togetherT) (by decide +kernel)) (fun _ _ _ _ _ => pg_name (i := 4) sc_togetherT.nd rfl (.inl rfl)) (fun _ _ _ _ _ => pts_nil) (fun _ _ _ _ _ pb => (pe_k c_check_span hr (by decide) pb (pa_cons (pv 4) pa_nil)))) pa_nil))) (pg_tup rfl (pgs_cons (pg_name (i := 2) sc_togetherT.nd rfl (Or.inl rfl)) (pgs_cons (pg_name (i := 3) sc_togetherT.nd rfl (Or.inl rfl)) pgs_nil))) (pss_one (ps_if (PW.pt (pw_and (pt_cmpR (op_neD hr.units) (pv 1) (pe_lst pa_nil) (nomark _)) (pw_and1 (pt_cmpR op_le (pv 2) (pe_ix ix_tup (pe_ix ix_list (pv 1) (pe_un un_neg pe_int) (fun _ _ => rfl)) pe_int (fun _ _ => rfl)) (nomark _))))) (pss_one (ps_asg (pe_tup (pa_cons (pe_ix ix_tup (pe_ix ix_list (pv 1) (pe_un un_neg pe_int) (fun _ _ => rfl)) pe_int (fun _ _ => rfl)) (pa_cons (pe_callB (call_max2 rfl) (by rfl) B.max (by decide +kernel) (pa_cons (pe_ix ix_tup (pe_ix ix_list (pv 1) (pe_un un_neg pe_int) (fun _ _ => rfl)) pe_int (fun _ _ => rfl)) (pa_cons (pv 3) pa_nil))) pa_nil))) (pg_sub (pv 1) (pe_un un_neg pe_int) set_list))) (pss_one (ps_expr (pe_bm PySem.F.plainAttrs_list PySem.F.slot_list_append PySem.F.type_list_append mt_append (pv 1) (pa_cons (pe_tup (pa_cons (pv 2) (pa_cons (pv 3) pa_nil))) pa_nil))))))) (pss_one (ps_ret (pe_callTy call_tuple_of (by rfl) n_tuple (by decide +kernel) (pa_cons (pv 1) pa_nil))))), ?_⟩
    refine g_new (i := 1) K (k2 K kI kI) w0 fun p_117 H_118 hp_119 g_120 w_121 e_122 => ?_
    have r_123 := (kT K (k2 K kI kI)).up e_122 r0
    obtain ⟨k_134, e_136⟩ | ⟨ys_135, e_136⟩ := re_or (mapR (fun p : Int × Int => f_check_span (p, ())) x0)
    · exact g_forE (E := E) (cl := cl) (k := k_134) w_121 (em_cbE (u := kX (k2 K kI kI)) (A := aC (kL K (k2 K kI kI)) a0) (ea_er (t := kX (k2 K kI kI)) (by rw [← e_136]; exact (em_lcR (u := k2 K kI kI) (f := (fun p : Int × Int => f_check_span (p, ()))) (ei_T (em_var (t := (kT K (k2 K kI kI))) (v := v0) (x := x0) rfl r_123)) (by omega) eg_name (fun _ _ _ b => by obtain ⟨_, _, rfl⟩ := b; rfl) (fun _ _ _ _ _ _ _ _ => gt_yes) (fun M_130 S_131 I_126 x_124 s_125 e_127 m_128 b_129 => by obtain ⟨v_132, r_133, rfl⟩ := b_129; exact (em_call (pre := pre_check_span) (f := f_check_span) (a := (x_124, ())) (em_cons (em_var (t := k2 K kI kI) (v := v_132) (x := x_124) rfl r_133) em_nil) args_id trivial)))))) (fun H_138 g_139 => qer k_134 _ (pr_er e_136 o0) (show Ex H _ from Gr.fr (Gr.lone2 (c := cL p_117 (k2 K kI kI) []) (Gr.back w0 Gr.refl w0 hp_119) g_120 (Gr.cast g_139 rfl))))
    have o_137 := pr_lr e_136 o0
    have ly := mapR_len e_136
    refine g_for (E := E) (cl := cl) (xs := (sortP ys_135)) (s0 := (([] : (List (Int × Int))))) (Sx := (fun s : ((List (Int × Int))) => [cL p_117 (k2 K kI kI) (s)])) (fun (I : Hp) (rs : List (Int × Int)) (s : ((List (Int × Int)))) (σ : L2.St) => ∃ (l2 : Option V) (l3 : Option V), σ = [some v0, some (.ref p_117), l2, l3, none] ∧ ((s)).length + rs.length ≤ 1000) w_121 o_137 (ei_L (em_XL (em_cb (em_cons (em_XL (t := k2 K kI kI) (by rw [← e_136]; exact (em_lcR (u := k2 K kI kI) (f := (fun p : Int × Int => f_check_span (p, ()))) (ei_T (em_var (t := (kT K (k2 K kI kI))) (v := v0) (x := x0) rfl r_123)) (by omega) eg_name (fun _ _ _ b => by obtain ⟨_, _, rfl⟩ := b; rfl) (fun _ _ _ _ _ _ _ _ => gt_yes) (fun M_130 S_131 I_126 x_124 s_125 e_127 m_128 b_129 => by obtain ⟨v_132, r_133, rfl⟩ := b_129; exact (em_call (pre := pre_check_span) (f := f_check_span) (a := (x_124, ())) (em_cons (em_var (t := k2 K kI kI) (v := v_132) (x := x_124) rfl r_133) em_nil) args_id trivial))))) em_nil) o_sortP))) (fun _ => rfl) (fun _ => eg_2) (fun _ g => ⟨_, _, rfl, by rw [sortP_len]; simp only [List.length_nil]; omega⟩) (fun s_191 σ_192 H_193 g_194 w_195 rv_196 o_197 => ?_) (fun hd_156 x_140 s_141 σ_142 σ_143 I_144 H_145 rest_146 hm_147 g_148 w_149 ei_150 rv_151 b_152 o_153 Nx_154 nx_155 => ?_)
    · have r_199 := (kT K (k2 K kI kI)).up g_194.im r_123
      obtain ⟨l_200, l_201, rfl, iv_202⟩ := rv_196
      simp only [List.length_nil] at iv_202
      refine g_ret (E := E) (cl := cl) (t := (kT K (k2 K kI kI))) (x := s_191) w_195 (em_cellTup (n := 0) (p := p_117) (fun H vs hS Q k => ⟨p_117, vs, rfl, .inl ⟨hS, k⟩⟩) (em_var (t := kPtr p_117) (v := .ref p_117) (x := ()) rfl rfl) rfl) (fun v_203 H_204 g_205 w_206 r_207 => ?_)
      exact qok _ v_203 H_204 o_197 (show Ex H _ from Gr.fr (Gr.lone2 (c := cL p_117 (k2 K kI kI) []) (Gr.back w0 Gr.refl w0 hp_119) g_120 (Gr.cast (g_194.then g_205 rfl) rfl))) ((kT K (k2 K kI kI)).up del_free r_207)
    · obtain ⟨l_158, l_159, rfl, iv_160⟩ := rv_151
      simp only [List.length_cons] at iv_160
      have r_161 := (kT K (k2 K kI kI)).up g_148.im r_123
      obtain ⟨_, _, rfl, rfl, rfl⟩ := b_152
      refine g_ifL (E := E) (cl := cl) (b := ((!s_141.isEmpty) && (decide (x_140.1 ≤ (lastD ((0 : Int), (0 : Int)) s_141).2)))) w_149 o_153 (gt_and (gt_test (em_cellNe (n := 0) (p := p_117) (acc := s_141) (d2 dI dI) (by decide) (em_var (t := kPtr p_117) (v := .ref p_117) (x := ()) rfl rfl) (em_lst K em_nilL (by decide)) rfl)) (fun hq_162 => (gt_test (em_op (em_var (t := kI) (v := (.int x_140.1)) (x := x_140.1) rfl rfl) (em_op (em_cellAt (n := 0) (p := p_117) (acc0 := s_141) (acc := s_141) (em_var (t := kPtr p_117) (v := .ref p_117) (x := ()) rfl rfl) (em_un em_int o_negI) rfl (at_end (z := ((0 : Int), (0 : Int))) (by exact ne_ie hq_162))) em_int o_ix21) o_IB)))) (fun hb_164 o_165 H_163 g_166 w_167 => ?_) (fun hb_169 o_170 H_168 g_171 w_172 => ?_)
      · simp only [decide_eq_true_eq, decide_eq_false_iff_not, Bool.and_eq_true, Bool.or_eq_true, Bool.and_eq_false_iff, Bool.or_eq_false_iff, Bool.not_eq_true', Bool.not_eq_false'] at hb_164
        have r_173 := (kT K (k2 K kI kI)).up g_166.im r_161
        refine g_setLL (E := E) (cl := cl) (n := 0) (p := p_117) (acc := s_141) (i := (-1)) (x := ((lastD ((0 : Int), (0 : Int)) s_141).1, (if x_140.2 > (lastD ((0 : Int), (0 : Int)) s_141).2 then x_140.2 else (lastD ((0 : Int), (0 : Int)) s_141).2))) w_167 o_165 (em_t2 K (em_cons (em_op (em_cellAt (n := 0) (p := p_117) (acc0 := s_141) (acc := s_141) (em_var (t := kPtr p_117) (v := .ref p_117) (x := ()) rfl rfl) (em_un em_int o_negI) rfl (at_end (z := ((0 : Int), (0 : Int))) (by exact ne_ief hb_164.1))) em_int o_ix20) (em_cons (em_cb (em_cons (em_op (em_cellAt (n := 0) (p := p_117) (acc0 := s_141) (acc := s_141) (em_var (t := kPtr p_117) (v := .ref p_117) (x := ()) rfl rfl) (em_un em_int o_negI) rfl (at_end (z := ((0 : Int), (0 : Int))) (by exact ne_ief hb_164.1))) em_int o_ix21) (em_cons (em_var (t := kI) (v := (.int x_140.2)) (x := x_140.2) rfl rfl) em_nil)) o_max2) em_nil))) (em_var (t := kPtr p_117) (v := .ref p_117) (x := ()) rfl rfl) (em_un em_int o_negI) rfl (ix_end (List.length_pos_iff.mpr (by exact ne_ief hb_164.1))) (fun found_174 H_175 hx_176 o_177 g_178 w_179 => ?_)
        have r_180 := (kT K (k2 K kI kI)).up g_178.im r_173
        have ln_181 : found_174.length = s_141.length := by rw [hx_176, List.length_set]
        exact nx_155 (found_174) _ _ o_177 (Gr.cast (g_166.then g_178 rfl) rfl) w_179 ⟨_, _, rfl, by omega⟩
      · simp only [decide_eq_true_eq, decide_eq_false_iff_not, Bool.and_eq_true, Bool.or_eq_true, Bool.and_eq_false_iff, Bool.or_eq_false_iff, Bool.not_eq_true', Bool.not_eq_false'] at hb_169
        have r_182 := (kT K (k2 K kI kI)).up g_171.im r_161
        refine g_appL (E := E) (cl := cl) (n := 0) (t := (k2 K kI kI)) (acc0 := s_141) (acc := s_141) (x := (x_140.1, x_140.2)) w_172 o_170 (em_var (t := kPtr p_117) (v := (.ref p_117)) (x := ()) rfl rfl) (em_t2 K (em_cons (em_var (t := kI) (v := (.int x_140.1)) (x := x_140.1) rfl rfl) (em_cons (em_var (t := kI) (v := (.int x_140.2)) (x := x_140.2) rfl rfl) em_nil))) rfl rfl (by omega) (fun found_183 H_184 hx_185 o_186 g_187 w_188 => ?_)
        have r_189 := (kT K (k2 K kI kI)).up g_187.im r_182
        have ln_190 : found_183.length = s_141.length + 1 := by rw [hx_185, List.length_append]; rfl
        exact nx_155 (found_183) _ _ o_186 (Gr.cast (g_171.then g_187 rfl) rfl) w_188 ⟨_, _, rfl, by omega⟩
end
end Rw
namespace Rw
open PySem PySem.Spec PyProof.Rows L2 Evl

/-- one span more, behind those that begin ahead of it -/
abbrev Z2 : Int × Int := ((0 : Int), (0 : Int))
def joinS (acc : List (Int × Int)) (p : Int × Int) : List (Int × Int) :=
  if (!acc.isEmpty && decide (p.1 ≤ (lastD Z2 acc).2)) = true then acc.set (acc.length - 1) ((lastD Z2 acc).1, if p.2 > (lastD Z2 acc).2 then p.2 else (lastD Z2 acc).2) else acc ++ [p]
def tog (xs : List (Int × Int)) : List (Int × Int) := (sortP xs).foldl joinS []
abbrev VS (xs : List (Int × Int)) : Prop := ∀ p ∈ xs, p.1 < p.2
theorem forK_fold {α τ R : Type} {b : α → τ → (τ → R) → (τ → R) → R} {k : τ → R} {f : τ → α → τ} (h : ∀ x s kn kb, b x s kn kb = kn (f s x)) : ∀ (xs : List α) (s : τ), forK b k xs s = k (xs.foldl f s)
  | [], _ => rfl
  | x :: xs, s => by
    show b x s _ _ = _
    rw [h]
    exact forK_fold h xs (f s x)
theorem cs_ok {p : Int × Int} (h : p.1 < p.2) : f_check_span (p, ()) = .ok p := by
  show cond (decide (p.2 ≤ p.1)) _ _ = _
  rw [decide_eq_false (by omega)]
  rfl
theorem cs_er {p : Int × Int} (h : ¬ p.1 < p.2) : f_check_span (p, ()) = .er 2 := by
  show cond (decide (p.2 ≤ p.1)) _ _ = _
  rw [decide_eq_true (by omega)]
  rfl
theorem mapR_cs : ∀ {xs : List (Int × Int)}, VS xs → mapR (fun p : Int × Int => f_check_span (p, ())) xs = .ok xs
  | [], _ => rfl
  | x :: xs, h => by
    simp only [mapR]
    rw [cs_ok (h x List.mem_cons_self), mapR_cs fun p m => h p (List.mem_cons_of_mem _ m)]
theorem mapR_inv : ∀ {xs ys : List (Int × Int)}, mapR (fun p : Int × Int => f_check_span (p, ())) xs = .ok ys → ys = xs ∧ VS xs
  | [], ys, h => by cases h; exact ⟨rfl, fun _ m => nomatch m⟩
  | x :: xs, ys, h => by
    simp only [mapR] at h
    by_cases hx : x.1 < x.2
    · rw [cs_ok hx] at h
      cases e : mapR (fun p : Int × Int => f_check_span (p, ())) xs with
      | er k => rw [e] at h; cases h
      | ok zs =>
        rw [e] at h
        cases h
        obtain ⟨a, b⟩ := mapR_inv e
        exact ⟨by rw [a], fun p m => (List.mem_cons.mp m).elim (fun z => by rw [z]; exact hx) (b p)⟩
    · rw [cs_er hx] at h
      cases h
theorem tog_body (ys : List (Int × Int)) : forK (fun (x : (Int × Int)) (s : ((List (Int × Int)))) (kn : ((List (Int × Int))) → Re (List (Int × Int))) (kb : ((List (Int × Int))) → Re (List (Int × Int))) =>
    cond ((!s.isEmpty) && (decide (x.1 ≤ (lastD ((0 : Int), (0 : Int)) s).2)))
    (lt (s.set (s.length - 1) ((lastD ((0 : Int), (0 : Int)) s).1, (if x.2 > (lastD ((0 : Int), (0 : Int)) s).2 then x.2 else (lastD ((0 : Int), (0 : Int)) s).2))) fun found => kn found)
    (lt (s ++ [(x.1, x.2)]) fun found => kn found)) (fun s => Re.ok s) (sortP ys) [] = .ok (tog ys) := by
  rw [forK_fold (f := joinS)]
  · rfl
  · intro x s kn kb
    unfold joinS
    by_cases h : ((!s.isEmpty) && decide (x.1 ≤ (lastD Z2 s).2)) = true
    · rw [if_pos h, h]; rfl
    · rw [if_neg h, Bool.not_eq_true _ |>.mp h]; rfl
theorem tog_ok {xs : List (Int × Int)} (h : VS xs) : f_together (xs, ()) = .ok (tog xs) := by
  show lr (mapR _ xs) _ = _
  rw [mapR_cs h]
  exact tog_body xs
theorem tog_okT {xs : List (Int × Int)} (h : VS xs) : f_togetherT (xs, ()) = .ok (tog xs) := tog_ok h
theorem tog_inv {xs ys : List (Int × Int)} (h : f_together (xs, ()) = .ok ys) : ys = tog xs ∧ VS xs := by
  have h' : lr (mapR (fun p : Int × Int => f_check_span (p, ())) xs) _ = Re.ok ys := h
  cases e : mapR (fun p : Int × Int => f_check_span (p, ())) xs with
  | er k => rw [e] at h'; cases h'
  | ok zs =>
    obtain ⟨_, b⟩ := mapR_inv e
    rw [tog_ok b] at h
    cases h
    exact ⟨rfl, b⟩
theorem joinS_len (acc : List (Int × Int)) (p : Int × Int) : (joinS acc p).length ≤ acc.length + 1 := by
  unfold joinS
  split
  · rw [List.length_set]; omega
  · simp
theorem fold_len : ∀ (xs acc : List (Int × Int)), (xs.foldl joinS acc).length ≤ acc.length + xs.length
  | [], acc => Nat.le_refl _
  | x :: xs, acc => by
    have := fold_len xs (joinS acc x)
    have := joinS_len acc x
    simp only [List.foldl_cons, List.length_cons]
    omega
theorem tog_len (xs : List (Int × Int)) : (tog xs).length ≤ xs.length := by
  have := fold_len (sortP xs) []
  rw [sortP_len] at this
  simpa [tog] using this
theorem last_mem {acc : List (Int × Int)} (h : acc ≠ []) : lastD Z2 acc ∈ acc := by
  have l : 0 < acc.length := List.length_pos_iff.mpr h
  unfold lastD
  rw [List.getElem?_eq_getElem (by omega : acc.length - 1 < acc.length)]
  exact List.getElem_mem _
theorem joinS_ok {acc : List (Int × Int)} {p : Int × Int} (h : VS acc) (hp : p.1 < p.2) : VS (joinS acc p) := by
  unfold joinS
  split
  · rename_i c
    simp only [Bool.and_eq_true, decide_eq_true_eq] at c
    have m := last_mem (ne_ie c.1)
    have := h _ m
    intro q hq
    rcases List.mem_or_eq_of_mem_set hq with z | z
    · exact h q z
    · rw [z]; dsimp only; split <;> omega
  · intro q hq
    rcases List.mem_append.mp hq with z | z
    · exact h q z
    · rw [List.mem_singleton.mp z]; exact hp
theorem fold_ok : ∀ {xs acc : List (Int × Int)}, VS xs → VS acc → VS (xs.foldl joinS acc)
  | [], _, _, h => h
  | x :: xs, acc, hx, h => fold_ok (xs := xs) (fun p m => hx p (List.mem_cons_of_mem _ m)) (joinS_ok h (hx x List.mem_cons_self))
theorem sortP_mem {xs : List (Int × Int)} {p : Int × Int} : p ∈ sortP xs ↔ p ∈ xs := List.mem_mergeSort
theorem tog_vs {xs : List (Int × Int)} (h : VS xs) : VS (tog xs) := fold_ok (fun p m => h p (sortP_mem.mp m)) fun _ m => nomatch m

theorem vs_app {l l' : List (Int × Int)} {a b : Int} (h : VS l) (hx : l' = l ++ [(a, b)]) (hb : a < b) : VS l' := fun p m => by
  rw [hx] at m
  rcases List.mem_append.mp m with z | z
  · exact h p z
  · rw [List.mem_singleton.mp z]; exact hb
theorem joinS_bd {lo hi : Int} {acc : List (Int × Int)} {p : Int × Int} (h : ∀ q ∈ acc, lo ≤ q.1 ∧ q.2 ≤ hi) (hp : lo ≤ p.1 ∧ p.2 ≤ hi) : ∀ q ∈ joinS acc p, lo ≤ q.1 ∧ q.2 ≤ hi := by
  unfold joinS
  split
  · rename_i c
    simp only [Bool.and_eq_true, decide_eq_true_eq] at c
    have m := h _ (last_mem (ne_ie c.1))
    intro q hq
    rcases List.mem_or_eq_of_mem_set hq with z | z
    · exact h q z
    · rw [z]; dsimp only; split <;> omega
  · intro q hq
    rcases List.mem_append.mp hq with z | z
    · exact h q z
    · rw [List.mem_singleton.mp z]; exact hp
theorem fold_bd {lo hi : Int} : ∀ {xs acc : List (Int × Int)}, (∀ q ∈ xs, lo ≤ q.1 ∧ q.2 ≤ hi) → (∀ q ∈ acc, lo ≤ q.1 ∧ q.2 ≤ hi) → ∀ q ∈ xs.foldl joinS acc, lo ≤ q.1 ∧ q.2 ≤ hi
  | [], _, _, h => h
  | x :: xs, acc, hx, h => fold_bd (xs := xs) (fun p m => hx p (List.mem_cons_of_mem _ m)) (joinS_bd h (hx x List.mem_cons_self))
theorem tog_bd {lo hi : Int} {xs : List (Int × Int)} (h : ∀ q ∈ xs, lo ≤ q.1 ∧ q.2 ≤ hi) : ∀ q ∈ tog xs, lo ≤ q.1 ∧ q.2 ≤ hi := fold_bd (fun p m => h p (sortP_mem.mp m)) fun _ m => nomatch m

section
variable {P : Program} {w : World} {K : PySem.W.Frag} {mg : Str → Option Value} {base : Heap} {cl : Nat → Addr}

abbrev s_total : Stmt := topS 17
def totalN : List Str := ["spans", "first", "last"]
theorem sc_total : FnScope totalN ["spans"] (defScope s_total) := ⟨rfl, rfl, rfl, by decide +kernel, rfl, by decide +kernel, by decide +kernel⟩
def f_total : (List (Int × Int)) × Unit → Re Int := fun a => match a with
  | (x0, _) =>
    (.ok (((tog x0).map (fun (x_208 : (Int × Int)) => (x_208.2 - x_208.1))).sum))
def pre_total : (List (Int × Int)) × Unit → Prop := fun a => match a with
  | (x0, _) => x0.length ≤ 1000 ∧ VS x0 ∧ True
abbrev sp_total (K : PySem.W.Frag)  (cl : Nat → Addr) : Sp := spD (aC (kT K (k2 K kI kI)) a0) pre_total f_total kI cl
theorem ok_total {f : Addr} {fd : FuncData} (F : Fun K "total" "total" s_total f fd) (B : BD mg) (c_togetherT : Cal P w K mg base 2 "together" (sp_togetherT K cl) []) : FnOk P w K mg base (L2.CX P w) 3 f fd ["spans"] (sp_total K  cl) := by
  refine F.okX sc_total (fun vs H Q E h => ?_) (fun cdv A outer s H vs Q E hr h => ?_)
  · obtain ⟨M, a, live, hA, _⟩ := h
    obtain ⟨v0, _, rfl, r0, rfl⟩ := hA
    rfl
  · obtain ⟨M, ⟨x0, _⟩, live, hA, hpre, qok, qer⟩ := h
    obtain ⟨v0, _, rfl, r0, rfl⟩ := hA
    have hpre : x0.length ≤ 1000 ∧ VS x0 ∧ True := hpre
    have w0 : Holds M [] H := hold0 live
    have o0 : Pr (f_total (x0, ())) ((.ok (((tog x0).map (fun (x_208 : (Int × Int)) => (x_208.2 - x_208.1))).sum))) := rfl
    refine ⟨_, pss_one (ps_ret (pe_callB (cr_sum rfl) (by rfl) B.sum (by decide +kernel) (pa_cons (pe_lc (own := [("first", 1), ("last", 2)]) (g := gTup K 2 (gCons (gName 1) (gCons (gName 2) gNil))) (tt := tYes) rfl sc_total.nd (pi_tup (pe_k c_togetherT hr (by decide) passL (pa_cons (pv 0) pa_nil))) (blkOk_by (own := [("first", 1), ("last", 2)]) (N := totalN) (sc := defScope s_total) (by decide +kernel)) (fun _ _ _ _ _ => pg_tup rfl (pgs_cons (pg_name (i := 1) sc_total.nd rfl (Or.inl rfl)) (pgs_cons (pg_name (i := 2) sc_total.nd rfl (Or.inl rfl)) pgs_nil))) (fun _ _ _ _ _ => pts_nil) (fun _ _ _ _ _ => (pe_op op_sub (pv 2) (pv 1)))) pa_nil))), ?_⟩
    refine g_ret (E := E) (cl := cl) (t := kI) (x := (((tog x0).map (fun (x_208 : (Int × Int)) => (x_208.2 - x_208.1))).sum)) w0 (em_cb (em_cons (em_eq (em_lc (K := K) (u := kI) (fun _ => true) (fun x_208 => (x_208.2 - x_208.1)) (ei_T (em_callP (y := tog x0) (a := (x0, ())) (em_cons (em_var (t := (kT K (k2 K kI kI))) (v := v0) (x := x0) rfl r0) em_nil) args_id (by show _ ≤ 1000; have := hpre.1; omega) (tog_okT (by exact hpre.2.1)))) (by have := tog_len x0; have := hpre.1; omega) eg_2 (fun _ _ _ b => by obtain ⟨_, _, rfl, rfl, rfl⟩ := b; rfl) (fun _ _ _ _ _ _ _ _ => gt_yes) (fun M_214 S_215 I_209 x_208 s_213 e_210 m_211 c_216 b_212 => by obtain ⟨_, _, rfl, rfl, rfl⟩ := b_212; exact (em_op (em_var (t := kI) (v := (.int x_208.2)) (x := x_208.2) rfl rfl) (em_var (t := kI) (v := (.int x_208.1)) (x := x_208.1) rfl rfl) o_I))) (by rw [filter_yes])) em_nil) o_sumL) (fun v_217 H_218 g_219 w_220 r_221 => ?_)
    exact qok _ v_217 H_218 o0 (show Ex H _ from Gr.fr g_219) r_221
def v_total : (List (Int × Int)) × Unit → Int := fun a => match a with
  | (x0, _) =>
    ((((tog x0).map (fun (x_208 : (Int × Int)) => (x_208.2 - x_208.1))).sum))
theorem is_total (a : (List (Int × Int)) × Unit) : f_total a = .ok (v_total a) := by
  obtain ⟨x0, _⟩ := a
  rfl

abbrev s_day_spans : Stmt := topS 20
def day_spansN : List Str := ["spans", "found", "first", "last"]
theorem sc_day_spans : FnScope day_spansN ["spans"] (defScope s_day_spans) := ⟨rfl, rfl, rfl, by decide +kernel, rfl, by decide +kernel, by decide +kernel⟩
def f_day_spans : (List (Int × Int)) × Unit → Re (List (Int × Int)) := fun a => match a with
  | (x0, _) =>
    lt (tog x0) fun found_222 =>
    cond ((found_222.map (fun (x_231 : (Int × Int)) => ((decide (x_231.1 < (0 : Int))) || (decide ((86400 : Int) < x_231.2))))).any id)
    ((.er 2))
    ((.ok found_222))
def pre_day_spans : (List (Int × Int)) × Unit → Prop := fun a => match a with
  | (x0, _) => x0.length ≤ 1000 ∧ VS x0 ∧ True
abbrev sp_day_spans (K : PySem.W.Frag)  (cl : Nat → Addr) : Sp := spD (aC (kL K (k2 K kI kI)) a0) pre_day_spans f_day_spans (kT K (k2 K kI kI)) cl
theorem ok_day_spans {f : Addr} {fd : FuncData} (F : Fun K "day_spans" "day_spans" s_day_spans f fd) (n_any : mg "any" = none) (gi_DAY : ∃ t, mg "DAY" = some (.int 86400 t)) (c_together : Cal P w K mg base 2 "together" (sp_together K cl) []) (xBadTime : Exc1 K mg "BadTime" (cl 2)) : FnOk P w K mg base (L2.CX P w) 3 f fd ["spans"] (sp_day_spans K  cl) := by
  refine F.okX sc_day_spans (fun vs H Q E h => ?_) (fun cdv A outer s H vs Q E hr h => ?_)
  · obtain ⟨M, a, live, hA, _⟩ := h
    obtain ⟨v0, _, rfl, r0, rfl⟩ := hA
    rfl
  · obtain ⟨M, ⟨x0, _⟩, live, hA, hpre, qok, qer⟩ := h
    obtain ⟨v0, _, rfl, r0, rfl⟩ := hA
    have hpre : x0.length ≤ 1000 ∧ VS x0 ∧ True := hpre
    have w0 : Holds M [] H := hold0 live
    have o0 : Pr (f_day_spans (x0, ())) (lt (tog x0) fun found_222 =>
cond ((found_222.map (fun (x_231 : (Int × Int)) => ((decide (x_231.1 < (0 : Int))) || (decide ((86400 : Int) < x_231.2))))).any id)
((.er 2))
((.ok found_222))) := rfl
    refine ⟨_, pss_cons (ps_set (i := 1) sc_day_spans.nd rfl (.inl rfl) (pe_k c_together hr (by decide) passL (pa_cons (pv 0) pa_nil))) (pss_cons (ps_if (pt_val (pe_callB (cr_any rfl) (by rfl) n_any (by decide +kernel) (pa_cons (pe_lc (own := [("first", 2), ("last", 3)]) (g := gTup K 2 (gCons (gName 2) (gCons (gName 3) gNil))) (tt := tYes) rfl sc_day_spans.nd (pi_tup (pv 1)) (blkOk_by (own := [("first", 2), ("last", 3)]) (N := day_spansN) (sc := defScope s_day_spans) (by decide +kernel)) (fun _ _ _ _ _ => pg_tup rfl (pgs_cons (pg_name (i := 2) sc_day_spans.nd rfl (Or.inl rfl)) (pgs_cons (pg_name (i := 3) sc_day_spans.nd rfl (Or.inl rfl)) pgs_nil))) (fun _ _ _ _ _ => pts_nil) (fun _ _ _ _ _ => (pe_or (pe_cmpR op_lt (pv 2) pe_int (nomark _)) (pe_one (pe_cmpR op_gt (pv 3) (pe_GI gi_DAY) (nomark _)))))) pa_nil))) (pss_one (ps_raiseX xBadTime)) (pss_nil)) (pss_one (ps_ret (pv 1)))), ?_⟩
    refine g_asg (E := E) (cl := cl) (i := 1) (t := (kT K (k2 K kI kI))) (x := (tog x0)) w0 o0 (em_callP (y := tog x0) (a := (x0, ())) (em_cons (em_var (t := (kL K (k2 K kI kI))) (v := v0) (x := x0) rfl r0) em_nil) args_id (by show _ ≤ 1000; have := hpre.1; omega) (tog_ok (by exact hpre.2.1))) (fun found_222 v_223 H_224 hx_225 o_226 g_227 w_228 r_229 => ?_)
    have r_230 := (kL K (k2 K kI kI)).up g_227.im r0
    refine g_when (E := E) (cl := cl) (b := ((found_222.map (fun (x_231 : (Int × Int)) => ((decide (x_231.1 < (0 : Int))) || (decide ((86400 : Int) < x_231.2))))).any id)) w_228 o_226 (gt_B (em_cb (em_cons (em_eq (em_lc (K := K) (u := kB) (fun _ => true) (fun x_231 => ((decide (x_231.1 < (0 : Int))) || (decide ((86400 : Int) < x_231.2)))) (ei_T (em_var (t := (kT K (k2 K kI kI))) (v := v_223) (x := found_222) rfl r_229)) (by have l9 := congrArg List.length ‹_ = tog x0›; have := tog_len x0; have := hpre.1; omega) eg_2 (fun _ _ _ b => by obtain ⟨_, _, rfl, rfl, rfl⟩ := b; rfl) (fun _ _ _ _ _ _ _ _ => gt_yes) (fun M_237 S_238 I_232 x_231 s_236 e_233 m_234 c_239 b_235 => by obtain ⟨_, _, rfl, rfl, rfl⟩ := b_235; exact (em_orV (em_op (em_var (t := kI) (v := (.int x_231.1)) (x := x_231.1) rfl rfl) em_int o_IB) (fun h_240 => (em_op (em_var (t := kI) (v := (.int x_231.2)) (x := x_231.2) rfl rfl) em_int o_IB))))) (by rw [filter_yes])) em_nil) o_any)) (fun hb_243 o_244 H_242 g_245 w_246 => ?_) (fun hb_248 o_249 H_247 g_250 w_251 => ?_)
    · try simp only [decide_eq_true_eq, decide_eq_false_iff_not, Bool.and_eq_true, Bool.or_eq_true, Bool.and_eq_false_iff, Bool.or_eq_false_iff, Bool.not_eq_true', Bool.not_eq_false'] at hb_243
      have r_252 := (kL K (k2 K kI kI)).up g_245.im r_230
      have r_253 := (kT K (k2 K kI kI)).up g_245.im r_229
      exact qer 2 _ o_244 (show Ex H _ from Gr.fr (g_227.then g_245 rfl))
    · try simp only [decide_eq_true_eq, decide_eq_false_iff_not, Bool.and_eq_true, Bool.or_eq_true, Bool.and_eq_false_iff, Bool.or_eq_false_iff, Bool.not_eq_true', Bool.not_eq_false'] at hb_248
      have r_254 := (kL K (k2 K kI kI)).up g_250.im r_230
      have r_255 := (kT K (k2 K kI kI)).up g_250.im r_229
      refine g_ret (E := E) (cl := cl) (t := (kT K (k2 K kI kI))) (x := found_222) w_251 (em_var (t := (kT K (k2 K kI kI))) (v := v_223) (x := found_222) rfl r_255) (fun v_256 H_257 g_258 w_259 r_260 => ?_)
      exact qok _ v_256 H_257 o_249 (show Ex H _ from Gr.fr ((g_227.then g_250 rfl).then g_258 rfl)) r_260
end
end Rw
/-! enumerate(list, k) -/
namespace Rw
open PySem PySem.Spec PyProof.Rows L2 Evl Cy
def ItEs (K : PySem.W.Frag) (b : Addr) (c : Int) : It where
  go := fun i H => ∃ (ys : List V) (y : V), SqL K H b ys ∧ ys[i]? = some y
  yld := fun i H v H' => ∃ (T : Addr) (y : V), v = .ref T ∧ H T = none ∧ H' = upd H T (.tup [.int (c + (i : Nat)), y]) ∧ ∀ ys, SqL K H b ys → ys[i]? = some y
  stop := fun i H => ∃ ys : List V, SqL K H b ys ∧ i = ys.length
structure StEs (b N : Addr) (c : Int) (i : Nat) (h : Heap) : Prop where
  en : ∃ old, IsEnum h (N + 1) N (c + (i : Nat)) old
  lst : h.IsListIter N b i
theorem turn_es {P : Program} {w : World} {K : PySem.W.Frag} {elts : List Expr} {kk : Nat} {tp : Pos} {b N : Addr} {c : Int} (hb : b < N) :
    Turn P w K (.Tuple elts kk tp) (ItEs K b c) [N + 1, N] (N + 1) (StEs b N c) where
  mem := List.mem_cons_self ..
  obj := fun i h S x hx => by
    obtain ⟨old, e⟩ := S.en
    obtain ⟨o, eo, _, d⟩ := S.lst
    rcases two_of hx with z | z
    · rw [z]; exact ⟨_, e, fun v q => by cases q⟩
    · rw [z]; exact ⟨o, eo, fun v q => by rw [d] at q; cases q⟩
  keep := fun i h h' S k => ⟨let ⟨old, e⟩ := S.en; ⟨old, k _ (by simp) _ e⟩, S.lst.at fun o e => k _ (by simp) o e⟩
  item := by
    rintro X rfl rfl rfl hc i pins s σ H E IV hf S ⟨ys, y, hy, hi⟩
    obtain ⟨us, rv, lb, _⟩ := IV.list hy
    obtain ⟨uy, huy, ry⟩ := rv.get hi
    obtain ⟨old, e⟩ := S.en
    have nb : b ≠ N := Nat.ne_of_lt hb
    have lt0 : i < us.toArray.size := by simpa using (List.getElem?_eq_some_iff.mp huy).1
    have lt1 : N + 1 < s.heap.objs.size := Heap.lt_size e
    refine wpAny_pyNext_enum_itemC (Draws.list (A := X.A.in1) (show X.A.in1.handled = none from IV.ok.hd hc) N b nb us.toArray) e ⟨S.lst, lb.isList⟩ lt0 (Nat.succ_ne_self N) (by
      intro z
      rcases List.mem_cons.mp z with q | q
      · exact Nat.succ_ne_self N q
      · have q := List.mem_singleton.mp q
        exact absurd (Nat.lt_succ_of_lt hb) (by rw [← q]; exact Nat.lt_irrefl _)) fun x2 h' tk hx ho hs hT hsz hk => ?_
    obtain rfl : uy = x2 := Option.some.inj (huy.symm.trans (by simpa using hx))
    refine ⟨_, rfl, wpAny_letOwnedTupleGo_enum (s := { s with heap := h', toks := tk + 1 }) ho fun h3 e3 sb => ?_⟩
    have pr : h3.get? s.heap.objs.size = some { cls := .type "tuple", data := .seq #[.int (c + (i : Nat)) tk, uy] } := (sb.2 _ (Nat.ne_of_gt lt1)).trans hT
    have new : ObjOk X.prog X.w (upd H s.heap.objs.size (.tup [.int (c + (i : Nat)), y])) h3 s.heap.objs.size (.tup [.int (c + (i : Nat)), y]) :=
      ⟨by show 2 ≤ sizeLine; decide, [.int (c + (i : Nat)) tk, uy], .cons ⟨tk, rfl⟩ (.cons ry .nil), ⟨_, pr, rfl, _, rfl⟩⟩
    have J := IV.turnedNew (t' := tk + 1) (ch := [N + 1, N]) (h' := h3) (fun z o nx q => (sb.2 z (fun t => nx (by simp [t]))).trans (hk z o (fun t => nx (by simp [t])) (fun t => nx (by simp [t])) q)) hf (Nat.le_refl _) new
    refine ⟨.ref s.heap.objs.size, _, J, rfl, ⟨_, y, rfl, IV.hok.fresh (Nat.le_refl _), rfl, fun l hl => by rw [IV.list_inj hl hy]; exact hi⟩, ⟨⟨_, by rw [show c + ((i + 1 : Nat) : Int) = c + (i : Nat) + 1 by omega]; exact e3⟩, hs.1.at fun o q => (sb.2 N (Nat.ne_of_lt (Nat.lt_succ_self N))).trans q⟩, fun x hx => ?_⟩
    have lt : x < s.heap.objs.size := by
      rcases two_of hx with z | z
      · rw [z]; exact lt1
      · rw [z]; exact Nat.lt_of_succ_lt lt1
    rw [upd_ne (Nat.ne_of_lt lt)]
    exact (hf x hx).1
  done := by
    rintro X rfl rfl rfl hc i pins s σ H E IV hf S ⟨ys, hy, hend⟩
    obtain ⟨us, rv, lb, _⟩ := IV.list hy
    obtain ⟨old, e⟩ := S.en
    have nb : b ≠ N := Nat.ne_of_lt hb
    have el : us.toArray.size = i := by rw [List.size_toArray, ← rv.length, hend]
    obtain ⟨f0, f1, f2, f3, f4, f5⟩ := hf N (by simp)
    exact wpAny_pyNext_enum_endD (Draws.list (A := X.A.in1) (show X.A.in1.handled = none from IV.ok.hd hc) N b nb us.toArray) e (by rw [el]; exact ⟨S.lst, lb.isList⟩) fun h' eb => ⟨rfl, IV.turned (t' := s.toks) (fun x o hx q => eb x o hx q) f0 f1 f3 f4 f5⟩
  self := fun A i s Q E S q => let ⟨_, e⟩ := S.en; wpAny_pyIter_enum e q
def iEnumS (K : PySem.W.Frag) (ta : TA) : TI := fun σ H R => ta σ H fun vs H1 => ∃ (b : Addr) (c : Int) (ys : List V), vs = [.ref b, .int c] ∧ (-1000 ≤ c ∧ c ≤ 1000) ∧ SqL K H1 b ys ∧ R (ItEs K b c) H1
theorem pi_enumS {X : Cx} {e e2 : Expr} {ta : TA} {p pos tp : Pos} {elts : List Expr} {kk : Nat} (hm : X.mg "enumerate" = none) (ha : PA X [e, e2] ta) (hg : Gl X "enumerate" := by rfl)
    (stars : starEach [e, e2] X.env = (false, eval e X.env) :: starEach [e2] X.env := by rfl) (hpl : (backTo pos (starEach [e2] X.env)).any (·.1) = false := by rfl) :
    PI X (.Tuple elts kk tp) (.Call (.Name "enumerate" p) [e, e2] [] pos) (iEnumS X.K ta) := by
  constructor
  intro pins s σ H R IV h
  refine Call_ (ld_blt IV hg hm boot_enumerate (PyProof.Rows.callWith_type1 (thn (ha.run pos pins s σ H _ IV h) ?_) stars hpl))
  rintro us s1 ⟨vs, H1, J, r, b, c, ys, rfl, hc, hy, q⟩
  match us, r with
  | [u, u2], .cons r1 (.cons r2 .nil) =>
    obtain rfl : u = Value.ref b := r1
    obtain ⟨t, rfl⟩ := r2
    obtain ⟨its, rv, lb, _⟩ := J.list hy
    have hb : b < s1.heap.objs.size := by
      obtain ⟨o, e, _⟩ := id lb.isList
      exact Heap.lt_size e
    refine enum_begins (begins_list b its.toArray) lb.isList (by omega) (by omega) fun g g1 g2 gs kp => wpAny_pyIter_enum g1 ?_
    refine ⟨s1.heap.objs.size + 1, _, _, _, H1, rfl, J.kept (t' := s1.toks) kp, turn_es (c := c) hb, ⟨⟨_, by show IsEnum g _ _ (c + ((0 : Nat) : Int)) _; rw [Int.natCast_zero, Int.add_zero]; exact g1⟩, ⟨_, g2, rfl, rfl⟩⟩, fun x hx => ?_, q⟩
    have le : s1.heap.objs.size ≤ x := by
      rcases two_of hx with z | z
      · rw [z]; exact Nat.le_add_right ..
      · rw [z]; exact Nat.le_refl _
    exact J.fpOk le (J.hok.fresh le)
section
variable {K : PySem.W.Frag} {α β γ : Type} {E : XK} {cl : Nat → Addr} {M : List Addr} {σ : L2.St} {I : Hp} {S S' : List Cell} {te : TE} {tr : TA} {t : Ty α} {u : Ty β} {w' : Ty γ} {i j l : Nat}
theorem walk_es {p : Addr} {c : Int} {vs : List V} : Walk (ItEs K p c) vs.length (fun H => SqL K H p vs) (YPair (fun i => some (.int (c + (i : Nat)))) (fun i => vs[i]?)) :=
  ⟨fun i _ hi q => ⟨vs, vs[i], q, by simp [hi]⟩, fun _ q => ⟨vs, q, rfl⟩, fun i _ _ _ _ q ⟨T, y, e1, e2, e3, e4⟩ => ⟨T, .int _, y, e1, e2, e3, rfl, e4 vs q⟩⟩
def enF (c : Int) (xs : List α) : List (Int × α) := xs.zipIdx.map fun q => (c + ((q.2 : Nat) : Int), q.1)
theorem enF_len {c : Int} {xs : List α} : (enF c xs).length = xs.length := by unfold enF; rw [List.length_map, List.length_zipIdx]
theorem enF_at {c : Int} {xs : List α} {n : Nat} {q : Int × α} : (enF c xs)[n]? = some q ↔ q.1 = c + (n : Int) ∧ xs[n]? = some q.2 := by
  unfold enF
  rw [List.getElem?_map, List.getElem?_zipIdx]
  cases h : xs[n]? with
  | none => simp
  | some y =>
    obtain ⟨a, b⟩ := q
    simp [eq_comm]
theorem ei_EnS {xs : List α} {c : Int} (hc : -1000 ≤ c ∧ c ≤ 1000) (h : Ea E cl M tr σ I S (aC (kL K t) (aC kI a0)) (.ok (xs, c, ())) S') : Ei E cl M (iEnumS K tr) σ I S (k2 K kI t) (enF c xs) S' :=
  ⟨h.ad, fun H1 i w R q => ea_of h H1 i w _ fun us H2 e w1 r => by
    obtain ⟨v, rs, rfl, ⟨p, vs, rfl, hp, ha⟩, v2, rs2, rfl, r2, rfl⟩ := r
    obtain rfl : v2 = .int c := r2
    refine ⟨p, c, vs, rfl, hc, ex_l del_le hp, q _ H2 (fun H => SqL K H p vs) _ e w1 (by rw [enF_len, ← ha.len]; exact walk_es) (fun H' e2 => ex_l (e2.trans del_le) hp) ?_⟩
    intro i H v H' x hx e2 y
    obtain ⟨T, a, b, rfl, hT, rfl, h1, h2⟩ := y
    obtain ⟨x1, x2⟩ := enF_at.mp hx
    obtain ⟨v', hv', r⟩ := ha.at2 x2
    have h2 : vs[i]? = some b := h2
    have h1 : some (V.int (c + (i : Nat))) = some a := h1
    rw [hv'] at h2
    obtain rfl := Option.some.inj h2
    obtain rfl := Option.some.inj h1
    refine ⟨Ex.new hT, fun M' l e3 => ⟨T, _, _, rfl, st_of (del_at (fresh_not l hT) upd_same), by show V.int _ = V.int _; rw [x1], t.up (e3.trans (ex_del (Ex.new hT))) r⟩⟩⟩
/-- enumerate(list) -/
theorem walk_eL {p : Addr} {vs : List V} : Walk (Ite K p) vs.length (fun H => SqL K H p vs) (YPair (fun i => some (.int (i : Nat))) (fun i => vs[i]?)) :=
  ⟨fun i _ hi q => ⟨vs, vs[i], q, by simp [hi]⟩, fun _ q => ⟨vs, q, Nat.le_refl _⟩, fun i _ _ _ _ q ⟨T, y, e1, e2, e3, e4⟩ => ⟨T, .int _, y, e1, e2, e3, rfl, e4 vs q⟩⟩
theorem ei_EnL {xs : List α} (h : Ea E cl M tr σ I S (aC (kL K t) a0) (.ok (xs, ())) S') : Ei E cl M (iEnum K tr) σ I S (k2 K kI t) (enL xs) S' :=
  ⟨h.ad, fun H1 i w R q => ea_of h H1 i w _ fun us H2 e w1 r => by
    obtain ⟨v, rs, rfl, ⟨p, vs, rfl, hp, ha⟩, rfl⟩ := r
    refine ⟨p, vs, rfl, ex_l del_le hp, q _ H2 (fun H => SqL K H p vs) _ e w1 (by rw [enL_len, ← ha.len]; exact walk_eL) (fun H' e2 => ex_l (e2.trans del_le) hp) ?_⟩
    intro i H v H' x hx e2 y
    obtain ⟨T, a, b, rfl, hT, rfl, h1, h2⟩ := y
    obtain ⟨x1, x2⟩ := enL_at.mp hx
    obtain ⟨v', hv', r⟩ := ha.at2 x2
    have h2 : vs[i]? = some b := h2
    have h1 : some (V.int (i : Nat)) = some a := h1
    rw [hv'] at h2
    obtain rfl := Option.some.inj h2
    obtain rfl := Option.some.inj h1
    refine ⟨Ex.new hT, fun M' l e3 => ⟨T, _, _, rfl, st_of (del_at (fresh_not l hT) upd_same), by show V.int _ = V.int _; rw [x1], t.up (e3.trans (ex_del (Ex.new hT))) r⟩⟩⟩
/-- (i, j), l -/
theorem eg_2a : Eg (gTup K 2 (gCons (gTup K 2 (gCons (gName i) (gCons (gName j) gNil))) (gCons (gName l) gNil))) (k2 K (k2 K t u) w') σ (fun I x σ' => ∃ v1 v2 v3, t.r I v1 x.1.1 ∧ u.r I v2 x.1.2 ∧ w'.r I v3 x.2 ∧ σ' = ((σ.set i (some v1)).set j (some v2)).set l (some v3)) := fun v H x I r e k q => by
  obtain ⟨p, v1, v2, rfl, hp, ⟨p2, a1, a2, rfl, hp2, h1, h2⟩, h3⟩ := r
  exact ⟨p, _, rfl, ex_t e hp, rfl, _, [v2], rfl, ⟨p2, _, rfl, ex_t e hp2, rfl, a1, [a2], rfl, a2, [], rfl, rfl, v2, [], rfl, rfl, q _ ⟨a1, a2, v2, h1, h2, h3, rfl⟩⟩⟩
end
end Rw
/-! a new list by a comprehension, kept in the making; extend -/
namespace Rw
open PySem PySem.Spec PyProof.Rows L2 Evl
section
variable {K : PySem.W.Frag} {α β γ R : Type} {E : XK} {cl : Nat → Addr} {M : List Addr} {σ : L2.St} {I H : Hp} {S S' S1 : List Cell} {te ta tb : TE} {tt : TT} {tr : TA} {t : Ty α} {u : Ty β} {P : R → Prop} {D : Ends} {tz tu : TS} {xs : List α}
theorem g_asgLc {wi : TI} {g : TG} {vs : List Nat} {B : Hp → α → L2.St → Prop} {i : Nat} {k : List β → R} (c : α → Bool) (f : α → β) (w : Holds M S H) (o : P (lt ((xs.filter c).map f) k)) (hi : Ei E cl M wi σ (del M H) S t xs S1) (hz : xs.length ≤ 100000 - 1)
    (hg : Eg g t (wipe σ vs) B) (hw : ∀ I x σ', B I x σ' → wipe σ' vs = wipe σ vs)
    (ht : ∀ M' S' I' x σ', Ex (del M H) I' → x ∈ xs → B I' x σ' → Et E cl M' tt σ' I' S' (.ok (c x)) S') (he : ∀ M' S' I' x σ', Ex (del M H) I' → x ∈ xs → c x = true → B I' x σ' → Em E cl M' te σ' I' S' u (.ok (f x)) S')
    (ct : ∀ acc p H2, acc = (xs.filter c).map f → P (k acc) → H p = none → Gr M S H H2 → Holds (p :: M) (cL p u acc :: S1) H2 → Ex (del M H) (del (p :: M) H2) → tz D (σ.set i (some (.ref p))) H2) :
    tSeq (tAsg (tLc wi g tt te vs) (gName i)) tz D σ H := by
  refine hi.run H (Ex.refl _) w _ fun J H2 G Y e2 w2 wk gG gY A hA => ?_
  have aM : A ∉ M := fresh_not w2.live hA
  let acc : Nat → List β := fun n => ((xs.take n).filter c).map f
  let Pv : Nat → Hp → Prop := fun n H' => Holds (A :: M) (cL A u (acc n) :: S1) H' ∧ Ex (del (A :: ads S1) (upd H2 A (.lst []))) (del (A :: ads S1) H')
  have toM : ∀ {n H'}, Pv n H' → Ex (del M H2) (del (A :: M) H') := fun {n H'} p => by
    refine ex_lone (o := .lst []) hA (ex_sub (A := A :: ads S1) (fun a h => ?_) p.2)
    rcases List.mem_cons.mp h with z | z
    · exact z ▸ List.mem_cons_self
    · exact List.mem_cons_of_mem _ (w2.sub a z)
  have few : ∀ n, n < xs.length → (acc n).length < 100000 := fun n hn => by
    have h1 : ((xs.take n).filter c).length ≤ (xs.take n).length := List.length_filter_le _ _
    have h2 : (acc n).length = ((xs.take n).filter c).length := List.length_map _
    rw [List.length_take] at h1
    omega
  refine lc_it wk Pv ⟨?_, Ex.refl _⟩ (fun n H' hn p => gG H' ((toM p).trans del_le2)) (fun n v Hx Hy hn p y => ?_) (fun H' p => ?_)
  · exact w2.new (c := cL A u []) hA (Ex.new hA) upd_same ⟨[], rfl, .nil⟩
  · obtain ⟨x, hx⟩ : ∃ x, xs[n]? = some x := ⟨xs[n], by simp [hn]⟩
    have xm : x ∈ xs := List.mem_of_getElem? hx
    obtain ⟨eH, rv⟩ := gY n Hx v Hy x hx ((toM p).trans del_le2) y
    have rx := rv (A :: M) p.1.live (toM p)
    have wy := p.1.ex eH
    have i1 : Ex (del M H) (del (A :: M) Hy) := ((w.grow e2).trans (toM p)).trans (ex_del eH)
    refine hg v Hy x _ rx del_le _ fun σ' b => ⟨hw _ x σ' b, ?_⟩
    have tk : xs.take (n + 1) = xs.take n ++ [x] := by rw [List.take_add_one, hx]; rfl
    have fr : Ex (del (A :: ads S1) (upd H2 A (.lst []))) (del (A :: ads S1) Hy) := p.2.trans (ex_del eH)
    refine et_of (ht _ _ _ x σ' i1 xm b) Hy (Ex.refl _) wy _ fun H3 e3 w3 => ?_
    cases hc : c x with
    | true =>
      rw [if_pos rfl]
      refine em_of (he _ _ _ x σ' i1 xm hc b) H3 (wy.grow e3) w3 _ fun vy H4 e4 w4 r4 => ?_
      obtain ⟨_, o4, h4, ys, rfl, a4⟩ := w4.at_ _ List.mem_cons_self
      refine ⟨ys, h4, by rw [All2.len a4]; exact sz_lt (few n hn), ?_, ?_⟩
      · have nx : acc (n + 1) = acc n ++ [f x] := by
          show ((xs.take (n + 1)).filter c).map f = _
          rw [tk, List.filter_append, List.filter_cons_of_pos hc]
          simp [acc]
        show Holds (A :: M) (cL A u (acc (n + 1)) :: S1) _
        rw [nx]
        exact w4.put (k := 0) (c := cL A u (acc n)) (c' := cL A u (acc n ++ [f x])) rfl rfl ⟨_, rfl, a4.app (.one r4)⟩
      · rw [show del (A :: ads S1) (upd H4 A (.lst (ys ++ [vy]))) = del (A :: ads S1) H4 from del_upd List.mem_cons_self]
        exact (fr.trans e3).trans e4
    | false =>
      rw [if_neg Bool.false_ne_true]
      refine ⟨?_, fr.trans e3⟩
      have nx : acc (n + 1) = acc n := by
        show ((xs.take (n + 1)).filter c).map f = _
        rw [tk, List.filter_append, List.filter_cons_of_neg (by rw [hc]; exact Bool.false_ne_true)]
        simp [acc]
      rw [nx]
      exact w3
  · have al : acc xs.length = (xs.filter c).map f := by show ((xs.take xs.length).filter c).map f = _; rw [List.take_length]
    obtain ⟨pw, pe⟩ := p
    rw [al] at pw
    have g1 : Ex (del (ads S) H) (del (ads S) H') := by
      rw [← hi.ad]
      rw [← hi.ad] at e2
      exact e2.trans ((ex_lone (M := ads S1) hA pe).trans del_le2)
    have fresh : H A = none := by
      cases q : H A with
      | none => rfl
      | some ob =>
        have z := (del_some.mp (w.grow e2 A ob (del_some.mpr ⟨aM, q⟩))).2
        rw [hA] at z; cases z
    exact ct _ A H' rfl o fresh (.of w g1) pw ((w.grow e2).trans (ex_lone (M := M) hA (ex_sub (A := A :: ads S1) (fun a h => (List.mem_cons.mp h).elim (fun z => z ▸ List.mem_cons_self) fun z => List.mem_cons_of_mem _ (w2.sub a z)) pe)))
/-- p.extend(a new list), p in the making -/
theorem g_ext {n : Nat} {p : Addr} {acc0 acc ys : List α} {k : List α → R} (w : Holds M S H) (o : P (lt (acc ++ ys) k)) (ha : Em E cl M ta σ (del M H) S (kPtr p) (.ok ()) S) (h : Em E cl M te σ (del M H) S (kX t) (.ok ys) S') (hk0 : S[n]? = some (cL p t acc0)) (hk : S'[n]? = some (cL p t acc)) (hz : acc.length + ys.length ≤ 100000)
    (c : ∀ acc' H2, acc' = acc ++ ys → P (k acc') → Gr M S H H2 → Holds M (S'.set n (cL p t acc')) H2 → tz D σ H2) : tSeq (tDrop (tBM K "list" rExtend ta (tCons te tNil))) tz D σ H := by
  refine em_of ha H (Ex.refl _) w _ fun v H1 e1 w1 r1 => ?_
  obtain rfl : v = .ref p := r1
  obtain ⟨_, o1, h1, vs1, rfl, _⟩ := w1.at_ _ (List.mem_of_getElem? hk0)
  refine ⟨Or.inl ⟨rfl, vs1, sq_of h1⟩, em_of h H1 (w.grow e1) w1 _ fun v2 H2 e2 w2 r2 => ?_⟩
  obtain ⟨pM, o2, h2, vs2, rfl, a2⟩ := w2.at_ _ (List.mem_of_getElem? hk)
  have pM : p ∈ M := pM
  have pS : p ∈ ads S := by rw [← h.ad]; exact List.mem_map.mpr ⟨_, List.mem_of_getElem? hk, rfl⟩
  obtain ⟨q, zs, rfl, hq, az⟩ := r2
  refine ⟨p, q, vs2, zs, rfl, rfl, h2, (del_some.mp hq).2, sz_of (by rw [a2.len, az.len]; exact hz), ?_⟩
  refine c _ _ rfl o ⟨?_, ?_⟩ (w2.put hk rfl ⟨_, rfl, a2.app az⟩)
  · rw [del_upd pS]
    exact e1.trans e2
  · rw [del_upd pM]
    exact (w.grow e1).trans (w1.grow e2)
end
/-! orders -/
section
variable {K : PySem.W.Frag}
def sortI (xs : List Int) : List Int := xs.mergeSort fun a b => decide (a ≤ b)
theorem o_sortI {xs : List Int} : OpN (rSortD K) (aC (kL K kI) a0) (xs, ()) (kX kI) (sortI xs) := by
  have h := o_sortD (K := K) (xs := xs) dI (by decide) (fun x _ y _ => by simp [dI, PySem.W.alike]) (.inr fun d hd => by
    obtain ⟨x, _, rfl⟩ := List.mem_map.mp hd
    exact ⟨fun z => (by cases z), fun _ z => (by cases z)⟩)
  have e : leQ (dI (K := K)) = fun a b => decide (a ≤ b) := PySem.W.dataLe_int fun x : Int => x
  rw [e] at h
  exact h
/-- pairs with numbers -/
def leN (p q : (Int × Int) × Int) : Bool := decide (p.1.1 < q.1.1 ∨ (p.1.1 = q.1.1 ∧ (p.1.2 < q.1.2 ∨ (p.1.2 = q.1.2 ∧ p.2 ≤ q.2))))
def sortN (xs : List ((Int × Int) × Int)) : List ((Int × Int) × Int) := xs.mergeSort leN
theorem o_sortN {xs : List ((Int × Int) × Int)} : OpN (rSortD K) (aC (kL K (k2 K (k2 K kI kI) kI)) a0) (xs, ()) (kX (k2 K (k2 K kI kI) kI)) (sortN xs) := by
  have h := o_sortD (K := K) (xs := xs) (d2 (d2 dI dI) dI) (by decide) (fun x _ y _ => by simp [d2, dI, PySem.W.alike, PySem.W.alikeAll]) (.inl fun d hd => by
    obtain ⟨x, _, rfl⟩ := List.mem_map.mp hd
    exact ⟨_, _, rfl⟩)
  have e : leQ (d2 (K := K) (d2 dI dI) dI) = leN := by
    funext p q
    show (!PySem.W.dataLt (.tuple [.tuple [.int q.1.1, .int q.1.2], .int q.2]) (.tuple [.tuple [.int p.1.1, .int p.1.2], .int p.2])) = leN p q
    rw [PySem.W.dataLt_pair (by simp [PySem.W.alike, PySem.W.alikeAll]) (by simp [PySem.W.alike]), PySem.W.dataLt_ii, PySem.W.dataLt_int]
    simp only [PyData.eqv, PyData.eqvAll, Bool.and_true, Bool.and_eq_true, beq_iff_eq]
    unfold leN
    by_cases c1 : q.1.1 = p.1.1 ∧ q.1.2 = p.1.2
    · rw [if_pos c1]
      by_cases c2 : q.2 = p.2
      · rw [if_pos c2, decide_eq_true (by omega)]
        rfl
      · rw [if_neg c2, Bool.eq_iff_iff]
        simp only [Bool.not_eq_true', decide_eq_false_iff_not, decide_eq_true_eq]
        omega
    · rw [if_neg c1, Bool.eq_iff_iff]
      simp only [Bool.not_eq_true', decide_eq_false_iff_not, decide_eq_true_eq]
      omega
  rw [e] at h
  exact h
end
end Rw
/-! a comprehension over a list that is in the making -/
namespace Rw
open PySem PySem.Spec PyProof.Rows L2 Evl
theorem hold_one {N : List Addr} {c : Cell} {S : List Cell} {H : Hp} (w : Holds N (c :: S) H) : Holds N [c] H :=
  ⟨fun x hx => by rw [List.mem_singleton.mp hx]; exact w.at_ c List.mem_cons_self, by simp [ads], w.live⟩
theorem hold_ext {N : List Addr} {c c' : Cell} {S : List Cell} {H3 H4 : Hp} (w : Holds N (c :: S) H3) (w4 : Holds N [c'] H4) (ea : c'.a = c.a) (e : Ex (del [c.a] H3) (del [c.a] H4)) : Holds N (c' :: S) H4 := by
  have cN : c.a ∈ N := (w.at_ c List.mem_cons_self).1
  have one := w.one
  have nd : c.a ∉ ads S := (List.nodup_cons.mp (show (c.a :: ads S).Nodup from one)).1
  have go : Ex (del N H3) (del N H4) := fun a o h => by
    obtain ⟨n, h3⟩ := del_some.mp h
    have ne : a ∉ [c.a] := fun z => n (by rw [List.mem_singleton.mp z]; exact cN)
    exact del_some.mpr ⟨n, (del_some.mp (e a o (del_some.mpr ⟨ne, h3⟩))).2⟩
  refine ⟨fun x hx => ?_, ?_, w4.live⟩
  · rcases List.mem_cons.mp hx with z | z
    · rw [z]; exact w4.at_ c' List.mem_cons_self
    · obtain ⟨m, o, h, r⟩ := w.at_ x (List.mem_cons_of_mem _ z)
      have ne : x.a ∉ [c.a] := fun q => nd (by rw [← List.mem_singleton.mp q]; exact List.mem_map.mpr ⟨x, z, rfl⟩)
      exact ⟨m, o, (del_some.mp (e _ o (del_some.mpr ⟨ne, h⟩))).2, x.up go r⟩
  · show (c'.a :: ads S).Nodup
    rw [ea]
    exact one
section
variable {K : PySem.W.Frag} {α β γ R : Type} {E : XK} {cl : Nat → Addr} {M : List Addr} {σ : L2.St} {I H : Hp} {S S' S1 : List Cell} {te ta tb : TE} {tt : TT} {tr : TA} {t : Ty α} {u : Ty β} {P : R → Prop} {D : Ends} {tz tu : TS} {xs : List α}
theorem em_lcC {g : TG} {vs : List Nat} {B : Hp → α → L2.St → Prop} {n : Nat} {p : Addr} (c : α → Bool) (f : α → β) (ha : Em E cl M ta σ I S (kPtr p) (.ok ()) S) (hk : S[n]? = some (cL p t xs)) (hz : xs.length ≤ 100000 - 1)
    (hg : Eg g t (wipe σ vs) B) (hw : ∀ I x σ', B I x σ' → wipe σ' vs = wipe σ vs)
    (ht : ∀ M' S' I' x σ', Ex I I' → x ∈ xs → B I' x σ' → Et E cl M' tt σ' I' S' (.ok (c x)) S') (he : ∀ M' S' I' x σ', Ex I I' → x ∈ xs → c x = true → B I' x σ' → Em E cl M' te σ' I' S' u (.ok (f x)) S') :
    Em E cl M (tLc (iList K ta) g tt te vs) σ I S (kX u) (.ok ((xs.filter c).map f)) S := by
  refine em_mk rfl fun H0 i0 w0 Q q => em_of ha H0 i0 w0 _ fun v0 H2 e2 w2 r0 => ?_
  obtain rfl : v0 = .ref p := r0
  obtain ⟨pM, o2, h2, us, rfl, a2⟩ := w2.at_ _ (List.mem_of_getElem? hk)
  have pM : p ∈ M := pM
  have h2 : H2 p = some (.lst us) := h2
  have ul : us.length = xs.length := a2.len
  refine ⟨p, rfl, ⟨us, sq_of h2⟩, fun A hA => ?_⟩
  have aM : A ∉ M := fresh_not w2.live hA
  have pA : p ≠ A := fun z => aM (z ▸ pM)
  let acc : Nat → List β := fun n => ((xs.take n).filter c).map f
  let Pv : Nat → Hp → Prop := fun n H' => Holds (A :: M) (cL A u (acc n) :: S) H' ∧ Ex (del (A :: ads S) (upd H2 A (.lst []))) (del (A :: ads S) H') ∧ H' p = some (.lst us)
  have toM : ∀ {n H'}, Pv n H' → Ex (del M H2) (del (A :: M) H') := fun {n H'} p => by
    refine ex_lone (o := .lst []) hA (ex_sub (A := A :: ads S) (fun a h => ?_) p.2.1)
    rcases List.mem_cons.mp h with z | z
    · exact z ▸ List.mem_cons_self
    · exact List.mem_cons_of_mem _ (w2.sub a z)
  have few : ∀ n, n < us.length → (acc n).length < 100000 := fun n hn => by
    have h1 : ((xs.take n).filter c).length ≤ (xs.take n).length := List.length_filter_le _ _
    have h2 : (acc n).length = ((xs.take n).filter c).length := List.length_map _
    rw [List.length_take] at h1
    omega
  refine lc_it (walk_list (xs := us)) Pv ⟨?_, Ex.refl _, by rw [upd_ne pA]; exact h2⟩ (fun n H' hn q => sq_of q.2.2) (fun n v Hx Hy hn q y => ?_) (fun H' q2 => ?_)
  · exact w2.new (c := cL A u []) hA (Ex.new hA) upd_same ⟨[], rfl, .nil⟩
  · obtain ⟨rfl, hv⟩ := y
    have hn' : n < xs.length := by omega
    obtain ⟨x, hx⟩ : ∃ x, xs[n]? = some x := ⟨xs[n], by simp [hn']⟩
    have xm : x ∈ xs := List.mem_of_getElem? hx
    obtain ⟨v', hv', rr⟩ := a2.at2 hx
    rw [hv] at hv'
    obtain rfl := Option.some.inj hv'
    have rx : t.r (del (A :: M) Hy) v x := t.up (toM q) rr
    have i1 : Ex I (del (A :: M) Hy) := (i0.trans (w0.grow e2)).trans (toM q)
    refine hg v Hy x _ rx del_le _ fun σ' b => ⟨hw _ x σ' b, ?_⟩
    have tk : xs.take (n + 1) = xs.take n ++ [x] := by rw [List.take_add_one, hx]; rfl
    have w1 := hold_one q.1
    have big : ∀ {Ha Hb : Hp}, Ex (del [A] Ha) (del [A] Hb) → Ex (del (A :: ads S) Ha) (del (A :: ads S) Hb) := fun {Ha Hb} e => ex_sub (A := [A]) (fun a h => by rw [List.mem_singleton.mp h]; exact List.mem_cons_self) e
    refine et_of (ht _ _ _ x σ' i1 xm b) Hy (Ex.refl _) w1 _ fun H3 e3 w3 => ?_
    have p3 : H3 p = some (.lst us) := (del_some.mp (e3 p _ (del_some.mpr ⟨fun z => pA (List.mem_singleton.mp z), q.2.2⟩))).2
    have w3a := hold_ext q.1 w3 rfl e3
    cases hc : c x with
    | true =>
      rw [if_pos rfl]
      refine em_of (he _ _ _ x σ' i1 xm hc b) H3 (w1.grow e3) w3 _ fun vy H4 e4 w4 r4 => ?_
      have w4a := hold_ext w3a w4 rfl e4
      have p4 : H4 p = some (.lst us) := (del_some.mp (e4 p _ (del_some.mpr ⟨fun z => pA (List.mem_singleton.mp z), p3⟩))).2
      obtain ⟨_, o4, h4, ys, rfl, a4⟩ := w4a.at_ _ List.mem_cons_self
      refine ⟨ys, h4, by rw [All2.len a4]; exact sz_lt (few n hn), ?_, ?_, by rw [upd_ne pA]; exact p4⟩
      · have nx : acc (n + 1) = acc n ++ [f x] := by
          show ((xs.take (n + 1)).filter c).map f = _
          rw [tk, List.filter_append, List.filter_cons_of_pos hc]
          simp [acc]
        show Holds (A :: M) (cL A u (acc (n + 1)) :: S) _
        rw [nx]
        exact w4a.put (k := 0) (c := cL A u (acc n)) (c' := cL A u (acc n ++ [f x])) rfl rfl ⟨_, rfl, a4.app (.one r4)⟩
      · rw [show del (A :: ads S) (upd H4 A (.lst (ys ++ [vy]))) = del (A :: ads S) H4 from del_upd List.mem_cons_self]
        exact (q.2.1.trans (big e3)).trans (big e4)
    | false =>
      rw [if_neg Bool.false_ne_true]
      refine ⟨?_, q.2.1.trans (big e3), p3⟩
      have nx : acc (n + 1) = acc n := by
        show ((xs.take (n + 1)).filter c).map f = _
        rw [tk, List.filter_append, List.filter_cons_of_neg (by rw [hc]; exact Bool.false_ne_true)]
        simp [acc]
      rw [nx]
      exact w3a
  · have al : acc us.length = (xs.filter c).map f := by show ((xs.take us.length).filter c).map f = _; rw [ul, List.take_length]
    obtain ⟨pw, pe, _⟩ := q2
    rw [al] at pw
    obtain ⟨_, o4, h4, ys, rfl, a4⟩ := pw.at_ _ List.mem_cons_self
    exact q _ H' (e2.trans ((ex_lone (M := ads S) hA pe).trans del_le2)) (pw.drop (c := cL A u _) aM) ⟨A, ys, rfl, del_at aM h4, all2_up u del_le2 a4⟩
end
end Rw
/-! min of a list of pairs; range with a step; comprehensions over a dict's keys -/
namespace Rw
open PySem PySem.Spec PyProof.Rows L2 Evl
open PySem.W (DatumOrd HoldAll)
/-- the least of pairs -/
def minP : List (Int × Int) → Int × Int
  | [] => (0, 0)
  | x :: xs => PySem.W.minOf x xs
def encP (p : Int × Int) : PyData := .tuple [.int p.1, .int p.2]
def rMinP (K : PySem.W.Frag) : List V → Hp → VK → Prop := fun us H Q => ∃ (a : Addr) (zs : List (V × (Int × Int))), us = [.ref a] ∧ SqL K H a (zs.map (·.1)) ∧ (∀ z ∈ zs, Dp K H z.1 (encP z.2)) ∧ zs ≠ [] ∧ ∀ z ∈ zs, z.2 = minP (zs.map (·.2)) → Q z.1 H
theorem dp_zip {K : PySem.W.Frag} {H : Hp} : ∀ {zs : List (V × (Int × Int))}, (∀ z ∈ zs, Dp K H z.1 (encP z.2)) → DpAll K H (zs.map (·.1)) ((zs.map (·.2)).map encP)
  | [], _ => .nil
  | z :: zs, h => .cons (h z List.mem_cons_self) (dp_zip fun y m => h y (List.mem_cons_of_mem _ m))
theorem cr_minP {X : Cx} {K : PySem.W.Frag} (hc : X.calm = true) (hu : X.A.units + 64 < cLine) (hK : X.K = K := by rfl) : CallR X (.builtin "min") (rMinP K) := by
  subst hK
  intro pn s σ H ws us Q IV rr hh
  obtain ⟨a, zs, rfl, hs, hd, ne, q⟩ := hh
  obtain ⟨its, rv, hl, hz⟩ := IV.list hs
  obtain ⟨u, rfl, ru⟩ := vals1 rr
  obtain rfl : u = Value.ref a := ru
  obtain ⟨as, ra⟩ := Dp.readsAll IV _ _ _ (dp_zip hd) rv
  cases zs with
  | nil => exact absurd rfl ne
  | cons z zr =>
    have ha : HoldAll s.heap its (z.2 :: zr.map (·.2)) := ⟨as, ra⟩
    refine PySem.W.min_list_datum (α := Int × Int) (IV.ok.hd hc) hl.isList ha (Nat.lt_of_le_of_lt (Nat.add_le_add_left (show 1 + (max 0 0 + 1) ≤ 64 by decide) _) hu) fun i v h' tk hi hv hk => ?_
    have hi : its[i]? = some v := by simpa using hi
    have len := rv.length
    have il : i < (z :: zr).length := by
      have := (List.getElem?_eq_some_iff.mp hi).1
      rw [← len, List.length_map] at this
      exact this
    obtain ⟨w, hw, rw_⟩ := rv.get (i := i) (x := ((z :: zr)[i]).1) (by rw [List.getElem?_map, List.getElem?_eq_getElem il]; rfl)
    rw [hi] at hw
    obtain rfl := Option.some.inj hw
    have mi : (z :: zr)[i] ∈ z :: zr := List.getElem_mem il
    obtain ⟨bs, rb⟩ := Dp.reads IV _ _ _ (hd _ mi) rw_
    obtain ⟨cs, rc⟩ := hv
    have e := (PyProof.Rows.reads_det (fun b o x _ => hk b o x) rb rc).1
    have e : encP (PySem.W.minOf z.2 (zr.map (·.2))) = encP ((z :: zr)[i]).2 := e
    have ee : ((z :: zr)[i]).2 = PySem.W.minOf z.2 (zr.map (·.2)) := by
      unfold encP at e
      simp only [PyData.tuple.injEq, List.cons.injEq, PyData.int.injEq, and_true] at e
      exact Prod.ext e.1.symm e.2.symm
    exact ⟨((z :: zr)[i]).1, H, IV.kept hk, rw_, q _ mi ee⟩
section
variable {K : PySem.W.Frag} {α β γ : Type} {E : XK} {cl : Nat → Addr} {M : List Addr} {σ : L2.St} {I : Hp} {S S' : List Cell} {te : TE} {tr : TA} {t : Ty α}
theorem o_minP {xs : List (Int × Int)} (h : xs ≠ []) : OpN (rMinP K) (aC (kL K (k2 K kI kI)) a0) (xs, ()) (k2 K kI kI) (minP xs) := fun M us H lv a Q q => by
  obtain ⟨v, r, rfl, ⟨p, vs, rfl, hp, ha⟩, rfl⟩ := a
  obtain ⟨zs, rfl, rfl, hz⟩ := all2_zip ha
  refine ⟨p, zs, rfl, ex_l del_le hp, fun z m => dp_upM del_le _ _ ((d2 (K := K) dI dI).dp (hz z m)).1, fun e => h (by rw [e]; rfl), fun z m e => q _ H (Ex.refl H) ?_⟩
  rw [← e]
  exact hz z m
theorem minP_facts : ∀ (xs : List (Int × Int)) (x : Int × Int), (PySem.W.minOf x xs = x ∨ PySem.W.minOf x xs ∈ xs) ∧ leP (PySem.W.minOf x xs) x = true ∧ ∀ z ∈ xs, leP (PySem.W.minOf x xs) z = true
  | [], x => ⟨.inl rfl, by show leP x x = true; unfold leP; simp, fun z m => (nomatch m)⟩
  | y :: xs, x => by
    have l : ∀ a b : Int × Int, DatumOrd.lt a b = decide (a.1 < b.1 ∨ (a.1 = b.1 ∧ a.2 < b.2)) := fun a b => by
      have := PySem.W.dataLt_ii a.1 a.2 b.1 b.2
      rw [← this]
      exact (DatumOrd.lt_eq a b).symm
    have tr : ∀ a b c : Int × Int, leP a b = true → leP b c = true → leP a c = true := fun a b c h k => by
      unfold leP at *
      simp only [decide_eq_true_eq] at *
      omega
    have e : PySem.W.minOf x (y :: xs) = PySem.W.minOf (if DatumOrd.lt y x = true then y else x) xs := rfl
    rw [e]
    by_cases c : DatumOrd.lt y x = true
    · rw [if_pos c]
      obtain ⟨a, b, d⟩ := minP_facts xs y
      have yx : leP y x = true := by
        rw [l] at c
        unfold leP
        simp only [decide_eq_true_eq] at *
        omega
      refine ⟨.inr (a.elim (fun z => by rw [z]; exact List.mem_cons_self) fun z => List.mem_cons_of_mem _ z), tr _ _ _ b yx, fun z m => ?_⟩
      rcases List.mem_cons.mp m with w | w
      · rw [w]; exact b
      · exact d z w
    · rw [if_neg c]
      obtain ⟨a, b, d⟩ := minP_facts xs x
      have xy : leP x y = true := by
        rw [l] at c
        unfold leP
        simp only [decide_eq_true_eq] at *
        omega
      refine ⟨a.elim .inl fun z => .inr (List.mem_cons_of_mem _ z), b, fun z m => ?_⟩
      rcases List.mem_cons.mp m with w | w
      · rw [w]; exact tr _ _ _ b xy
      · exact d z w
/-! a range with a step -/
def stepR (lo hi c : Int) : List Int := (List.range (Builtin.Range.rangeSize lo hi c).toNat).map fun (k : Nat) => lo + (k : Int) * c
theorem stepR_mem {lo hi c x : Int} (hc : 1 ≤ c) : x ∈ stepR lo hi c ↔ lo ≤ x ∧ x < hi ∧ ∃ k : Int, x = lo + k * c := by
  unfold stepR
  rw [List.mem_map]
  have e : lo < hi → Builtin.Range.rangeSize lo hi c = (hi - lo - 1) / c + 1 := fun h => by unfold Builtin.Range.rangeSize; rw [if_pos (by omega), if_pos h]
  have e0 : ¬ lo < hi → Builtin.Range.rangeSize lo hi c = 0 := fun h => by unfold Builtin.Range.rangeSize; rw [if_pos (by omega), if_neg h]
  constructor
  · rintro ⟨k, mk, rfl⟩
    rw [List.mem_range] at mk
    by_cases h : lo < hi
    · rw [e h] at mk
      have q : (k : Int) ≤ (hi - lo - 1) / c := by omega
      have q2 := Int.mul_le_mul_of_nonneg_right q (show 0 ≤ c by omega)
      have q3 : (hi - lo - 1) / c * c ≤ hi - lo - 1 := Int.ediv_mul_le _ (by omega)
      have q4 := Int.mul_nonneg (Int.natCast_nonneg k) (show 0 ≤ c by omega)
      exact ⟨by omega, by omega, k, rfl⟩
    · rw [e0 h] at mk; simp at mk
  · rintro ⟨h1, h2, k, rfl⟩
    have k0 : 0 ≤ k := by
      by_cases z : 0 ≤ k
      · exact z
      · have : k * c < 0 := Int.mul_neg_of_neg_of_pos (by omega) (by omega)
        omega
    have le : k ≤ (hi - lo - 1) / c := (Int.le_ediv_iff_mul_le (by omega)).mpr (by omega)
    refine ⟨k.toNat, ?_, by rw [Int.toNat_of_nonneg k0]⟩
    rw [List.mem_range, e (by omega)]
    omega
theorem stepR_lt {lo hi c : Int} (hc : 1 ≤ c) : (stepR lo hi c).Pairwise (· < ·) := by
  unfold stepR
  refine List.pairwise_map.mpr (List.pairwise_lt_range.imp fun {a b} h => ?_)
  have := Int.mul_lt_mul_of_pos_right (show (a : Int) < (b : Int) by omega) (show 0 < c by omega)
  omega
theorem walk_rc {lo c : Int} {n : Nat} : Walk (Itc lo c n) n (fun _ => True) (fun i H x H' => H' = H ∧ x = .int (lo + (i : Nat) * c)) :=
  ⟨fun i _ h _ => h, fun _ _ => Nat.le_refl _, fun _ _ _ _ _ _ y => y⟩
theorem ei_R3 {lo hi c : Int} (h : Ea E cl M tr σ I S (aC kI (aC kI (aC kI a0))) (.ok (lo, hi, c, ())) S') (hc : 1 ≤ c ∧ c < 1000000) (hb : Builtin.Range.small lo hi c = true) : Ei E cl M (iRng3 tr) σ I S kI (stepR lo hi c) S' :=
  ⟨h.ad, fun H1 i w R q => ea_of h H1 i w _ fun us H2 e w1 r => by
    obtain ⟨v1, r1, rfl, g1, v2, r2, rfl, g2, v3, r3, rfl, g3, rfl⟩ := r
    obtain rfl : v1 = .int lo := g1
    obtain rfl : v2 = .int hi := g2
    obtain rfl : v3 = .int c := g3
    refine ⟨lo, hi, c, (Builtin.Range.rangeSize lo hi c).toNat, rfl, ⟨by omega, by omega, hb, rangeSize_toNat lo hi c⟩, q _ H2 (fun _ => True) _ e w1 (by unfold stepR; rw [List.length_map, List.length_range]; exact walk_rc) (fun _ _ => trivial) ?_⟩
    intro i H v H' x hx e2 y
    obtain ⟨rfl, rfl⟩ := y
    unfold stepR at hx
    rw [List.getElem?_map] at hx
    cases g : (List.range (Builtin.Range.rangeSize lo hi c).toNat)[i]? with
    | none => rw [g] at hx; cases hx
    | some k =>
      rw [g] at hx
      have hx : some (lo + (k : Int) * c) = some x := hx
      have ki : k = i := by
        rw [List.getElem?_eq_some_iff] at g
        obtain ⟨_, g⟩ := g
        rw [List.getElem_range] at g
        exact g.symm
      subst ki
      exact ⟨Ex.refl _, fun M' l e3 => by show V.int _ = V.int x; rw [Option.some.inj hx]⟩⟩
end
end Rw
namespace Rw
open PySem PySem.Spec PyProof.Rows L2 Evl
section
variable {K : PySem.W.Frag} {E : XK} {cl : Nat → Addr} {M : List Addr} {σ : L2.St} {I : Hp} {S : List Cell}
theorem walk_ks {p : Addr} {od : Obj} {kvs : List (Key × V)} : Walk (Itk p od kvs) kvs.length (fun H => H p = some (.frz od (.dK kvs))) (fun i H x H' => H' = H ∧ ∃ k v, kvs[i]? = some (k, v) ∧ x = kV k) :=
  ⟨fun i _ hi q => ⟨q, hi⟩, fun _ q => ⟨q, Nat.le_refl _⟩, fun _ _ _ _ _ _ y => y⟩
/-- the keys of a dict for which a test of another holds -/
theorem em_lcD {i j kk : Nat} {vs : List Nat} {v1 v2 : V} {l l2 : List (Int × Int)} {tD : TE} {c : Bool → Bool} (hi : σ[i]? = some (some v1)) (r1 : kDN.r I v1 l) (r2 : kDN.r I v2 l2)
    (hw : ∀ x, wipe ((wipe σ vs).set j (some x)) vs = wipe σ vs) (hj : ∀ x, ((wipe σ vs).set j (some x))[j]? = some (some x)) (hk : ∀ x, ((wipe σ vs).set j (some x))[kk]? = some (some v2)) (hz : l.length ≤ 100000 - 1)
    (hD : ∀ σ' H a kvs key Q, σ'[j]? = some (some (kV key)) → σ'[kk]? = some (some (.ref a)) → Rd H a (.dK kvs) → Q (.bl (c (valV kvs key).isSome)) H → tD σ' H Q) :
    Em E cl M (tLockE (tLc (iKeys (tVar i)) (gName j) (tB tD) (tVar j) vs)) σ I S (kX kI) (.ok ((l.map (·.1)).filter fun x => c (l2.lookup x).isSome)) S := by
  refine em_mk rfl fun H1 i1 w Q q => ?_
  obtain ⟨p, rfl, g1⟩ := r1
  obtain ⟨p2, rfl, g2⟩ := r2
  have h1 : H1 p = some (.dK (l.map pairV)) := (del_some.mp (i1 _ _ g1)).2
  have h2 : H1 p2 = some (.dK (l2.map pairV)) := (del_some.mp (i1 _ _ g2)).2
  refine ⟨p, _, h1, trivial, fun od => ⟨.ref p, hi, p, od, rfl, .inl ⟨_, upd_same, fun A hA => ?_⟩⟩⟩
  have Ap : A ≠ p := fun z => by rw [z, upd_same] at hA; cases hA
  have hA1 : H1 A = none := by rw [upd_ne Ap] at hA; exact hA
  have aM : A ∉ M := fresh_not w.live hA1
  let acc : Nat → List Int := fun n => ((l.map (·.1)).take n).filter fun x => c (l2.lookup x).isSome
  let HL : Hp := upd H1 p (.frz od (.dK (l.map pairV)))
  let Pv : Nat → Hp → Prop := fun n H' => H' A = some (.lst ((acc n).map V.int)) ∧ ∀ b, b ≠ A → H' b = HL b
  have hlp : HL p = some (.frz od (.dK (l.map pairV))) := upd_same
  have few : ∀ n, (acc n).length ≤ l.length := fun n => by
    have a := List.length_filter_le (fun x => c (l2.lookup x).isSome) ((l.map (·.1)).take n)
    rw [List.length_take, List.length_map] at a
    show ((l.map (·.1)).take n |>.filter _).length ≤ _
    omega
  refine lc_it (walk_ks (od := od) (kvs := l.map pairV)) Pv ⟨upd_same, fun b nb => upd_ne nb⟩ (fun n H' _ q => (q.2 p (Ne.symm Ap)).trans hlp) (fun n v Hx Hy hn q y => ?_) (fun H' q2 => ?_)
  · obtain ⟨rfl, k, v0, hkv, rfl⟩ := y
    rw [List.getElem?_map] at hkv
    obtain ⟨e, he, hpe⟩ : ∃ e, l[n]? = some e ∧ pairV e = (k, v0) := by
      cases g : l[n]? with
      | none => rw [g] at hkv; cases hkv
      | some e => rw [g] at hkv; exact ⟨e, rfl, Option.some.inj hkv⟩
    obtain rfl : k = .inl e.1 := (congrArg Prod.fst hpe).symm
    have tk : (l.map (·.1)).take (n + 1) = (l.map (·.1)).take n ++ [e.1] := by rw [List.take_add_one, List.getElem?_map, he]; rfl
    refine ⟨hw _, hD _ Hy p2 (l2.map pairV) (.inl e.1) _ (hj _) (hk _) ?_ ⟨_, rfl, ?_⟩⟩
    · have nA : p2 ≠ A := fun z => by rw [z, hA1] at h2; cases h2
      by_cases z : p2 = p
      · rw [z, h1] at h2
        have e2 := HO.dK.inj (Option.some.inj h2)
        refine .inr ⟨od, ?_⟩
        rw [z, q.2 p (Ne.symm Ap), hlp, e2]
      · refine .inl ?_
        rw [q.2 p2 nA]
        show upd H1 p _ p2 = _
        rw [upd_ne z]
        exact h2
    · rw [valV_pair, Option.isSome_map]
      cases hc : c (l2.lookup e.1).isSome with
      | true =>
        rw [if_pos rfl]
        refine ⟨.int e.1, hj _, (acc n).map V.int, q.1, by rw [List.length_map]; exact sz_lt (by have := few n; omega), ?_, fun b nb => ?_⟩
        · have nx : acc (n + 1) = acc n ++ [e.1] := by
            show List.filter _ ((l.map (·.1)).take (n + 1)) = _
            rw [tk, List.filter_append, List.filter_cons_of_pos (p := fun x => c (l2.lookup x).isSome) hc]
            rfl
          rw [nx, upd_same, List.map_append]
          rfl
        · rw [upd_ne nb]; exact q.2 b nb
      | false =>
        rw [if_neg Bool.false_ne_true]
        refine ⟨?_, q.2⟩
        have nx : acc (n + 1) = acc n := by
          show List.filter _ ((l.map (·.1)).take (n + 1)) = _
          rw [tk, List.filter_append, List.filter_cons_of_neg (p := fun x => c (l2.lookup x).isSome) (by rw [hc]; exact Bool.false_ne_true)]
          simp [acc]
        rw [nx]
        exact q.1
  · have al : acc (l.map pairV).length = (l.map (·.1)).filter fun x => c (l2.lookup x).isSome := by
      show List.filter _ ((l.map (·.1)).take (l.map pairV).length) = _
      rw [List.length_map, List.take_of_length_le (by rw [List.length_map]; exact Nat.le_refl _)]
    obtain ⟨a1, a2⟩ := q2
    rw [al] at a1
    have up : Ex H1 (upd H' p (.dK (l.map pairV))) := fun b o e => by
      by_cases z : b = p
      · rw [z, upd_same]; rw [z, h1] at e; exact e
      · have nA : b ≠ A := fun y => by rw [y, hA1] at e; cases e
        rw [upd_ne z, a2 b nA]
        show upd H1 p _ b = _
        rw [upd_ne z]
        exact e
    refine ⟨(a2 p (Ne.symm Ap)).trans hlp, q (.ref A) _ (ex_del up) (w.ex up) ⟨A, _, rfl, del_at aM (by rw [upd_ne Ap]; exact a1), all_intsR _⟩⟩
theorem em_dInN {S1 S2 : List Cell} {k : Int} {l : List (Int × Int)} {ta tb : TE} (ha : Em E cl M ta σ I S kI (.ok k) S1) (hb : Em E cl M tb σ I S1 kDN (.ok l) S2) : Em E cl M (tDIn ta tb) σ I S kB (.ok (l.lookup k).isSome) S2 :=
  em_mk (hb.ad.trans ha.ad) fun H1 i w Q q => em_of ha H1 i w _ fun v1 H2 e1 w1 r1 => em_of hb H2 (i.trans (w.grow e1)) w1 _ fun v2 H3 e2 w2 r2 => by
    obtain rfl : v1 = .int k := r1
    obtain ⟨p, rfl, hp⟩ := r2
    refine ⟨p, valV (l.map pairV) (.inl k), rfl, .inl ⟨_, .inl k, .inl (del_some.mp hp).2, rfl, rfl⟩, q _ H3 (ads_tr ha.ad e1 e2) w2 ?_⟩
    show V.bl _ = V.bl _
    rw [valV_pair, Option.isSome_map]
theorem em_dNotInN {S1 S2 : List Cell} {k : Int} {l : List (Int × Int)} {ta tb : TE} (ha : Em E cl M ta σ I S kI (.ok k) S1) (hb : Em E cl M tb σ I S1 kDN (.ok l) S2) : Em E cl M (tDNotIn ta tb) σ I S kB (.ok (!(l.lookup k).isSome)) S2 :=
  em_mk (hb.ad.trans ha.ad) fun H1 i w Q q => em_of ha H1 i w _ fun v1 H2 e1 w1 r1 => em_of hb H2 (i.trans (w.grow e1)) w1 _ fun v2 H3 e2 w2 r2 => by
    obtain rfl : v1 = .int k := r1
    obtain ⟨p, rfl, hp⟩ := r2
    refine ⟨p, valV (l.map pairV) (.inl k), rfl, .inl ⟨_, .inl k, .inl (del_some.mp hp).2, rfl, rfl⟩, q _ H3 (ads_tr ha.ad e1 e2) w2 ?_⟩
    show V.bl _ = V.bl _
    rw [valV_pair, Option.isSome_map]
end
end Rw
/-! dicts of whole numbers to values of a kind, in their order; they may be locked -/
namespace Rw
open PySem PySem.Spec PyProof.Rows L2 Evl
theorem rd_up {H H' : Hp} {p : Addr} {o : HO} (e : Ex H H') (h : Rd H p o) : Rd H' p o := h.elim (fun a => .inl (e _ _ a)) fun ⟨d, a⟩ => .inr ⟨d, e _ _ a⟩
section
variable {α : Type} {K : PySem.W.Frag} {E : XK} {cl : Nat → Addr} {M : List Addr} {σ : L2.St} {I : Hp} {S S1 S2 S3 : List Cell} {t : Ty α} {ta tb tc : TE}
abbrev DvR (t : Ty α) (H : Hp) (kv : Key × V) (x : Int × α) : Prop := kv.1 = .inl x.1 ∧ t.r H kv.2 x.2
def kDV (t : Ty α) : Ty (List (Int × α)) := ⟨fun H v l => ∃ p kvs, v = .ref p ∧ Rd H p (.dK kvs) ∧ All2 (DvR t H) kvs l, fun e ⟨p, kvs, h1, h2, h3⟩ => ⟨p, kvs, h1, rd_up e h2, h3.imp fun _ _ r => ⟨r.1, t.up e r.2⟩⟩⟩
/-- not locked -/
def kDVb (t : Ty α) : Ty (List (Int × α)) := ⟨fun H v l => ∃ p kvs, v = .ref p ∧ H p = some (.dK kvs) ∧ All2 (DvR t H) kvs l, fun e ⟨p, kvs, h1, h2, h3⟩ => ⟨p, kvs, h1, e _ _ h2, h3.imp fun _ _ r => ⟨r.1, t.up e r.2⟩⟩⟩
theorem dvb_dv {H : Hp} {v : V} {l : List (Int × α)} (h : (kDVb t).r H v l) : (kDV t).r H v l := by
  obtain ⟨p, kvs, h1, h2, h3⟩ := h
  exact ⟨p, kvs, h1, .inl h2, h3⟩
theorem em_dvb {l : List (Int × α)} (h : Em E cl M ta σ I S (kDVb t) (.ok l) S1) : Em E cl M ta σ I S (kDV t) (.ok l) S1 := em_ty h fun _ _ => dvb_dv
theorem em_dnewVb : Em E cl M tDNewK σ I S (kDVb t) (.ok []) S := em_mk rfl fun H1 i w Q q p hp => q _ _ (ex_del (Ex.new hp)) (w.ex (Ex.new hp)) ⟨p, [], rfl, del_at (fresh_not w.live hp) upd_same, .nil⟩
theorem look_some {l : List (Int × α)} {k : Int} {d : α} (h : (l.lookup k).isSome = true) : l.lookup k = some ((l.lookup k).getD d) := by
  cases e : l.lookup k with
  | none => rw [e] at h; cases h
  | some x => rfl
theorem look_dv {H : Hp} {kvs : List (Key × V)} {l : List (Int × α)} (h : All2 (DvR t H) kvs l) (k : Int) : (valV kvs (.inl k) = none ∧ l.lookup k = none) ∨ ∃ w y, valV kvs (.inl k) = some w ∧ l.lookup k = some y ∧ t.r H w y := by
  induction h with
  | nil => exact .inl ⟨rfl, rfl⟩
  | @cons a b l m r _ ih =>
    by_cases e : b.1 = k
    · exact .inr ⟨a.2, b.2, valV_pos (r.1.trans (by rw [e])), by rw [List.lookup_cons, show (k == b.1) = true by simp [e]], r.2⟩
    · have n : (k == b.1) = false := by simpa using fun z => e z.symm
      rw [valV_neg (fun z => e (Sum.inl.inj (r.1.symm.trans z))), List.lookup_cons, n]
      exact ih
theorem rd_del {M : List Addr} {H : Hp} {p : Addr} {o : HO} (h : Rd (del M H) p o) : Rd H p o := h.elim (fun a => .inl (del_some.mp a).2) fun ⟨d, a⟩ => .inr ⟨d, (del_some.mp a).2⟩
theorem em_dInV {k : Int} {l : List (Int × α)} (ha : Em E cl M ta σ I S kI (.ok k) S1) (hb : Em E cl M tb σ I S1 (kDV t) (.ok l) S2) : Em E cl M (tDIn ta tb) σ I S kB (.ok (l.lookup k).isSome) S2 :=
  em_mk (hb.ad.trans ha.ad) fun H1 i w Q q => em_of ha H1 i w _ fun v1 H2 e1 w1 r1 => em_of hb H2 (i.trans (w.grow e1)) w1 _ fun v2 H3 e2 w2 r2 => by
    obtain rfl : v1 = .int k := r1
    obtain ⟨p, kvs, rfl, hp, hk⟩ := r2
    refine ⟨p, valV kvs (.inl k), rfl, .inl ⟨kvs, .inl k, rd_del hp, rfl, rfl⟩, q _ H3 (ads_tr ha.ad e1 e2) w2 ?_⟩
    show V.bl _ = V.bl _
    rcases look_dv hk k with ⟨a, b⟩ | ⟨x, y, a, b, _⟩ <;> rw [a, b] <;> rfl
theorem em_dgetV {k : Int} {l : List (Int × α)} {x : α} (ha : Em E cl M ta σ I S (kDV t) (.ok l) S1) (hb : Em E cl M tb σ I S1 kI (.ok k) S2) (h : l.lookup k = some x) : Em E cl M (tDGet ta tb) σ I S t (.ok x) S2 :=
  em_mk (hb.ad.trans ha.ad) fun H1 i w Q q => em_of ha H1 i w _ fun v1 H2 e1 w1 r1 => em_of hb H2 (i.trans (w.grow e1)) w1 _ fun v2 H3 e2 w2 r2 => by
    obtain ⟨p, kvs, rfl, hp, hk⟩ := (kDV t).up (w1.grow e2) r1
    obtain rfl : v2 = .int k := r2
    rcases look_dv hk k with ⟨_, z⟩ | ⟨u, y, g1, g2, g3⟩
    · rw [h] at z; cases z
    · rw [h] at g2
      obtain rfl := Option.some.inj g2
      exact ⟨p, u, rfl, .inl ⟨kvs, .inl k, rd_del hp, rfl, g1.symm⟩, q u H3 (ads_tr ha.ad e1 e2) w2 g3⟩
theorem isD_rd {H : Hp} {p : Addr} {kvs : List (Key × V)} (h : Rd H p (.dK kvs)) : IsD H p := h.elim (fun a => .inl ⟨kvs, .inl a⟩) fun ⟨o, a⟩ => .inl ⟨kvs, .inr ⟨o, a⟩⟩
/-- get with another -/
theorem em_dget2V {k : Int} {l : List (Int × α)} {x : α} (ha : Em E cl M ta σ I S (kDV t) (.ok l) S1) (hb : Em E cl M tb σ I S1 kI (.ok k) S2) (hc : Em E cl M tc σ I S2 t (.ok x) S3) : Em E cl M (tDGet2 ta tb tc) σ I S t (.ok ((l.lookup k).getD x)) S3 :=
  em_mk (hc.ad.trans (hb.ad.trans ha.ad)) fun H1 i w Q q => em_of ha H1 i w _ fun v1 H2 e1 w1 r1 => by
    obtain ⟨p, kvs, rfl, hp, hk⟩ := r1
    refine ⟨p, rfl, isD_rd (rd_del hp), em_of hb H2 (i.trans (w.grow e1)) w1 _ fun v2 H3 e2 w2 r2 => em_of hc H3 ((i.trans (w.grow e1)).trans (w1.grow e2)) w2 _ fun v3 H4 e3 w3 r3 => ?_⟩
    obtain rfl : v2 = .int k := r2
    have g : Ex (del M H2) (del M H4) := (w1.grow e2).trans (w2.grow e3)
    refine ⟨valV kvs (.inl k), .inl ⟨kvs, .inl k, rd_del (rd_up g hp), rfl, rfl⟩, ?_⟩
    have e4 := ads_tr (hb.ad.trans ha.ad) (ads_tr ha.ad e1 e2) e3
    rcases look_dv hk k with ⟨a, b⟩ | ⟨u, y, a, b, c⟩
    · rw [a]; exact q _ H4 e4 w3 (by rw [b]; exact r3)
    · rw [a]; exact q _ H4 e4 w3 (by rw [b]; exact t.up g c)
theorem merge_nd : ∀ {more acc : List (Key × V)}, ((acc ++ more).map (·.1)).Nodup → mergeK acc more = acc ++ more
  | [], acc, _ => by simp [mergeK]
  | p :: more, acc, h => by
    have n : valV acc p.1 = none := by
      cases e : valV acc p.1 with
      | none => rfl
      | some v =>
        have m := valV_in e
        rw [List.map_append, List.map_cons] at h
        exact absurd rfl ((List.nodup_append.mp h).2.2 _ m _ List.mem_cons_self)
    show mergeK (putK acc p.1 p.2) more = _
    rw [putK_new _ n, merge_nd (by rw [List.append_assoc]; exact h), List.append_assoc]
    rfl
theorem keys_dv {H : Hp} {kvs : List (Key × V)} {l : List (Int × α)} (h : All2 (DvR t H) kvs l) : kvs.map (·.1) = l.map fun x => Sum.inl x.1 := by
  induction h with
  | nil => rfl
  | cons r _ ih => rw [List.map_cons, List.map_cons, ih, r.1]
theorem o_dictV {l : List (Int × α)} (nd : (l.map (·.1)).Nodup) : OpN (fun xs H Q => ∃ (a : Addr) (ps : List Addr) (kvs : List (Key × V)), xs = [.ref a] ∧ SqL K H a (ps.map V.ref) ∧ Paired (fun p kv => SqT K H p [kV kv.1, kv.2]) ps kvs ∧ ∀ p, H p = none → Q (.ref p) (upd H p (.dK (mergeK [] kvs)))) (aC (kL K (k2 K kI t)) a0) (l, ()) (kDV t) l := fun M us H live a Q q => by
  obtain ⟨v, r, rfl, ⟨p, vs, rfl, hp, ha⟩, rfl⟩ := a
  have cut : ∀ (vs : List V) (l : List (Int × α)), All2 ((k2 K kI t).r (del M H)) vs l → ∃ ps kvs, vs = ps.map V.ref ∧ Paired (fun p (kv : Key × V) => SqT K H p [kV kv.1, kv.2]) ps kvs ∧ All2 (DvR t (del M H)) kvs l := by
    intro vs l h
    induction h with
    | nil => exact ⟨[], [], rfl, .nil, .nil⟩
    | cons r _ ih =>
      obtain ⟨p, u, w, rfl, hs, h1, h2⟩ := r
      obtain ⟨ps, kvs, rfl, b, c⟩ := ih
      obtain rfl : u = .int _ := h1
      exact ⟨p :: ps, (.inl _, w) :: kvs, rfl, .cons (ex_t del_le hs) b, .cons ⟨rfl, h2⟩ c⟩
  obtain ⟨ps, kvs, rfl, b, c⟩ := cut vs l ha
  have mk : mergeK [] kvs = kvs := merge_nd (acc := []) (by
    rw [List.nil_append, keys_dv c, show (l.map fun x => (Sum.inl x.1 : Key)) = (l.map (·.1)).map Sum.inl by rw [List.map_map]; rfl]
    exact List.Pairwise.map _ (fun _ _ h e => h (Sum.inl.inj e)) nd)
  refine ⟨p, ps, kvs, rfl, ex_l del_le hp, b, fun d hd => q _ _ (Ex.new hd) ⟨d, kvs, rfl, .inl (del_at (fresh_not live hd) (by rw [mk]; exact upd_same)), c.imp fun _ _ r => ⟨r.1, t.up (ex_del (Ex.new hd)) r.2⟩⟩⟩
theorem o_listDV {l : List (Int × α)} : OpN (fun xs H Q => ∃ (a : Addr) (kvs : List (Key × V)), xs = [V.ref a] ∧ Rd H a (.dK kvs) ∧ ∀ p, H p = none → Q (.ref p) (upd H p (.lst (kvs.map fun kv => kV kv.1)))) (aC (kDV t) a0) (l, ()) (kX kI) (l.map (·.1)) := fun M us H live a Q q => by
  obtain ⟨v, r, rfl, ⟨p, kvs, rfl, hp, hk⟩, rfl⟩ := a
  refine ⟨p, kvs, rfl, rd_del hp, fun d hd => q _ _ (Ex.new hd) ⟨d, _, rfl, del_at (fresh_not live hd) upd_same, ?_⟩⟩
  have : ∀ {I : Hp} {kvs : List (Key × V)} {l : List (Int × α)}, All2 (DvR t I) kvs l → ∀ {I' : Hp}, All2 (kI.r I') (kvs.map fun kv => kV kv.1) (l.map (·.1)) := fun h _ => by
    induction h with
    | nil => exact .nil
    | @cons a b _ _ r _ ih => exact .cons (by show kV a.1 = V.int b.1; rw [r.1]; rfl) ih
  exact this hk
end
/-- a dict comprehension over anything that is walked -/
theorem dc_it {J : It} {n : Nat} {G : Hp → Prop} {Y : Nat → Hp → V → Hp → Prop} (w : Walk J n G Y) {g : TG} {tt : TT} {tk tv : TE} {vs : List Nat} {σ : L2.St} {H1 : Hp} {D : Addr} {Qd : Hp → Prop} (Pv : Nat → Hp → Prop) (h0 : Pv 0 (upd H1 D (.dK []))) (hG : ∀ i H, i ≤ n → Pv i H → G H)
    (hs : ∀ i x H H', i < n → Pv i H → Y i H x H' → g x (wipe σ vs) H' fun σ2 H2 => wipe σ2 vs = wipe σ vs ∧ tt σ2 H2 fun b H3 =>
      if b = true then tk σ2 H3 fun y H4 => tv σ2 H4 fun z H5 => ∃ kvs k, y = kV k ∧ H5 D = some (.dK kvs) ∧ kvs.length < sizeLine ∧ Pv (i + 1) (upd H5 D (.dK (putK kvs k z))) else Pv (i + 1) H3) (hd : ∀ H, Pv n H → Qd H) :
    ∃ W : Nat → Nat → Hp → Prop, (∃ m, W 0 m (upd H1 D (.dK []))) ∧ ∀ i m H, W i m H →
      (J.stop i H ∧ Qd H) ∨ (J.go i H ∧ ∃ Nx : Hp → Prop, (∀ H', Nx H' → ∃ m', m' < m ∧ W (i + 1) m' H') ∧ ∀ x H', J.yld i H x H' → g x (wipe σ vs) H' fun σ2 H2 => wipe σ2 vs = wipe σ vs ∧ tt σ2 H2 fun b H3 =>
        if b = true then tk σ2 H3 fun y H4 => tv σ2 H4 fun z H5 => ∃ kvs k, y = kV k ∧ H5 D = some (.dK kvs) ∧ kvs.length < sizeLine ∧ Nx (upd H5 D (.dK (putK kvs k z))) else Nx H3) := by
  refine ⟨fun i m H => m = n - i ∧ i ≤ n ∧ Pv i H, ⟨n, by simp, Nat.zero_le _, h0⟩, ?_⟩
  rintro i m H ⟨rfl, hi, p⟩
  have q := hG i H hi p
  by_cases hlt : i < n
  · exact .inr ⟨w.goes i H hlt q, Pv (i + 1), fun H' p' => ⟨n - (i + 1), by omega, rfl, hlt, p'⟩, fun x H' y => hs i x H H' hlt p (w.yields i H x H' hlt q y)⟩
  · have e : i = n := by omega
    subst e
    exact .inl ⟨w.stops H q, hd H p⟩
end Rw
/-! what stands while a dict is locked, and when it is unlocked -/
namespace Rw
open PySem PySem.Spec PyProof.Rows L2 Evl
/-- a dict's contents, locked or not -/
def Sw (kvs : List (Key × V)) (od : Obj) (o : HO) : Prop := o = .dK kvs ∨ o = .frz od (.dK kvs)
section
variable {α β : Type} {K : PySem.W.Frag} {H : Hp} {p a : Addr} {kvs : List (Key × V)} {od : Obj} {o o' u : HO}
theorem rd_sw (hp : H p = some o) (s : Sw kvs od o) (s' : Sw kvs od o') (nu : ∀ d x, u ≠ .frz d x) (h : Rd H a u) : Rd (upd H p o') a u := by
  by_cases e : a = p
  · subst e
    have hu : u = .dK kvs := by
      rcases h with h | ⟨d, h⟩
      · rw [hp] at h
        obtain rfl := Option.some.inj h
        rcases s with z | z
        · exact z
        · exact absurd z (nu _ _)
      · rw [hp] at h
        obtain rfl := Option.some.inj h
        rcases s with z | z
        · cases z
        · cases z; rfl
    subst hu
    rcases s' with rfl | rfl
    · exact .inl upd_same
    · exact .inr ⟨od, upd_same⟩
  · exact h.elim (fun h => .inl (by rw [upd_ne e]; exact h)) fun ⟨d, h⟩ => .inr ⟨d, by rw [upd_ne e]; exact h⟩
theorem sqL_sw {xs : List V} (hp : H p = some o) (s : Sw kvs od o) (s' : Sw kvs od o') (h : SqL K H a xs) : SqL K (upd H p o') a xs := h.imp (rd_sw hp s s' fun _ _ z => nomatch z) id
theorem sqT_sw {xs : List V} (hp : H p = some o) (s : Sw kvs od o) (s' : Sw kvs od o') (h : SqT K H a xs) : SqT K (upd H p o') a xs := h.imp (rd_sw hp s s' fun _ _ z => nomatch z) id
def Fz (t : Ty α) : Prop := ∀ {H : Hp} {v : V} {x : α} {p : Addr} {kvs : List (Key × V)} {od : Obj} {o o' : HO}, H p = some o → Sw kvs od o → Sw kvs od o' → t.r H v x → t.r (upd H p o') v x
theorem fz_I : Fz kI := fun _ _ _ h => h
theorem fz_B : Fz kB := fun _ _ _ h => h
theorem fz_S : Fz kS := fun _ _ _ h => h
theorem fz_L {t : Ty α} (f : Fz t) : Fz (kL K t) := fun hp s s' ⟨q, vs, e, h, r⟩ => ⟨q, vs, e, sqL_sw hp s s' h, r.imp fun _ _ => f hp s s'⟩
theorem fz_T {t : Ty α} (f : Fz t) : Fz (kT K t) := fun hp s s' ⟨q, vs, e, h, r⟩ => ⟨q, vs, e, sqT_sw hp s s' h, r.imp fun _ _ => f hp s s'⟩
theorem fz_2 {t : Ty α} {w : Ty β} (f : Fz t) (g : Fz w) : Fz (k2 K t w) := fun hp s s' ⟨q, x, y, e, h, r1, r2⟩ => ⟨q, x, y, e, sqT_sw hp s s' h, f hp s s' r1, g hp s s' r2⟩
theorem fz_DV {t : Ty α} (f : Fz t) : Fz (kDV t) := fun hp s s' ⟨q, vs, e, h, r⟩ => ⟨q, vs, e, rd_sw hp s s' (fun _ _ z => nomatch z) h, r.imp fun _ _ r => ⟨r.1, f hp s s' r.2⟩⟩
theorem fz_Ob {C : Addr} {R : Hp → List (Str × V) → β → Prop} {up : ∀ {H H' : Hp} {fs : List (Str × V)} {b : β}, Ex H H' → R H fs b → R H' fs b}
    (f : ∀ {H : Hp} {fs : List (Str × V)} {b : β} {p : Addr} {kvs : List (Key × V)} {od : Obj} {o o' : HO}, H p = some o → Sw kvs od o → Sw kvs od o' → R H fs b → R (upd H p o') fs b) : Fz (kOb C R up) :=
  fun hp s s' ⟨x, dx, fs, e, h, r⟩ => ⟨x, dx, fs, e, by
    rw [upd_ne (fun z => by rw [z, hp] at h; obtain rfl := Option.some.inj h; rcases s with z | z <;> cases z)]
    exact h, f hp s s' r⟩
end
section
variable {τ R : Type} {M : List Addr} {H : Hp} {σ : L2.St} {D : Ends} {tu tz : TS} {td : TE}
theorem ex_nil {H H' : Hp} (e : Ex (del [] H) (del [] H')) : Ex H H' := fun b o h => (del_some.mp (e b o (del_some.mpr ⟨List.not_mem_nil, h⟩))).2
/-- a loop over a dict's keys, the dict locked: what stands of the heap is told with the lock; no break -/
theorem g_forD {P : R → Prop} {b : Int → τ → (τ → R) → (τ → R) → R} {kn : τ → R} {s0 : τ} {j : Nat} {ks : List Int} {p : Addr} {kvs : List (Key × V)} (Rv : Hp → List Int → τ → L2.St → Prop) (w : Holds M [] H) (hp : H p = some (.dK kvs)) (pM : p ∉ M) (hk : kvs.map (·.1) = ks.map Sum.inl) (o : P (forK b kn ks s0))
    (hv : ∀ od (Q : VK), Q (.ref p) (upd H p (.frz od (.dK kvs))) → td σ (upd H p (.frz od (.dK kvs))) Q)
    (h0 : ∀ od, Rv (del M (upd H p (.frz od (.dK kvs)))) ks s0 σ)
    (hd : ∀ od s σ' H', H' p = some (.frz od (.dK kvs)) → Gr M [] H (upd H' p (.dK kvs)) → Holds M [] (upd H' p (.dK kvs)) → Rv (del M H') [] s σ' → P (kn s) → tz D σ' (upd H' p (.dK kvs)))
    (hs : ∀ od x s σ' H' rest (rt : VK) (bk : L2.St → Hp → Prop), x ∈ ks → Gr M [] (upd H p (.frz od (.dK kvs))) H' → Holds M [] H' → Rv (del M H') (x :: rest) s σ' → P (b x s (fun s' => forK b kn rest s') kn) →
      ∀ Nx : L2.St → Hp → Prop, (∀ s' σ4 H4, P (forK b kn rest s') → Gr M [] H' H4 → Holds M [] H4 → Rv (del M H4) rest s' σ4 → Nx σ4 H4) → tu ⟨Nx, rt, bk, Nx⟩ (σ'.set j (some (.int x))) H') :
    tSeq (tLock (tFor (iKeys td) (gName j) tu)) tz D σ H := by
  refine ⟨p, _, hp, trivial, fun od => hv od _ ⟨p, od, rfl, .inl ⟨kvs, upd_same, ?_⟩⟩⟩
  have len : ks.length = kvs.length := by have := congrArg List.length hk; simpa using this.symm
  have eq : ∀ {H' : Hp}, Gr M [] (upd H p (.frz od (.dK kvs))) H' → H' p = some (.frz od (.dK kvs)) := fun g => ex_nil g.fr p _ upd_same
  have wL : Holds M [] (upd H p (.frz od (.dK kvs))) := ⟨fun c m => (nomatch m), List.nodup_nil, fun m hm => by
    rw [upd_ne (show m ≠ p from fun z => pM (by rw [← z]; exact hm))]
    exact w.live m hm⟩
  refine for_it (walk_ks (p := p) (od := od) (kvs := kvs)) (fun i σ' H' => ∃ s', P (forK b kn (ks.drop i) s') ∧ Gr M [] (upd H p (.frz od (.dK kvs))) H' ∧ Holds M [] H' ∧ Rv (del M H') (ks.drop i) s' σ') ⟨s0, o, Gr.refl, wL, h0 od⟩ (fun i σ' H' _ q => ?_) (fun i v σ' H' H3 hi q y => ?_) (fun σ' H' q => ?_)
  · obtain ⟨_, _, g, _⟩ := q
    exact eq g
  · obtain ⟨s', o', g, w', r⟩ := q
    obtain ⟨rfl, k, v0, hkv, rfl⟩ := y
    have hi' : i < ks.length := by omega
    have ek : k = .inl ks[i] := by
      have a := congrArg (fun l => l[i]?) hk
      simp only [List.getElem?_map, hkv, List.getElem?_eq_getElem hi', Option.map_some, Option.some.injEq] at a
      exact a
    subst ek
    have dr : ks.drop i = ks[i] :: ks.drop (i + 1) := List.drop_eq_getElem_cons hi'
    rw [dr] at o' r
    exact hs od ks[i] s' σ' H3 (ks.drop (i + 1)) _ _ (List.getElem_mem hi') g w' r o' _ fun s4 σ4 H4 o4 g4 w4 r4 => ⟨s4, o4, g.trans rfl g4, w4, r4⟩
  · obtain ⟨s', o', g, w', r⟩ := q
    rw [← len, List.drop_length] at o' r
    have hf := eq g
    have ex : Ex H (upd H' p (.dK kvs)) := fun a o e => by
      by_cases z : a = p
      · rw [z, upd_same]; rw [z, hp] at e; exact e
      · rw [upd_ne z]
        exact ex_nil g.fr a o (by rw [upd_ne z]; exact e)
    exact ⟨hf, hd od s' σ' H' hf (.of w (ex_del ex)) (w.ex ex) r o'⟩
end
end Rw
/-! a dict comprehension whose keys differ -/
namespace Rw
open PySem PySem.Spec PyProof.Rows L2 Evl
section
variable {α β : Type} {K : PySem.W.Frag} {E : XK} {cl : Nat → Addr} {M : List Addr} {σ : L2.St} {I : Hp} {S S1 : List Cell} {t : Ty α} {u : Ty β} {tk tv : TE}
/-- a dict in the making -/
def cDV (D : Addr) (u : Ty β) (l : List (Int × β)) : Cell := ⟨D, List (Int × β), fun H o l => ∃ kvs, o = .dK kvs ∧ All2 (DvR u H) kvs l, fun e ⟨kvs, a, b⟩ => ⟨kvs, a, b.imp fun _ _ r => ⟨r.1, u.up e r.2⟩⟩, l⟩
theorem em_dcVb {wi : TI} {g : TG} {vs : List Nat} {xs : List α} {B : Hp → α → L2.St → Prop} (key : α → Int) (f : α → β) (hi : Ei E cl M wi σ I S t xs S1) (hz : xs.length ≤ 100000 - 1) (nd : (xs.map key).Nodup) (hg : Eg g t (wipe σ vs) B) (hw : ∀ I x σ', B I x σ' → wipe σ' vs = wipe σ vs)
    (hk : ∀ D acc I' x σ', Ex I I' → x ∈ xs → B I' x σ' → Em E cl (D :: M) tk σ' I' (cDV D u acc :: S1) kI (.ok (key x)) (cDV D u acc :: S1))
    (hv : ∀ D acc I' x σ', Ex I I' → x ∈ xs → B I' x σ' → Em E cl (D :: M) tv σ' I' (cDV D u acc :: S1) u (.ok (f x)) (cDV D u acc :: S1)) :
    Em E cl M (tDc wi g tYes tk tv vs) σ I S (kDVb u) (.ok (xs.map fun x => (key x, f x))) S1 := by
  refine em_mk hi.ad fun H0 i0 w0 Q q => hi.run H0 i0 w0 _ fun J H2 G Y e2 w2 wk gG gY D hD => ?_
  let acc : Nat → List (Int × β) := fun i => (xs.take i).map fun x => (key x, f x)
  let Pv : Nat → Hp → Prop := fun i H' => Holds (D :: M) (cDV D u (acc i) :: S1) H' ∧ Ex (del (D :: ads S1) (upd H2 D (.dK []))) (del (D :: ads S1) H')
  have dM : D ∉ M := fresh_not w2.live hD
  have toM : ∀ {i H'}, Pv i H' → Ex (del M H2) (del (D :: M) H') := fun {i H'} p => by
    refine ex_lone (o := .dK []) hD (ex_sub (A := D :: ads S1) (fun a h => ?_) p.2)
    rcases List.mem_cons.mp h with z | z
    · rw [z]; exact List.mem_cons_self
    · exact List.mem_cons_of_mem _ (w2.sub a z)
  refine dc_it wk Pv ⟨?_, Ex.refl _⟩ (fun i H' hi p => gG H' ((toM p).trans del_le2)) (fun i v H Hy hi p y => ?_) (fun H' p => ?_)
  · exact w2.new (c := cDV D u []) hD (Ex.new hD) upd_same ⟨[], rfl, .nil⟩
  · obtain ⟨x, hx⟩ : ∃ x, xs[i]? = some x := ⟨xs[i], by simp [hi]⟩
    have xm : x ∈ xs := List.mem_of_getElem? hx
    obtain ⟨eH, rv⟩ := gY i H v Hy x hx ((toM p).trans del_le2) y
    have rx := rv (D :: M) p.1.live (toM p)
    have wy := p.1.ex eH
    have i1 : Ex I (del (D :: M) Hy) := ((i0.trans (w0.grow e2)).trans (toM p)).trans (ex_del eH)
    refine hg v Hy x _ rx del_le _ fun σ' b => ⟨hw _ x σ' b, ?_⟩
    simp only [tYes, ↓reduceIte]
    have tke : xs.take (i + 1) = xs.take i ++ [x] := by rw [List.take_add_one, hx]; rfl
    have fr : Ex (del (D :: ads S1) (upd H2 D (.dK []))) (del (D :: ads S1) Hy) := p.2.trans (ex_del eH)
    refine em_of (hk D (acc i) _ x σ' i1 xm b) Hy (Ex.refl _) wy _ fun vk H3 e3 w3 r3 => ?_
    obtain rfl : vk = .int (key x) := r3
    have i3 : Ex (del (D :: M) Hy) (del (D :: M) H3) := wy.grow e3
    refine em_of (hv D (acc i) _ x σ' i1 xm b) H3 i3 w3 _ fun vy H4 e4 w4 r4 => ?_
    obtain ⟨_, o4, h4, kvs, rfl, a4⟩ := w4.at_ _ List.mem_cons_self
    have lk : kvs.length = (acc i).length := a4.len
    have la : (acc i).length ≤ i := by show ((xs.take i).map _).length ≤ i; rw [List.length_map, List.length_take]; omega
    have nn : valV kvs (.inl (key x)) = none := by
      cases e : valV kvs (.inl (key x)) with
      | none => rfl
      | some v0 =>
        have m := valV_in e
        rw [keys_dv a4] at m
        obtain ⟨q0, mq, eq⟩ := List.mem_map.mp m
        obtain ⟨x0, m0, rfl⟩ := List.mem_map.mp mq
        have nd' : ((xs.take (i + 1)).map key).Nodup := (List.Sublist.map key (List.take_sublist _ _)).nodup nd
        rw [tke, List.map_append] at nd'
        exact absurd (Sum.inl.inj eq) ((List.nodup_append.mp nd').2.2 _ (List.mem_map.mpr ⟨x0, m0, rfl⟩) _ (List.mem_singleton.mpr rfl))
    refine ⟨kvs, .inl (key x), rfl, h4, sz_lt (by rw [lk]; omega), ?_, ?_⟩
    · show Holds (D :: M) (cDV D u (acc (i + 1)) :: S1) _
      rw [putK_new _ nn, show acc (i + 1) = acc i ++ [(key x, f x)] by show (xs.take (i + 1)).map _ = _; rw [tke, List.map_append]; rfl]
      exact w4.put (k := 0) (c := cDV D u (acc i)) (c' := cDV D u (acc i ++ [(key x, f x)])) rfl rfl ⟨_, rfl, a4.app (.one ⟨rfl, r4⟩)⟩
    · rw [show del (D :: ads S1) (upd H4 D (.dK (putK kvs (.inl (key x)) vy))) = del (D :: ads S1) H4 from del_upd List.mem_cons_self]
      exact (fr.trans e3).trans e4
  · have al : acc xs.length = xs.map fun x => (key x, f x) := by show (xs.take xs.length).map _ = _; rw [List.take_length]
    obtain ⟨pw, pe⟩ := p
    rw [al] at pw
    obtain ⟨_, o4, h4, kvs, rfl, a4⟩ := pw.at_ _ List.mem_cons_self
    refine q _ H' ?_ (pw.drop (c := cDV D u _) dM) ⟨D, kvs, rfl, del_at dM h4, a4.imp fun _ _ r => ⟨r.1, u.up del_le2 r.2⟩⟩
    rw [← hi.ad]
    rw [← hi.ad] at e2
    exact e2.trans ((ex_lone (M := ads S1) hD pe).trans del_le2)
end
end Rw
namespace Rw
open PySem PySem.Spec PyProof.Rows L2 Evl

/-- a day's spans, put together -/
abbrev RawOk (x : List (Int × Int)) : Prop := x.length ≤ 1000 ∧ VS x ∧ ∀ q ∈ x, 0 ≤ q.1 ∧ q.2 ≤ 86400
def DayOk (x : List (Int × Int)) : Prop := x.length ≤ 1000 ∧ VS x ∧ ∀ q ∈ x, 0 ≤ q.1 ∧ q.2 ≤ 86400
theorem tog_day {x : List (Int × Int)} (h : RawOk x) : DayOk (tog x) := ⟨Nat.le_trans (tog_len x) h.1, tog_vs h.2.1, tog_bd h.2.2⟩
theorem ds_ok {x : List (Int × Int)} (h : RawOk x) : f_day_spans (x, ()) = .ok (tog x) := by
  show cond (((tog x).map fun y : Int × Int => (decide (y.1 < (0 : Int)) || decide ((86400 : Int) < y.2))).any id) _ _ = _
  have e : (((tog x).map fun y : Int × Int => (decide (y.1 < (0 : Int)) || decide ((86400 : Int) < y.2))).any id) = false := by
    rw [List.any_eq_false]
    intro b hb
    obtain ⟨q, m, rfl⟩ := List.mem_map.mp hb
    have := (tog_day h).2.2 q m
    simp only [id, Bool.or_eq_true, decide_eq_true_eq, not_or]
    omega
  rw [e]
  rfl
theorem rows_day {l : List (List (Int × Int))} (h : ∀ x ∈ l, RawOk x) : ∀ y ∈ l.map (fun x => tog x), DayOk y := fun y m => by
  obtain ⟨x, mx, rfl⟩ := List.mem_map.mp m
  exact tog_day (h x mx)
theorem oth_day {l : List (Int × List (Int × Int))} (h : ∀ x ∈ l, RawOk x.2 ∧ -1000 ≤ x.1 ∧ x.1 ≤ 1000) : (∀ y ∈ l.map (fun x => (x.1, tog x.2)), DayOk y.2) ∧ ∀ y ∈ l.map (fun x => (x.1, tog x.2)), -1000 ≤ y.1 ∧ y.1 ≤ 1000 := ⟨fun y m => by
  obtain ⟨x, mx, rfl⟩ := List.mem_map.mp m
  exact tog_day (h x mx).1, fun y m => by
  obtain ⟨x, mx, rfl⟩ := List.mem_map.mp m
  exact (h x mx).2⟩
abbrev OthOk (o : List (Int × List (Int × Int))) : Prop := o.length ≤ 1000 ∧ (∀ x ∈ o, RawOk x.2 ∧ -1000 ≤ x.1 ∧ x.1 ≤ 1000) ∧ (o.map fun x => x.1).Nodup
theorem gd_pre {x : Option (List (Int × List (Int × Int)))} (h : ∀ o, x = some o → OthOk o) : OthOk (x.getD []) := by
  cases x with
  | none => exact ⟨by decide, fun _ m => (nomatch m), List.nodup_nil⟩
  | some o => exact h o rfl
theorem look_mem {α : Type} {l : List (Int × α)} {k : Int} {x : α} (h : l.lookup k = some x) : (k, x) ∈ l := by
  induction l with
  | nil => cases h
  | cons a l ih =>
    rw [List.lookup_cons] at h
    by_cases e : k = a.1
    · rw [show (k == a.1) = true by simp [e]] at h
      cases h
      rw [e]
      exact List.mem_cons_self
    · rw [show (k == a.1) = false by simpa using e] at h
      exact List.mem_cons_of_mem _ (ih h)

def I_Hr (b : (Int × (List (List (Int × Int))) × (List (Int × List (Int × Int))))) : Prop := match b with
  | (w, l, o) => 1 ≤ w ∧ w ≤ 1000 ∧ (l.length : Int) = w ∧ (∀ x ∈ l, DayOk x) ∧ o.length ≤ 1000 ∧ (∀ x ∈ o, DayOk x.2) ∧ (∀ x ∈ o, -1000 ≤ x.1 ∧ x.1 ≤ 1000)
def R_Hr (K : PySem.W.Frag)  : Hp → List (Str × V) → (Int × (List (List (Int × Int))) × (List (Int × List (Int × Int)))) → Prop := fun H fs b => ∃ v1 v2 : V, fs = ([("week", (.int (b.1))), ("rows", v1), ("others", v2)] : List (Str × V)) ∧ (kL K (kT K (k2 K kI kI))).r H v1 (b.2.1) ∧ (kDV (kT K (k2 K kI kI))).r H v2 (b.2.2) ∧ I_Hr b
theorem R_Hr_up {K : PySem.W.Frag}  {H H' : Hp} {fs : List (Str × V)} {b : (Int × (List (List (Int × Int))) × (List (Int × List (Int × Int))))} (e : Ex H H') (h : R_Hr K  H fs b) : R_Hr K  H' fs b := by
  obtain ⟨v1, v2, h0, h1, h2, hz⟩ := h
  exact ⟨v1, v2, h0, (kL K (kT K (k2 K kI kI))).up e h1, (kDV (kT K (k2 K kI kI))).up e h2, hz⟩
abbrev k_Hr (K : PySem.W.Frag) (CH : Addr)  : Ty (Int × (List (List (Int × Int))) × (List (Int × List (Int × Int)))) := kOb CH (R_Hr K ) (fun e h => R_Hr_up e h)
structure Tt_Hr (K : PySem.W.Frag) (CH : Addr) : Prop where
  cls : Cls K CH
  n_week : NoAttr K CH "week"
  n_rows : NoAttr K CH "rows"
  n_others : NoAttr K CH "others"
theorem em_Hr_week {K : PySem.W.Frag} {E : XK} {cl : Nat → Addr} {M : List Addr} {σ : L2.St} {I : Hp} {S S' : List Cell} {to : TE} {CH : Addr}  {b : (Int × (List (List (Int × Int))) × (List (Int × List (Int × Int))))} (T : Tt_Hr K CH) (h : Em E cl M to σ I S (k_Hr K CH ) (.ok b) S') : Em E cl M (tFld K to "week") σ I S kI (.ok (b.1)) S' :=
  em_obF T.cls T.n_week (fun H fs r => by
    obtain ⟨v1, v2, h0, h1, h2, hz⟩ := r
    exact ⟨_, by rw [h0]; rfl, rfl⟩) h
theorem em_Hr_rows {K : PySem.W.Frag} {E : XK} {cl : Nat → Addr} {M : List Addr} {σ : L2.St} {I : Hp} {S S' : List Cell} {to : TE} {CH : Addr}  {b : (Int × (List (List (Int × Int))) × (List (Int × List (Int × Int))))} (T : Tt_Hr K CH) (h : Em E cl M to σ I S (k_Hr K CH ) (.ok b) S') : Em E cl M (tFld K to "rows") σ I S (kL K (kT K (k2 K kI kI))) (.ok (b.2.1)) S' :=
  em_obF T.cls T.n_rows (fun H fs r => by
    obtain ⟨v1, v2, h0, h1, h2, hz⟩ := r
    exact ⟨_, by rw [h0]; rfl, h1⟩) h
theorem em_Hr_others {K : PySem.W.Frag} {E : XK} {cl : Nat → Addr} {M : List Addr} {σ : L2.St} {I : Hp} {S S' : List Cell} {to : TE} {CH : Addr}  {b : (Int × (List (List (Int × Int))) × (List (Int × List (Int × Int))))} (T : Tt_Hr K CH) (h : Em E cl M to σ I S (k_Hr K CH ) (.ok b) S') : Em E cl M (tFld K to "others") σ I S (kDV (kT K (k2 K kI kI))) (.ok (b.2.2)) S' :=
  em_obF T.cls T.n_others (fun H fs r => by
    obtain ⟨v1, v2, h0, h1, h2, hz⟩ := r
    exact ⟨_, by rw [h0]; rfl, h2⟩) h
theorem ob_Hr {K : PySem.W.Frag} {CH : Addr}  {m : Str} (hm : ∀ (b : (Int × (List (List (Int × Int))) × (List (Int × List (Int × Int))))) (v1 v2 : V), (([("week", (.int (b.1))), ("rows", v1), ("others", v2)] : List (Str × V)).lookup m = none)) : Ob (k_Hr K CH ) CH m := fun H v b ⟨x, dx, fs, e, h, r⟩ => by
  obtain ⟨v1, v2, h0, h1, h2, hz⟩ := r
  exact ⟨x, dx, fs, e, h, by rw [h0]; exact hm b v1 v2⟩
theorem inv_Hr {K : PySem.W.Frag} {CH : Addr}  {H : Hp} {v : V} {b : (Int × (List (List (Int × Int))) × (List (Int × List (Int × Int))))} (h : (k_Hr K CH ).r H v b) : I_Hr b := by
  obtain ⟨_, _, _, _, _, r⟩ := h
  obtain ⟨v1, v2, h0, h1, h2, hz⟩ := r
  exact hz

def I_Hu (b : (Int × (List (List (Int × Int))) × (List (Int × List (Int × Int))))) : Prop := match b with
  | (w, l, o) => 1 ≤ w ∧ w ≤ 1000 ∧ (l.length : Int) = w ∧ (∀ x ∈ l, DayOk x) ∧ o.length ≤ 1000 ∧ (∀ x ∈ o, DayOk x.2) ∧ (∀ x ∈ o, -1000 ≤ x.1 ∧ x.1 ≤ 1000)
def R_Hu (K : PySem.W.Frag)  : Hp → List (Str × V) → (Int × (List (List (Int × Int))) × (List (Int × List (Int × Int)))) → Prop := fun H fs b => ∃ v1 v2 : V, fs = ([("week", (.int (b.1))), ("rows", v1), ("others", v2)] : List (Str × V)) ∧ (kL K (kT K (k2 K kI kI))).r H v1 (b.2.1) ∧ (kDVb (kT K (k2 K kI kI))).r H v2 (b.2.2) ∧ I_Hu b
theorem R_Hu_up {K : PySem.W.Frag}  {H H' : Hp} {fs : List (Str × V)} {b : (Int × (List (List (Int × Int))) × (List (Int × List (Int × Int))))} (e : Ex H H') (h : R_Hu K  H fs b) : R_Hu K  H' fs b := by
  obtain ⟨v1, v2, h0, h1, h2, hz⟩ := h
  exact ⟨v1, v2, h0, (kL K (kT K (k2 K kI kI))).up e h1, (kDVb (kT K (k2 K kI kI))).up e h2, hz⟩
abbrev k_Hu (K : PySem.W.Frag) (CH : Addr)  : Ty (Int × (List (List (Int × Int))) × (List (Int × List (Int × Int)))) := kOb CH (R_Hu K ) (fun e h => R_Hu_up e h)
structure Tt_Hu (K : PySem.W.Frag) (CH : Addr) : Prop where
  cls : Cls K CH
  n_week : NoAttr K CH "week"
  n_rows : NoAttr K CH "rows"
  n_others : NoAttr K CH "others"
theorem em_Hu_week {K : PySem.W.Frag} {E : XK} {cl : Nat → Addr} {M : List Addr} {σ : L2.St} {I : Hp} {S S' : List Cell} {to : TE} {CH : Addr}  {b : (Int × (List (List (Int × Int))) × (List (Int × List (Int × Int))))} (T : Tt_Hu K CH) (h : Em E cl M to σ I S (k_Hu K CH ) (.ok b) S') : Em E cl M (tFld K to "week") σ I S kI (.ok (b.1)) S' :=
  em_obF T.cls T.n_week (fun H fs r => by
    obtain ⟨v1, v2, h0, h1, h2, hz⟩ := r
    exact ⟨_, by rw [h0]; rfl, rfl⟩) h
theorem em_Hu_rows {K : PySem.W.Frag} {E : XK} {cl : Nat → Addr} {M : List Addr} {σ : L2.St} {I : Hp} {S S' : List Cell} {to : TE} {CH : Addr}  {b : (Int × (List (List (Int × Int))) × (List (Int × List (Int × Int))))} (T : Tt_Hu K CH) (h : Em E cl M to σ I S (k_Hu K CH ) (.ok b) S') : Em E cl M (tFld K to "rows") σ I S (kL K (kT K (k2 K kI kI))) (.ok (b.2.1)) S' :=
  em_obF T.cls T.n_rows (fun H fs r => by
    obtain ⟨v1, v2, h0, h1, h2, hz⟩ := r
    exact ⟨_, by rw [h0]; rfl, h1⟩) h
theorem em_Hu_others {K : PySem.W.Frag} {E : XK} {cl : Nat → Addr} {M : List Addr} {σ : L2.St} {I : Hp} {S S' : List Cell} {to : TE} {CH : Addr}  {b : (Int × (List (List (Int × Int))) × (List (Int × List (Int × Int))))} (T : Tt_Hu K CH) (h : Em E cl M to σ I S (k_Hu K CH ) (.ok b) S') : Em E cl M (tFld K to "others") σ I S (kDVb (kT K (k2 K kI kI))) (.ok (b.2.2)) S' :=
  em_obF T.cls T.n_others (fun H fs r => by
    obtain ⟨v1, v2, h0, h1, h2, hz⟩ := r
    exact ⟨_, by rw [h0]; rfl, h2⟩) h
theorem ob_Hu {K : PySem.W.Frag} {CH : Addr}  {m : Str} (hm : ∀ (b : (Int × (List (List (Int × Int))) × (List (Int × List (Int × Int))))) (v1 v2 : V), (([("week", (.int (b.1))), ("rows", v1), ("others", v2)] : List (Str × V)).lookup m = none)) : Ob (k_Hu K CH ) CH m := fun H v b ⟨x, dx, fs, e, h, r⟩ => by
  obtain ⟨v1, v2, h0, h1, h2, hz⟩ := r
  exact ⟨x, dx, fs, e, h, by rw [h0]; exact hm b v1 v2⟩
theorem inv_Hu {K : PySem.W.Frag} {CH : Addr}  {H : Hp} {v : V} {b : (Int × (List (List (Int × Int))) × (List (Int × List (Int × Int))))} (h : (k_Hu K CH ).r H v b) : I_Hu b := by
  obtain ⟨_, _, _, _, _, r⟩ := h
  obtain ⟨v1, v2, h0, h1, h2, hz⟩ := r
  exact hz

section
variable {K : PySem.W.Frag} {E : XK} {cl : Nat → Addr} {M : List Addr} {σ : L2.St} {I : Hp} {S S1 : List Cell} {ta : TE} {CH : Addr} {b : (Int × (List (List (Int × Int))) × (List (Int × List (Int × Int))))}
theorem weak_r {H : Hp} {v : V} (h : (k_Hu K CH).r H v b) : (k_Hr K CH).r H v b := by
  obtain ⟨x, dx, fs, e, h1, v1, v2, h0, h2, h3, h4⟩ := h
  exact ⟨x, dx, fs, e, h1, v1, v2, h0, h2, dvb_dv h3, h4⟩
theorem em_weak (h : Em E cl M ta σ I S (k_Hu K CH) (.ok b) S1) : Em E cl M ta σ I S (k_Hr K CH) (.ok b) S1 := em_ty h fun _ _ => weak_r
end

section
variable {P : Program} {w : World} {K : PySem.W.Frag} {mg : Str → Option Value} {base : Heap} {CH : Addr} {cl : Nat → Addr}

abbrev s_Hours_init : Stmt := inClass (topS 19) 0
def Hours_initN : List Str := ["self", "week", "rows", "others", "spans", "day"]
theorem sc_Hours_init : FnScope Hours_initN ["self", "week", "rows", "others"] (defScope s_Hours_init) := ⟨rfl, rfl, rfl, by decide +kernel, rfl, by decide +kernel, by decide +kernel⟩
def f_Hours_init : Int × (List (List (Int × Int))) × (Option (List (Int × (List (Int × Int))))) × Unit → Re (Int × (List (List (Int × Int))) × (List (Int × List (Int × Int)))) := fun a => match a with
  | (x0, x1, x2, _) =>
    cond ((decide (x0 < (1 : Int))) || (!decide (((x1.map (fun (x_268 : (List (Int × Int))) => (tog x_268))).length : Int) = x0)))
    ((.er 2))
    (cond (x2.isSome)
    ((.ok (x0, (x1.map (fun (x_268 : (List (Int × Int))) => (tog x_268))), ((x2.getD []).map fun (x_328 : Int × List (Int × Int)) => (x_328.1, (tog x_328.2))))))
    ((.ok (x0, (x1.map (fun (x_268 : (List (Int × Int))) => (tog x_268))), ([] : List (Int × List (Int × Int)))))))
def pre_Hours_init : Int × (List (List (Int × Int))) × (Option (List (Int × (List (Int × Int))))) × Unit → Prop := fun a => match a with
  | (x0, x1, x2, _) => (-1000000 ≤ x0 ∧ x0 ≤ 1000) ∧ x1.length ≤ 1000 ∧ (∀ x ∈ x1, RawOk x) ∧ ∀ o, x2 = some o → OthOk o
abbrev sp_Hours_init (K : PySem.W.Frag) (CH : Addr) (cl : Nat → Addr) : Sp := spIni CH (aC kI (aC (kL K (kL K (k2 K kI kI))) (aC (kO (kL K (k2 K kI (kL K (k2 K kI kI))))) a0))) pre_Hours_init f_Hours_init (R_Hu K ) cl
theorem ok_Hours_init {f : Addr} {fd : FuncData} (F : L2.FunD K "__init__" "Hours.__init__" (defArgs s_Hours_init) (defBody s_Hours_init) (defScope s_Hours_init) [.non] [] f fd) (T_Hu : Tt_Hu K CH) (B : BD mg) (c_day_spans : Cal P w K mg base 3 "day_spans" (sp_day_spans K cl) []) (xBadTime : Exc1 K mg "BadTime" (cl 2)) : FnOk P w K mg base (L2.CX P w) 4 f fd ["self", "week", "rows", "others"] (sp_Hours_init K CH cl) := by
  refine F.ok sc_Hours_init (fun vs H Q E h => ?_) (fun cdv A outer s H vs Q E hr h => ?_)
  · obtain ⟨M, x, dx, ws, a, rfl, _, _, _, hA, _⟩ := h
    obtain ⟨v0, _, rfl, r0, v1, _, rfl, r1, v2, _, rfl, r2, rfl⟩ := hA
    rfl
  · obtain ⟨M, x, dx, ws, ⟨x0, x1, x2, _⟩, rfl, xM, live, hx, hA, hpre, qok, qer⟩ := h
    obtain ⟨v0, _, rfl, r0, v1, _, rfl, r1, v2, _, rfl, r2, rfl⟩ := hA
    obtain rfl : v0 = (.int x0) := r0
    have hpre : (-1000000 ≤ x0 ∧ x0 ≤ 1000) ∧ x1.length ≤ 1000 ∧ (∀ x ∈ x1, RawOk x) ∧ ∀ o, x2 = some o → OthOk o := hpre
    have w0 : Holds M [cIns x CH dx []] H := ⟨fun c hc => by rw [List.mem_singleton.mp hc]; exact ⟨xM, _, hx, rfl⟩, by simp [ads], live⟩
    have o0 : Pr (f_Hours_init (x0, x1, x2, ())) (cond ((decide (x0 < (1 : Int))) || (!decide (((x1.map (fun (x_268 : (List (Int × Int))) => (tog x_268))).length : Int) = x0)))
((.er 2))
(cond (x2.isSome)
((.ok (x0, (x1.map (fun (x_268 : (List (Int × Int))) => (tog x_268))), ((x2.getD []).map fun (x_328 : Int × List (Int × Int)) => (x_328.1, (tog x_328.2))))))
((.ok (x0, (x1.map (fun (x_268 : (List (Int × Int))) => (tog x_268))), ([] : List (Int × List (Int × Int)))))))) := rfl
    refine ⟨_, pss_cons (ps_fld (pv 0) (pv 1) rfl) (pss_cons (ps_fld (pv 0) (pe_lc (own := [("spans", 4)]) (g := gName 4) (tt := tYes) rfl sc_Hours_init.nd (pi_list (pv 2)) (blkOk_by (own := [("spans", 4)]) (N := Hours_initN) (sc := defScope s_Hours_init) (by decide +kernel)) (fun _ _ _ _ _ => pg_name (i := 4) sc_Hours_init.nd rfl (Or.inl rfl)) (fun _ _ _ _ _ => pts_nil) (fun _ _ _ _ _ => (pe_k c_day_spans hr (by decide) passL (pa_cons (pv 4) pa_nil)))) rfl) (pss_cons (ps_fld (pv 0) pe_dnewK rfl) (pss_cons (ps_if (PW.pt (pw_or (pt_cmpR op_lt (pv 1) pe_int (nomark _)) (pw_or1 (pt_cmpR op_ne (pe_callB call_len_seq (by rfl) B.len (by decide +kernel) (pa_cons (pe_fld (pv 0) rfl) pa_nil)) (pv 1) (nomark _))))) (pss_one (ps_raiseX xBadTime)) (pss_nil)) (pss_one (ps_if (pt_cmpR op_notN (pv 3) pe_non (nomark _)) (pss_one (ps_fld (pv 0) (pe_dc (own := [("day", 5), ("spans", 4)]) (g := gTup K 2 (gCons (gName 5) (gCons (gName 4) gNil))) (tt := tYes) rfl sc_Hours_init.nd (pi_list (pv 3)) (blkOk_by (own := [("day", 5), ("spans", 4)]) (N := Hours_initN) (sc := defScope s_Hours_init) (by decide +kernel)) (fun _ _ _ _ _ => pg_tup rfl (pgs_cons (pg_name (i := 5) sc_Hours_init.nd rfl (.inl rfl)) (pgs_cons (pg_name (i := 4) sc_Hours_init.nd rfl (.inl rfl)) pgs_nil))) (fun _ _ _ _ _ => pts_nil) (fun _ _ _ _ _ => (pv 5)) (fun _ _ _ _ _ => (pe_k c_day_spans hr (by decide) passL (pa_cons (pv 4) pa_nil)))) rfl)) (pss_nil)))))), ?_⟩
    refine g_fld (E := E) (cl := cl) (n := 0) (C := CH) (t := kI) (y := x0) w0 (em_var (t := kI) (v := (.int x0)) (x := x0) rfl rfl) (em_var (t := kPtr x) (v := .ref x) (x := ()) rfl rfl) rfl T_Hu.cls T_Hu.n_week (Nat.lt_of_le_of_lt (Nat.le_refl 0) (by decide)) (fun v_261 H_262 g_263 w_264 r_265 => ?_)
    have r_266 := (kL K (kL K (k2 K kI kI))).up g_263.im r1
    have r_267 := (kO (kL K (k2 K kI (kL K (k2 K kI kI))))).up g_263.im r2
    obtain rfl : v_261 = (.int x0) := r_265
    refine g_fld (E := E) (cl := cl) (n := 0) (C := CH) (t := (kL K (kT K (k2 K kI kI)))) (y := (x1.map (fun (x_268 : (List (Int × Int))) => (tog x_268)))) w_264 (em_eq (em_lc (K := K) (u := (kT K (k2 K kI kI))) (fun _ => true) (fun x_268 => (tog x_268)) (ei_L (em_var (t := (kL K (kL K (k2 K kI kI)))) (v := v1) (x := x1) rfl r_266)) (by have := hpre.2.1; omega) eg_name (fun _ _ _ b => by obtain ⟨v_276, r_277, rfl⟩ := b; rfl) (fun _ _ _ _ _ _ _ _ => gt_yes) (fun M_274 S_275 I_269 x_268 s_273 e_270 m_271 c_278 b_272 => by obtain ⟨v_276, r_277, rfl⟩ := b_272; have m_271 := hpre.2.2.1 _ m_271; exact (em_callP (y := (tog x_268)) (a := (x_268, ())) (em_cons (em_var (t := (kL K (k2 K kI kI))) (v := v_276) (x := x_268) rfl r_277) em_nil) args_id (by exact (fun rw : RawOk _ => ⟨rw.1, rw.2.1, trivial⟩) (by first | assumption | exact ((gd_pre hpre.2.2.2).2.1 _ (by assumption)).1)) (by exact ds_ok (by first | assumption | exact ((gd_pre hpre.2.2.2).2.1 _ (by assumption)).1))))) (by rw [filter_yes])) (em_var (t := kPtr x) (v := .ref x) (x := ()) rfl rfl) rfl T_Hu.cls T_Hu.n_rows (Nat.lt_of_le_of_lt (putF_le (Nat.le_refl 0)) (by decide)) (fun v_279 H_280 g_281 w_282 r_283 => ?_)
    have r_284 := (kL K (kL K (k2 K kI kI))).up g_281.im r_266
    have r_285 := (kO (kL K (k2 K kI (kL K (k2 K kI kI))))).up g_281.im r_267
    refine g_fld (E := E) (cl := cl) (n := 0) (C := CH) (t := (kDVb (kT K (k2 K kI kI)))) (y := ([] : List (Int × List (Int × Int)))) w_282 em_dnewVb (em_var (t := kPtr x) (v := .ref x) (x := ()) rfl rfl) rfl T_Hu.cls T_Hu.n_others (Nat.lt_of_le_of_lt (putF_le (putF_le (Nat.le_refl 0))) (by decide)) (fun v_286 H_287 g_288 w_289 r_290 => ?_)
    have r_291 := (kL K (kL K (k2 K kI kI))).up g_288.im r_284
    have r_292 := (kO (kL K (k2 K kI (kL K (k2 K kI kI))))).up g_288.im r_285
    have r_293 := (kL K (kT K (k2 K kI kI))).up g_288.im r_283
    refine g_when (E := E) (cl := cl) (b := ((decide (x0 < (1 : Int))) || (!decide (((x1.map (fun (x_268 : (List (Int × Int))) => (tog x_268))).length : Int) = x0)))) w_289 o0 (gt_or (gt_test (em_op (em_var (t := kI) (v := (.int x0)) (x := x0) rfl rfl) em_int o_IB)) (fun _ => (gt_test (em_op (em_cb (em_cons (em_cellF (n := 0) (C := CH) (y := (x1.map (fun (x_268 : (List (Int × Int))) => (tog x_268)))) (v := v_279) (em_var (t := kPtr x) (v := .ref x) (x := ()) rfl rfl) rfl T_Hu.cls T_Hu.n_rows rfl r_293) em_nil) o_lenL) (em_var (t := kI) (v := (.int x0)) (x := x0) rfl rfl) o_neI)))) (fun hb_296 o_297 H_295 g_298 w_299 => ?_) (fun hb_301 o_302 H_300 g_303 w_304 => ?_)
    · try simp only [decide_eq_true_eq, decide_eq_false_iff_not, Bool.and_eq_true, Bool.or_eq_true, Bool.and_eq_false_iff, Bool.or_eq_false_iff, Bool.not_eq_true', Bool.not_eq_false'] at hb_296
      have r_305 := (kL K (kL K (k2 K kI kI))).up g_298.im r_291
      have r_306 := (kO (kL K (k2 K kI (kL K (k2 K kI kI))))).up g_298.im r_292
      have r_307 := (kL K (kT K (k2 K kI kI))).up g_298.im r_293
      have r_308 := (kDVb (kT K (k2 K kI kI))).up g_298.im r_290
      exact qer 2 _ o_297 (show Ex (del [x] H) (del [x] _) from Gr.fr (((g_263.then g_281 rfl).then g_288 rfl).then g_298 rfl))
    · try simp only [decide_eq_true_eq, decide_eq_false_iff_not, Bool.and_eq_true, Bool.or_eq_true, Bool.and_eq_false_iff, Bool.or_eq_false_iff, Bool.not_eq_true', Bool.not_eq_false'] at hb_301
      have r_309 := (kL K (kL K (k2 K kI kI))).up g_303.im r_291
      have r_310 := (kO (kL K (k2 K kI (kL K (k2 K kI kI))))).up g_303.im r_292
      have r_311 := (kL K (kT K (k2 K kI kI))).up g_303.im r_293
      have r_312 := (kDVb (kT K (k2 K kI kI))).up g_303.im r_290
      refine g_ifL (E := E) (cl := cl) (b := (x2.isSome)) w_304 o_302 (gt_test (em_op (em_var (t := (kO (kL K (k2 K kI (kL K (k2 K kI kI)))))) (v := v2) (x := x2) rfl r_310) (em_c (t := kN) (x := ()) rfl) o_notN)) (fun hb_314 o_315 H_313 g_316 w_317 => ?_) (fun hb_319 o_320 H_318 g_321 w_322 => ?_)
      · try simp only [decide_eq_true_eq, decide_eq_false_iff_not, Bool.and_eq_true, Bool.or_eq_true, Bool.and_eq_false_iff, Bool.or_eq_false_iff, Bool.not_eq_true', Bool.not_eq_false'] at hb_314
        have r_323 := (kL K (kL K (k2 K kI kI))).up g_316.im r_309
        have r_324 := (kO (kL K (k2 K kI (kL K (k2 K kI kI))))).up g_316.im r_310
        have r_325 := (kL K (kT K (k2 K kI kI))).up g_316.im r_311
        have r_326 := (kDVb (kT K (k2 K kI kI))).up g_316.im r_312
        have r_327 := opt_r (d := []) hb_314 r_324
        refine g_fldL (E := E) (cl := cl) (n := 0) (C := CH) (t := (kDVb (kT K (k2 K kI kI)))) (y := ((x2.getD []).map fun (x_328 : Int × List (Int × Int)) => (x_328.1, (tog x_328.2)))) w_317 (em_dcVb (fun x_328 => x_328.1) (fun x_328 => (tog x_328.2)) (ei_L (em_var (t := (kL K (k2 K kI (kL K (k2 K kI kI))))) (v := v2) (x := (x2.getD [])) rfl r_327)) (by have := (gd_pre hpre.2.2.2).1; omega) (by exact (gd_pre hpre.2.2.2).2.2) eg_2 (fun _ _ _ b => by obtain ⟨_, _, _, _, rfl⟩ := b; rfl) (fun D_334 acc_335 I_329 x_328 s_333 e_330 m_331 b_332 => by obtain ⟨_, v_336, rfl, r_337, rfl⟩ := b_332; exact (em_var (t := kI) (v := (.int x_328.1)) (x := x_328.1) rfl rfl)) (fun D_334 acc_335 I_329 x_328 s_333 e_330 m_331 b_332 => by obtain ⟨_, v_336, rfl, r_337, rfl⟩ := b_332; exact (em_callP (y := (tog x_328.2)) (a := (x_328.2, ())) (em_cons (em_var (t := (kL K (k2 K kI kI))) (v := v_336) (x := x_328.2) rfl r_337) em_nil) args_id (by exact (fun rw : RawOk _ => ⟨rw.1, rw.2.1, trivial⟩) (by first | assumption | exact ((gd_pre hpre.2.2.2).2.1 _ (by assumption)).1)) (by exact ds_ok (by first | assumption | exact ((gd_pre hpre.2.2.2).2.1 _ (by assumption)).1))))) (em_var (t := kPtr x) (v := .ref x) (x := ()) rfl rfl) rfl T_Hu.cls T_Hu.n_others (Nat.lt_of_le_of_lt (putF_le (putF_le (putF_le (Nat.le_refl 0)))) (by decide)) (fun v_338 H_339 g_340 w_341 r_342 => ?_)
        have r_343 := (kL K (kL K (k2 K kI kI))).up g_340.im r_323
        have r_344 := (kL K (k2 K kI (kL K (k2 K kI kI)))).up g_340.im r_327
        have r_345 := (kL K (kT K (k2 K kI kI))).up g_340.im r_325
        have r_346 := (kDVb (kT K (k2 K kI kI))).up g_340.im r_326
        obtain ⟨_, oF, hF⟩ := w_341.at_ _ (List.mem_singleton.mpr rfl)
        obtain ⟨hF1, hF2⟩ := hF
        subst hF2
        exact qok (x0, (x1.map (fun (x_268 : (List (Int × Int))) => (tog x_268))), ((x2.getD []).map fun (x_328 : Int × List (Int × Int)) => (x_328.1, (tog x_328.2)))) _ H_339 o_315 hF1 (show Ex (del [x] H) (del [x] H_339) from Gr.fr (((((g_263.then g_281 rfl).then g_288 rfl).then g_303 rfl).then g_316 rfl).then g_340 rfl)) ⟨v_279, v_338, rfl, r_345, r_342, by show I_Hu (x0, (x1.map (fun (x_268 : (List (Int × Int))) => (tog x_268))), ((x2.getD []).map fun (x_328 : Int × List (Int × Int)) => (x_328.1, (tog x_328.2)))); exact ⟨by omega, by omega, by simp only [List.length_map] at *; omega, rows_day hpre.2.2.1, by first | exact Nat.zero_le _ | (rw [List.length_map]; exact (gd_pre hpre.2.2.2).1), by first | exact (oth_day (gd_pre hpre.2.2.2).2.1).1 | exact List.forall_mem_nil _, by first | exact (oth_day (gd_pre hpre.2.2.2).2.1).2 | exact List.forall_mem_nil _⟩⟩
      · try simp only [decide_eq_true_eq, decide_eq_false_iff_not, Bool.and_eq_true, Bool.or_eq_true, Bool.and_eq_false_iff, Bool.or_eq_false_iff, Bool.not_eq_true', Bool.not_eq_false'] at hb_319
        have r_347 := (kL K (kL K (k2 K kI kI))).up g_321.im r_309
        have r_348 := (kO (kL K (k2 K kI (kL K (k2 K kI kI))))).up g_321.im r_310
        have r_349 := (kL K (kT K (k2 K kI kI))).up g_321.im r_311
        have r_350 := (kDVb (kT K (k2 K kI kI))).up g_321.im r_312
        obtain ⟨_, oF, hF⟩ := w_322.at_ _ (List.mem_singleton.mpr rfl)
        obtain ⟨hF1, hF2⟩ := hF
        subst hF2
        exact qok (x0, (x1.map (fun (x_268 : (List (Int × Int))) => (tog x_268))), ([] : List (Int × List (Int × Int)))) _ H_318 o_320 hF1 (show Ex (del [x] H) (del [x] H_318) from Gr.fr ((((g_263.then g_281 rfl).then g_288 rfl).then g_303 rfl).then g_321 rfl)) ⟨v_279, v_286, rfl, r_349, r_350, by show I_Hu (x0, (x1.map (fun (x_268 : (List (Int × Int))) => (tog x_268))), ([] : List (Int × List (Int × Int)))); exact ⟨by omega, by omega, by simp only [List.length_map] at *; omega, rows_day hpre.2.2.1, by first | exact Nat.zero_le _ | (rw [List.length_map]; exact (gd_pre hpre.2.2.2).1), by first | exact (oth_day (gd_pre hpre.2.2.2).2.1).1 | exact List.forall_mem_nil _, by first | exact (oth_day (gd_pre hpre.2.2.2).2.1).2 | exact List.forall_mem_nil _⟩⟩
end
end Rw
namespace Rw
open PySem PySem.Spec PyProof.Rows L2 Evl

theorem look_day {w : Int} {l : List (List (Int × Int))} {o : List (Int × List (Int × Int))} {k : Int} {x : List (Int × Int)} (h : ∀ x ∈ o, DayOk x.2) (e : o.lookup k = some x) : DayOk x := h _ (look_mem e)
theorem getD_day {l : List (List (Int × Int))} (h : ∀ x ∈ l, DayOk x) (i : Int) : DayOk ((atI l i).getD []) := by
  cases e : atI l i with
  | none => exact ⟨by decide, fun _ m => (nomatch m), fun _ m => (nomatch m)⟩
  | some x =>
    unfold atI at e
    obtain ⟨j, _, hj⟩ := Option.bind_eq_some_iff.mp e
    exact h x (List.mem_of_getElem? hj)
theorem lookD_day {o : List (Int × List (Int × Int))} (h : ∀ x ∈ o, DayOk x.2) (k : Int) : DayOk ((o.lookup k).getD []) := by
  cases e : o.lookup k with
  | none => exact ⟨by decide, fun _ m => (nomatch m), fun _ m => (nomatch m)⟩
  | some x => exact h _ (look_mem e)

section
variable {P : Program} {w : World} {K : PySem.W.Frag} {mg : Str → Option Value} {base : Heap} {CH : Addr} {cl : Nat → Addr}

abbrev s_Hours_of_day : Stmt := inClass (topS 19) 1
def Hours_of_dayN : List Str := ["self", "day"]
theorem sc_Hours_of_day : FnScope Hours_of_dayN ["self", "day"] (defScope s_Hours_of_day) := ⟨rfl, rfl, rfl, by decide +kernel, rfl, by decide +kernel, by decide +kernel⟩
def f_Hours_of_day : (Int × (List (List (Int × Int))) × (List (Int × List (Int × Int)))) × Int × Unit → Re (List (Int × Int)) := fun a => match a with
  | ((a0, l0, b0), x1, _) =>
    cond (b0.lookup x1).isSome
    ((.ok ((b0.lookup x1).getD [])))
    ((.ok ((atI l0 (x1 % a0)).getD [])))
def pre_Hours_of_day : (Int × (List (List (Int × Int))) × (List (Int × List (Int × Int)))) × Int × Unit → Prop := fun a => match a with
  | ((a0, l0, b0), x1, _) => True
abbrev sp_Hours_of_day (K : PySem.W.Frag) (CH : Addr) (cl : Nat → Addr) : Sp := spD (aC (k_Hr K CH) (aC kI a0)) pre_Hours_of_day f_Hours_of_day (kT K (k2 K kI kI)) cl
theorem ok_Hours_of_day {f : Addr} {fd : FuncData} (F : Fun K "of_day" "Hours.of_day" s_Hours_of_day f fd) (T_Hr : Tt_Hr K CH) : FnOk P w K mg base (L2.CX P w) 1 f fd ["self", "day"] (sp_Hours_of_day K CH cl) := by
  refine F.okX sc_Hours_of_day (fun vs H Q E h => ?_) (fun cdv A outer s H vs Q E hr h => ?_)
  · obtain ⟨M, a, live, hA, _⟩ := h
    obtain ⟨v0, _, rfl, r0, v1, _, rfl, r1, rfl⟩ := hA
    rfl
  · obtain ⟨M, ⟨⟨a0, l0, b0⟩, x1, _⟩, live, hA, hpre, qok, qer⟩ := h
    obtain ⟨v0, _, rfl, r0, v1, _, rfl, r1, rfl⟩ := hA
    obtain rfl : v1 = (.int x1) := r1
    have iv0 : I_Hr (a0, l0, b0) := inv_Hr r0
    obtain ⟨ia0, ib0, ic0, id0, ie0, if0, ig0⟩ := iv0
    have w0 : Holds M [] H := hold0 live
    have o0 : Pr (f_Hours_of_day ((a0, l0, b0), x1, ())) (cond (b0.lookup x1).isSome
((.ok ((b0.lookup x1).getD [])))
((.ok ((atI l0 (x1 % a0)).getD [])))) := rfl
    refine ⟨_, pss_cons (ps_if (pt_cmp (pc_din hr.u1 (pv 1) (pe_fld (pv 0) rfl)) (by rfl)) (pss_one (ps_ret (pe_dget hr.u1 (pe_fld (pv 0) rfl) (pv 1) (fun _ _ => rfl)))) (pss_nil)) (pss_one (ps_ret (pe_ix ix_list (pe_fld (pv 0) rfl) (pe_op op_mod (pv 1) (pe_fld (pv 0) rfl)) (fun _ _ => rfl)))), ?_⟩
    refine g_when (E := E) (cl := cl) (b := (b0.lookup x1).isSome) w0 o0 (gt_B (em_dInV (em_var (t := kI) (v := (.int x1)) (x := x1) rfl rfl) (em_Hr_others T_Hr (em_var (t := (k_Hr K CH)) (v := v0) (x := (a0, l0, b0)) rfl r0)))) (fun hb_352 o_353 H_351 g_354 w_355 => ?_) (fun hb_357 o_358 H_356 g_359 w_360 => ?_)
    · try simp only [decide_eq_true_eq, decide_eq_false_iff_not, Bool.and_eq_true, Bool.or_eq_true, Bool.and_eq_false_iff, Bool.or_eq_false_iff, Bool.not_eq_true', Bool.not_eq_false'] at hb_352
      have r_361 := (k_Hr K CH).up g_354.im r0
      refine g_ret (E := E) (cl := cl) (t := (kT K (k2 K kI kI))) (x := ((b0.lookup x1).getD [])) w_355 (em_dgetV (em_Hr_others T_Hr (em_var (t := (k_Hr K CH)) (v := v0) (x := (a0, l0, b0)) rfl r_361)) (em_var (t := kI) (v := (.int x1)) (x := x1) rfl rfl) (look_some hb_352)) (fun v_362 H_363 g_364 w_365 r_366 => ?_)
      exact qok _ v_362 H_363 o_353 (show Ex H _ from Gr.fr (g_354.then g_364 rfl)) r_366
    · try simp only [decide_eq_true_eq, decide_eq_false_iff_not, Bool.and_eq_true, Bool.or_eq_true, Bool.and_eq_false_iff, Bool.or_eq_false_iff, Bool.not_eq_true', Bool.not_eq_false'] at hb_357
      have r_367 := (k_Hr K CH).up g_359.im r0
      refine g_ret (E := E) (cl := cl) (t := (kT K (k2 K kI kI))) (x := ((atI l0 (x1 % a0)).getD [])) w_360 (em_op (em_Hr_rows T_Hr (em_var (t := (k_Hr K CH)) (v := v0) (x := (a0, l0, b0)) rfl r_367)) (em_op (em_var (t := kI) (v := (.int x1)) (x := x1) rfl rfl) (em_Hr_week T_Hr (em_var (t := (k_Hr K CH)) (v := v0) (x := (a0, l0, b0)) rfl r_367)) (o_IC (C := fun _ j => 0 < j) (by show (0 : Int) < _; omega))) (o_ixLI (at_inG (z := []) (by dsimp only; have q1 := Int.emod_nonneg x1 (b := a0) (by omega); have q2 := Int.emod_lt_of_pos x1 (b := a0) (by omega); omega)))) (fun v_368 H_369 g_370 w_371 r_372 => ?_)
      exact qok _ v_368 H_369 o_358 (show Ex H _ from Gr.fr (g_359.then g_370 rfl)) r_372
def v_Hours_of_day : (Int × (List (List (Int × Int))) × (List (Int × List (Int × Int)))) × Int × Unit → (List (Int × Int)) := fun a => match a with
  | ((a0, l0, b0), x1, _) =>
    cond (b0.lookup x1).isSome
    ((((b0.lookup x1).getD [])))
    ((((atI l0 (x1 % a0)).getD [])))
theorem is_Hours_of_day (a : (Int × (List (List (Int × Int))) × (List (Int × List (Int × Int)))) × Int × Unit) : f_Hours_of_day a = .ok (v_Hours_of_day a) := by
  obtain ⟨⟨a0, l0, b0⟩, x1, _⟩ := a
  simp only [f_Hours_of_day, v_Hours_of_day, lt, cond_ok]

theorem ofday_ok {w : Int} {l : List (List (Int × Int))} {o : List (Int × List (Int × Int))} (h1 : ∀ x ∈ l, DayOk x) (h2 : ∀ x ∈ o, DayOk x.2) (d : Int) : DayOk (v_Hours_of_day ((w, l, o), d, ())) := by
  show DayOk (cond ((o.lookup d).isSome) ((o.lookup d).getD []) ((atI l (d % w)).getD []))
  cases (o.lookup d).isSome with
  | true => exact lookD_day h2 d
  | false => exact getD_day h1 _

abbrev s_Hours_is_open : Stmt := inClass (topS 19) 2
def Hours_is_openN : List Str := ["self", "time", "day", "second", "first", "last"]
theorem sc_Hours_is_open : FnScope Hours_is_openN ["self", "time"] (defScope s_Hours_is_open) := ⟨rfl, rfl, rfl, by decide +kernel, rfl, by decide +kernel, by decide +kernel⟩
def f_Hours_is_open : (Int × (List (List (Int × Int))) × (List (Int × List (Int × Int)))) × Int × Unit → Re Bool := fun a => match a with
  | ((a0, l0, b0), x1, _) =>
    lt (x1 / (86400 : Int), x1 % (86400 : Int)) fun _ =>
    (.ok (((v_Hours_of_day ((a0, l0, b0), (x1 / (86400 : Int)), ())).map (fun (x_381 : (Int × Int)) => ((decide (x_381.1 ≤ (x1 % (86400 : Int)))) && (decide ((x1 % (86400 : Int)) < x_381.2))))).any id))
def pre_Hours_is_open : (Int × (List (List (Int × Int))) × (List (Int × List (Int × Int)))) × Int × Unit → Prop := fun a => match a with
  | ((a0, l0, b0), x1, _) => True
abbrev sp_Hours_is_open (K : PySem.W.Frag) (CH : Addr) (cl : Nat → Addr) : Sp := spD (aC (k_Hr K CH) (aC kI a0)) pre_Hours_is_open f_Hours_is_open kB cl
theorem ok_Hours_is_open {f : Addr} {fd : FuncData} (F : Fun K "is_open" "Hours.is_open" s_Hours_is_open f fd) (T_Hr : Tt_Hr K CH) (B : BD mg) (n_any : mg "any" = none) (gi_DAY : ∃ t, mg "DAY" = some (.int 86400 t)) (m_of_day : Mt P w K mg base 1 CH "of_day" (sp_Hours_of_day K CH cl) []) : FnOk P w K mg base (L2.CX P w) 2 f fd ["self", "time"] (sp_Hours_is_open K CH cl) := by
  refine F.okX sc_Hours_is_open (fun vs H Q E h => ?_) (fun cdv A outer s H vs Q E hr h => ?_)
  · obtain ⟨M, a, live, hA, _⟩ := h
    obtain ⟨v0, _, rfl, r0, v1, _, rfl, r1, rfl⟩ := hA
    rfl
  · obtain ⟨M, ⟨⟨a0, l0, b0⟩, x1, _⟩, live, hA, hpre, qok, qer⟩ := h
    obtain ⟨v0, _, rfl, r0, v1, _, rfl, r1, rfl⟩ := hA
    obtain rfl : v1 = (.int x1) := r1
    have iv0 : I_Hr (a0, l0, b0) := inv_Hr r0
    obtain ⟨ia0, ib0, ic0, id0, ie0, if0, ig0⟩ := iv0
    have w0 : Holds M [] H := hold0 live
    have o0 : Pr (f_Hours_is_open ((a0, l0, b0), x1, ())) (lt (x1 / (86400 : Int), x1 % (86400 : Int)) fun _ =>
(.ok (((v_Hours_of_day ((a0, l0, b0), (x1 / (86400 : Int)), ())).map (fun (x_381 : (Int × Int)) => ((decide (x_381.1 ≤ (x1 % (86400 : Int)))) && (decide ((x1 % (86400 : Int)) < x_381.2))))).any id))) := rfl
    refine ⟨_, pss_cons (ps_asg (pe_callB call_divmod (by rfl) B.divmod (by decide +kernel) (pa_cons (pv 1) (pa_cons (pe_GI gi_DAY) pa_nil))) (pg_tup rfl (pgs_cons (pg_name (i := 2) sc_Hours_is_open.nd rfl (.inl rfl)) (pgs_cons (pg_name (i := 3) sc_Hours_is_open.nd rfl (.inr rfl)) pgs_nil)))) (pss_one (ps_ret (pe_callB (cr_any rfl) (by rfl) n_any (by decide +kernel) (pa_cons (pe_lc (own := [("first", 4), ("last", 5)]) (g := gTup K 2 (gCons (gName 4) (gCons (gName 5) gNil))) (tt := tYes) rfl sc_Hours_is_open.nd (pi_tup (pe_mk m_of_day hr (by decide) passL (pv 0) (pa_cons (pv 2) pa_nil))) (blkOk_by (own := [("first", 4), ("last", 5)]) (N := Hours_is_openN) (sc := defScope s_Hours_is_open) (by decide +kernel)) (fun _ _ _ _ _ => pg_tup rfl (pgs_cons (pg_name (i := 4) sc_Hours_is_open.nd rfl (Or.inl rfl)) (pgs_cons (pg_name (i := 5) sc_Hours_is_open.nd rfl (Or.inl rfl)) pgs_nil))) (fun _ _ _ _ _ => pts_nil) (fun _ _ _ _ _ => (pe_chain op_le op_lt (pv 4) (pv 3) (pv 5)))) pa_nil)))), ?_⟩
    refine g_asgG (E := E) (cl := cl) (t := (k2 K kI kI)) (x := (x1 / (86400 : Int), x1 % (86400 : Int))) w0 eg_2 o0 (em_cb (em_cons (em_var (t := kI) (v := (.int x1)) (x := x1) rfl rfl) (em_cons em_int em_nil)) (o_divmod (by exact ⟨by omega, by omega⟩))) (fun p_373 σ_374 H_375 hx_376 o_377 g_378 w_379 b => ?_)
    subst hx_376
    have r_380 := (k_Hr K CH).up g_378.im r0
    obtain ⟨_, _, rfl, rfl, rfl⟩ := b
    refine g_ret (E := E) (cl := cl) (t := kB) (x := (((v_Hours_of_day ((a0, l0, b0), (x1 / (86400 : Int)), ())).map (fun (x_381 : (Int × Int)) => ((decide (x_381.1 ≤ (x1 % (86400 : Int)))) && (decide ((x1 % (86400 : Int)) < x_381.2))))).any id)) w_379 (em_cb (em_cons (em_eq (em_lc (K := K) (u := kB) (fun _ => true) (fun x_381 => ((decide (x_381.1 ≤ (x1 % (86400 : Int)))) && (decide ((x1 % (86400 : Int)) < x_381.2)))) (ei_T (em_methP (pre := pre_Hours_of_day) (f := f_Hours_of_day) (y := (v_Hours_of_day ((a0, l0, b0), (x1 / (86400 : Int)), ()))) (b := ((x1 / (86400 : Int)), ())) (em_var (t := (k_Hr K CH)) (v := v0) (x := (a0, l0, b0)) rfl r_380) (ob_Hr fun _ _ _ => rfl) (em_cons (em_var (t := kI) (v := (.int (x1 / (86400 : Int)))) (x := (x1 / (86400 : Int))) rfl rfl) em_nil) args_mG (by exact trivial) (by exact is_Hours_of_day _))) (by have dd := ofday_ok (w := a0) id0 if0 (x1 / 86400); have := dd.1; omega) eg_2 (fun _ _ _ b => by obtain ⟨_, _, rfl, rfl, rfl⟩ := b; rfl) (fun _ _ _ _ _ _ _ _ => gt_yes) (fun M_387 S_388 I_382 x_381 s_386 e_383 m_384 c_389 b_385 => by obtain ⟨_, _, rfl, rfl, rfl⟩ := b_385; exact (em_chain (em_var (t := kI) (v := (.int x_381.1)) (x := x_381.1) rfl rfl) (em_var (t := kI) (v := (.int (x1 % (86400 : Int)))) (x := (x1 % (86400 : Int))) rfl rfl) (fun _ => (em_var (t := kI) (v := (.int x_381.2)) (x := x_381.2) rfl rfl)) o_IB o_IB))) (by rw [filter_yes])) em_nil) o_any) (fun v_390 H_391 g_392 w_393 r_394 => ?_)
    exact qok _ v_390 H_391 o_377 (show Ex H _ from Gr.fr (g_378.then g_392 rfl)) r_394
def v_Hours_is_open : (Int × (List (List (Int × Int))) × (List (Int × List (Int × Int)))) × Int × Unit → Bool := fun a => match a with
  | ((a0, l0, b0), x1, _) =>
    lt (x1 / (86400 : Int), x1 % (86400 : Int)) fun _ =>
    ((((v_Hours_of_day ((a0, l0, b0), (x1 / (86400 : Int)), ())).map (fun (x_381 : (Int × Int)) => ((decide (x_381.1 ≤ (x1 % (86400 : Int)))) && (decide ((x1 % (86400 : Int)) < x_381.2))))).any id))
theorem is_Hours_is_open (a : (Int × (List (List (Int × Int))) × (List (Int × List (Int × Int)))) × Int × Unit) : f_Hours_is_open a = .ok (v_Hours_is_open a) := by
  obtain ⟨⟨a0, l0, b0⟩, x1, _⟩ := a
  rfl

abbrev s_Hours_in_row : Stmt := inClass (topS 19) 5
def Hours_in_rowN : List Str := ["self", "weekday"]
theorem sc_Hours_in_row : FnScope Hours_in_rowN ["self", "weekday"] (defScope s_Hours_in_row) := ⟨rfl, rfl, rfl, by decide +kernel, rfl, by decide +kernel, by decide +kernel⟩
def f_Hours_in_row : (Int × (List (List (Int × Int))) × (List (Int × List (Int × Int)))) × Int × Unit → Re Int := fun a => match a with
  | ((a0, l0, b0), x1, _) =>
    (.ok (v_total (((atI l0 x1).getD []), ())))
def pre_Hours_in_row : (Int × (List (List (Int × Int))) × (List (Int × List (Int × Int)))) × Int × Unit → Prop := fun a => match a with
  | ((a0, l0, b0), x1, _) => 0 ≤ x1 ∧ x1 < a0
abbrev sp_Hours_in_row (K : PySem.W.Frag) (CH : Addr) (cl : Nat → Addr) : Sp := spD (aC (k_Hr K CH) (aC kI a0)) pre_Hours_in_row f_Hours_in_row kI cl
theorem ok_Hours_in_row {f : Addr} {fd : FuncData} (F : Fun K "in_row" "Hours.in_row" s_Hours_in_row f fd) (T_Hr : Tt_Hr K CH) (c_total : Cal P w K mg base 3 "total" (sp_total K cl) []) : FnOk P w K mg base (L2.CX P w) 4 f fd ["self", "weekday"] (sp_Hours_in_row K CH cl) := by
  refine F.okX sc_Hours_in_row (fun vs H Q E h => ?_) (fun cdv A outer s H vs Q E hr h => ?_)
  · obtain ⟨M, a, live, hA, _⟩ := h
    obtain ⟨v0, _, rfl, r0, v1, _, rfl, r1, rfl⟩ := hA
    rfl
  · obtain ⟨M, ⟨⟨a0, l0, b0⟩, x1, _⟩, live, hA, hpre, qok, qer⟩ := h
    obtain ⟨v0, _, rfl, r0, v1, _, rfl, r1, rfl⟩ := hA
    obtain rfl : v1 = (.int x1) := r1
    have iv0 : I_Hr (a0, l0, b0) := inv_Hr r0
    obtain ⟨ia0, ib0, ic0, id0, ie0, if0, ig0⟩ := iv0
    have hpre : 0 ≤ x1 ∧ x1 < a0 := hpre
    have w0 : Holds M [] H := hold0 live
    have o0 : Pr (f_Hours_in_row ((a0, l0, b0), x1, ())) ((.ok (v_total (((atI l0 x1).getD []), ())))) := rfl
    refine ⟨_, pss_one (ps_ret (pe_k c_total hr (by decide) passL (pa_cons (pe_ix ix_list (pe_fld (pv 0) rfl) (pv 1) (fun _ _ => rfl)) pa_nil))), ?_⟩
    refine g_ret (E := E) (cl := cl) (t := kI) (x := (v_total (((atI l0 x1).getD []), ()))) w0 (em_callP (y := (v_total (((atI l0 x1).getD []), ()))) (a := (((atI l0 x1).getD []), ())) (em_cons (em_op (em_Hr_rows T_Hr (em_var (t := (k_Hr K CH)) (v := v0) (x := (a0, l0, b0)) rfl r0)) (em_var (t := kI) (v := (.int x1)) (x := x1) rfl rfl) (o_ixLI (at_inG (z := []) (by dsimp only; omega)))) em_nil) args_id (by exact (fun dd : DayOk _ => ⟨dd.1, dd.2.1, trivial⟩) (by first | exact ofday_ok id0 if0 _ | exact getD_day id0 _)) (by exact is_total _)) (fun v_395 H_396 g_397 w_398 r_399 => ?_)
    exact qok _ v_395 H_396 o0 (show Ex H _ from Gr.fr g_397) r_399
def v_Hours_in_row : (Int × (List (List (Int × Int))) × (List (Int × List (Int × Int)))) × Int × Unit → Int := fun a => match a with
  | ((a0, l0, b0), x1, _) =>
    ((v_total (((atI l0 x1).getD []), ())))
theorem is_Hours_in_row (a : (Int × (List (List (Int × Int))) × (List (Int × List (Int × Int)))) × Int × Unit) : f_Hours_in_row a = .ok (v_Hours_in_row a) := by
  obtain ⟨⟨a0, l0, b0⟩, x1, _⟩ := a
  rfl

abbrev s_Hours_in_day : Stmt := inClass (topS 19) 4
def Hours_in_dayN : List Str := ["self", "day"]
theorem sc_Hours_in_day : FnScope Hours_in_dayN ["self", "day"] (defScope s_Hours_in_day) := ⟨rfl, rfl, rfl, by decide +kernel, rfl, by decide +kernel, by decide +kernel⟩
def f_Hours_in_day : (Int × (List (List (Int × Int))) × (List (Int × List (Int × Int)))) × Int × Unit → Re Int := fun a => match a with
  | ((a0, l0, b0), x1, _) =>
    (.ok (v_total ((v_Hours_of_day ((a0, l0, b0), x1, ())), ())))
def pre_Hours_in_day : (Int × (List (List (Int × Int))) × (List (Int × List (Int × Int)))) × Int × Unit → Prop := fun a => match a with
  | ((a0, l0, b0), x1, _) => True
abbrev sp_Hours_in_day (K : PySem.W.Frag) (CH : Addr) (cl : Nat → Addr) : Sp := spD (aC (k_Hr K CH) (aC kI a0)) pre_Hours_in_day f_Hours_in_day kI cl
theorem ok_Hours_in_day {f : Addr} {fd : FuncData} (F : Fun K "in_day" "Hours.in_day" s_Hours_in_day f fd) (T_Hr : Tt_Hr K CH) (c_total : Cal P w K mg base 3 "total" (sp_total K cl) []) (m_of_day : Mt P w K mg base 1 CH "of_day" (sp_Hours_of_day K CH cl) []) : FnOk P w K mg base (L2.CX P w) 4 f fd ["self", "day"] (sp_Hours_in_day K CH cl) := by
  refine F.okX sc_Hours_in_day (fun vs H Q E h => ?_) (fun cdv A outer s H vs Q E hr h => ?_)
  · obtain ⟨M, a, live, hA, _⟩ := h
    obtain ⟨v0, _, rfl, r0, v1, _, rfl, r1, rfl⟩ := hA
    rfl
  · obtain ⟨M, ⟨⟨a0, l0, b0⟩, x1, _⟩, live, hA, hpre, qok, qer⟩ := h
    obtain ⟨v0, _, rfl, r0, v1, _, rfl, r1, rfl⟩ := hA
    obtain rfl : v1 = (.int x1) := r1
    have iv0 : I_Hr (a0, l0, b0) := inv_Hr r0
    obtain ⟨ia0, ib0, ic0, id0, ie0, if0, ig0⟩ := iv0
    have w0 : Holds M [] H := hold0 live
    have o0 : Pr (f_Hours_in_day ((a0, l0, b0), x1, ())) ((.ok (v_total ((v_Hours_of_day ((a0, l0, b0), x1, ())), ())))) := rfl
    refine ⟨_, pss_one (ps_ret (pe_k c_total hr (by decide) passL (pa_cons (pe_mk m_of_day hr (by decide) passL (pv 0) (pa_cons (pv 1) pa_nil)) pa_nil))), ?_⟩
    refine g_ret (E := E) (cl := cl) (t := kI) (x := (v_total ((v_Hours_of_day ((a0, l0, b0), x1, ())), ()))) w0 (em_callP (y := (v_total ((v_Hours_of_day ((a0, l0, b0), x1, ())), ()))) (a := ((v_Hours_of_day ((a0, l0, b0), x1, ())), ())) (em_cons (em_methP (pre := pre_Hours_of_day) (f := f_Hours_of_day) (y := (v_Hours_of_day ((a0, l0, b0), x1, ()))) (b := (x1, ())) (em_var (t := (k_Hr K CH)) (v := v0) (x := (a0, l0, b0)) rfl r0) (ob_Hr fun _ _ _ => rfl) (em_cons (em_var (t := kI) (v := (.int x1)) (x := x1) rfl rfl) em_nil) args_mG (by exact trivial) (by exact is_Hours_of_day _)) em_nil) args_id (by exact (fun dd : DayOk _ => ⟨dd.1, dd.2.1, trivial⟩) (by first | exact ofday_ok id0 if0 _ | exact getD_day id0 _)) (by exact is_total _)) (fun v_400 H_401 g_402 w_403 r_404 => ?_)
    exact qok _ v_400 H_401 o0 (show Ex H _ from Gr.fr g_402) r_404
def v_Hours_in_day : (Int × (List (List (Int × Int))) × (List (Int × List (Int × Int)))) × Int × Unit → Int := fun a => match a with
  | ((a0, l0, b0), x1, _) =>
    ((v_total ((v_Hours_of_day ((a0, l0, b0), x1, ())), ())))
theorem is_Hours_in_day (a : (Int × (List (List (Int × Int))) × (List (Int × List (Int × Int)))) × Int × Unit) : f_Hours_in_day a = .ok (v_Hours_in_day a) := by
  obtain ⟨⟨a0, l0, b0⟩, x1, _⟩ := a
  rfl

abbrev s_Hours_in_week : Stmt := inClass (topS 19) 3
def Hours_in_weekN : List Str := ["self", "weekday"]
theorem sc_Hours_in_week : FnScope Hours_in_weekN ["self"] (defScope s_Hours_in_week) := ⟨rfl, rfl, rfl, by decide +kernel, rfl, by decide +kernel, by decide +kernel⟩
def f_Hours_in_week : (Int × (List (List (Int × Int))) × (List (Int × List (Int × Int)))) × Unit → Re Int := fun a => match a with
  | ((a0, l0, b0), _) =>
    (.ok (((rng 0 a0).map (fun (x_405 : Int) => (v_Hours_in_row ((a0, l0, b0), x_405, ())))).sum))
def pre_Hours_in_week : (Int × (List (List (Int × Int))) × (List (Int × List (Int × Int)))) × Unit → Prop := fun a => match a with
  | ((a0, l0, b0), _) => True
abbrev sp_Hours_in_week (K : PySem.W.Frag) (CH : Addr) (cl : Nat → Addr) : Sp := spD (aC (k_Hr K CH) a0) pre_Hours_in_week f_Hours_in_week kI cl
theorem ok_Hours_in_week {f : Addr} {fd : FuncData} (F : Fun K "in_week" "Hours.in_week" s_Hours_in_week f fd) (T_Hr : Tt_Hr K CH) (B : BD mg) (m_in_row : Mt P w K mg base 4 CH "in_row" (sp_Hours_in_row K CH cl) []) : FnOk P w K mg base (L2.CX P w) 5 f fd ["self"] (sp_Hours_in_week K CH cl) := by
  refine F.okX sc_Hours_in_week (fun vs H Q E h => ?_) (fun cdv A outer s H vs Q E hr h => ?_)
  · obtain ⟨M, a, live, hA, _⟩ := h
    obtain ⟨v0, _, rfl, r0, rfl⟩ := hA
    rfl
  · obtain ⟨M, ⟨⟨a0, l0, b0⟩, _⟩, live, hA, hpre, qok, qer⟩ := h
    obtain ⟨v0, _, rfl, r0, rfl⟩ := hA
    have iv0 : I_Hr (a0, l0, b0) := inv_Hr r0
    obtain ⟨ia0, ib0, ic0, id0, ie0, if0, ig0⟩ := iv0
    have w0 : Holds M [] H := hold0 live
    have o0 : Pr (f_Hours_in_week ((a0, l0, b0), ())) ((.ok (((rng 0 a0).map (fun (x_405 : Int) => (v_Hours_in_row ((a0, l0, b0), x_405, ())))).sum))) := rfl
    refine ⟨_, pss_one (ps_ret (pe_callB (cr_sum rfl) (by rfl) B.sum (by decide +kernel) (pa_cons (pe_lc (own := [("weekday", 1)]) (g := gName 1) (tt := tYes) rfl sc_Hours_in_week.nd (pi_range1 rfl B.range (pa_cons (pe_fld (pv 0) rfl) pa_nil)) (blkOk_by (own := [("weekday", 1)]) (N := Hours_in_weekN) (sc := defScope s_Hours_in_week) (by decide +kernel)) (fun _ _ _ _ _ => pg_name (i := 1) sc_Hours_in_week.nd rfl (Or.inl rfl)) (fun _ _ _ _ _ => pts_nil) (fun _ _ _ _ _ => (pe_mk m_in_row hr (by decide) passL (pv 0) (pa_cons (pv 1) pa_nil)))) pa_nil))), ?_⟩
    refine g_ret (E := E) (cl := cl) (t := kI) (x := (((rng 0 a0).map (fun (x_405 : Int) => (v_Hours_in_row ((a0, l0, b0), x_405, ())))).sum)) w0 (em_cb (em_cons (em_eq (em_lc (K := K) (u := kI) (fun _ => true) (fun x_405 => (v_Hours_in_row ((a0, l0, b0), x_405, ()))) (ei_R1 (em_cons (em_Hr_week T_Hr (em_var (t := (k_Hr K CH)) (v := v0) (x := (a0, l0, b0)) rfl r0)) em_nil) (by refine ⟨by omega, by omega⟩)) (by rw [rng_len]; omega) eg_name (fun _ _ _ b => by obtain ⟨_, rfl, rfl⟩ := b; rfl) (fun _ _ _ _ _ _ _ _ => gt_yes) (fun M_411 S_412 I_406 x_405 s_410 e_407 m_408 c_415 b_409 => by obtain ⟨_, rfl, rfl⟩ := b_409; rw [rng_mem] at m_408; exact (em_methP (pre := pre_Hours_in_row) (f := f_Hours_in_row) (y := (v_Hours_in_row ((a0, l0, b0), x_405, ()))) (b := (x_405, ())) (em_var (t := (k_Hr K CH)) (v := v0) (x := (a0, l0, b0)) rfl ((k_Hr K CH).up e_407 r0)) (ob_Hr fun _ _ _ => rfl) (em_cons (em_var (t := kI) (v := (.int x_405)) (x := x_405) rfl rfl) em_nil) args_mG (by exact ⟨by omega, by omega⟩) (by exact is_Hours_in_row _)))) (by rw [filter_yes])) em_nil) o_sumL) (fun v_416 H_417 g_418 w_419 r_420 => ?_)
    exact qok _ v_416 H_417 o0 (show Ex H _ from Gr.fr g_418) r_420
def v_Hours_in_week : (Int × (List (List (Int × Int))) × (List (Int × List (Int × Int)))) × Unit → Int := fun a => match a with
  | ((a0, l0, b0), _) =>
    ((((rng 0 a0).map (fun (x_405 : Int) => (v_Hours_in_row ((a0, l0, b0), x_405, ())))).sum))
theorem is_Hours_in_week (a : (Int × (List (List (Int × Int))) × (List (Int × List (Int × Int)))) × Unit) : f_Hours_in_week a = .ok (v_Hours_in_week a) := by
  obtain ⟨⟨a0, l0, b0⟩, _⟩ := a
  rfl
end
end Rw
namespace Rw
open PySem PySem.Spec PyProof.Rows L2 Evl

theorem del_upd_out {M : List Addr} {H : Hp} {p : Addr} {o : HO} (h : p ∉ M) : del M (upd H p o) = upd (del M H) p o := funext fun a => by
  unfold del upd
  by_cases e : a = p
  · subst e
    rw [if_neg h, if_pos rfl, if_pos rfl]
  · rw [if_neg e, if_neg e]
theorem fz_Hr {K : PySem.W.Frag} {CH : Addr} : Fz (k_Hr K CH) := fz_Ob fun hp s s' ⟨v1, v2, h0, h2, h3, h4⟩ => ⟨v1, v2, h0, fz_L (fz_T (fz_2 fz_I fz_I)) hp s s' h2, fz_DV (fz_T (fz_2 fz_I fz_I)) hp s s' h3, h4⟩

theorem sum_bd {α : Type} {f : α → Int} {b : Int} (hb : 0 ≤ b) : ∀ {l : List α}, (∀ x ∈ l, 0 ≤ f x ∧ f x ≤ b) → 0 ≤ (l.map f).sum ∧ (l.map f).sum ≤ b * l.length
  | [], _ => ⟨Int.le_refl _, by simp⟩
  | x :: l, h => by
    have a := h x List.mem_cons_self
    have c := sum_bd (f := f) hb fun y m => h y (List.mem_cons_of_mem _ m)
    rw [List.map_cons, List.sum_cons, List.length_cons]
    have e : b * ((l.length + 1 : Nat) : Int) = b * l.length + b := by rw [Int.natCast_add, Int.mul_add]; omega
    omega
theorem total_bd {x : List (Int × Int)} (h : DayOk x) : 0 ≤ v_total (x, ()) ∧ v_total (x, ()) ≤ 86400000 := by
  have t := tog_day h
  have a := sum_bd (f := fun y : Int × Int => y.2 - y.1) (b := 86400) (by decide) (l := tog x) fun y m => by
    have := t.2.2 y m
    have := t.2.1 y m
    omega
  have := t.1
  show 0 ≤ ((tog x).map fun y : Int × Int => y.2 - y.1).sum ∧ ((tog x).map fun y : Int × Int => y.2 - y.1).sum ≤ _
  omega
theorem row_bd {w : Int} {l : List (List (Int × Int))} {o : List (Int × List (Int × Int))} (h : ∀ x ∈ l, DayOk x) (i : Int) : 0 ≤ v_Hours_in_row ((w, l, o), i, ()) ∧ v_Hours_in_row ((w, l, o), i, ()) ≤ 86400000 := total_bd (getD_day h i)
theorem week_bd {w : Int} {l : List (List (Int × Int))} {o : List (Int × List (Int × Int))} (h : ∀ x ∈ l, DayOk x) (h0 : 1 ≤ w) (h1 : w ≤ 1000) : 0 ≤ v_Hours_in_week ((w, l, o), ()) ∧ v_Hours_in_week ((w, l, o), ()) ≤ 86400000000 := by
  have a := sum_bd (f := fun i : Int => v_Hours_in_row ((w, l, o), i, ())) (b := 86400000) (by decide) (l := rng 0 w) fun i _ => row_bd h i
  have e : ((rng 0 w).length : Int) = w := by rw [rng_len]; omega
  show 0 ≤ ((rng 0 w).map fun i : Int => v_Hours_in_row ((w, l, o), i, ())).sum ∧ ((rng 0 w).map fun i : Int => v_Hours_in_row ((w, l, o), i, ())).sum ≤ _
  omega

section
variable {P : Program} {w : World} {K : PySem.W.Frag} {mg : Str → Option Value} {base : Heap} {CH : Addr} {cl : Nat → Addr}

abbrev s_Hours_ahead_of_day : Stmt := inClass (topS 19) 7
def Hours_ahead_of_dayN : List Str := ["self", "day", "weeks", "weekday", "much", "other", "more", "place"]
theorem sc_Hours_ahead_of_day : FnScope Hours_ahead_of_dayN ["self", "day"] (defScope s_Hours_ahead_of_day) := ⟨rfl, rfl, rfl, by decide +kernel, rfl, by decide +kernel, by decide +kernel⟩
def f_Hours_ahead_of_day : (Int × (List (List (Int × Int))) × (List (Int × List (Int × Int)))) × Int × Unit → Re Int := fun a => match a with
  | ((a0, l0, b0), x1, _) =>
    lt (x1 / a0, x1 % a0) fun _ =>
    lt (((x1 / a0) * (v_Hours_in_week ((a0, l0, b0), ()))) + (((rng 0 (x1 % a0)).map (fun (x_440 : Int) => (v_Hours_in_row ((a0, l0, b0), x_440, ())))).sum)) fun much_451 =>
    forK (fun (x_478 : Int) (s_479 : Int) (kn : Int → _) (kb : Int → _) =>
    lt ((v_Hours_in_day ((a0, l0, b0), x_478, ())) - (v_Hours_in_row ((a0, l0, b0), (x_478 % a0), ()))) fun more_495 =>
    cond ((decide ((0 : Int) ≤ x_478)) && (decide (x_478 < x1)))
    (lt (s_479 + more_495) fun much_515 =>
    kn much_515)
    (cond ((decide (x1 ≤ x_478)) && (decide (x_478 < (0 : Int))))
    (lt (s_479 - more_495) fun much_534 =>
    kn much_534)
    (kn s_479)))
    (fun (s_543 : Int) =>
    (.ok s_543))
    (b0.map (·.1)) much_451
def pre_Hours_ahead_of_day : (Int × (List (List (Int × Int))) × (List (Int × List (Int × Int)))) × Int × Unit → Prop := fun a => match a with
  | ((a0, l0, b0), x1, _) => True
abbrev sp_Hours_ahead_of_day (K : PySem.W.Frag) (CH : Addr) (cl : Nat → Addr) : Sp := spD (aC (k_Hu K CH) (aC kI a0)) pre_Hours_ahead_of_day f_Hours_ahead_of_day kI cl
theorem ok_Hours_ahead_of_day {f : Addr} {fd : FuncData} (F : Fun K "ahead_of_day" "Hours.ahead_of_day" s_Hours_ahead_of_day f fd) (T_Hr : Tt_Hr K CH) (T_Hu : Tt_Hu K CH) (B : BD mg) (m_in_week : Mt P w K mg base 5 CH "in_week" (sp_Hours_in_week K CH cl) []) (m_in_day : Mt P w K mg base 4 CH "in_day" (sp_Hours_in_day K CH cl) []) (m_in_row : Mt P w K mg base 4 CH "in_row" (sp_Hours_in_row K CH cl) []) : FnOk P w K mg base (L2.CX P w) 6 f fd ["self", "day"] (sp_Hours_ahead_of_day K CH cl) := by
  refine F.okX sc_Hours_ahead_of_day (fun vs H Q E h => ?_) (fun cdv A outer s H vs Q E hr h => ?_)
  · obtain ⟨M, a, live, hA, _⟩ := h
    obtain ⟨v0, _, rfl, r0, v1, _, rfl, r1, rfl⟩ := hA
    rfl
  · obtain ⟨M, ⟨⟨a0, l0, b0⟩, x1, _⟩, live, hA, hpre, qok, qer⟩ := h
    obtain ⟨v0, _, rfl, r0, v1, _, rfl, r1, rfl⟩ := hA
    obtain rfl : v1 = (.int x1) := r1
    have iv0 : I_Hu (a0, l0, b0) := inv_Hu r0
    obtain ⟨ia0, ib0, ic0, id0, ie0, if0, ig0⟩ := iv0
    have w0 : Holds M [] H := hold0 live
    have o0 : Pr (f_Hours_ahead_of_day ((a0, l0, b0), x1, ())) (lt (x1 / a0, x1 % a0) fun _ =>
lt (((x1 / a0) * (v_Hours_in_week ((a0, l0, b0), ()))) + (((rng 0 (x1 % a0)).map (fun (x_440 : Int) => (v_Hours_in_row ((a0, l0, b0), x_440, ())))).sum)) fun much_451 =>
forK (fun (x_478 : Int) (s_479 : Int) (kn : Int → _) (kb : Int → _) =>
lt ((v_Hours_in_day ((a0, l0, b0), x_478, ())) - (v_Hours_in_row ((a0, l0, b0), (x_478 % a0), ()))) fun more_495 =>
cond ((decide ((0 : Int) ≤ x_478)) && (decide (x_478 < x1)))
(lt (s_479 + more_495) fun much_515 =>
kn much_515)
(cond ((decide (x1 ≤ x_478)) && (decide (x_478 < (0 : Int))))
(lt (s_479 - more_495) fun much_534 =>
kn much_534)
(kn s_479)))
(fun (s_543 : Int) =>
(.ok s_543))
(b0.map (·.1)) much_451) := rfl
    refine ⟨_, pss_cons (ps_asg (pe_callB call_divmod (by rfl) B.divmod (by decide +kernel) (pa_cons (pv 1) (pa_cons (pe_fld (pv 0) rfl) pa_nil))) (pg_tup rfl (pgs_cons (pg_name (i := 2) sc_Hours_ahead_of_day.nd rfl (.inl rfl)) (pgs_cons (pg_name (i := 3) sc_Hours_ahead_of_day.nd rfl (.inl rfl)) pgs_nil)))) (pss_cons (ps_set (i := 4) sc_Hours_ahead_of_day.nd rfl (.inl rfl) (pe_op op_add (pe_op op_mul (pv 2) (pe_mk0 m_in_week hr (by decide) passL (pv 0))) (pe_callB (cr_sum rfl) (by rfl) B.sum (by decide +kernel) (pa_cons (pe_lc (own := [("place", 7)]) (g := gName 7) (tt := tYes) rfl sc_Hours_ahead_of_day.nd (pi_range1 rfl B.range (pa_cons (pv 3) pa_nil)) (blkOk_by (own := [("place", 7)]) (N := Hours_ahead_of_dayN) (sc := defScope s_Hours_ahead_of_day) (by decide +kernel)) (fun _ _ _ _ _ => pg_name (i := 7) sc_Hours_ahead_of_day.nd rfl (Or.inl rfl)) (fun _ _ _ _ _ => pts_nil) (fun _ _ _ _ _ => (pe_mk m_in_row hr (by decide) passL (pv 0) (pa_cons (pv 7) pa_nil)))) pa_nil)))) (pss_cons (ps_lock (ps_for (passes_of rfl) rfl (pi_keys (pe_fld (pv 0) rfl)) (pg_name (i := 5) sc_Hours_ahead_of_day.nd rfl (.inl rfl)) (pss_cons (ps_set (i := 6) sc_Hours_ahead_of_day.nd rfl (.inl rfl) (pe_op op_sub (pe_mk m_in_day hr (by decide) passL (pv 0) (pa_cons (pv 5) pa_nil)) (pe_mk m_in_row hr (by decide) passL (pv 0) (pa_cons (pe_op op_mod (pv 5) (pe_fld (pv 0) rfl)) pa_nil)))) (pss_one (ps_if (pt_chain op_le op_lt pe_int (pv 5) (pv 1)) (pss_one (ps_aug (i := 4) sc_Hours_ahead_of_day.nd rfl (.inl rfl) (pv 6) ip_add)) (pss_one (ps_if (pt_chain op_le op_lt (pv 1) (pv 5) pe_int) (pss_one (ps_aug (i := 4) sc_Hours_ahead_of_day.nd rfl (.inl rfl) (pv 6) ip_sub)) (pss_nil)))))))) (pss_one (ps_ret (pv 4))))), ?_⟩
    refine g_asgG (E := E) (cl := cl) (t := (k2 K kI kI)) (x := (x1 / a0, x1 % a0)) w0 eg_2 o0 (em_cb (em_cons (em_var (t := kI) (v := (.int x1)) (x := x1) rfl rfl) (em_cons (em_Hu_week T_Hu (em_var (t := (k_Hu K CH)) (v := v0) (x := (a0, l0, b0)) rfl r0)) em_nil)) (o_divmod (by exact ⟨by omega, by omega⟩))) (fun p_421 σ_422 H_423 hx_424 o_425 g_426 w_427 b => ?_)
    subst hx_424
    have r_428 := (k_Hu K CH).up g_426.im r0
    obtain ⟨_, _, rfl, rfl, rfl⟩ := b
    refine g_asg (E := E) (cl := cl) (i := 4) (t := kI) (x := (((x1 / a0) * (v_Hours_in_week ((a0, l0, b0), ()))) + (((rng 0 (x1 % a0)).map (fun (x_440 : Int) => (v_Hours_in_row ((a0, l0, b0), x_440, ())))).sum))) w_427 o_425 (em_op (em_op (em_var (t := kI) (v := (.int (x1 / a0))) (x := (x1 / a0)) rfl rfl) (em_methP (pre := pre_Hours_in_week) (f := f_Hours_in_week) (y := (v_Hours_in_week ((a0, l0, b0), ()))) (b := (())) (em_weak (em_var (t := (k_Hu K CH)) (v := v0) (x := (a0, l0, b0)) rfl r_428)) (ob_Hr fun _ _ _ => rfl) em_nil args_mG (by exact trivial) (by exact is_Hours_in_week _)) (o_IC (by have wb := week_bd (w := a0) (l := l0) (o := b0) id0 ia0 ib0; exact .inr ⟨by omega, by omega⟩))) (em_cb (em_cons (em_eq (em_lc (K := K) (u := kI) (fun _ => true) (fun x_440 => (v_Hours_in_row ((a0, l0, b0), x_440, ()))) (ei_R1 (em_cons (em_var (t := kI) (v := (.int (x1 % a0))) (x := (x1 % a0)) rfl rfl) em_nil) (by have q1 := Int.emod_nonneg x1 (b := a0) (by omega); have q2 := Int.emod_lt_of_pos x1 (b := a0) (by omega); refine ⟨by omega, by omega⟩)) (by rw [rng_len]; have q1 := Int.emod_nonneg x1 (b := a0) (by omega); have q2 := Int.emod_lt_of_pos x1 (b := a0) (by omega); omega) eg_name (fun _ _ _ b => by obtain ⟨_, rfl, rfl⟩ := b; rfl) (fun _ _ _ _ _ _ _ _ => gt_yes) (fun M_446 S_447 I_441 x_440 s_445 e_442 m_443 c_450 b_444 => by obtain ⟨_, rfl, rfl⟩ := b_444; rw [rng_mem] at m_443; exact (em_methP (pre := pre_Hours_in_row) (f := f_Hours_in_row) (y := (v_Hours_in_row ((a0, l0, b0), x_440, ()))) (b := (x_440, ())) (em_weak (em_var (t := (k_Hu K CH)) (v := v0) (x := (a0, l0, b0)) rfl ((k_Hu K CH).up e_442 r_428))) (ob_Hr fun _ _ _ => rfl) (em_cons (em_var (t := kI) (v := (.int x_440)) (x := x_440) rfl rfl) em_nil) args_mG (by have q1 := Int.emod_nonneg x1 (b := a0) (by omega); have q2 := Int.emod_lt_of_pos x1 (b := a0) (by omega); exact ⟨by omega, by omega⟩) (by exact is_Hours_in_row _)))) (by rw [filter_yes])) em_nil) o_sumL) o_I) (fun much_451 v_452 H_453 hx_454 o_455 g_456 w_457 r_458 => ?_)
    have r_459 := (k_Hu K CH).up g_456.im r_428
    obtain rfl : v_452 = (.int much_451) := r_458
    obtain ⟨xs_460, dx_461, fs_462, e_463, h_464, vr_465, vo_466, h_467, h_468, ⟨p_469, kv_470, ep_471, hp_472, hk_473⟩, iv_474⟩ := r_459
    have pM_475 : p_469 ∉ M := (del_some.mp hp_472).1
    have rz_476 : ∀ od, (k_Hr K CH).r (del M (upd H_453 p_469 (.frz od (.dK kv_470)))) v0 (a0, l0, b0) := fun od => by rw [del_upd_out pM_475]; exact fz_Hr (od := od) hp_472 (.inl rfl) (.inr rfl) (weak_r ⟨xs_460, dx_461, fs_462, e_463, h_464, vr_465, vo_466, h_467, h_468, ⟨p_469, kv_470, ep_471, hp_472, hk_473⟩, iv_474⟩)
    refine (g_forD (j := 5) (ks := (b0.map (·.1))) (s0 := much_451) (fun (I : Hp) (_ : List Int) (s : Int) (σ : L2.St) => ∃ (l5 : Option V) (l6 : Option V), σ = [some v0, some (.int x1), some (.int (x1 / a0)), some (.int (x1 % a0)), some (.int s), l5, l6, none] ∧ (k_Hr K CH).r I v0 (a0, l0, b0)) w_457 (del_some.mp hp_472).2 pM_475 (by rw [keys_dv hk_473, List.map_map]; rfl) o_455 (fun od Q q => ⟨v0, rfl, xs_460, CH, dx_461, fs_462, vo_466, e_463, (upd_ne (fun z => by rw [z, hp_472] at h_464; cases h_464)).trans (del_some.mp h_464).2, T_Hu.cls, T_Hu.n_others, by rw [h_467]; rfl, by rw [ep_471]; exact q⟩) (fun od => ⟨_, _, rfl, rz_476 od⟩) (fun od_542 s_543 σ_544 H_545 hf_546 g_547 w_548 rv_549 o_550 => ?_) (fun od_477 x_478 s_479 σ_480 H_481 rs_482 rt_483 bk_484 xm_485 g_486 w_487 rv_488 o_489 Nx_490 nx_491 => ?_))
    · obtain ⟨l_551, l_552, rfl, _⟩ := rv_549
      refine g_ret (E := E) (cl := cl) (t := kI) (x := s_543) w_548 (em_var (t := kI) (v := (.int s_543)) (x := s_543) rfl rfl) (fun v_553 H_554 g_555 w_556 r_557 => ?_)
      exact qok _ v_553 H_554 o_550 (show Ex H _ from Gr.fr (((g_426.then g_456 rfl).then g_547 rfl).then g_555 rfl)) r_557
    · obtain ⟨l_493, l_494, rfl, r_492⟩ := rv_488
      refine g_asg (E := E) (cl := cl) (i := 6) (t := kI) (x := ((v_Hours_in_day ((a0, l0, b0), x_478, ())) - (v_Hours_in_row ((a0, l0, b0), (x_478 % a0), ())))) w_487 o_489 (em_op (em_methP (pre := pre_Hours_in_day) (f := f_Hours_in_day) (y := (v_Hours_in_day ((a0, l0, b0), x_478, ()))) (b := (x_478, ())) (em_var (t := (k_Hr K CH)) (v := v0) (x := (a0, l0, b0)) rfl r_492) (ob_Hr fun _ _ _ => rfl) (em_cons (em_var (t := kI) (v := (.int x_478)) (x := x_478) rfl rfl) em_nil) args_mG (by exact trivial) (by exact is_Hours_in_day _)) (em_methP (pre := pre_Hours_in_row) (f := f_Hours_in_row) (y := (v_Hours_in_row ((a0, l0, b0), (x_478 % a0), ()))) (b := ((x_478 % a0), ())) (em_var (t := (k_Hr K CH)) (v := v0) (x := (a0, l0, b0)) rfl r_492) (ob_Hr fun _ _ _ => rfl) (em_cons (em_op (em_var (t := kI) (v := (.int x_478)) (x := x_478) rfl rfl) (em_Hr_week T_Hr (em_var (t := (k_Hr K CH)) (v := v0) (x := (a0, l0, b0)) rfl r_492)) (o_IC (C := fun _ j => 0 < j) (by show (0 : Int) < _; omega))) em_nil) args_mG (by exact ⟨Int.emod_nonneg _ (by omega), Int.emod_lt_of_pos _ (by omega)⟩) (by exact is_Hours_in_row _)) o_I) (fun more_495 v_496 H_497 hx_498 o_499 g_500 w_501 r_502 => ?_)
      have r_503 := (k_Hr K CH).up g_500.im r_492
      obtain rfl : v_496 = (.int more_495) := r_502
      refine g_ifL (E := E) (cl := cl) (b := ((decide ((0 : Int) ≤ x_478)) && (decide (x_478 < x1)))) w_501 o_499 (gt_test (em_chain em_int (em_var (t := kI) (v := (.int x_478)) (x := x_478) rfl rfl) (fun _ => (em_var (t := kI) (v := (.int x1)) (x := x1) rfl rfl)) o_IB o_IB)) (fun hb_505 o_506 H_504 g_507 w_508 => ?_) (fun hb_510 o_511 H_509 g_512 w_513 => ?_)
      · try simp only [decide_eq_true_eq, decide_eq_false_iff_not, Bool.and_eq_true, Bool.or_eq_true, Bool.and_eq_false_iff, Bool.or_eq_false_iff, Bool.not_eq_true', Bool.not_eq_false'] at hb_505
        have r_514 := (k_Hr K CH).up g_507.im r_503
        refine g_augL (E := E) (cl := cl) (i := 4) (z := (s_479 + more_495)) (a := s_479) (b := more_495) w_508 o_506 rfl (em_var (t := kI) (v := (.int more_495)) (x := more_495) rfl rfl) (fun _ _ q => ⟨_, _, rfl, rfl, q⟩) (fun much_515 H_516 hx_517 o_518 g_519 w_520 => ?_)
        have r_521 := (k_Hr K CH).up g_519.im r_514
        exact nx_491 much_515 _ _ o_518 (Gr.cast ((g_500.then g_507 rfl).then g_519 rfl) rfl) w_520 ⟨_, _, rfl, r_521⟩
      · try simp only [decide_eq_true_eq, decide_eq_false_iff_not, Bool.and_eq_true, Bool.or_eq_true, Bool.and_eq_false_iff, Bool.or_eq_false_iff, Bool.not_eq_true', Bool.not_eq_false'] at hb_510
        have r_522 := (k_Hr K CH).up g_512.im r_503
        refine g_ifL (E := E) (cl := cl) (b := ((decide (x1 ≤ x_478)) && (decide (x_478 < (0 : Int))))) w_513 o_511 (gt_test (em_chain (em_var (t := kI) (v := (.int x1)) (x := x1) rfl rfl) (em_var (t := kI) (v := (.int x_478)) (x := x_478) rfl rfl) (fun _ => em_int) o_IB o_IB)) (fun hb_524 o_525 H_523 g_526 w_527 => ?_) (fun hb_529 o_530 H_528 g_531 w_532 => ?_)
        · try simp only [decide_eq_true_eq, decide_eq_false_iff_not, Bool.and_eq_true, Bool.or_eq_true, Bool.and_eq_false_iff, Bool.or_eq_false_iff, Bool.not_eq_true', Bool.not_eq_false'] at hb_524
          have r_533 := (k_Hr K CH).up g_526.im r_522
          refine g_augL (E := E) (cl := cl) (i := 4) (z := (s_479 - more_495)) (a := s_479) (b := more_495) w_527 o_525 rfl (em_var (t := kI) (v := (.int more_495)) (x := more_495) rfl rfl) (fun _ _ q => ⟨_, _, rfl, rfl, q⟩) (fun much_534 H_535 hx_536 o_537 g_538 w_539 => ?_)
          have r_540 := (k_Hr K CH).up g_538.im r_533
          exact nx_491 much_534 _ _ o_537 (Gr.cast (((g_500.then g_512 rfl).then g_526 rfl).then g_538 rfl) rfl) w_539 ⟨_, _, rfl, r_540⟩
        · try simp only [decide_eq_true_eq, decide_eq_false_iff_not, Bool.and_eq_true, Bool.or_eq_true, Bool.and_eq_false_iff, Bool.or_eq_false_iff, Bool.not_eq_true', Bool.not_eq_false'] at hb_529
          have r_541 := (k_Hr K CH).up g_531.im r_522
          exact nx_491 s_479 _ _ o_530 (Gr.cast ((g_500.then g_512 rfl).then g_531 rfl) rfl) w_532 ⟨_, _, rfl, r_541⟩
end
end Rw
namespace Rw
open PySem PySem.Spec PyProof.Rows L2 Evl

abbrev Hv := (Int × (List (List (Int × Int))) × (List (Int × List (Int × Int))))
/-- what the others' days change -/
def stepO (h : Hv) (d s x : Int) : Int := cond (decide ((0 : Int) ≤ x) && decide (x < d)) (s + (v_Hours_in_day (h, x, ()) - v_Hours_in_row (h, x % h.1, ()))) (cond (decide (d ≤ x) && decide (x < (0 : Int))) (s - (v_Hours_in_day (h, x, ()) - v_Hours_in_row (h, x % h.1, ()))) s)
def adV (h : Hv) (d : Int) : Int := (h.2.2.map (·.1)).foldl (stepO h d) (d / h.1 * v_Hours_in_week (h, ()) + ((rng 0 (d % h.1)).map fun x => v_Hours_in_row (h, x, ())).sum)
theorem cond_kn {R : Type} {b : Bool} {kn : Int → R} {x y : Int} : cond b (kn x) (kn y) = kn (cond b x y) := by cases b <;> rfl
theorem ad_ok (h : Hv) (d : Int) : f_Hours_ahead_of_day (h, d, ()) = .ok (adV h d) := by
  obtain ⟨a, l, o⟩ := h
  show forK _ (fun s => Re.ok s) (o.map (·.1)) (d / a * v_Hours_in_week ((a, l, o), ()) + ((rng 0 (d % a)).map fun x => v_Hours_in_row ((a, l, o), x, ())).sum) = _
  rw [forK_fold (f := stepO (a, l, o) d)]
  · rfl
  · intro x s kn kb
    show cond (decide ((0 : Int) ≤ x) && decide (x < d)) (kn (s + (v_Hours_in_day ((a, l, o), x, ()) - v_Hours_in_row ((a, l, o), x % a, ())))) (cond (decide (d ≤ x) && decide (x < (0 : Int))) (kn (s - (v_Hours_in_day ((a, l, o), x, ()) - v_Hours_in_row ((a, l, o), x % a, ())))) (kn s)) = _
    rw [cond_kn, cond_kn]
    rfl


section
variable {P : Program} {w : World} {K : PySem.W.Frag} {mg : Str → Option Value} {base : Heap} {CH : Addr} {cl : Nat → Addr}

abbrev s_Hours_ahead : Stmt := inClass (topS 19) 6
def Hours_aheadN : List Str := ["self", "time", "day", "second", "part", "first", "last"]
theorem sc_Hours_ahead : FnScope Hours_aheadN ["self", "time"] (defScope s_Hours_ahead) := ⟨rfl, rfl, rfl, by decide +kernel, rfl, by decide +kernel, by decide +kernel⟩
def f_Hours_ahead : (Int × (List (List (Int × Int))) × (List (Int × List (Int × Int)))) × Int × Unit → Re Int := fun a => match a with
  | ((a0, l0, b0), x1, _) =>
    lt (x1 / (86400 : Int), x1 % (86400 : Int)) fun _ =>
    lt ((((v_Hours_of_day ((a0, l0, b0), (x1 / (86400 : Int)), ())).filter (fun (x_575 : (Int × Int)) => (decide (x_575.1 < (x1 % (86400 : Int)))))).map (fun (x_575 : (Int × Int)) => ((if x_575.2 < (x1 % (86400 : Int)) then x_575.2 else (x1 % (86400 : Int))) - x_575.1))).sum) fun part_584 =>
    (.ok ((adV (a0, l0, b0) (x1 / (86400 : Int))) + part_584))
def pre_Hours_ahead : (Int × (List (List (Int × Int))) × (List (Int × List (Int × Int)))) × Int × Unit → Prop := fun a => match a with
  | ((a0, l0, b0), x1, _) => True
abbrev sp_Hours_ahead (K : PySem.W.Frag) (CH : Addr) (cl : Nat → Addr) : Sp := spD (aC (k_Hu K CH) (aC kI a0)) pre_Hours_ahead f_Hours_ahead kI cl
theorem ok_Hours_ahead {f : Addr} {fd : FuncData} (F : Fun K "ahead" "Hours.ahead" s_Hours_ahead f fd) (T_Hr : Tt_Hr K CH) (T_Hu : Tt_Hu K CH) (B : BD mg) (gi_DAY : ∃ t, mg "DAY" = some (.int 86400 t)) (m_of_day : Mt P w K mg base 1 CH "of_day" (sp_Hours_of_day K CH cl) []) (m_ahead_of_day : Mt P w K mg base 6 CH "ahead_of_day" (sp_Hours_ahead_of_day K CH cl) []) : FnOk P w K mg base (L2.CX P w) 7 f fd ["self", "time"] (sp_Hours_ahead K CH cl) := by
  refine F.okX sc_Hours_ahead (fun vs H Q E h => ?_) (fun cdv A outer s H vs Q E hr h => ?_)
  · obtain ⟨M, a, live, hA, _⟩ := h
    obtain ⟨v0, _, rfl, r0, v1, _, rfl, r1, rfl⟩ := hA
    rfl
  · obtain ⟨M, ⟨⟨a0, l0, b0⟩, x1, _⟩, live, hA, hpre, qok, qer⟩ := h
    obtain ⟨v0, _, rfl, r0, v1, _, rfl, r1, rfl⟩ := hA
    obtain rfl : v1 = (.int x1) := r1
    have iv0 : I_Hu (a0, l0, b0) := inv_Hu r0
    obtain ⟨ia0, ib0, ic0, id0, ie0, if0, ig0⟩ := iv0
    have w0 : Holds M [] H := hold0 live
    have o0 : Pr (f_Hours_ahead ((a0, l0, b0), x1, ())) (lt (x1 / (86400 : Int), x1 % (86400 : Int)) fun _ =>
lt ((((v_Hours_of_day ((a0, l0, b0), (x1 / (86400 : Int)), ())).filter (fun (x_575 : (Int × Int)) => (decide (x_575.1 < (x1 % (86400 : Int)))))).map (fun (x_575 : (Int × Int)) => ((if x_575.2 < (x1 % (86400 : Int)) then x_575.2 else (x1 % (86400 : Int))) - x_575.1))).sum) fun part_584 =>
(.ok ((adV (a0, l0, b0) (x1 / (86400 : Int))) + part_584))) := rfl
    refine ⟨_, pss_cons (ps_asg (pe_callB call_divmod (by rfl) B.divmod (by decide +kernel) (pa_cons (pv 1) (pa_cons (pe_GI gi_DAY) pa_nil))) (pg_tup rfl (pgs_cons (pg_name (i := 2) sc_Hours_ahead.nd rfl (.inl rfl)) (pgs_cons (pg_name (i := 3) sc_Hours_ahead.nd rfl (.inr rfl)) pgs_nil)))) (pss_cons (ps_set (i := 4) sc_Hours_ahead.nd rfl (.inl rfl) (pe_callB (cr_sum rfl) (by rfl) B.sum (by decide +kernel) (pa_cons (pe_lc (own := [("first", 5), ("last", 6)]) (g := gTup K 2 (gCons (gName 5) (gCons (gName 6) gNil))) (tt := _) rfl sc_Hours_ahead.nd (pi_tup (pe_mk m_of_day hr (by decide) passL (pv 0) (pa_cons (pv 2) pa_nil))) (blkOk_by (own := [("first", 5), ("last", 6)]) (N := Hours_aheadN) (sc := defScope s_Hours_ahead) (by decide +kernel)) (fun _ _ _ _ _ => pg_tup rfl (pgs_cons (pg_name (i := 5) sc_Hours_ahead.nd rfl (Or.inl rfl)) (pgs_cons (pg_name (i := 6) sc_Hours_ahead.nd rfl (Or.inl rfl)) pgs_nil))) (fun _ _ _ _ _ => pts_one (pt_cmpR op_lt (pv 5) (pv 3) (nomark _))) (fun _ _ _ _ _ => (pe_op op_sub (pe_callB (call_min2 rfl) (by rfl) B.min (by decide +kernel) (pa_cons (pv 3) (pa_cons (pv 6) pa_nil))) (pv 5)))) pa_nil))) (pss_one (ps_ret (pe_op op_add (pe_mk m_ahead_of_day hr (by decide) passL (pv 0) (pa_cons (pv 2) pa_nil)) (pv 4))))), ?_⟩
    refine g_asgG (E := E) (cl := cl) (t := (k2 K kI kI)) (x := (x1 / (86400 : Int), x1 % (86400 : Int))) w0 eg_2 o0 (em_cb (em_cons (em_var (t := kI) (v := (.int x1)) (x := x1) rfl rfl) (em_cons em_int em_nil)) (o_divmod (by exact ⟨by omega, by omega⟩))) (fun p_558 σ_559 H_560 hx_561 o_562 g_563 w_564 b => ?_)
    subst hx_561
    have r_565 := (k_Hu K CH).up g_563.im r0
    obtain ⟨_, _, rfl, rfl, rfl⟩ := b
    refine g_asg (E := E) (cl := cl) (i := 4) (t := kI) (x := ((((v_Hours_of_day ((a0, l0, b0), (x1 / (86400 : Int)), ())).filter (fun (x_575 : (Int × Int)) => (decide (x_575.1 < (x1 % (86400 : Int)))))).map (fun (x_575 : (Int × Int)) => ((if x_575.2 < (x1 % (86400 : Int)) then x_575.2 else (x1 % (86400 : Int))) - x_575.1))).sum)) w_564 o_562 (em_cb (em_cons (em_lc (K := K) (u := kI) (fun x_575 => (decide (x_575.1 < (x1 % (86400 : Int))))) (fun x_575 => ((if x_575.2 < (x1 % (86400 : Int)) then x_575.2 else (x1 % (86400 : Int))) - x_575.1)) (ei_T (em_methP (pre := pre_Hours_of_day) (f := f_Hours_of_day) (y := (v_Hours_of_day ((a0, l0, b0), (x1 / (86400 : Int)), ()))) (b := ((x1 / (86400 : Int)), ())) (em_weak (em_var (t := (k_Hu K CH)) (v := v0) (x := (a0, l0, b0)) rfl r_565)) (ob_Hr fun _ _ _ => rfl) (em_cons (em_var (t := kI) (v := (.int (x1 / (86400 : Int)))) (x := (x1 / (86400 : Int))) rfl rfl) em_nil) args_mG (by exact trivial) (by exact is_Hours_of_day _))) (by have dd := ofday_ok (w := a0) id0 if0 (x1 / 86400); have := dd.1; omega) eg_2 (fun _ _ _ b => by obtain ⟨_, _, rfl, rfl, rfl⟩ := b; rfl) (fun M_581 S_582 I_576 x_575 s_580 e_577 m_578 b_579 => by obtain ⟨_, _, rfl, rfl, rfl⟩ := b_579; exact (gt_test (em_op (em_var (t := kI) (v := (.int x_575.1)) (x := x_575.1) rfl rfl) (em_var (t := kI) (v := (.int (x1 % (86400 : Int)))) (x := (x1 % (86400 : Int))) rfl rfl) o_IB))) (fun M_581 S_582 I_576 x_575 s_580 e_577 m_578 c_583 b_579 => by obtain ⟨_, _, rfl, rfl, rfl⟩ := b_579; exact (em_op (em_cb (em_cons (em_var (t := kI) (v := (.int (x1 % (86400 : Int)))) (x := (x1 % (86400 : Int))) rfl rfl) (em_cons (em_var (t := kI) (v := (.int x_575.2)) (x := x_575.2) rfl rfl) em_nil)) o_min2) (em_var (t := kI) (v := (.int x_575.1)) (x := x_575.1) rfl rfl) o_I))) em_nil) o_sumL) (fun part_584 v_585 H_586 hx_587 o_588 g_589 w_590 r_591 => ?_)
    have r_592 := (k_Hu K CH).up g_589.im r_565
    obtain rfl : v_585 = (.int part_584) := r_591
    refine g_ret (E := E) (cl := cl) (t := kI) (x := ((adV (a0, l0, b0) (x1 / (86400 : Int))) + part_584)) w_590 (em_op (em_methP (pre := pre_Hours_ahead_of_day) (f := f_Hours_ahead_of_day) (y := (adV (a0, l0, b0) (x1 / (86400 : Int)))) (b := ((x1 / (86400 : Int)), ())) (em_var (t := (k_Hu K CH)) (v := v0) (x := (a0, l0, b0)) rfl r_592) (ob_Hu fun _ _ _ => rfl) (em_cons (em_var (t := kI) (v := (.int (x1 / (86400 : Int)))) (x := (x1 / (86400 : Int))) rfl rfl) em_nil) args_mG (by exact trivial) (by exact ad_ok _ _)) (em_var (t := kI) (v := (.int part_584)) (x := part_584) rfl rfl) o_I) (fun v_593 H_594 g_595 w_596 r_597 => ?_)
    exact qok _ v_593 H_594 o_588 (show Ex H _ from Gr.fr ((g_563.then g_589 rfl).then g_595 rfl)) r_597
def v_Hours_ahead : (Int × (List (List (Int × Int))) × (List (Int × List (Int × Int)))) × Int × Unit → Int := fun a => match a with
  | ((a0, l0, b0), x1, _) =>
    lt (x1 / (86400 : Int), x1 % (86400 : Int)) fun _ =>
    lt ((((v_Hours_of_day ((a0, l0, b0), (x1 / (86400 : Int)), ())).filter (fun (x_575 : (Int × Int)) => (decide (x_575.1 < (x1 % (86400 : Int)))))).map (fun (x_575 : (Int × Int)) => ((if x_575.2 < (x1 % (86400 : Int)) then x_575.2 else (x1 % (86400 : Int))) - x_575.1))).sum) fun part_584 =>
    (((adV (a0, l0, b0) (x1 / (86400 : Int))) + part_584))
theorem is_Hours_ahead (a : (Int × (List (List (Int × Int))) × (List (Int × List (Int × Int)))) × Int × Unit) : f_Hours_ahead a = .ok (v_Hours_ahead a) := by
  obtain ⟨⟨a0, l0, b0⟩, x1, _⟩ := a
  rfl

abbrev s_Hours_between : Stmt := inClass (topS 19) 8
def Hours_betweenN : List Str := ["self", "first", "last"]
theorem sc_Hours_between : FnScope Hours_betweenN ["self", "first", "last"] (defScope s_Hours_between) := ⟨rfl, rfl, rfl, by decide +kernel, rfl, by decide +kernel, by decide +kernel⟩
def f_Hours_between : (Int × (List (List (Int × Int))) × (List (Int × List (Int × Int)))) × Int × Int × Unit → Re Int := fun a => match a with
  | ((a0, l0, b0), x1, x2, _) =>
    cond (decide (x2 < x1))
    ((.er 2))
    ((.ok ((v_Hours_ahead ((a0, l0, b0), x2, ())) - (v_Hours_ahead ((a0, l0, b0), x1, ())))))
def pre_Hours_between : (Int × (List (List (Int × Int))) × (List (Int × List (Int × Int)))) × Int × Int × Unit → Prop := fun a => match a with
  | ((a0, l0, b0), x1, x2, _) => True
abbrev sp_Hours_between (K : PySem.W.Frag) (CH : Addr) (cl : Nat → Addr) : Sp := spD (aC (k_Hu K CH) (aC kI (aC kI a0))) pre_Hours_between f_Hours_between kI cl
theorem ok_Hours_between {f : Addr} {fd : FuncData} (F : Fun K "between" "Hours.between" s_Hours_between f fd) (T_Hu : Tt_Hu K CH) (m_ahead : Mt P w K mg base 7 CH "ahead" (sp_Hours_ahead K CH cl) []) (xBadTime : Exc1 K mg "BadTime" (cl 2)) : FnOk P w K mg base (L2.CX P w) 8 f fd ["self", "first", "last"] (sp_Hours_between K CH cl) := by
  refine F.okX sc_Hours_between (fun vs H Q E h => ?_) (fun cdv A outer s H vs Q E hr h => ?_)
  · obtain ⟨M, a, live, hA, _⟩ := h
    obtain ⟨v0, _, rfl, r0, v1, _, rfl, r1, v2, _, rfl, r2, rfl⟩ := hA
    rfl
  · obtain ⟨M, ⟨⟨a0, l0, b0⟩, x1, x2, _⟩, live, hA, hpre, qok, qer⟩ := h
    obtain ⟨v0, _, rfl, r0, v1, _, rfl, r1, v2, _, rfl, r2, rfl⟩ := hA
    obtain rfl : v1 = (.int x1) := r1
    obtain rfl : v2 = (.int x2) := r2
    have iv0 : I_Hu (a0, l0, b0) := inv_Hu r0
    obtain ⟨ia0, ib0, ic0, id0, ie0, if0, ig0⟩ := iv0
    have w0 : Holds M [] H := hold0 live
    have o0 : Pr (f_Hours_between ((a0, l0, b0), x1, x2, ())) (cond (decide (x2 < x1))
((.er 2))
((.ok ((v_Hours_ahead ((a0, l0, b0), x2, ())) - (v_Hours_ahead ((a0, l0, b0), x1, ())))))) := rfl
    refine ⟨_, pss_cons (ps_if (pt_cmpR op_lt (pv 2) (pv 1) (nomark _)) (pss_one (ps_raiseX xBadTime)) (pss_nil)) (pss_one (ps_ret (pe_op op_sub (pe_mk m_ahead hr (by decide) passL (pv 0) (pa_cons (pv 2) pa_nil)) (pe_mk m_ahead hr (by decide) passL (pv 0) (pa_cons (pv 1) pa_nil))))), ?_⟩
    refine g_when (E := E) (cl := cl) (b := (decide (x2 < x1))) w0 o0 (gt_test (em_op (em_var (t := kI) (v := (.int x2)) (x := x2) rfl rfl) (em_var (t := kI) (v := (.int x1)) (x := x1) rfl rfl) o_IB)) (fun hb_599 o_600 H_598 g_601 w_602 => ?_) (fun hb_604 o_605 H_603 g_606 w_607 => ?_)
    · try simp only [decide_eq_true_eq, decide_eq_false_iff_not, Bool.and_eq_true, Bool.or_eq_true, Bool.and_eq_false_iff, Bool.or_eq_false_iff, Bool.not_eq_true', Bool.not_eq_false'] at hb_599
      have r_608 := (k_Hu K CH).up g_601.im r0
      exact qer 2 _ o_600 (show Ex H _ from Gr.fr g_601)
    · try simp only [decide_eq_true_eq, decide_eq_false_iff_not, Bool.and_eq_true, Bool.or_eq_true, Bool.and_eq_false_iff, Bool.or_eq_false_iff, Bool.not_eq_true', Bool.not_eq_false'] at hb_604
      have r_609 := (k_Hu K CH).up g_606.im r0
      refine g_ret (E := E) (cl := cl) (t := kI) (x := ((v_Hours_ahead ((a0, l0, b0), x2, ())) - (v_Hours_ahead ((a0, l0, b0), x1, ())))) w_607 (em_op (em_methP (pre := pre_Hours_ahead) (f := f_Hours_ahead) (y := (v_Hours_ahead ((a0, l0, b0), x2, ()))) (b := (x2, ())) (em_var (t := (k_Hu K CH)) (v := v0) (x := (a0, l0, b0)) rfl r_609) (ob_Hu fun _ _ _ => rfl) (em_cons (em_var (t := kI) (v := (.int x2)) (x := x2) rfl rfl) em_nil) args_mG (by exact trivial) (by exact is_Hours_ahead _)) (em_methP (pre := pre_Hours_ahead) (f := f_Hours_ahead) (y := (v_Hours_ahead ((a0, l0, b0), x1, ()))) (b := (x1, ())) (em_var (t := (k_Hu K CH)) (v := v0) (x := (a0, l0, b0)) rfl r_609) (ob_Hu fun _ _ _ => rfl) (em_cons (em_var (t := kI) (v := (.int x1)) (x := x1) rfl rfl) em_nil) args_mG (by exact trivial) (by exact is_Hours_ahead _)) o_I) (fun v_610 H_611 g_612 w_613 r_614 => ?_)
      exact qok _ v_610 H_611 o_605 (show Ex H _ from Gr.fr (g_606.then g_612 rfl)) r_614

abbrev s_Hours_gone : Stmt := inClass (topS 19) 9
def Hours_goneN : List Str := ["self", "time", "shut"]
theorem sc_Hours_gone : FnScope Hours_goneN ["self", "time", "shut"] (defScope s_Hours_gone) := ⟨rfl, rfl, rfl, by decide +kernel, rfl, by decide +kernel, by decide +kernel⟩
def f_Hours_gone : (Int × (List (List (Int × Int))) × (List (Int × List (Int × Int)))) × Int × Bool × Unit → Re Int := fun a => match a with
  | ((a0, l0, b0), x1, x2, _) =>
    cond x2
    ((.ok (x1 - (v_Hours_ahead ((a0, l0, b0), x1, ())))))
    ((.ok (v_Hours_ahead ((a0, l0, b0), x1, ()))))
def pre_Hours_gone : (Int × (List (List (Int × Int))) × (List (Int × List (Int × Int)))) × Int × Bool × Unit → Prop := fun a => match a with
  | ((a0, l0, b0), x1, x2, _) => True
abbrev sp_Hours_gone (K : PySem.W.Frag) (CH : Addr) (cl : Nat → Addr) : Sp := spD (aC (k_Hu K CH) (aC kI (aC kB a0))) pre_Hours_gone f_Hours_gone kI cl
theorem ok_Hours_gone {f : Addr} {fd : FuncData} (F : Fun K "gone" "Hours.gone" s_Hours_gone f fd) (T_Hu : Tt_Hu K CH) (m_ahead : Mt P w K mg base 7 CH "ahead" (sp_Hours_ahead K CH cl) []) : FnOk P w K mg base (L2.CX P w) 8 f fd ["self", "time", "shut"] (sp_Hours_gone K CH cl) := by
  refine F.okX sc_Hours_gone (fun vs H Q E h => ?_) (fun cdv A outer s H vs Q E hr h => ?_)
  · obtain ⟨M, a, live, hA, _⟩ := h
    obtain ⟨v0, _, rfl, r0, v1, _, rfl, r1, v2, _, rfl, r2, rfl⟩ := hA
    rfl
  · obtain ⟨M, ⟨⟨a0, l0, b0⟩, x1, x2, _⟩, live, hA, hpre, qok, qer⟩ := h
    obtain ⟨v0, _, rfl, r0, v1, _, rfl, r1, v2, _, rfl, r2, rfl⟩ := hA
    obtain rfl : v1 = (.int x1) := r1
    obtain rfl : v2 = (.bl x2) := r2
    have iv0 : I_Hu (a0, l0, b0) := inv_Hu r0
    obtain ⟨ia0, ib0, ic0, id0, ie0, if0, ig0⟩ := iv0
    have w0 : Holds M [] H := hold0 live
    have o0 : Pr (f_Hours_gone ((a0, l0, b0), x1, x2, ())) (cond x2
((.ok (x1 - (v_Hours_ahead ((a0, l0, b0), x1, ())))))
((.ok (v_Hours_ahead ((a0, l0, b0), x1, ()))))) := rfl
    refine ⟨_, pss_cons (ps_if (pt_val (pv 2)) (pss_one (ps_ret (pe_op op_sub (pv 1) (pe_mk m_ahead hr (by decide) passL (pv 0) (pa_cons (pv 1) pa_nil))))) (pss_nil)) (pss_one (ps_ret (pe_mk m_ahead hr (by decide) passL (pv 0) (pa_cons (pv 1) pa_nil)))), ?_⟩
    refine g_when (E := E) (cl := cl) (b := x2) w0 o0 (gt_B (em_var (t := kB) (v := (.bl x2)) (x := x2) rfl rfl)) (fun hb_616 o_617 H_615 g_618 w_619 => ?_) (fun hb_621 o_622 H_620 g_623 w_624 => ?_)
    · try simp only [decide_eq_true_eq, decide_eq_false_iff_not, Bool.and_eq_true, Bool.or_eq_true, Bool.and_eq_false_iff, Bool.or_eq_false_iff, Bool.not_eq_true', Bool.not_eq_false'] at hb_616
      have r_625 := (k_Hu K CH).up g_618.im r0
      refine g_ret (E := E) (cl := cl) (t := kI) (x := (x1 - (v_Hours_ahead ((a0, l0, b0), x1, ())))) w_619 (em_op (em_var (t := kI) (v := (.int x1)) (x := x1) rfl rfl) (em_methP (pre := pre_Hours_ahead) (f := f_Hours_ahead) (y := (v_Hours_ahead ((a0, l0, b0), x1, ()))) (b := (x1, ())) (em_var (t := (k_Hu K CH)) (v := v0) (x := (a0, l0, b0)) rfl r_625) (ob_Hu fun _ _ _ => rfl) (em_cons (em_var (t := kI) (v := (.int x1)) (x := x1) rfl rfl) em_nil) args_mG (by exact trivial) (by exact is_Hours_ahead _)) o_I) (fun v_626 H_627 g_628 w_629 r_630 => ?_)
      exact qok _ v_626 H_627 o_617 (show Ex H _ from Gr.fr (g_618.then g_628 rfl)) r_630
    · try simp only [decide_eq_true_eq, decide_eq_false_iff_not, Bool.and_eq_true, Bool.or_eq_true, Bool.and_eq_false_iff, Bool.or_eq_false_iff, Bool.not_eq_true', Bool.not_eq_false'] at hb_621
      have r_631 := (k_Hu K CH).up g_623.im r0
      refine g_ret (E := E) (cl := cl) (t := kI) (x := (v_Hours_ahead ((a0, l0, b0), x1, ()))) w_624 (em_methP (pre := pre_Hours_ahead) (f := f_Hours_ahead) (y := (v_Hours_ahead ((a0, l0, b0), x1, ()))) (b := (x1, ())) (em_var (t := (k_Hu K CH)) (v := v0) (x := (a0, l0, b0)) rfl r_631) (ob_Hu fun _ _ _ => rfl) (em_cons (em_var (t := kI) (v := (.int x1)) (x := x1) rfl rfl) em_nil) args_mG (by exact trivial) (by exact is_Hours_ahead _)) (fun v_632 H_633 g_634 w_635 r_636 => ?_)
      exact qok _ v_632 H_633 o_622 (show Ex H _ from Gr.fr (g_623.then g_634 rfl)) r_636
def v_Hours_gone : (Int × (List (List (Int × Int))) × (List (Int × List (Int × Int)))) × Int × Bool × Unit → Int := fun a => match a with
  | ((a0, l0, b0), x1, x2, _) =>
    cond x2
    (((x1 - (v_Hours_ahead ((a0, l0, b0), x1, ())))))
    (((v_Hours_ahead ((a0, l0, b0), x1, ()))))
theorem is_Hours_gone (a : (Int × (List (List (Int × Int))) × (List (Int × List (Int × Int)))) × Int × Bool × Unit) : f_Hours_gone a = .ok (v_Hours_gone a) := by
  obtain ⟨⟨a0, l0, b0⟩, x1, x2, _⟩ := a
  simp only [f_Hours_gone, v_Hours_gone, lt, cond_ok]

end
def wkV (h : Hv) (s : Bool) : Int := cond s (h.1 * 86400 - v_Hours_in_week (h, ())) (v_Hours_in_week (h, ()))
def laV (h : Hv) : Int := maxD 0 (h.2.2.map (·.1))
def WkA (wk la time : Int) (n low size : Int) : Prop := 86400 ≤ size ∧ low = time + size - 86400 ∧ size * 2 ^ n.toNat = 86400 * 2 ^ 40 ∧ (wk = 0 → size = 86400 ∨ low / 86400 ≤ la)
theorem wka_0 {wk la time : Int} : WkA wk la time ((40 : Nat) : Int) time 86400 := ⟨Int.le_refl _, by omega, rfl, fun _ => .inl rfl⟩
theorem wka_s {wk la time : Int} {n : Nat} {low size low' size' : Int} (k : WkA wk la time ((n + 1 : Nat) : Int) low size) (e1 : low' = low + size) (e2 : size' = size * 2) (h : ¬ wk = 0 ∨ ¬ la < low' / 86400) : WkA wk la time (n : Int) low' size' := by
  obtain ⟨k1, k2, k3, k4⟩ := k
  refine ⟨by omega, by omega, ?_, fun z => .inr ?_⟩
  · rw [Int.toNat_natCast] at k3 ⊢
    rw [e2, ← k3, Int.pow_succ, Int.mul_assoc, Int.mul_comm (2 ^ n) 2]
  · rcases h with h | h
    · exact absurd z h
    · omega
theorem wka_z {G : Int → Int} {wk la time goal low size : Int} (hl : la ≤ 1000) (ht : -1000000000 ≤ time) (h : (∀ t, 10000000000 ≤ t → goal ≤ G t) ∨ wk = 0) (k : WkA wk la time ((0 : Nat) : Int) low size) : decide (G (low + size) < goal) = false := by
  obtain ⟨k1, k2, k3, k4⟩ := k
  have e : size = 86400 * 2 ^ 40 := by
    have : size * 2 ^ (0 : Nat) = 86400 * 2 ^ 40 := k3
    rwa [Int.pow_zero, Int.mul_one] at this
  rcases h with h | h
  · have := h (low + size) (by omega)
    exact decide_eq_false (by omega)
  · rcases k4 h with z | z <;> omega
theorem laV_le {l : List Int} (h : ∀ x ∈ l, x ≤ 1000) : maxD 0 l ≤ 1000 := by
  cases l with
  | nil => show (0 : Int) ≤ 1000; decide
  | cons y ys =>
    obtain ⟨_, _, z⟩ := maxOf_facts ys y
    show PySem.W.maxOf y ys ≤ 1000
    rcases z with z | z
    · rw [z]; exact h _ List.mem_cons_self
    · exact h _ (List.mem_cons_of_mem _ z)
section
variable {P : Program} {w : World} {K : PySem.W.Frag} {mg : Str → Option Value} {base : Heap} {CH : Addr} {cl : Nat → Addr}

abbrev s_Hours_time_by : Stmt := inClass (topS 19) 10
def Hours_time_byN : List Str := ["self", "time", "much", "shut", "goal", "weekly", "last", "low", "size", "high", "half"]
theorem sc_Hours_time_by : FnScope Hours_time_byN ["self", "time", "much", "shut"] (defScope s_Hours_time_by) := ⟨rfl, rfl, rfl, by decide +kernel, rfl, by decide +kernel, by decide +kernel⟩
def f_Hours_time_by : (Int × (List (List (Int × Int))) × (List (Int × List (Int × Int)))) × Int × Int × Bool × Unit → Re Int := fun a => match a with
  | ((a0, l0, b0), x1, x2, x3, _) =>
    lt ((v_Hours_gone ((a0, l0, b0), x1, x3, ())) + x2) fun goal_637 =>
    lt (cond x3 ((a0 * (86400 : Int)) - (v_Hours_in_week ((a0, l0, b0), ()))) (v_Hours_in_week ((a0, l0, b0), ()))) fun weekly_646 =>
    lt (maxD (0 : Int) (b0.map (·.1))) fun last_655 =>
    lt x1 fun low_664 =>
    lt (86400 : Int) fun size_673 =>
    whK (fun s_683 : (Int × Int) => (decide ((v_Hours_gone ((a0, l0, b0), ((s_683.1) + (s_683.2)), x3, ())) < goal_637)))
    (fun (s_801 : (Int × Int)) (kn : (Int × Int) → _) (kb : (Int × Int) → _) =>
    lt ((s_801.1) + (s_801.2)) fun low_815 =>
    cond ((decide (weekly_646 = (0 : Int))) && (decide (last_655 < (low_815 / (86400 : Int)))))
    ((.er 9))
    (lt ((s_801.2) * (2 : Int)) fun size_837 =>
    kn (low_815, size_837)))
    (fun (s_692 : (Int × Int)) =>
    lt ((s_692.1) + (s_692.2)) fun high_704 =>
    whK (fun s_715 : (Int × Int) => (decide ((1 : Int) < ((s_715.2) - (s_715.1)))))
    (fun (s_745 : (Int × Int)) (kn : (Int × Int) → _) (kb : (Int × Int) → _) =>
    lt (((s_745.1) + (s_745.2)) / (2 : Int)) fun half_760 =>
    cond (decide ((v_Hours_gone ((a0, l0, b0), half_760, x3, ())) < goal_637))
    (lt half_760 fun low_780 =>
    kn (low_780, (s_745.2)))
    (lt half_760 fun high_790 =>
    kn ((s_745.1), high_790)))
    (fun (s_725 : (Int × Int)) =>
    (.ok (s_725.2))) ((high_704 - (s_692.1)).toNat) ((s_692.1), high_704)) (40) (low_664, size_673)
def pre_Hours_time_by : (Int × (List (List (Int × Int))) × (List (Int × List (Int × Int)))) × Int × Int × Bool × Unit → Prop := fun a => match a with
  | ((a0, l0, b0), x1, x2, x3, _) => (-1000000000 ≤ x1 ∧ x1 ≤ 1000000000) ∧ ((∀ t : Int, 10000000000 ≤ t → v_Hours_gone ((a0, l0, b0), x1, x3, ()) + x2 ≤ v_Hours_gone ((a0, l0, b0), t, x3, ())) ∨ wkV (a0, l0, b0) x3 = 0)
abbrev sp_Hours_time_by (K : PySem.W.Frag) (CH : Addr) (cl : Nat → Addr) : Sp := spD (aC (k_Hu K CH) (aC kI (aC kI (aC kB a0)))) pre_Hours_time_by f_Hours_time_by kI cl
theorem ok_Hours_time_by {f : Addr} {fd : FuncData} (F : Fun K "time_by" "Hours.time_by" s_Hours_time_by f fd) (T_Hr : Tt_Hr K CH) (T_Hu : Tt_Hu K CH) (B : BD mg) (gi_DAY : ∃ t, mg "DAY" = some (.int 86400 t)) (n_list : mg "list" = none) (m_gone : Mt P w K mg base 8 CH "gone" (sp_Hours_gone K CH cl) []) (m_in_week : Mt P w K mg base 5 CH "in_week" (sp_Hours_in_week K CH cl) []) (xNoDay : Exc1 K mg "NoDay" (cl 9)) : FnOk P w K mg base (L2.CX P w) 9 f fd ["self", "time", "much", "shut"] (sp_Hours_time_by K CH cl) := by
  refine F.okX sc_Hours_time_by (fun vs H Q E h => ?_) (fun cdv A outer s H vs Q E hr h => ?_)
  · obtain ⟨M, a, live, hA, _⟩ := h
    obtain ⟨v0, _, rfl, r0, v1, _, rfl, r1, v2, _, rfl, r2, v3, _, rfl, r3, rfl⟩ := hA
    rfl
  · obtain ⟨M, ⟨⟨a0, l0, b0⟩, x1, x2, x3, _⟩, live, hA, hpre, qok, qer⟩ := h
    obtain ⟨v0, _, rfl, r0, v1, _, rfl, r1, v2, _, rfl, r2, v3, _, rfl, r3, rfl⟩ := hA
    obtain rfl : v1 = (.int x1) := r1
    obtain rfl : v2 = (.int x2) := r2
    obtain rfl : v3 = (.bl x3) := r3
    have iv0 : I_Hu (a0, l0, b0) := inv_Hu r0
    obtain ⟨ia0, ib0, ic0, id0, ie0, if0, ig0⟩ := iv0
    have hpre : (-1000000000 ≤ x1 ∧ x1 ≤ 1000000000) ∧ ((∀ t : Int, 10000000000 ≤ t → v_Hours_gone ((a0, l0, b0), x1, x3, ()) + x2 ≤ v_Hours_gone ((a0, l0, b0), t, x3, ())) ∨ wkV (a0, l0, b0) x3 = 0) := hpre
    have w0 : Holds M [] H := hold0 live
    have o0 : Pr (f_Hours_time_by ((a0, l0, b0), x1, x2, x3, ())) (lt ((v_Hours_gone ((a0, l0, b0), x1, x3, ())) + x2) fun goal_637 =>
lt (cond x3 ((a0 * (86400 : Int)) - (v_Hours_in_week ((a0, l0, b0), ()))) (v_Hours_in_week ((a0, l0, b0), ()))) fun weekly_646 =>
lt (maxD (0 : Int) (b0.map (·.1))) fun last_655 =>
lt x1 fun low_664 =>
lt (86400 : Int) fun size_673 =>
whK (fun s_683 : (Int × Int) => (decide ((v_Hours_gone ((a0, l0, b0), ((s_683.1) + (s_683.2)), x3, ())) < goal_637)))
(fun (s_801 : (Int × Int)) (kn : (Int × Int) → _) (kb : (Int × Int) → _) =>
lt ((s_801.1) + (s_801.2)) fun low_815 =>
cond ((decide (weekly_646 = (0 : Int))) && (decide (last_655 < (low_815 / (86400 : Int)))))
((.er 9))
(lt ((s_801.2) * (2 : Int)) fun size_837 =>
kn (low_815, size_837)))
(fun (s_692 : (Int × Int)) =>
lt ((s_692.1) + (s_692.2)) fun high_704 =>
whK (fun s_715 : (Int × Int) => (decide ((1 : Int) < ((s_715.2) - (s_715.1)))))
(fun (s_745 : (Int × Int)) (kn : (Int × Int) → _) (kb : (Int × Int) → _) =>
lt (((s_745.1) + (s_745.2)) / (2 : Int)) fun half_760 =>
cond (decide ((v_Hours_gone ((a0, l0, b0), half_760, x3, ())) < goal_637))
(lt half_760 fun low_780 =>
kn (low_780, (s_745.2)))
(lt half_760 fun high_790 =>
kn ((s_745.1), high_790)))
(fun (s_725 : (Int × Int)) =>
(.ok (s_725.2))) ((high_704 - (s_692.1)).toNat) ((s_692.1), high_704)) (40) (low_664, size_673)) := rfl
    refine ⟨_, pss_cons (ps_set (i := 4) sc_Hours_time_by.nd rfl (.inl rfl) (pe_op op_add (pe_mk m_gone hr (by decide) passL (pv 0) (pa_cons (pv 1) (pa_cons (pv 3) pa_nil))) (pv 2))) (pss_cons (ps_set (i := 5) sc_Hours_time_by.nd rfl (.inl rfl) (pe_ifExp (pt_val (pv 3)) (pe_op op_sub (pe_op op_mul (pe_fld (pv 0) rfl) (pe_GI gi_DAY)) (pe_mk0 m_in_week hr (by decide) passL (pv 0))) (pe_mk0 m_in_week hr (by decide) passL (pv 0)))) (pss_cons (ps_set (i := 6) sc_Hours_time_by.nd rfl (.inl rfl) (pe_callBK (cr_maxD rfl hr.units) (by rfl) B.max (by decide +kernel) (pa_cons (pe_callTy (call_listD rfl) (by rfl) n_list (by decide +kernel) (pa_cons (pe_fld (pv 0) rfl) pa_nil)) pa_nil) (pk_cons pe_int pk_nil))) (pss_cons (ps_set (i := 7) sc_Hours_time_by.nd rfl (.inl rfl) (pv 1)) (pss_cons (ps_set (i := 8) sc_Hours_time_by.nd rfl (.inl rfl) (pe_GI gi_DAY)) (pss_cons (ps_while (passes_of rfl) (pt_cmpR op_lt (pe_mk m_gone hr (by decide) passL (pv 0) (pa_cons (pe_op op_add (pv 7) (pv 8)) (pa_cons (pv 3) pa_nil))) (pv 4) (nomark _)) (pss_cons (ps_set (i := 7) sc_Hours_time_by.nd rfl (.inl rfl) (pe_op op_add (pv 7) (pv 8))) (pss_cons (ps_if (PW.pt (pw_and (pt_cmpR op_eq (pv 5) pe_int (nomark _)) (pw_and1 (pt_cmpR op_gt (pe_op op_fdiv (pv 7) (pe_GI gi_DAY)) (pv 6) (nomark _))))) (pss_one (ps_raiseX xNoDay)) (pss_nil)) (pss_one (ps_set (i := 8) sc_Hours_time_by.nd rfl (.inl rfl) (pe_op op_mul (pv 8) pe_int)))))) (pss_cons (ps_set (i := 9) sc_Hours_time_by.nd rfl (.inl rfl) (pe_op op_add (pv 7) (pv 8))) (pss_cons (ps_while (passes_of rfl) (pt_cmpR op_gt (pe_op op_sub (pv 9) (pv 7)) pe_int (nomark _)) (pss_cons (ps_set (i := 10) sc_Hours_time_by.nd rfl (.inl rfl) (pe_op op_fdiv (pe_op op_add (pv 7) (pv 9)) pe_int)) (pss_one (ps_if (pt_cmpR op_lt (pe_mk m_gone hr (by decide) passL (pv 0) (pa_cons (pv 10) (pa_cons (pv 3) pa_nil))) (pv 4) (nomark _)) (pss_one (ps_set (i := 7) sc_Hours_time_by.nd rfl (.inl rfl) (pv 10))) (pss_one (ps_set (i := 9) sc_Hours_time_by.nd rfl (.inl rfl) (pv 10))))))) (pss_one (ps_ret (pv 9)))))))))), ?_⟩
    refine g_asg (E := E) (cl := cl) (i := 4) (t := kI) (x := ((v_Hours_gone ((a0, l0, b0), x1, x3, ())) + x2)) w0 o0 (em_op (em_methP (pre := pre_Hours_gone) (f := f_Hours_gone) (y := (v_Hours_gone ((a0, l0, b0), x1, x3, ()))) (b := (x1, x3, ())) (em_var (t := (k_Hu K CH)) (v := v0) (x := (a0, l0, b0)) rfl r0) (ob_Hu fun _ _ _ => rfl) (em_cons (em_var (t := kI) (v := (.int x1)) (x := x1) rfl rfl) (em_cons (em_var (t := kB) (v := (.bl x3)) (x := x3) rfl rfl) em_nil)) args_mG (by exact trivial) (by exact is_Hours_gone _)) (em_var (t := kI) (v := (.int x2)) (x := x2) rfl rfl) o_I) (fun goal_637 v_638 H_639 hx_640 o_641 g_642 w_643 r_644 => ?_)
    have r_645 := (k_Hu K CH).up g_642.im r0
    obtain rfl : v_638 = (.int goal_637) := r_644
    refine g_asg (E := E) (cl := cl) (i := 5) (t := kI) (x := (cond x3 ((a0 * (86400 : Int)) - (v_Hours_in_week ((a0, l0, b0), ()))) (v_Hours_in_week ((a0, l0, b0), ())))) w_643 o_641 (em_if (gt_B (em_var (t := kB) (v := (.bl x3)) (x := x3) rfl rfl)) (fun _ => (em_op (em_op (em_Hu_week T_Hu (em_var (t := (k_Hu K CH)) (v := v0) (x := (a0, l0, b0)) rfl r_645)) em_int (o_IC (by first | exact .inl ⟨by omega, by omega⟩ | exact .inr ⟨by omega, by omega⟩))) (em_methP (pre := pre_Hours_in_week) (f := f_Hours_in_week) (y := (v_Hours_in_week ((a0, l0, b0), ()))) (b := (())) (em_weak (em_var (t := (k_Hu K CH)) (v := v0) (x := (a0, l0, b0)) rfl r_645)) (ob_Hr fun _ _ _ => rfl) em_nil args_mG (by exact trivial) (by exact is_Hours_in_week _)) o_I)) (fun _ => (em_methP (pre := pre_Hours_in_week) (f := f_Hours_in_week) (y := (v_Hours_in_week ((a0, l0, b0), ()))) (b := (())) (em_weak (em_var (t := (k_Hu K CH)) (v := v0) (x := (a0, l0, b0)) rfl r_645)) (ob_Hr fun _ _ _ => rfl) em_nil args_mG (by exact trivial) (by exact is_Hours_in_week _)))) (fun weekly_646 v_647 H_648 hx_649 o_650 g_651 w_652 r_653 => ?_)
    have r_654 := (k_Hu K CH).up g_651.im r_645
    obtain rfl : v_647 = (.int weekly_646) := r_653
    refine g_asg (E := E) (cl := cl) (i := 6) (t := kI) (x := (maxD (0 : Int) (b0.map (·.1)))) w_652 o_650 (em_ckw (em_cons (em_XL (em_cb (em_cons (em_dvb (em_Hu_others T_Hu (em_var (t := (k_Hu K CH)) (v := v0) (x := (a0, l0, b0)) rfl r_654))) em_nil) o_listDV)) em_nil) (em_cons em_int em_nil)) (fun last_655 v_656 H_657 hx_658 o_659 g_660 w_661 r_662 => ?_)
    have r_663 := (k_Hu K CH).up g_660.im r_654
    obtain rfl : v_656 = (.int last_655) := r_662
    refine g_asg (E := E) (cl := cl) (i := 7) (t := kI) (x := x1) w_661 o_659 (em_var (t := kI) (v := (.int x1)) (x := x1) rfl rfl) (fun low_664 v_665 H_666 hx_667 o_668 g_669 w_670 r_671 => ?_)
    have r_672 := (k_Hu K CH).up g_669.im r_663
    obtain rfl : v_665 = (.int low_664) := r_671
    refine g_asg (E := E) (cl := cl) (i := 8) (t := kI) (x := (86400 : Int)) w_670 o_668 em_int (fun size_673 v_674 H_675 hx_676 o_677 g_678 w_679 r_680 => ?_)
    have r_681 := (k_Hu K CH).up g_678.im r_672
    obtain rfl : v_674 = (.int size_673) := r_680
    refine g_while (E := E) (cl := cl) (c := (fun s_683 : (Int × Int) => (decide ((v_Hours_gone ((a0, l0, b0), ((s_683.1) + (s_683.2)), x3, ())) < goal_637)))) (n := 40) (s0 := (low_664, size_673)) (Sx := (fun s : (Int × Int) => [])) (fun (n : Nat) (s : (Int × Int)) => WkA weekly_646 last_655 x1 (n : Int) (s.1) (s.2)) (fun (I : Hp) (s : (Int × Int)) (σ : L2.St) => σ = [some v0, some (.int x1), some (.int x2), some (.bl x3), some (.int goal_637), some (.int weekly_646), some (.int last_655), some (.int (s.1)), some (.int (s.2)), none, none]) w_679 o_677 (fun _ => rfl) (by rw [hx_667, hx_676]; exact wka_0) (fun s h => by exact wka_z (G := fun t => v_Hours_gone ((a0, l0, b0), t, x3, ())) (goal := goal_637) (by rw [hx_658]; exact laV_le fun x m => by obtain ⟨y, my, rfl⟩ := List.mem_map.mp m; exact (ig0 y my).2) hpre.1.1 (by rw [hx_640, hx_649]; exact hpre.2) h) rfl (fun n_682 s_683 σ_684 H_685 ok_686 g_687 w_688 rv_689 => ?_) (fun n_691 s_692 σ_693 I_694 H_695 ok_696 hc_697 g_698 w_699 e_700 rv_701 o_702 => ?_) (fun hd_799 n_800 s_801 σ_802 I_803 H_804 ok_805 hc_806 g_807 w_808 e_809 rv_810 o_811 Nx_812 nx_813 => ?_)
    · obtain ⟨rfl⟩ := rv_689
      have r_690 := (k_Hu K CH).up g_687.im r_681
      exact (gt_test (em_op (em_methP (pre := pre_Hours_gone) (f := f_Hours_gone) (y := (v_Hours_gone ((a0, l0, b0), ((s_683.1) + (s_683.2)), x3, ()))) (b := (((s_683.1) + (s_683.2)), x3, ())) (em_var (t := (k_Hu K CH)) (v := v0) (x := (a0, l0, b0)) rfl r_690) (ob_Hu fun _ _ _ => rfl) (em_cons (em_op (em_var (t := kI) (v := (.int (s_683.1))) (x := (s_683.1)) rfl rfl) (em_var (t := kI) (v := (.int (s_683.2))) (x := (s_683.2)) rfl rfl) o_I) (em_cons (em_var (t := kB) (v := (.bl x3)) (x := x3) rfl rfl) em_nil)) args_mG (by exact trivial) (by exact is_Hours_gone _)) (em_var (t := kI) (v := (.int goal_637)) (x := goal_637) rfl rfl) o_IB))
    · obtain ⟨rfl⟩ := rv_701
      have r_703 := (k_Hu K CH).up g_698.im r_681
      have hc_697' : ((decide ((v_Hours_gone ((a0, l0, b0), ((s_692.1) + (s_692.2)), x3, ())) < goal_637))) = false := hc_697
      try simp only [decide_eq_true_eq, decide_eq_false_iff_not, Bool.and_eq_true, Bool.or_eq_true, Bool.and_eq_false_iff, Bool.or_eq_false_iff, Bool.not_eq_true', Bool.not_eq_false'] at hc_697'
      refine g_asg (E := E) (cl := cl) (i := 9) (t := kI) (x := ((s_692.1) + (s_692.2))) w_699 o_702 (em_op (em_var (t := kI) (v := (.int (s_692.1))) (x := (s_692.1)) rfl rfl) (em_var (t := kI) (v := (.int (s_692.2))) (x := (s_692.2)) rfl rfl) o_I) (fun high_704 v_705 H_706 hx_707 o_708 g_709 w_710 r_711 => ?_)
      have r_712 := (k_Hu K CH).up g_709.im r_703
      obtain rfl : v_705 = (.int high_704) := r_711
      refine g_while (E := E) (cl := cl) (c := (fun s_715 : (Int × Int) => (decide ((1 : Int) < ((s_715.2) - (s_715.1)))))) (n := (high_704 - (s_692.1)).toNat) (s0 := ((s_692.1), high_704)) (Sx := (fun s : (Int × Int) => [])) (fun (n : Nat) (s : (Int × Int)) => (s.2) - (s.1) ≤ (n : Int)) (fun (I : Hp) (s : (Int × Int)) (σ : L2.St) => ∃ (l_713 : Option V), σ = [some v0, some (.int x1), some (.int x2), some (.bl x3), some (.int goal_637), some (.int weekly_646), some (.int last_655), some (.int (s.1)), some (.int (s_692.2)), some (.int (s.2)), l_713]) w_710 o_708 (fun _ => rfl) (by omega) (fun s h => by have h : s.2 - s.1 ≤ ((0 : Nat) : Int) := h; exact decide_eq_false (by omega)) ⟨_, rfl⟩ (fun n_714 s_715 σ_716 H_717 ok_718 g_719 w_720 rv_721 => ?_) (fun n_724 s_725 σ_726 I_727 H_728 ok_729 hc_730 g_731 w_732 e_733 rv_734 o_735 => ?_) (fun hd_743 n_744 s_745 σ_746 I_747 H_748 ok_749 hc_750 g_751 w_752 e_753 rv_754 o_755 Nx_756 nx_757 => ?_)
      · obtain ⟨l_722, rfl⟩ := rv_721
        have r_723 := (k_Hu K CH).up g_719.im r_712
        exact (gt_test (em_op (em_op (em_var (t := kI) (v := (.int (s_715.2))) (x := (s_715.2)) rfl rfl) (em_var (t := kI) (v := (.int (s_715.1))) (x := (s_715.1)) rfl rfl) o_I) em_int o_IB))
      · obtain ⟨l_736, rfl⟩ := rv_734
        have r_737 := (k_Hu K CH).up g_731.im r_712
        have hc_730' : ((decide ((1 : Int) < ((s_725.2) - (s_725.1))))) = false := hc_730
        try simp only [decide_eq_true_eq, decide_eq_false_iff_not, Bool.and_eq_true, Bool.or_eq_true, Bool.and_eq_false_iff, Bool.or_eq_false_iff, Bool.not_eq_true', Bool.not_eq_false'] at hc_730'
        refine g_ret (E := E) (cl := cl) (t := kI) (x := (s_725.2)) w_732 (em_var (t := kI) (v := (.int (s_725.2))) (x := (s_725.2)) rfl rfl) (fun v_738 H_739 g_740 w_741 r_742 => ?_)
        exact qok _ v_738 H_739 o_735 (show Ex H _ from Gr.fr ((((((((g_642.then g_651 rfl).then g_660 rfl).then g_669 rfl).then g_678 rfl).then g_698 rfl).then g_709 rfl).then g_731 rfl).then g_740 rfl)) r_742
      · obtain ⟨l_758, rfl⟩ := rv_754
        have r_759 := (k_Hu K CH).up g_751.im r_712
        have hc_750' : ((decide ((1 : Int) < ((s_745.2) - (s_745.1))))) = true := hc_750
        try simp only [decide_eq_true_eq, decide_eq_false_iff_not, Bool.and_eq_true, Bool.or_eq_true, Bool.and_eq_false_iff, Bool.or_eq_false_iff, Bool.not_eq_true', Bool.not_eq_false'] at hc_750'
        refine g_asg (E := E) (cl := cl) (i := 10) (t := kI) (x := (((s_745.1) + (s_745.2)) / (2 : Int))) w_752 o_755 (em_op (em_op (em_var (t := kI) (v := (.int (s_745.1))) (x := (s_745.1)) rfl rfl) (em_var (t := kI) (v := (.int (s_745.2))) (x := (s_745.2)) rfl rfl) o_I) em_int (o_IC (C := CDiv) (g := fun i j => i / j) (by exact ⟨by omega, by omega⟩))) (fun half_760 v_761 H_762 hx_763 o_764 g_765 w_766 r_767 => ?_)
        have r_768 := (k_Hu K CH).up g_765.im r_759
        obtain rfl : v_761 = (.int half_760) := r_767
        refine g_ifL (E := E) (cl := cl) (b := (decide ((v_Hours_gone ((a0, l0, b0), half_760, x3, ())) < goal_637))) w_766 o_764 (gt_test (em_op (em_methP (pre := pre_Hours_gone) (f := f_Hours_gone) (y := (v_Hours_gone ((a0, l0, b0), half_760, x3, ()))) (b := (half_760, x3, ())) (em_var (t := (k_Hu K CH)) (v := v0) (x := (a0, l0, b0)) rfl r_768) (ob_Hu fun _ _ _ => rfl) (em_cons (em_var (t := kI) (v := (.int half_760)) (x := half_760) rfl rfl) (em_cons (em_var (t := kB) (v := (.bl x3)) (x := x3) rfl rfl) em_nil)) args_mG (by exact trivial) (by exact is_Hours_gone _)) (em_var (t := kI) (v := (.int goal_637)) (x := goal_637) rfl rfl) o_IB)) (fun hb_770 o_771 H_769 g_772 w_773 => ?_) (fun hb_775 o_776 H_774 g_777 w_778 => ?_)
        · try simp only [decide_eq_true_eq, decide_eq_false_iff_not, Bool.and_eq_true, Bool.or_eq_true, Bool.and_eq_false_iff, Bool.or_eq_false_iff, Bool.not_eq_true', Bool.not_eq_false'] at hb_770
          have r_779 := (k_Hu K CH).up g_772.im r_768
          refine g_asgL (E := E) (cl := cl) (i := 7) (t := kI) (x := half_760) w_773 o_771 (em_var (t := kI) (v := (.int half_760)) (x := half_760) rfl rfl) (fun low_780 v_781 H_782 hx_783 o_784 g_785 w_786 r_787 => ?_)
          have r_788 := (k_Hu K CH).up g_785.im r_779
          obtain rfl : v_781 = (.int low_780) := r_787
          exact nx_757 (low_780, (s_745.2)) _ _ (by have hk := ok_749; omega) o_784 (Gr.cast ((g_765.then g_772 rfl).then g_785 rfl) rfl) w_786 ⟨_, rfl⟩
        · try simp only [decide_eq_true_eq, decide_eq_false_iff_not, Bool.and_eq_true, Bool.or_eq_true, Bool.and_eq_false_iff, Bool.or_eq_false_iff, Bool.not_eq_true', Bool.not_eq_false'] at hb_775
          have r_789 := (k_Hu K CH).up g_777.im r_768
          refine g_asgL (E := E) (cl := cl) (i := 9) (t := kI) (x := half_760) w_778 o_776 (em_var (t := kI) (v := (.int half_760)) (x := half_760) rfl rfl) (fun high_790 v_791 H_792 hx_793 o_794 g_795 w_796 r_797 => ?_)
          have r_798 := (k_Hu K CH).up g_795.im r_789
          obtain rfl : v_791 = (.int high_790) := r_797
          exact nx_757 ((s_745.1), high_790) _ _ (by have hk := ok_749; omega) o_794 (Gr.cast ((g_765.then g_777 rfl).then g_795 rfl) rfl) w_796 ⟨_, rfl⟩
    · obtain ⟨rfl⟩ := rv_810
      have r_814 := (k_Hu K CH).up g_807.im r_681
      have hc_806' : ((decide ((v_Hours_gone ((a0, l0, b0), ((s_801.1) + (s_801.2)), x3, ())) < goal_637))) = true := hc_806
      try simp only [decide_eq_true_eq, decide_eq_false_iff_not, Bool.and_eq_true, Bool.or_eq_true, Bool.and_eq_false_iff, Bool.or_eq_false_iff, Bool.not_eq_true', Bool.not_eq_false'] at hc_806'
      refine g_asg (E := E) (cl := cl) (i := 7) (t := kI) (x := ((s_801.1) + (s_801.2))) w_808 o_811 (em_op (em_var (t := kI) (v := (.int (s_801.1))) (x := (s_801.1)) rfl rfl) (em_var (t := kI) (v := (.int (s_801.2))) (x := (s_801.2)) rfl rfl) o_I) (fun low_815 v_816 H_817 hx_818 o_819 g_820 w_821 r_822 => ?_)
      have r_823 := (k_Hu K CH).up g_820.im r_814
      obtain rfl : v_816 = (.int low_815) := r_822
      refine g_when (E := E) (cl := cl) (b := ((decide (weekly_646 = (0 : Int))) && (decide (last_655 < (low_815 / (86400 : Int)))))) w_821 o_819 (gt_and (gt_test (em_op (em_var (t := kI) (v := (.int weekly_646)) (x := weekly_646) rfl rfl) em_int o_eqI)) (fun hq_824 => (gt_test (em_op (em_op (em_var (t := kI) (v := (.int low_815)) (x := low_815) rfl rfl) em_int (o_IC (C := CDiv) (g := fun i j => i / j) (by exact ⟨by omega, by omega⟩))) (em_var (t := kI) (v := (.int last_655)) (x := last_655) rfl rfl) o_IB)))) (fun hb_826 o_827 H_825 g_828 w_829 => ?_) (fun hb_831 o_832 H_830 g_833 w_834 => ?_)
      · try simp only [decide_eq_true_eq, decide_eq_false_iff_not, Bool.and_eq_true, Bool.or_eq_true, Bool.and_eq_false_iff, Bool.or_eq_false_iff, Bool.not_eq_true', Bool.not_eq_false'] at hb_826
        have r_835 := (k_Hu K CH).up g_828.im r_823
        exact qer 9 _ o_827 (show Ex H _ from Gr.fr (((((((g_642.then g_651 rfl).then g_660 rfl).then g_669 rfl).then g_678 rfl).then g_807 rfl).then g_820 rfl).then g_828 rfl))
      · try simp only [decide_eq_true_eq, decide_eq_false_iff_not, Bool.and_eq_true, Bool.or_eq_true, Bool.and_eq_false_iff, Bool.or_eq_false_iff, Bool.not_eq_true', Bool.not_eq_false'] at hb_831
        have r_836 := (k_Hu K CH).up g_833.im r_823
        refine g_asgL (E := E) (cl := cl) (i := 8) (t := kI) (x := ((s_801.2) * (2 : Int))) w_834 o_832 (em_op (em_var (t := kI) (v := (.int (s_801.2))) (x := (s_801.2)) rfl rfl) em_int (o_IC (by first | exact .inl ⟨by omega, by omega⟩ | exact .inr ⟨by omega, by omega⟩))) (fun size_837 v_838 H_839 hx_840 o_841 g_842 w_843 r_844 => ?_)
        have r_845 := (k_Hu K CH).up g_842.im r_836
        obtain rfl : v_838 = (.int size_837) := r_844
        exact nx_813 (low_815, size_837) _ _ (by exact wka_s ok_805 hx_818 hx_840 (by assumption)) o_841 (Gr.cast ((g_820.then g_833 rfl).then g_842 rfl) rfl) w_843 rfl
end
end Rw
namespace Rw
open PySem PySem.Spec PyProof.Rows L2 Evl

section
variable {P : Program} {w : World} {K : PySem.W.Frag} {mg : Str → Option Value} {base : Heap} {CH : Addr} {cl : Nat → Addr}

abbrev s_Hours_next_open : Stmt := inClass (topS 19) 11
def Hours_next_openN : List Str := ["self", "time"]
theorem sc_Hours_next_open : FnScope Hours_next_openN ["self", "time"] (defScope s_Hours_next_open) := ⟨rfl, rfl, rfl, by decide +kernel, rfl, by decide +kernel, by decide +kernel⟩
def f_Hours_next_open : (Int × (List (List (Int × Int))) × (List (Int × List (Int × Int)))) × Int × Unit → Re Int := fun a => match a with
  | ((a0, l0, b0), x1, _) =>
    ((f_Hours_time_by ((a0, l0, b0), x1, (1 : Int), false, ())).bind fun y => .ok (y - (1 : Int)))
def pre_Hours_next_open : (Int × (List (List (Int × Int))) × (List (Int × List (Int × Int)))) × Int × Unit → Prop := fun a => match a with
  | ((a0, l0, b0), x1, _) => pre_Hours_time_by ((a0, l0, b0), x1, 1, false, ())
abbrev sp_Hours_next_open (K : PySem.W.Frag) (CH : Addr) (cl : Nat → Addr) : Sp := spD (aC (k_Hu K CH) (aC kI a0)) pre_Hours_next_open f_Hours_next_open kI cl
theorem ok_Hours_next_open {f : Addr} {fd : FuncData} (F : Fun K "next_open" "Hours.next_open" s_Hours_next_open f fd) (T_Hu : Tt_Hu K CH) (m_time_by : Mt P w K mg base 9 CH "time_by" (sp_Hours_time_by K CH cl) []) : FnOk P w K mg base (L2.CX P w) 10 f fd ["self", "time"] (sp_Hours_next_open K CH cl) := by
  refine F.okX sc_Hours_next_open (fun vs H Q E h => ?_) (fun cdv A outer s H vs Q E hr h => ?_)
  · obtain ⟨M, a, live, hA, _⟩ := h
    obtain ⟨v0, _, rfl, r0, v1, _, rfl, r1, rfl⟩ := hA
    rfl
  · obtain ⟨M, ⟨⟨a0, l0, b0⟩, x1, _⟩, live, hA, hpre, qok, qer⟩ := h
    obtain ⟨v0, _, rfl, r0, v1, _, rfl, r1, rfl⟩ := hA
    obtain rfl : v1 = (.int x1) := r1
    have iv0 : I_Hu (a0, l0, b0) := inv_Hu r0
    obtain ⟨ia0, ib0, ic0, id0, ie0, if0, ig0⟩ := iv0
    have hpre : pre_Hours_time_by ((a0, l0, b0), x1, 1, false, ()) := hpre
    have w0 : Holds M [] H := hold0 live
    have o0 : Pr (f_Hours_next_open ((a0, l0, b0), x1, ())) (((f_Hours_time_by ((a0, l0, b0), x1, (1 : Int), false, ())).bind fun y => .ok (y - (1 : Int)))) := rfl
    refine ⟨_, pss_one (ps_ret (pe_op op_sub (pe_mk m_time_by hr (by decide) (passE (E := E)) (pv 0) (pa_cons (pv 1) (pa_cons pe_int (pa_cons pe_bl pa_nil)))) pe_int)), ?_⟩
    refine g_retX (E := E) (cl := cl) (t := kI) (r := ((f_Hours_time_by ((a0, l0, b0), x1, (1 : Int), false, ())).bind fun y => .ok (y - (1 : Int)))) w0 (em_opR1 (g := fun y => y - (1 : Int)) (em_meth (pre := pre_Hours_time_by) (f := f_Hours_time_by) (b := (x1, (1 : Int), false, ())) (em_var (t := (k_Hu K CH)) (v := v0) (x := (a0, l0, b0)) rfl r0) (ob_Hu fun _ _ _ => rfl) (em_cons (em_var (t := kI) (v := (.int x1)) (x := x1) rfl rfl) (em_cons em_int (em_cons em_bl em_nil))) args_mG (by exact hpre)) em_int fun _ => o_I) (fun x_851 v_846 H_847 e_852 g_848 w_849 r_850 => ?_) (fun k_853 H_854 e_855 g_856 w_857 => ?_)
    · exact qok _ v_846 H_847 (Eq.trans o0 e_852) (show Ex H _ from Gr.fr g_848) r_850
    · exact qer _ _ (Eq.trans o0 e_855) (show Ex H _ from Gr.fr g_856)

abbrev s_Hours_next_shut : Stmt := inClass (topS 19) 12
def Hours_next_shutN : List Str := ["self", "time"]
theorem sc_Hours_next_shut : FnScope Hours_next_shutN ["self", "time"] (defScope s_Hours_next_shut) := ⟨rfl, rfl, rfl, by decide +kernel, rfl, by decide +kernel, by decide +kernel⟩
def f_Hours_next_shut : (Int × (List (List (Int × Int))) × (List (Int × List (Int × Int)))) × Int × Unit → Re Int := fun a => match a with
  | ((a0, l0, b0), x1, _) =>
    ((f_Hours_time_by ((a0, l0, b0), x1, (1 : Int), true, ())).bind fun y => .ok (y - (1 : Int)))
def pre_Hours_next_shut : (Int × (List (List (Int × Int))) × (List (Int × List (Int × Int)))) × Int × Unit → Prop := fun a => match a with
  | ((a0, l0, b0), x1, _) => pre_Hours_time_by ((a0, l0, b0), x1, 1, true, ())
abbrev sp_Hours_next_shut (K : PySem.W.Frag) (CH : Addr) (cl : Nat → Addr) : Sp := spD (aC (k_Hu K CH) (aC kI a0)) pre_Hours_next_shut f_Hours_next_shut kI cl
theorem ok_Hours_next_shut {f : Addr} {fd : FuncData} (F : Fun K "next_shut" "Hours.next_shut" s_Hours_next_shut f fd) (T_Hu : Tt_Hu K CH) (m_time_by : Mt P w K mg base 9 CH "time_by" (sp_Hours_time_by K CH cl) []) : FnOk P w K mg base (L2.CX P w) 10 f fd ["self", "time"] (sp_Hours_next_shut K CH cl) := by
  refine F.okX sc_Hours_next_shut (fun vs H Q E h => ?_) (fun cdv A outer s H vs Q E hr h => ?_)
  · obtain ⟨M, a, live, hA, _⟩ := h
    obtain ⟨v0, _, rfl, r0, v1, _, rfl, r1, rfl⟩ := hA
    rfl
  · obtain ⟨M, ⟨⟨a0, l0, b0⟩, x1, _⟩, live, hA, hpre, qok, qer⟩ := h
    obtain ⟨v0, _, rfl, r0, v1, _, rfl, r1, rfl⟩ := hA
    obtain rfl : v1 = (.int x1) := r1
    have iv0 : I_Hu (a0, l0, b0) := inv_Hu r0
    obtain ⟨ia0, ib0, ic0, id0, ie0, if0, ig0⟩ := iv0
    have hpre : pre_Hours_time_by ((a0, l0, b0), x1, 1, true, ()) := hpre
    have w0 : Holds M [] H := hold0 live
    have o0 : Pr (f_Hours_next_shut ((a0, l0, b0), x1, ())) (((f_Hours_time_by ((a0, l0, b0), x1, (1 : Int), true, ())).bind fun y => .ok (y - (1 : Int)))) := rfl
    refine ⟨_, pss_one (ps_ret (pe_op op_sub (pe_mk m_time_by hr (by decide) (passE (E := E)) (pv 0) (pa_cons (pv 1) (pa_cons pe_int (pa_cons pe_bl pa_nil)))) pe_int)), ?_⟩
    refine g_retX (E := E) (cl := cl) (t := kI) (r := ((f_Hours_time_by ((a0, l0, b0), x1, (1 : Int), true, ())).bind fun y => .ok (y - (1 : Int)))) w0 (em_opR1 (g := fun y => y - (1 : Int)) (em_meth (pre := pre_Hours_time_by) (f := f_Hours_time_by) (b := (x1, (1 : Int), true, ())) (em_var (t := (k_Hu K CH)) (v := v0) (x := (a0, l0, b0)) rfl r0) (ob_Hu fun _ _ _ => rfl) (em_cons (em_var (t := kI) (v := (.int x1)) (x := x1) rfl rfl) (em_cons em_int (em_cons em_bl em_nil))) args_mG (by exact hpre)) em_int fun _ => o_I) (fun x_863 v_858 H_859 e_864 g_860 w_861 r_862 => ?_) (fun k_865 H_866 e_867 g_868 w_869 => ?_)
    · exact qok _ v_858 H_859 (Eq.trans o0 e_864) (show Ex H _ from Gr.fr g_860) r_862
    · exact qer _ _ (Eq.trans o0 e_867) (show Ex H _ from Gr.fr g_868)

abbrev s_Hours_add : Stmt := inClass (topS 19) 13
def Hours_addN : List Str := ["self", "time", "much"]
theorem sc_Hours_add : FnScope Hours_addN ["self", "time", "much"] (defScope s_Hours_add) := ⟨rfl, rfl, rfl, by decide +kernel, rfl, by decide +kernel, by decide +kernel⟩
def f_Hours_add : (Int × (List (List (Int × Int))) × (List (Int × List (Int × Int)))) × Int × Int × Unit → Re Int := fun a => match a with
  | ((a0, l0, b0), x1, x2, _) =>
    cond (decide (x2 < (0 : Int)))
    ((.er 2))
    (cond (decide (x2 = (0 : Int)))
    ((.ok x1))
    ((f_Hours_time_by ((a0, l0, b0), x1, x2, false, ()))))
def pre_Hours_add : (Int × (List (List (Int × Int))) × (List (Int × List (Int × Int)))) × Int × Int × Unit → Prop := fun a => match a with
  | ((a0, l0, b0), x1, x2, _) => pre_Hours_time_by ((a0, l0, b0), x1, x2, false, ())
abbrev sp_Hours_add (K : PySem.W.Frag) (CH : Addr) (cl : Nat → Addr) : Sp := spD (aC (k_Hu K CH) (aC kI (aC kI a0))) pre_Hours_add f_Hours_add kI cl
theorem ok_Hours_add {f : Addr} {fd : FuncData} (F : Fun K "add" "Hours.add" s_Hours_add f fd) (T_Hu : Tt_Hu K CH) (m_time_by : Mt P w K mg base 9 CH "time_by" (sp_Hours_time_by K CH cl) []) (xBadTime : Exc1 K mg "BadTime" (cl 2)) : FnOk P w K mg base (L2.CX P w) 10 f fd ["self", "time", "much"] (sp_Hours_add K CH cl) := by
  refine F.okX sc_Hours_add (fun vs H Q E h => ?_) (fun cdv A outer s H vs Q E hr h => ?_)
  · obtain ⟨M, a, live, hA, _⟩ := h
    obtain ⟨v0, _, rfl, r0, v1, _, rfl, r1, v2, _, rfl, r2, rfl⟩ := hA
    rfl
  · obtain ⟨M, ⟨⟨a0, l0, b0⟩, x1, x2, _⟩, live, hA, hpre, qok, qer⟩ := h
    obtain ⟨v0, _, rfl, r0, v1, _, rfl, r1, v2, _, rfl, r2, rfl⟩ := hA
    obtain rfl : v1 = (.int x1) := r1
    obtain rfl : v2 = (.int x2) := r2
    have iv0 : I_Hu (a0, l0, b0) := inv_Hu r0
    obtain ⟨ia0, ib0, ic0, id0, ie0, if0, ig0⟩ := iv0
    have hpre : pre_Hours_time_by ((a0, l0, b0), x1, x2, false, ()) := hpre
    have w0 : Holds M [] H := hold0 live
    have o0 : Pr (f_Hours_add ((a0, l0, b0), x1, x2, ())) (cond (decide (x2 < (0 : Int)))
((.er 2))
(cond (decide (x2 = (0 : Int)))
((.ok x1))
((f_Hours_time_by ((a0, l0, b0), x1, x2, false, ()))))) := rfl
    refine ⟨_, pss_cons (ps_if (pt_cmpR op_lt (pv 2) pe_int (nomark _)) (pss_one (ps_raiseX xBadTime)) (pss_nil)) (pss_cons (ps_if (pt_cmpR op_eq (pv 2) pe_int (nomark _)) (pss_one (ps_ret (pv 1))) (pss_nil)) (pss_one (ps_ret (pe_mk m_time_by hr (by decide) (passE (E := E)) (pv 0) (pa_cons (pv 1) (pa_cons (pv 2) (pa_cons pe_bl pa_nil))))))), ?_⟩
    refine g_when (E := E) (cl := cl) (b := (decide (x2 < (0 : Int)))) w0 o0 (gt_test (em_op (em_var (t := kI) (v := (.int x2)) (x := x2) rfl rfl) em_int o_IB)) (fun hb_871 o_872 H_870 g_873 w_874 => ?_) (fun hb_876 o_877 H_875 g_878 w_879 => ?_)
    · try simp only [decide_eq_true_eq, decide_eq_false_iff_not, Bool.and_eq_true, Bool.or_eq_true, Bool.and_eq_false_iff, Bool.or_eq_false_iff, Bool.not_eq_true', Bool.not_eq_false'] at hb_871
      have r_880 := (k_Hu K CH).up g_873.im r0
      exact qer 2 _ o_872 (show Ex H _ from Gr.fr g_873)
    · try simp only [decide_eq_true_eq, decide_eq_false_iff_not, Bool.and_eq_true, Bool.or_eq_true, Bool.and_eq_false_iff, Bool.or_eq_false_iff, Bool.not_eq_true', Bool.not_eq_false'] at hb_876
      have r_881 := (k_Hu K CH).up g_878.im r0
      refine g_when (E := E) (cl := cl) (b := (decide (x2 = (0 : Int)))) w_879 o_877 (gt_test (em_op (em_var (t := kI) (v := (.int x2)) (x := x2) rfl rfl) em_int o_eqI)) (fun hb_883 o_884 H_882 g_885 w_886 => ?_) (fun hb_888 o_889 H_887 g_890 w_891 => ?_)
      · try simp only [decide_eq_true_eq, decide_eq_false_iff_not, Bool.and_eq_true, Bool.or_eq_true, Bool.and_eq_false_iff, Bool.or_eq_false_iff, Bool.not_eq_true', Bool.not_eq_false'] at hb_883
        have r_892 := (k_Hu K CH).up g_885.im r_881
        refine g_ret (E := E) (cl := cl) (t := kI) (x := x1) w_886 (em_var (t := kI) (v := (.int x1)) (x := x1) rfl rfl) (fun v_893 H_894 g_895 w_896 r_897 => ?_)
        exact qok _ v_893 H_894 o_884 (show Ex H _ from Gr.fr ((g_878.then g_885 rfl).then g_895 rfl)) r_897
      · try simp only [decide_eq_true_eq, decide_eq_false_iff_not, Bool.and_eq_true, Bool.or_eq_true, Bool.and_eq_false_iff, Bool.or_eq_false_iff, Bool.not_eq_true', Bool.not_eq_false'] at hb_888
        have r_898 := (k_Hu K CH).up g_890.im r_881
        refine g_retX (E := E) (cl := cl) (t := kI) (r := (f_Hours_time_by ((a0, l0, b0), x1, x2, false, ()))) w_891 (em_meth (pre := pre_Hours_time_by) (f := f_Hours_time_by) (b := (x1, x2, false, ())) (em_var (t := (k_Hu K CH)) (v := v0) (x := (a0, l0, b0)) rfl r_898) (ob_Hu fun _ _ _ => rfl) (em_cons (em_var (t := kI) (v := (.int x1)) (x := x1) rfl rfl) (em_cons (em_var (t := kI) (v := (.int x2)) (x := x2) rfl rfl) (em_cons em_bl em_nil))) args_mG (by exact hpre)) (fun x_904 v_899 H_900 e_905 g_901 w_902 r_903 => ?_) (fun k_906 H_907 e_908 g_909 w_910 => ?_)
        · exact qok _ v_899 H_900 (Eq.trans o_889 e_905) (show Ex H _ from Gr.fr ((g_878.then g_890 rfl).then g_901 rfl)) r_903
        · exact qer _ _ (Eq.trans o_889 e_908) (show Ex H _ from Gr.fr ((g_878.then g_890 rfl).then g_909 rfl))
end
end Rw
namespace Rw
open L2
theorem leP_tot (a b : Int × Int) : (leP a b || leP b a) = true := by
  unfold leP
  simp only [Bool.or_eq_true, decide_eq_true_eq]
  omega
theorem leP_tr (a b c : Int × Int) (h : leP a b = true) (k : leP b c = true) : leP a c = true := by
  unfold leP at *
  simp only [decide_eq_true_eq] at *
  omega
theorem sortP_up (xs : List (Int × Int)) : (sortP xs).Pairwise fun a b => a.1 ≤ b.1 :=
  (List.pairwise_mergeSort (le := leP) leP_tr leP_tot xs).imp fun h => by
    unfold leP at h
    simp only [decide_eq_true_eq] at h
    omega
theorem rng_lt (lo hi : Int) : (rng lo hi).Pairwise (· < ·) := by
  unfold rng
  refine List.pairwise_map.mpr (List.pairwise_lt_range.imp fun h => ?_)
  omega
/-- rising, with gaps between -/
def Can (xs : List (Int × Int)) : Prop := VS xs ∧ xs.Pairwise fun p q => p.2 < q.1
def In (xs : List (Int × Int)) (t : Int) : Prop := ∃ p ∈ xs, p.1 ≤ t ∧ t < p.2
theorem can_nil : Can [] := ⟨fun _ m => (nomatch m), List.Pairwise.nil⟩
theorem in_nil {t : Int} : ¬ In [] t := fun ⟨_, m, _⟩ => nomatch m
theorem in_cons {p : Int × Int} {xs : List (Int × Int)} {t : Int} : In (p :: xs) t ↔ (p.1 ≤ t ∧ t < p.2) ∨ In xs t := by
  constructor
  · rintro ⟨q, m, h⟩
    rcases List.mem_cons.mp m with e | m
    · exact .inl (e ▸ h)
    · exact .inr ⟨q, m, h⟩
  · rintro (h | ⟨q, m, h⟩)
    · exact ⟨p, List.mem_cons_self, h⟩
    · exact ⟨q, List.mem_cons_of_mem _ m, h⟩
theorem in_app {xs ys : List (Int × Int)} {t : Int} : In (xs ++ ys) t ↔ In xs t ∨ In ys t := by
  constructor
  · rintro ⟨q, m, h⟩
    rcases List.mem_append.mp m with m | m
    · exact .inl ⟨q, m, h⟩
    · exact .inr ⟨q, m, h⟩
  · rintro (⟨q, m, h⟩ | ⟨q, m, h⟩)
    · exact ⟨q, List.mem_append_left _ m, h⟩
    · exact ⟨q, List.mem_append_right _ m, h⟩
theorem in_one {p : Int × Int} {t : Int} : In [p] t ↔ p.1 ≤ t ∧ t < p.2 := by
  rw [in_cons]
  exact ⟨fun h => h.elim id fun z => absurd z in_nil, .inl⟩
theorem can_tail {p : Int × Int} {xs : List (Int × Int)} (h : Can (p :: xs)) : p.1 < p.2 ∧ Can xs ∧ (∀ q ∈ xs, p.2 < q.1) ∧ ∀ t, In xs t → p.2 < t := by
  have w := List.pairwise_cons.mp h.2
  refine ⟨h.1 p List.mem_cons_self, ⟨fun q m => h.1 q (List.mem_cons_of_mem _ m), w.2⟩, w.1, fun t ⟨q, m, a, b⟩ => ?_⟩
  have := w.1 q m
  omega
theorem can_uniq : ∀ {xs ys : List (Int × Int)}, Can xs → Can ys → (∀ t, In xs t ↔ In ys t) → xs = ys
  | [], [], _, _, _ => rfl
  | [], q :: ys, _, hy, h => by
    have := (h q.1).mpr (in_cons.mpr (.inl ⟨Int.le_refl _, (can_tail hy).1⟩))
    exact absurd this in_nil
  | p :: xs, [], hx, _, h => by
    have := (h p.1).mp (in_cons.mpr (.inl ⟨Int.le_refl _, (can_tail hx).1⟩))
    exact absurd this in_nil
  | p :: xs, q :: ys, hx, hy, h => by
    obtain ⟨p1, cx, gx, bx⟩ := can_tail hx
    obtain ⟨q1, cy, gy, by_⟩ := can_tail hy
    have a1 : q.1 ≤ p.1 := by
      rcases in_cons.mp ((h p.1).mp (in_cons.mpr (.inl ⟨Int.le_refl _, p1⟩))) with z | z
      · exact z.1
      · have := by_ _ z; omega
    have a2 : p.1 ≤ q.1 := by
      rcases in_cons.mp ((h q.1).mpr (in_cons.mpr (.inl ⟨Int.le_refl _, q1⟩))) with z | z
      · exact z.1
      · have := bx _ z; omega
    have e1 : p.1 = q.1 := by omega
    have a3 : ¬ p.2 < q.2 := fun z => by
      rcases in_cons.mp ((h p.2).mpr (in_cons.mpr (.inl ⟨by omega, z⟩))) with w | w
      · omega
      · have := bx _ w; omega
    have a4 : ¬ q.2 < p.2 := fun z => by
      rcases in_cons.mp ((h q.2).mp (in_cons.mpr (.inl ⟨by omega, z⟩))) with w | w
      · omega
      · have := by_ _ w; omega
    have e2 : p.2 = q.2 := by omega
    have e : p = q := Prod.ext e1 e2
    subst e
    refine congrArg (p :: ·) (can_uniq cx cy fun t => ⟨fun z => ?_, fun z => ?_⟩)
    · rcases in_cons.mp ((h t).mp (in_cons.mpr (.inr z))) with w | w
      · have := bx _ z; omega
      · exact w
    · rcases in_cons.mp ((h t).mpr (in_cons.mpr (.inr z))) with w | w
      · have := by_ _ z; omega
      · exact w
/-! at the end -/
theorem lastD_app (i : List (Int × Int)) (l : Int × Int) : lastD Z2 (i ++ [l]) = l := by
  unfold lastD
  rw [List.length_append]
  simp
theorem set_app (i : List (Int × Int)) (l v : Int × Int) : (i ++ [l]).set ((i ++ [l]).length - 1) v = i ++ [v] := by
  rw [List.length_append]
  simp [List.set_append]
theorem snoc_cases (xs : List (Int × Int)) : xs = [] ∨ ∃ i l, xs = i ++ [l] := by
  rcases List.eq_nil_or_concat xs with h | ⟨i, l, h⟩
  · exact .inl h
  · exact .inr ⟨i, l, by rw [h, List.concat_eq_append]⟩
theorem can_snoc {i : List (Int × Int)} {l : Int × Int} : Can (i ++ [l]) ↔ Can i ∧ l.1 < l.2 ∧ ∀ q ∈ i, q.2 < l.1 := by
  unfold Can
  rw [List.pairwise_append]
  constructor
  · rintro ⟨a, b, c, d⟩
    exact ⟨⟨fun p m => a p (List.mem_append_left _ m), b⟩, a l (List.mem_append_right _ List.mem_cons_self), fun q m => d q m l List.mem_cons_self⟩
  · rintro ⟨⟨a, b⟩, c, d⟩
    refine ⟨fun p m => ?_, b, List.pairwise_singleton _ _, fun q m r hr => ?_⟩
    · rcases List.mem_append.mp m with z | z
      · exact a p z
      · rw [List.mem_singleton.mp z]; exact c
    · rw [List.mem_singleton.mp hr]; exact d q m
theorem joinS_snoc (i : List (Int × Int)) (l p : Int × Int) : joinS (i ++ [l]) p = if p.1 ≤ l.2 then i ++ [(l.1, if p.2 > l.2 then p.2 else l.2)] else i ++ [l] ++ [p] := by
  unfold joinS
  rw [lastD_app, set_app]
  have e : (i ++ [l]).isEmpty = false := by cases i <;> rfl
  rw [e]
  by_cases h : p.1 ≤ l.2
  · rw [if_pos (by simp [h]), if_pos h]
  · rw [if_neg (by simp [h]), if_neg h]
theorem joinS_nil (p : Int × Int) : joinS [] p = [p] := rfl
/-- one step of putting together -/
theorem join_step {acc : List (Int × Int)} {p : Int × Int} (hc : Can acc) (hp : p.1 < p.2) (hb : ∀ q ∈ acc, q.1 ≤ p.1) : Can (joinS acc p) ∧ (∀ t, In (joinS acc p) t ↔ In acc t ∨ (p.1 ≤ t ∧ t < p.2)) ∧ ∀ q ∈ joinS acc p, q.1 ≤ p.1 := by
  rcases snoc_cases acc with e | ⟨i, l, e⟩
  · subst e
    rw [joinS_nil]
    refine ⟨⟨fun q m => by rw [List.mem_singleton.mp m]; exact hp, List.pairwise_singleton _ _⟩, fun t => ?_, fun q m => by rw [List.mem_singleton.mp m]; exact Int.le_refl _⟩
    rw [in_one]
    exact ⟨.inr, fun h => h.elim (fun z => absurd z in_nil) id⟩
  · subst e
    obtain ⟨ci, hl, gl⟩ := can_snoc.mp hc
    have lp := hb l (List.mem_append_right _ List.mem_cons_self)
    rw [joinS_snoc]
    by_cases h : p.1 ≤ l.2
    · rw [if_pos h]
      refine ⟨can_snoc.mpr ⟨ci, ?_, gl⟩, fun t => ?_, fun q m => ?_⟩
      · dsimp only; split <;> omega
      · rw [in_app, in_app, in_one, in_one]
        dsimp only
        split <;> (constructor <;> (intro z; rcases z with z | z <;> first | exact .inl (.inl z) | skip)) <;> first
          | (rcases z with z | z <;> first | exact .inl z | exact .inr (by omega))
          | exact .inr (by omega)
          | (by_cases q : t < l.2 <;> first | exact .inl (.inr (by omega)) | exact .inr (by omega))
      · rcases List.mem_append.mp m with z | z
        · exact hb q (List.mem_append_left _ z)
        · rw [List.mem_singleton.mp z]; exact lp
    · rw [if_neg h]
      refine ⟨can_snoc.mpr ⟨hc, hp, fun q m => ?_⟩, fun t => by rw [in_app, in_one], fun q m => ?_⟩
      · rcases List.mem_append.mp m with z | z
        · have := gl q z; omega
        · rw [List.mem_singleton.mp z]; omega
      · rcases List.mem_append.mp m with z | z
        · exact hb q z
        · rw [List.mem_singleton.mp z]; exact Int.le_refl _
theorem join_fold : ∀ {xs acc : List (Int × Int)}, VS xs → xs.Pairwise (fun a b => a.1 ≤ b.1) → Can acc → (∀ q ∈ acc, ∀ p ∈ xs, q.1 ≤ p.1) → Can (xs.foldl joinS acc) ∧ ∀ t, In (xs.foldl joinS acc) t ↔ In acc t ∨ In xs t
  | [], acc, _, _, hc, _ => ⟨hc, fun t => ⟨.inl, fun h => h.elim id fun z => absurd z in_nil⟩⟩
  | x :: xs, acc, hv, hs, hc, hb => by
    have w := List.pairwise_cons.mp hs
    obtain ⟨a, b, c⟩ := join_step hc (hv x List.mem_cons_self) fun q m => hb q m x List.mem_cons_self
    obtain ⟨d, e⟩ := join_fold (xs := xs) (fun p m => hv p (List.mem_cons_of_mem _ m)) w.2 a fun q m p mp => Int.le_trans (c q m) (w.1 p mp)
    refine ⟨d, fun t => ?_⟩
    rw [List.foldl_cons, e, b, in_cons, or_assoc]
theorem tog_can {xs : List (Int × Int)} (h : VS xs) : Can (tog xs) := (join_fold (fun p m => h p (sortP_mem.mp m)) (sortP_up xs) can_nil fun _ m => nomatch m).1
theorem tog_in {xs : List (Int × Int)} (h : VS xs) (t : Int) : In (tog xs) t ↔ In xs t := by
  have e := (join_fold (acc := []) (fun p m => h p (sortP_mem.mp m)) (sortP_up xs) can_nil fun _ m => nomatch m).2 t
  show In ((sortP xs).foldl joinS []) t ↔ _
  rw [e]
  constructor
  · rintro (z | ⟨p, m, z⟩)
    · exact absurd z in_nil
    · exact ⟨p, sortP_mem.mp m, z⟩
  · rintro ⟨p, m, z⟩
    exact .inr ⟨p, sortP_mem.mpr m, z⟩
theorem in_can {xs : List (Int × Int)} (h : VS xs) {p : Int × Int} (m : p ∈ xs) : In xs p.1 := ⟨p, m, Int.le_refl _, h p m⟩
def lenS (xs : List (Int × Int)) : Int := (xs.map fun x => x.2 - x.1).sum
theorem can_srt {xs : List (Int × Int)} (h : Can xs) : tog xs = xs :=
  can_uniq (tog_can h.1) h fun t => tog_in h.1 t
end Rw
/-! open seconds ahead of a time -/
namespace Rw
open L2
/-- seconds of a day's spans ahead of its s-th -/
def partV (x : List (Int × Int)) (s : Int) : Int := ((x.filter fun p => decide (p.1 < s)).map fun p => (if p.2 < s then p.2 else s) - p.1).sum
open Classical in
noncomputable def inI (x : List (Int × Int)) (s : Int) : Int := if In x s then 1 else 0
theorem part_step : ∀ {x : List (Int × Int)}, Can x → ∀ s, partV x (s + 1) - partV x s = inI x s
  | [], _, s => by
    unfold inI
    rw [if_neg in_nil]
    rfl
  | p :: x, h, s => by
    obtain ⟨h1, h2, h3, h4⟩ := can_tail h
    have ih := part_step h2 s
    have e : ∀ s, partV (p :: x) s = (if p.1 < s then (if p.2 < s then p.2 else s) - p.1 else 0) + partV x s := fun s => by
      unfold partV
      rw [List.filter_cons]
      by_cases c : p.1 < s
      · rw [if_pos (by simpa using c), if_pos c]; simp
      · rw [if_neg (by simpa using c), if_neg c]; simp
    rw [e, e]
    have k : inI (p :: x) s = (if p.1 ≤ s ∧ s < p.2 then 1 else 0) + inI x s := by
      unfold inI
      by_cases c : p.1 ≤ s ∧ s < p.2
      · rw [if_pos (in_cons.mpr (.inl c)), if_pos c, if_neg fun z => by have := h4 s z; omega]
        rfl
      · rw [if_neg c]
        by_cases d : In x s
        · rw [if_pos (in_cons.mpr (.inr d)), if_pos d]; rfl
        · rw [if_neg (fun z => (in_cons.mp z).elim c d), if_neg d]; rfl
    rw [k]
    split <;> split <;> split <;> (try split) <;> (try split) <;> omega
theorem part_0 {x : List (Int × Int)} (h : ∀ p ∈ x, 0 ≤ p.1) : partV x 0 = 0 := by
  unfold partV
  rw [List.filter_eq_nil_iff.mpr fun p m => by have := h p m; simp; omega]
  rfl
theorem part_all {x : List (Int × Int)} {n : Int} (h1 : VS x) (h : ∀ p ∈ x, p.2 ≤ n) : partV x n = lenS x := by
  unfold partV lenS
  rw [List.filter_eq_self.mpr fun p m => by have := h p m; have := h1 p m; simp; omega]
  congr 1
  refine List.map_congr_left fun p m => ?_
  have := h p m
  split <;> omega
/-! ### days -/
structure Gd (h : Hv) : Prop where
  w1 : 1 ≤ h.1
  w2 : h.1 ≤ 1000
  ln : (h.2.1.length : Int) = h.1
  rw : ∀ x ∈ h.2.1, DayOk x ∧ Can x
  ot : ∀ x ∈ h.2.2, DayOk x.2 ∧ Can x.2
  nd : (h.2.2.map (·.1)).Nodup
def rowL (h : Hv) (i : Int) : List (Int × Int) := (atI h.2.1 i).getD []
def dayL (h : Hv) (d : Int) : List (Int × Int) := v_Hours_of_day (h, d, ())
theorem nil_ok : DayOk [] ∧ Can [] := ⟨⟨by decide, List.forall_mem_nil _, List.forall_mem_nil _⟩, can_nil⟩
theorem rowL_ok {h : Hv} (g : Gd h) (i : Int) : DayOk (rowL h i) ∧ Can (rowL h i) := by
  unfold rowL
  cases e : atI h.2.1 i with
  | none => exact nil_ok
  | some x =>
    unfold atI at e
    obtain ⟨j, _, hj⟩ := Option.bind_eq_some_iff.mp e
    exact g.rw x (List.mem_of_getElem? hj)
theorem dayL_eq (h : Hv) (d : Int) : dayL h d = match h.2.2.lookup d with | some x => x | none => rowL h (d % h.1) := by
  obtain ⟨a, l, o⟩ := h
  show cond (o.lookup d).isSome ((o.lookup d).getD []) ((atI l (d % a)).getD []) = _
  cases e : o.lookup d <;> simp [e] <;> rfl
theorem dayL_ok {h : Hv} (g : Gd h) (d : Int) : DayOk (dayL h d) ∧ Can (dayL h d) := by
  rw [dayL_eq]
  cases e : h.2.2.lookup d with
  | none => exact rowL_ok g _
  | some x => exact g.ot _ (look_mem e)
theorem tot_can {x : List (Int × Int)} (h : Can x) : v_total (x, ()) = lenS x := by
  show ((tog x).map fun y : Int × Int => y.2 - y.1).sum = _
  rw [can_srt h]
  rfl
theorem inday {h : Hv} (g : Gd h) (d : Int) : v_Hours_in_day (h, d, ()) = lenS (dayL h d) := tot_can (dayL_ok g d).2
theorem inrow {h : Hv} (g : Gd h) (i : Int) : v_Hours_in_row (h, i, ()) = lenS (rowL h i) := tot_can (rowL_ok g i).2
theorem len_bd {x : List (Int × Int)} (h : DayOk x ∧ Can x) : 0 ≤ lenS x ∧ lenS x ≤ 86400 := by
  have k : ∀ (n : Nat), 0 ≤ partV x n ∧ partV x n ≤ n := fun n => by
    induction n with
    | zero => rw [show ((0 : Nat) : Int) = 0 from rfl, part_0 fun p m => (h.1.2.2 p m).1]; omega
    | succ n ih =>
      have := part_step h.2 (n : Int)
      have : inI x n = 0 ∨ inI x n = 1 := by unfold inI; split <;> simp
      rw [show ((n + 1 : Nat) : Int) = (n : Int) + 1 from rfl]
      omega
  have := k 86400
  rw [show ((86400 : Nat) : Int) = 86400 from rfl, part_all h.1.2.1 fun p m => (h.1.2.2 p m).2] at this
  exact this
/-! ### a week's days in turn -/
theorem rng_snoc {n : Int} (h : 0 ≤ n) : rng 0 (n + 1) = rng 0 n ++ [n] := by
  rw [rng_app (a := 0) (b := n) (d := n + 1) h (by omega)]
  congr 1
  unfold rng
  rw [show (n + 1 - n).toNat = 1 by omega]
  show [n + ((0 : Nat) : Int)] = [n]
  congr 1
  omega
def baseV (h : Hv) (d : Int) : Int := d / h.1 * v_Hours_in_week (h, ()) + ((rng 0 (d % h.1)).map fun x => v_Hours_in_row (h, x, ())).sum
theorem week_eq (h : Hv) : v_Hours_in_week (h, ()) = ((rng 0 h.1).map fun x => v_Hours_in_row (h, x, ())).sum := by
  obtain ⟨a, l, o⟩ := h
  rfl
theorem base_step {h : Hv} (g : Gd h) (d : Int) : baseV h (d + 1) - baseV h d = v_Hours_in_row (h, d % h.1, ()) := by
  have w1 := g.w1
  have r0 := Int.emod_nonneg d (b := h.1) (by omega)
  have r1 := Int.emod_lt_of_pos d (b := h.1) (by omega)
  have e := Int.emod_add_mul_ediv d h.1
  unfold baseV
  by_cases c : d % h.1 + 1 < h.1
  · obtain ⟨e1, e2⟩ := (Int.ediv_emod_unique (a := d + 1) (b := h.1) (q := d / h.1) (r := d % h.1 + 1) (by omega)).mpr ⟨by omega, by omega, c⟩
    rw [e1, e2, rng_snoc r0, List.map_append, List.sum_append]
    simp only [List.map_cons, List.map_nil, List.sum_cons, List.sum_nil]
    omega
  · obtain ⟨e1, e2⟩ := (Int.ediv_emod_unique (a := d + 1) (b := h.1) (q := d / h.1 + 1) (r := 0) (by omega)).mpr ⟨by rw [Int.mul_add, Int.mul_one]; omega, by omega, by omega⟩
    rw [e1, e2, Int.add_mul, week_eq]
    have q : h.1 = d % h.1 + 1 := by omega
    have k : (List.map (fun x => v_Hours_in_row (h, x, ())) (rng 0 h.1)).sum = (List.map (fun x => v_Hours_in_row (h, x, ())) (rng 0 (d % h.1))).sum + v_Hours_in_row (h, d % h.1, ()) := by
      rw [congrArg (rng 0) q, rng_snoc r0, List.map_append, List.sum_append]
      simp only [List.map_cons, List.map_nil, List.sum_cons, List.sum_nil]
      omega
    have z : (List.map (fun x => v_Hours_in_row (h, x, ())) (rng 0 0)).sum = 0 := rfl
    omega
/-! ### other days -/
def moV (h : Hv) (x : Int) : Int := v_Hours_in_day (h, x, ()) - v_Hours_in_row (h, x % h.1, ())
def cO (h : Hv) (d x : Int) : Int := if 0 ≤ x ∧ x < d then moV h x else if d ≤ x ∧ x < 0 then - moV h x else 0
theorem stepO_eq (h : Hv) (d s x : Int) : stepO h d s x = s + cO h d x := by
  have m : v_Hours_in_day (h, x, ()) - v_Hours_in_row (h, x % h.1, ()) = moV h x := rfl
  unfold stepO cO
  rw [m]
  by_cases c : 0 ≤ x ∧ x < d
  · rw [if_pos c, decide_eq_true c.1, decide_eq_true c.2]; rfl
  · rw [if_neg c]
    have e : (decide ((0 : Int) ≤ x) && decide (x < d)) = false := by simp; omega
    rw [e]
    by_cases c2 : d ≤ x ∧ x < 0
    · rw [if_pos c2, decide_eq_true c2.1, decide_eq_true c2.2]; show s - _ = _; omega
    · rw [if_neg c2]
      have e2 : (decide (d ≤ x) && decide (x < (0 : Int))) = false := by simp; omega
      rw [e2]; show s = _; omega
theorem fold_cO (h : Hv) (d : Int) : ∀ (xs : List Int) (b : Int), xs.foldl (stepO h d) b = b + (xs.map (cO h d)).sum
  | [], b => by simp
  | x :: xs, b => by rw [List.foldl_cons, fold_cO h d xs, stepO_eq, List.map_cons, List.sum_cons]; omega
theorem cO_step (h : Hv) (d x : Int) : cO h (d + 1) x - cO h d x = if x = d then moV h x else 0 := by
  unfold cO
  split <;> split <;> (try split) <;> (try split) <;> omega
theorem cO_sum (h : Hv) (d : Int) : ∀ {xs : List Int}, xs.Nodup → (xs.map (cO h (d + 1))).sum - (xs.map (cO h d)).sum = if d ∈ xs then moV h d else 0
  | [], _ => by simp
  | x :: xs, n => by
    have n' := List.nodup_cons.mp n
    have ih := cO_sum h d n'.2
    have s := cO_step h d x
    rw [List.map_cons, List.map_cons, List.sum_cons, List.sum_cons]
    by_cases c : x = d
    · subst c
      rw [if_pos rfl] at s
      rw [if_neg n'.1] at ih
      rw [if_pos List.mem_cons_self]
      omega
    · rw [if_neg c] at s
      by_cases m : d ∈ xs
      · rw [if_pos m] at ih
        rw [if_pos (List.mem_cons_of_mem _ m)]
        omega
      · rw [if_neg m] at ih
        rw [if_neg (fun z => (List.mem_cons.mp z).elim (fun w => c w.symm) m)]
        omega
theorem look_none {α : Type} {k : Int} : ∀ {l : List (Int × α)}, l.lookup k = none ↔ k ∉ l.map (·.1)
  | [] => by simp
  | a :: l => by
    rw [List.lookup_cons, List.map_cons, List.mem_cons]
    by_cases e : k = a.1
    · rw [show (k == a.1) = true by simp [e]]; simp [e]
    · rw [show (k == a.1) = false by simpa using e, look_none (l := l)]
      simp [e]
theorem ad_step {h : Hv} (g : Gd h) (d : Int) : adV h (d + 1) - adV h d = lenS (dayL h d) := by
  unfold adV
  rw [fold_cO, fold_cO]
  have b := base_step g d
  unfold baseV at b
  have c := cO_sum h d g.nd
  have i := inday g d
  by_cases m : d ∈ h.2.2.map (·.1)
  · rw [if_pos m] at c
    unfold moV at c
    omega
  · rw [if_neg m] at c
    have e := dayL_eq h d
    rw [look_none.mpr m] at e
    have r := inrow g (d % h.1)
    rw [e]
    simp only
    omega
theorem ad_0 {h : Hv} (g : Gd h) : adV h 0 = 0 := by
  unfold adV
  rw [fold_cO]
  have z : ∀ xs : List Int, (xs.map (cO h 0)).sum = 0 := fun xs => by
    induction xs with
    | nil => rfl
    | cons x xs ih =>
      rw [List.map_cons, List.sum_cons, ih]
      unfold cO
      split <;> (try split) <;> omega
  rw [z, Int.zero_ediv, Int.zero_emod, Int.zero_mul]
  rfl
/-! ### ahead -/
def ahV (h : Hv) (t : Int) : Int := v_Hours_ahead (h, t, ())
theorem ahV_eq (h : Hv) (t : Int) : ahV h t = adV h (t / 86400) + partV (dayL h (t / 86400)) (t % 86400) := by
  obtain ⟨a, l, o⟩ := h
  rfl
noncomputable def oS (h : Hv) (t : Int) : Int := inI (dayL h (t / 86400)) (t % 86400)
theorem oS_01 (h : Hv) (t : Int) : oS h t = 0 ∨ oS h t = 1 := by unfold oS inI; split <;> simp
theorem ah_step {h : Hv} (g : Gd h) (t : Int) : ahV h (t + 1) - ahV h t = oS h t := by
  rw [ahV_eq, ahV_eq]
  have dk := dayL_ok g (t / 86400)
  have ps := part_step dk.2 (t % 86400)
  unfold oS
  by_cases c : t % 86400 + 1 < 86400
  · rw [show (t + 1) / 86400 = t / 86400 by omega, show (t + 1) % 86400 = t % 86400 + 1 by omega]
    omega
  · rw [show (t + 1) / 86400 = t / 86400 + 1 by omega, show (t + 1) % 86400 = 0 by omega, part_0 fun p m => ((dayL_ok g (t / 86400 + 1)).1.2.2 p m).1]
    rw [show t % 86400 + 1 = 86400 by omega, part_all dk.1.2.1 fun p m => (dk.1.2.2 p m).2] at ps
    have := ad_step g (t / 86400)
    omega
theorem ah_0 {h : Hv} (g : Gd h) : ahV h 0 = 0 := by
  rw [ahV_eq]
  show adV h 0 + partV (dayL h 0) 0 = 0
  rw [ad_0 g, part_0 fun p m => ((dayL_ok g 0).1.2.2 p m).1]
  rfl
theorem ah_up {h : Hv} (g : Gd h) (t : Int) (n : Nat) : ahV h t ≤ ahV h (t + n) ∧ ahV h (t + n) ≤ ahV h t + n := by
  induction n with
  | zero => rw [show t + ((0 : Nat) : Int) = t by omega]; omega
  | succ n ih =>
    have := ah_step g (t + n)
    have := oS_01 h (t + n)
    rw [show t + ((n + 1 : Nat) : Int) = t + n + 1 by omega]
    omega
theorem ah_le {h : Hv} (g : Gd h) {a b : Int} (l : a ≤ b) : ahV h a ≤ ahV h b ∧ ahV h b ≤ ahV h a + (b - a) := by
  have := ah_up g a (b - a).toNat
  rw [show a + (((b - a).toNat : Nat) : Int) = b by omega] at this
  omega
end Rw
/-! the first time by which so much has gone -/
namespace Rw
open L2
def gV (h : Hv) (s : Bool) (t : Int) : Int := v_Hours_gone (h, t, s, ())
theorem gV_eq (h : Hv) (s : Bool) (t : Int) : gV h s t = cond s (t - ahV h t) (ahV h t) := by
  obtain ⟨a, l, o⟩ := h
  cases s <;> rfl
theorem g_le {h : Hv} (g : Gd h) {s : Bool} {a b : Int} (l : a ≤ b) : gV h s a ≤ gV h s b := by
  have := ah_le g l
  rw [gV_eq, gV_eq]
  cases s with
  | true => show a - ahV h a ≤ b - ahV h b; omega
  | false => exact this.1
abbrev bisB (G : Int → Int) (goal : Int) : Int × Int → (Int × Int → Re Int) → (Int × Int → Re Int) → Re Int := fun s kn _ => lt ((s.1 + s.2) / 2) fun half => cond (decide (G half < goal)) (lt half fun low => kn (low, s.2)) (lt half fun high => kn (s.1, high))
theorem bis {G : Int → Int} {goal : Int} : ∀ (n : Nat) (lo hi : Int), hi - lo ≤ n → lo < hi → G lo < goal → goal ≤ G hi → ∃ T, whK (fun s : Int × Int => decide (1 < s.2 - s.1)) (bisB G goal) (fun s => Re.ok s.2) n (lo, hi) = .ok T ∧ G (T - 1) < goal ∧ goal ≤ G T
  | 0, lo, hi, h1, h2, _, _ => absurd h2 (by omega)
  | n + 1, lo, hi, h1, h2, h3, h4 => by
    by_cases c : 1 < hi - lo
    · have st : whK (fun s : Int × Int => decide (1 < s.2 - s.1)) (bisB G goal) (fun s => Re.ok s.2) (n + 1) (lo, hi) = cond (decide (G ((lo + hi) / 2) < goal)) (whK (fun s : Int × Int => decide (1 < s.2 - s.1)) (bisB G goal) (fun s => Re.ok s.2) n ((lo + hi) / 2, hi)) (whK (fun s : Int × Int => decide (1 < s.2 - s.1)) (bisB G goal) (fun s => Re.ok s.2) n (lo, (lo + hi) / 2)) := by
        show cond (decide (1 < hi - lo)) _ _ = _
        rw [decide_eq_true c]
        rfl
      rw [st]
      by_cases d : G ((lo + hi) / 2) < goal
      · rw [decide_eq_true d]
        exact bis n _ _ (by omega) (by omega) d h4
      · rw [decide_eq_false d]
        exact bis n _ _ (by omega) (by omega) h3 (by omega)
    · refine ⟨hi, ?_, by rw [show hi - 1 = lo by omega]; exact h3, h4⟩
      show cond (decide (1 < hi - lo)) _ _ = _
      rw [decide_eq_false c]
      rfl
abbrev dblB (wk la : Int) : Int × Int → (Int × Int → Re Int) → (Int × Int → Re Int) → Re Int := fun s kn _ => lt (s.1 + s.2) fun low => cond (decide (wk = 0) && decide (la < low / 86400)) (.er 9) (lt (s.2 * 2) fun size => kn (low, size))
theorem dbl {G : Int → Int} {wk la time goal Ts : Int} {k : Int × Int → Re Int} (hl : la ≤ 1000) (ht : -1000000000 ≤ time) (hp : (∀ t, 10000000000 ≤ t → goal ≤ G t) ∨ wk = 0) (hT : goal ≤ G Ts) (mono : ∀ a b, a ≤ b → G a ≤ G b) (flat : wk = 0 → ∀ t t', la < t / 86400 → t ≤ t' → G t' = G t) :
    ∀ (n : Nat) (low size : Int), WkA wk la time (n : Int) low size → G low < goal → ∃ lo sz, whK (fun s : Int × Int => decide (G (s.1 + s.2) < goal)) (dblB wk la) k n (low, size) = k (lo, sz) ∧ G lo < goal ∧ goal ≤ G (lo + sz) ∧ 86400 ≤ sz
  | 0, low, size, h1, h2 => by
    have z := wka_z (G := G) hl ht hp h1
    exact ⟨low, size, rfl, h2, by simpa using z, h1.1⟩
  | n + 1, low, size, h1, h2 => by
    by_cases c : G (low + size) < goal
    · have nr : (decide (wk = 0) && decide (la < (low + size) / 86400)) = false := by
        rw [Bool.and_eq_false_iff, decide_eq_false_iff_not, decide_eq_false_iff_not]
        by_cases w : wk = 0
        · refine .inr fun z => ?_
          rcases Int.le_total Ts (low + size) with q | q
          · have := mono _ _ q; omega
          · have := flat w _ _ z q; omega
        · exact .inl w
      obtain ⟨lo, sz, e, r⟩ := dbl (k := k) hl ht hp hT mono flat n (low + size) (size * 2) (wka_s h1 rfl rfl (by rw [Bool.and_eq_false_iff, decide_eq_false_iff_not, decide_eq_false_iff_not] at nr; exact nr)) c
      refine ⟨lo, sz, ?_, r⟩
      rw [← e]
      show cond (decide (G (low + size) < goal)) (cond (decide (wk = 0) && decide (la < (low + size) / 86400)) (.er 9) (whK _ _ k n (low + size, size * 2))) _ = _
      rw [decide_eq_true c, nr]
      rfl
    · refine ⟨low, size, ?_, h2, by omega, h1.1⟩
      show cond (decide (G (low + size) < goal)) _ (k (low, size)) = _
      rw [decide_eq_false c]
      rfl
/-! what a week without gain means -/
def zV (h : Hv) (s : Bool) (i : Int) : Int := cond s (86400 - lenS (rowL h i)) (lenS (rowL h i))
theorem zV_0 {h : Hv} (g : Gd h) (s : Bool) (i : Int) : 0 ≤ zV h s i := by
  have := len_bd (rowL_ok g i)
  unfold zV
  cases s with
  | true => show 0 ≤ 86400 - _; omega
  | false => exact this.1
theorem sum_zero {f : Int → Int} (h0 : ∀ i, 0 ≤ f i) : ∀ {l : List Int}, (l.map f).sum = 0 → ∀ i ∈ l, f i = 0
  | [], _, _, m => nomatch m
  | x :: l, e, i, m => by
    have hx := h0 x
    have hs : 0 ≤ (l.map f).sum := by
      clear e m
      induction l with
      | nil => exact Int.le_refl _
      | cons y l ih => have := h0 y; rw [List.map_cons, List.sum_cons]; omega
    rw [List.map_cons, List.sum_cons] at e
    rcases List.mem_cons.mp m with z | z
    · rw [z]; omega
    · exact sum_zero h0 (by omega) i z
theorem sum_sub {f : Int → Int} : ∀ (l : List Int), (l.map fun i => 86400 - f i).sum = 86400 * (l.length : Int) - (l.map f).sum
  | [] => rfl
  | x :: l => by
    rw [List.map_cons, List.sum_cons, List.map_cons, List.sum_cons, sum_sub l, List.length_cons]
    have : 86400 * ((l.length + 1 : Nat) : Int) = 86400 * (l.length : Int) + 86400 := by omega
    omega
theorem week_z {h : Hv} (g : Gd h) (s : Bool) : ((rng 0 h.1).map (zV h s)).sum = wkV h s := by
  have e : ((rng 0 h.1).map fun i => lenS (rowL h i)).sum = v_Hours_in_week (h, ()) := by
    rw [week_eq]
    exact congrArg List.sum (List.map_congr_left fun i _ => (inrow g i).symm)
  have w1 := g.w1
  unfold wkV
  cases s with
  | false => exact e
  | true =>
    show ((rng 0 h.1).map fun i => 86400 - lenS (rowL h i)).sum = h.1 * 86400 - _
    rw [sum_sub, e, rng_len]
    omega
theorem top_le {l : List Int} {x : Int} (m : x ∈ l) : x ≤ maxD 0 l := by
  cases l with
  | nil => cases m
  | cons y ys =>
    obtain ⟨a, b, _⟩ := maxOf_facts ys y
    show x ≤ PySem.W.maxOf y ys
    rcases List.mem_cons.mp m with z | z
    · rw [z]; exact a
    · exact b x z
theorem gday {h : Hv} (g : Gd h) (s : Bool) (d : Int) : gV h s (86400 * (d + 1)) - gV h s (86400 * d) = cond s (86400 - lenS (dayL h d)) (lenS (dayL h d)) := by
  have e : ∀ d, ahV h (86400 * d) = adV h d := fun d => by
    rw [ahV_eq, show 86400 * d / 86400 = d by omega, show 86400 * d % 86400 = 0 by omega, part_0 fun p m => ((dayL_ok g d).1.2.2 p m).1]
    omega
  have a := ad_step g d
  rw [gV_eq, gV_eq, e, e]
  cases s with
  | true => show 86400 * (d + 1) - adV h (d + 1) - (86400 * d - adV h d) = 86400 - _; omega
  | false => exact a
theorem flat_is {h : Hv} (g : Gd h) {s : Bool} (w : wkV h s = 0) : ∀ t t', laV h < t / 86400 → t ≤ t' → gV h s t' = gV h s t := by
  have hz : ∀ i, 0 ≤ i → i < h.1 → zV h s i = 0 := fun i h0 h1 => sum_zero (zV_0 g s) ((week_z g s).trans w) i (rng_mem.mpr ⟨h0, h1⟩)
  have hd : ∀ d, laV h < d → gV h s (86400 * (d + 1)) = gV h s (86400 * d) := fun d ld => by
    have n : h.2.2.lookup d = none := look_none.mpr fun m => absurd (top_le m) (by unfold laV at ld; omega)
    have e := gday g s d
    rw [dayL_eq, n] at e
    have w1 := g.w1
    have z := hz (d % h.1) (Int.emod_nonneg _ (by omega)) (Int.emod_lt_of_pos _ (by omega))
    unfold zV at z
    simp only at e
    omega
  have hn : ∀ (n : Nat) d, laV h < d → gV h s (86400 * (d + n)) = gV h s (86400 * d) := fun n d ld => by
    induction n with
    | zero => rw [show d + ((0 : Nat) : Int) = d by omega]
    | succ n ih => rw [show d + ((n + 1 : Nat) : Int) = d + n + 1 by omega, hd _ (by omega), ih]
  intro t t' lt le
  have b := hn (t' / 86400 + 1 - t / 86400).toNat (t / 86400) lt
  rw [show t / 86400 + ((t' / 86400 + 1 - t / 86400).toNat : Int) = t' / 86400 + 1 by omega] at b
  have c1 := g_le g (s := s) (a := 86400 * (t / 86400)) (b := t) (by omega)
  have c2 := g_le g (s := s) (a := t') (b := 86400 * (t' / 86400 + 1)) (by omega)
  have c3 := g_le g (s := s) le
  omega
theorem tb_is {h : Hv} (g : Gd h) (hk : ∀ x ∈ h.2.2.map (·.1), x ≤ 1000) {s : Bool} {time much T : Int} (h1 : 1 ≤ much) (ht : -1000000000 ≤ time ∧ time ≤ 1000000000) (hT : T ≤ 10000000000) (a : gV h s (T - 1) < gV h s time + much) (b : gV h s time + much ≤ gV h s T) :
    pre_Hours_time_by (h, time, much, s, ()) ∧ f_Hours_time_by (h, time, much, s, ()) = .ok T := by
  have pr : ∀ t, 10000000000 ≤ t → gV h s time + much ≤ gV h s t := fun t q => by have := g_le g (s := s) (a := T) (b := t) (by omega); omega
  obtain ⟨a0, l0, b0⟩ := h
  refine ⟨⟨ht, .inl pr⟩, ?_⟩
  obtain ⟨lo, sz, e, r1, r2, r3⟩ := dbl (G := gV (a0, l0, b0) s) (goal := gV (a0, l0, b0) s time + much) (wk := wkV (a0, l0, b0) s) (la := laV (a0, l0, b0)) (time := time) (Ts := T)
    (k := fun s1 : Int × Int => lt (s1.1 + s1.2) fun high => whK (fun s : Int × Int => decide (1 < s.2 - s.1)) (bisB (gV (a0, l0, b0) s) (gV (a0, l0, b0) s time + much)) (fun s => Re.ok s.2) (high - s1.1).toNat (s1.1, high))
    (laV_le hk) ht.1 (.inl pr) b (fun _ _ => g_le g) (flat_is g) 40 time 86400 wka_0 (by omega)
  obtain ⟨T', e', q1, q2⟩ := bis (G := gV (a0, l0, b0) s) (goal := gV (a0, l0, b0) s time + much) (lo + sz - lo).toNat lo (lo + sz) (by omega) (by omega) r1 r2
  have u : T' = T := by
    rcases Int.lt_trichotomy T' T with z | z | z
    · have := g_le g (s := s) (a := T') (b := T - 1) (by omega); omega
    · exact z
    · have := g_le g (s := s) (a := T) (b := T' - 1) (by omega); omega
  rw [← u, ← e']
  exact e
theorem tb_er {h : Hv} {s : Bool} {time much : Int} (ht : -1000000000 ≤ time ∧ time ≤ 1000000000) (w : wkV h s = 0) (a : gV h s (time + 86400) < gV h s time + much) (l : laV h < (time + 86400) / 86400) :
    pre_Hours_time_by (h, time, much, s, ()) ∧ f_Hours_time_by (h, time, much, s, ()) = .er 9 := by
  obtain ⟨a0, l0, b0⟩ := h
  refine ⟨⟨ht, .inr w⟩, ?_⟩
  show cond (decide (gV (a0, l0, b0) s (time + 86400) < gV (a0, l0, b0) s time + much)) (cond (decide (wkV (a0, l0, b0) s = 0) && decide (laV (a0, l0, b0) < (time + 86400) / 86400)) (Re.er 9) _) _ = _
  rw [decide_eq_true a, decide_eq_true w, decide_eq_true l]
  rfl
end Rw
/-! a new list and a number named at once; a def that rolls, called anywhere -/
namespace Rw
open PySem PySem.Spec PyProof.Rows L2 Evl
section
variable {K : PySem.W.Frag} {α β γ δ R τ : Type} {E E' : XK} {cl : Nat → Addr} {M : List Addr} {σ : L2.St} {I I' H H' : Hp} {S S' S1 S2 S3 : List Cell} {te ta tb tc to tv ti : TE} {tt : TT} {tr tk : TA} {t : Ty α} {u : Ty β} {D : Ends} {tz : TS}
theorem gNew2 {i j : Nat} {v : V} (K : PySem.W.Frag) (t : Ty α) (w : Holds M S H) (c : ∀ p H2, H p = none → Gr M S H H2 → Holds (p :: M) (cL p t [] :: S) H2 → Ex (del M H) (del (p :: M) H2) → tz D ((σ.set i (some (.ref p))).set j (some v)) H2) : tSeq (tPar i j (tCons (tLst tNil) (tCons (tC v) tNil))) tz D σ H := by
  refine ⟨by show 0 ≤ sizeLine; decide, fun p hp => ?_⟩
  have e : Ex H (upd H p (.lst [])) := Ex.new hp
  exact ⟨_, v, rfl, c p _ hp ⟨ex_del e, ex_del e⟩ (w.new (c := cL p t []) hp e upd_same ⟨[], rfl, .nil⟩) ((del_new hp).trans (ex_del e))⟩
theorem em_callRA {n : Nat} {d : Addr} {z : Dice} {A : AR α} {B : AR γ} {a : α} {a' : γ} {pre : α → Prop} {f : α → Dice → β × Dice} {dvs : List V} (h : Ea E cl M tr σ I S (aC (kPtr d) B) (.ok ((), a')) S') (hA : ∀ H vs, B H vs a' → A H (vs ++ dvs) a) (hk : S'[n]? = some (cDice d z)) (hp : pre a) (mn : M = ads S') : Em E cl M (tCall (spR A pre f u) dvs E' tr) σ I S u (.ok (f a z).1) (S'.set n (cDice d (f a z).2)) :=
  em_mk ((ads_set (c' := cDice d (f a z).2) hk rfl).trans h.ad) fun H1 i w Q q => ea_of h H1 i w _ fun vs H2 e w2 r => by
    obtain ⟨v1, r1, rfl, g1, g2⟩ := r
    obtain rfl : v1 = .ref d := g1
    obtain ⟨dM, o, h2, ro⟩ := w2.at_ _ (List.mem_of_getElem? hk)
    obtain rfl : o = .lst [.int z.1, .int z.2.1, .int z.2.2] := ro
    refine ⟨M, d, z, r1 ++ dvs, a, rfl, dM, w2.live, by rw [mn]; exact w2.one, h2, hA _ _ g2, hp, fun v H3 e3 h3 r3 => ?_⟩
    obtain ⟨w3, x3⟩ := dice_put w2 hk (exb_del.mpr e3) h3
    exact q _ H3 (ads_tr h.ad e x3) w3 r3
end
end Rw
namespace Rw
open PySem PySem.Spec PyProof.Rows L2 Evl

def Pd {β : Type} (z r : β) : Prop := z = r

section
variable {P : Program} {w : World} {K : PySem.W.Frag} {mg : Str → Option Value} {base : Heap} {cl : Nat → Addr}

abbrev s__law_spans : Stmt := topS 27
def _law_spansN : List Str := ["dice", "found", "here", "turn", "last"]
theorem sc__law_spans : FnScope _law_spansN ["dice"] (defScope s__law_spans) := ⟨rfl, rfl, rfl, by decide +kernel, rfl, by decide +kernel, by decide +kernel⟩
def f__law_spans : Unit → Dice → (List (Int × Int)) × Dice := fun _ z0 =>
    forK (fun (x_917 : Int) (s_918 : (Int × (List (Int × Int)) × Dice)) (kn : (Int × (List (Int × Int)) × Dice) → _) (kb : (Int × (List (Int × Int)) × Dice) → _) =>
    lt (s_918.1 + (roll s_918.2.2 (8 : Int)).1) fun here_942 =>
    cond (decide (here_942 < (24 : Int)))
    (lt (if ((here_942 + (1 : Int)) + (roll (roll s_918.2.2 (8 : Int)).2 (10 : Int)).1) < (24 : Int) then ((here_942 + (1 : Int)) + (roll (roll s_918.2.2 (8 : Int)).2 (10 : Int)).1) else (24 : Int)) fun last_960 =>
    lt (s_918.2.1 ++ [(((3600 : Int) * here_942), ((3600 : Int) * last_960))]) fun found_968 =>
    lt last_960 fun here_975 =>
    kn (here_975, found_968, (roll (roll s_918.2.2 (8 : Int)).2 (10 : Int)).2))
    (kn (here_942, s_918.2.1, (roll s_918.2.2 (8 : Int)).2)))
    (fun (s_983 : (Int × (List (Int × Int)) × Dice)) =>
    (s_983.2.1, s_983.2.2))
    (rng 0 (roll z0 (3 : Int)).1) ((0 : Int), ([] : (List (Int × Int))), (roll z0 (3 : Int)).2)
abbrev sp__law_spans (K : PySem.W.Frag) : Sp := spR a0 (fun _ => True) f__law_spans (kL K (k2 K kI kI))
theorem ok__law_spans {f : Addr} {fd : FuncData} (F : Fun K "_law_spans" "_law_spans" s__law_spans f fd) (B : BD mg) (c_roll : Cal P w K mg base 1 "_law_roll" spRollX []) : FnOk P w K mg base (L2.CX P w) 2 f fd ["dice"] (sp__law_spans K) := by
  refine F.okX sc__law_spans (fun vs H Q E h => ?_) (fun cdv A outer s H vs Q E hr h => ?_)
  · obtain ⟨M, d, x, ws, a, rfl, _, _, _, _, hA, _⟩ := h
    obtain rfl := hA
    rfl
  · obtain ⟨M, d, z0, ws, a, rfl, dM, live, mn, hd, hA, hpre, q⟩ := h
    obtain rfl := hA
    have w0 : Holds M [cDice d z0] H := ⟨fun c hc => by rw [List.mem_singleton.mp hc]; exact ⟨dM, _, hd, rfl⟩, by simp [ads], live⟩
    have o0 : Pd (f__law_spans () z0) (forK (fun (x_917 : Int) (s_918 : (Int × (List (Int × Int)) × Dice)) (kn : (Int × (List (Int × Int)) × Dice) → _) (kb : (Int × (List (Int × Int)) × Dice) → _) =>
lt (s_918.1 + (roll s_918.2.2 (8 : Int)).1) fun here_942 =>
cond (decide (here_942 < (24 : Int)))
(lt (if ((here_942 + (1 : Int)) + (roll (roll s_918.2.2 (8 : Int)).2 (10 : Int)).1) < (24 : Int) then ((here_942 + (1 : Int)) + (roll (roll s_918.2.2 (8 : Int)).2 (10 : Int)).1) else (24 : Int)) fun last_960 =>
lt (s_918.2.1 ++ [(((3600 : Int) * here_942), ((3600 : Int) * last_960))]) fun found_968 =>
lt last_960 fun here_975 =>
kn (here_975, found_968, (roll (roll s_918.2.2 (8 : Int)).2 (10 : Int)).2))
(kn (here_942, s_918.2.1, (roll s_918.2.2 (8 : Int)).2)))
(fun (s_983 : (Int × (List (Int × Int)) × Dice)) =>
(s_983.2.1, s_983.2.2))
(rng 0 (roll z0 (3 : Int)).1) ((0 : Int), ([] : (List (Int × Int))), (roll z0 (3 : Int)).2)) := rfl
    refine ⟨_, pss_cons (ps_par (i := 1) (j := 2) rfl sc__law_spans.nd rfl rfl (by decide) rfl rfl (pa_cons (pe_lst pa_nil) (pa_cons pe_int pa_nil)) rfl) (pss_cons (ps_for (passes_of rfl) rfl (pi_range1 rfl B.range (pa_cons (pe_k c_roll hr (by decide) passL (pa_cons (pv 0) (pa_cons pe_int pa_nil))) pa_nil)) (pg_name (i := 3) sc__law_spans.nd rfl (Or.inl rfl)) (pss_cons (ps_set (i := 2) sc__law_spans.nd rfl (.inl rfl) (pe_op op_add (pv 2) (pe_k c_roll hr (by decide) passL (pa_cons (pv 0) (pa_cons pe_int pa_nil))))) (pss_one (ps_if (pt_cmpR op_lt (pv 2) pe_int (nomark _)) (pss_cons (ps_set (i := 4) sc__law_spans.nd rfl (.inl rfl) (pe_callB (call_min2 rfl) (by rfl) B.min (by decide +kernel) (pa_cons pe_int (pa_cons (pe_op op_add (pe_op op_add (pv 2) pe_int) (pe_k c_roll hr (by decide) passL (pa_cons (pv 0) (pa_cons pe_int pa_nil)))) pa_nil)))) (pss_cons (ps_expr (pe_bm PySem.F.plainAttrs_list PySem.F.slot_list_append PySem.F.type_list_append mt_append (pv 1) (pa_cons (pe_tup (pa_cons (pe_op op_mul pe_int (pv 2)) (pa_cons (pe_op op_mul pe_int (pv 4)) pa_nil))) pa_nil))) (pss_one (ps_set (i := 2) sc__law_spans.nd rfl (.inl rfl) (pv 4))))) (pss_nil))))) (pss_one (ps_ret (pv 1)))), ?_⟩
    refine gNew2 (i := 1) (j := 2) K (k2 K kI kI) w0 fun p_911 H_912 hp_913 g_914 w_915 e_916 => ?_
    refine g_for (E := E) (cl := fun _ => 0) (xs := (rng 0 (roll z0 (3 : Int)).1)) (s0 := ((0 : Int), ([] : (List (Int × Int))), (roll z0 (3 : Int)).2)) (Sx := (fun s : (Int × (List (Int × Int)) × Dice) => [cL p_911 (k2 K kI kI) (s.2.1), cDice d (s.2.2)])) (fun (I : Hp) (rs : List Int) (s : (Int × (List (Int × Int)) × Dice)) (σ : L2.St) => ∃ (l3 : Option V) (l4 : Option V), σ = [some (.ref d), some (.ref p_911), some (.int (s.1)), l3, l4] ∧ ((s.2.1)).length + rs.length ≤ 3) w_915 o0 (ei_R1 (em_cons (em_roll (n := 1) (em_cons (em_var (t := kPtr d) (v := .ref d) (x := ()) rfl rfl) (em_cons em_int em_nil)) rfl (by decide)) em_nil) (by have q5 := roll_in z0 (m := 3) (by decide); refine ⟨by omega, by omega⟩)) (fun _ => rfl) (fun _ => eg_name) (fun _ g => ⟨_, _, rfl, by have q5 := roll_in z0 (m := 3) (by decide); (try dsimp only); simp only [rng_len, List.length_nil]; omega⟩) (fun s_983 σ_984 H_985 g_986 w_987 rv_988 o_989 => ?_) (fun hd_933 x_917 s_918 σ_919 σ_920 I_921 H_922 rest_923 hm_924 g_925 w_926 ei_927 rv_928 b_929 o_930 Nx_931 nx_932 => ?_)
    · obtain ⟨here_990, found_991, dice_992⟩ := s_983
      obtain ⟨l_993, l_994, rfl, iv_995⟩ := rv_988
      simp only [List.length_nil] at iv_995
      refine g_ret (E := E) (cl := fun _ => 0) (t := kPtr p_911) (x := ()) w_987 (em_var (t := kPtr p_911) (v := .ref p_911) (x := ()) rfl rfl) (fun v_996 H_997 g_998 w_999 r_1000 => ?_)
      obtain rfl : v_996 = .ref p_911 := r_1000
      have pn : p_911 ∉ M := fun z => absurd hp_913 (w0.live _ z)
      obtain ⟨_, od, hd2, hr2⟩ := w_999.at_ _ (List.mem_cons_of_mem _ List.mem_cons_self)
      obtain rfl : od = .lst [.int dice_992.1, .int dice_992.2.1, .int dice_992.2.2] := hr2
      have oo : f__law_spans () z0 = (found_991, dice_992) := o_989
      refine q (.ref p_911) H_997 (show Ex (del [d] H) (del [d] _) from Gr.fr (Gr.lone2 (c := cL p_911 (k2 K kI kI) []) (Gr.back w0 Gr.refl w0 hp_913) g_914 (Gr.cast (g_986.then g_998 rfl) rfl))) ?_ ?_
      · rw [oo]; exact hd2
      · rw [oo]; exact cell_end w_999 pn
    · obtain ⟨here_936, found_937, dice_938⟩ := s_918
      obtain ⟨l_939, l_940, rfl, iv_941⟩ := rv_928
      simp only [List.length_cons] at iv_941
      obtain ⟨_, rfl, rfl⟩ := b_929
      rw [rng_mem] at hm_924
      refine g_asg (E := E) (cl := fun _ => 0) (i := 2) (t := kI) (x := (here_936 + (roll dice_938 (8 : Int)).1)) w_926 o_930 (em_op (em_var (t := kI) (v := (.int here_936)) (x := here_936) rfl rfl) (em_roll (n := 1) (em_cons (em_var (t := kPtr d) (v := .ref d) (x := ()) rfl rfl) (em_cons em_int em_nil)) rfl (by decide)) o_I) (fun here_942 v_943 H_944 hx_945 o_946 g_947 w_948 r_949 => ?_)
      obtain rfl : v_943 = (.int here_942) := r_949
      refine g_ifL (E := E) (cl := fun _ => 0) (b := (decide (here_942 < (24 : Int)))) w_948 o_946 (gt_test (em_op (em_var (t := kI) (v := (.int here_942)) (x := here_942) rfl rfl) em_int o_IB)) (fun hb_951 o_952 H_950 g_953 w_954 => ?_) (fun hb_956 o_957 H_955 g_958 w_959 => ?_)
      · try simp only [decide_eq_true_eq, decide_eq_false_iff_not, Bool.and_eq_true, Bool.or_eq_true, Bool.and_eq_false_iff, Bool.or_eq_false_iff, Bool.not_eq_true', Bool.not_eq_false'] at hb_951
        refine g_asg (E := E) (cl := fun _ => 0) (i := 4) (t := kI) (x := (if ((here_942 + (1 : Int)) + (roll (roll dice_938 (8 : Int)).2 (10 : Int)).1) < (24 : Int) then ((here_942 + (1 : Int)) + (roll (roll dice_938 (8 : Int)).2 (10 : Int)).1) else (24 : Int))) w_954 o_952 (em_cb (em_cons em_int (em_cons (em_op (em_op (em_var (t := kI) (v := (.int here_942)) (x := here_942) rfl rfl) em_int o_I) (em_roll (n := 1) (em_cons (em_var (t := kPtr d) (v := .ref d) (x := ()) rfl rfl) (em_cons em_int em_nil)) rfl (by decide)) o_I) em_nil)) o_min2) (fun last_960 v_961 H_962 hx_963 o_964 g_965 w_966 r_967 => ?_)
        obtain rfl : v_961 = (.int last_960) := r_967
        refine g_app (E := E) (cl := fun _ => 0) (n := 0) (t := (k2 K kI kI)) (acc0 := found_937) (acc := found_937) (x := (((3600 : Int) * here_942), ((3600 : Int) * last_960))) w_966 o_964 (em_var (t := kPtr p_911) (v := (.ref p_911)) (x := ()) rfl rfl) (em_t2 K (em_cons (em_op em_int (em_var (t := kI) (v := (.int here_942)) (x := here_942) rfl rfl) (o_IC (by first | exact .inl ⟨by omega, by omega⟩ | exact .inr ⟨by omega, by omega⟩))) (em_cons (em_op em_int (em_var (t := kI) (v := (.int last_960)) (x := last_960) rfl rfl) (o_IC (by first | exact .inl ⟨by omega, by omega⟩ | exact .inr ⟨by omega, by omega⟩))) em_nil))) rfl rfl (by omega) (fun found_968 H_969 hx_970 o_971 g_972 w_973 => ?_)
        have ln_974 : found_968.length = found_937.length + 1 := by rw [hx_970, List.length_append]; rfl
        refine g_asgL (E := E) (cl := fun _ => 0) (i := 2) (t := kI) (x := last_960) w_973 o_971 (em_var (t := kI) (v := (.int last_960)) (x := last_960) rfl rfl) (fun here_975 v_976 H_977 hx_978 o_979 g_980 w_981 r_982 => ?_)
        obtain rfl : v_976 = (.int here_975) := r_982
        exact nx_932 (here_975, found_968, (roll (roll dice_938 (8 : Int)).2 (10 : Int)).2) _ _ o_979 (Gr.cast ((((g_947.then g_953 rfl).then g_965 rfl).then g_972 rfl).then g_980 rfl) rfl) w_981 ⟨_, _, rfl, by (try dsimp only); omega⟩
      · try simp only [decide_eq_true_eq, decide_eq_false_iff_not, Bool.and_eq_true, Bool.or_eq_true, Bool.and_eq_false_iff, Bool.or_eq_false_iff, Bool.not_eq_true', Bool.not_eq_false'] at hb_956
        exact nx_932 (here_942, found_937, (roll dice_938 (8 : Int)).2) _ _ o_957 (Gr.cast (g_947.then g_958 rfl) rfl) w_959 ⟨_, _, rfl, by (try dsimp only); omega⟩
end
end Rw
namespace Rw
open PySem PySem.Spec PyProof.Rows L2 Evl

theorem o_catXX {K : PySem.W.Frag} {α : Type} {t : Ty α} {xs ys : List α} (hl : xs.length + ys.length ≤ 100000) : Op2 rCat (kX t) xs (kX t) ys (kX t) (xs ++ ys) := fun M u w H l a b Q q => by
  obtain ⟨p, vs, rfl, hp, ha⟩ := a
  obtain ⟨r, ws, rfl, hr, hb⟩ := b
  refine ⟨p, r, vs, ws, rfl, rfl, (del_some.mp hp).2, (del_some.mp hr).2, sz_of (by rw [ha.len, hb.len]; exact hl), fun n hn => ?_⟩
  exact q _ _ (Ex.new hn) ⟨n, _, rfl, del_at (fresh_not l hn) upd_same, all2_up t (ex_del (Ex.new hn)) (ha.app hb)⟩
def flatL {α : Type} (xs : List (List α)) : List α := xs.foldl (fun a b => a ++ b) []
theorem tot_cons {α : Type} (x : List α) (r : List (List α)) : ((x :: r).map List.length).sum = x.length + (r.map List.length).sum := by simp

section
variable {P : Program} {w : World} {K : PySem.W.Frag} {mg : Str → Option Value} {base : Heap} {cl : Nat → Addr}

abbrev s__law_flat : Stmt := topS 22
def _law_flatN : List Str := ["rows", "found", "row"]
theorem sc__law_flat : FnScope _law_flatN ["rows"] (defScope s__law_flat) := ⟨rfl, rfl, rfl, by decide +kernel, rfl, by decide +kernel, by decide +kernel⟩
def f__law_flat : (List (List Int)) × Unit → Re (List Int) := fun a => match a with
  | (x0, _) =>
    lt ([] : List Int) fun found_1001 =>
    forK (fun (x_1010 : (List Int)) (s_1011 : ((List Int))) (kn : ((List Int)) → _) (kb : ((List Int)) → _) =>
    lt (s_1011 ++ x_1010) fun found_1036 =>
    kn (found_1036))
    (fun (s_1047 : ((List Int))) =>
    (.ok s_1047))
    x0 (found_1001)
def pre__law_flat : (List (List Int)) × Unit → Prop := fun a => match a with
  | (x0, _) => x0.length ≤ 1000 ∧ (x0.map List.length).sum ≤ 100000
abbrev sp__law_flat (K : PySem.W.Frag)  (cl : Nat → Addr) : Sp := spD (aC (kX (kX kI)) a0) pre__law_flat f__law_flat (kX kI) cl
theorem ok__law_flat {f : Addr} {fd : FuncData} (F : Fun K "_law_flat" "_law_flat" s__law_flat f fd)  : FnOk P w K mg base (L2.CX P w) 1 f fd ["rows"] (sp__law_flat K  cl) := by
  refine F.okX sc__law_flat (fun vs H Q E h => ?_) (fun cdv A outer s H vs Q E hr h => ?_)
  · obtain ⟨M, a, live, hA, _⟩ := h
    obtain ⟨v0, _, rfl, r0, rfl⟩ := hA
    rfl
  · obtain ⟨M, ⟨x0, _⟩, live, hA, hpre, qok, qer⟩ := h
    obtain ⟨v0, _, rfl, r0, rfl⟩ := hA
    have hpre : x0.length ≤ 1000 ∧ (x0.map List.length).sum ≤ 100000 := hpre
    have w0 : Holds M [] H := hold0 live
    have o0 : Pr (f__law_flat (x0, ())) (lt ([] : List Int) fun found_1001 =>
forK (fun (x_1010 : (List Int)) (s_1011 : ((List Int))) (kn : ((List Int)) → _) (kb : ((List Int)) → _) =>
lt (s_1011 ++ x_1010) fun found_1036 =>
kn (found_1036))
(fun (s_1047 : ((List Int))) =>
(.ok s_1047))
x0 (found_1001)) := rfl
    refine ⟨_, pss_cons (ps_set (i := 1) sc__law_flat.nd rfl (.inl rfl) (pe_lst pa_nil)) (pss_cons (ps_for (passes_of rfl) rfl (pi_list (pv 0)) (pg_name (i := 2) sc__law_flat.nd rfl (Or.inl rfl)) (pss_one (ps_set (i := 1) sc__law_flat.nd rfl (.inl rfl) (pe_op op_cat (pv 1) (pv 2))))) (pss_one (ps_ret (pv 1)))), ?_⟩
    refine g_asg (E := E) (cl := cl) (i := 1) (t := (kX kI)) (x := ([] : List Int)) w0 o0 (em_lstX em_nilL (by decide)) (fun found_1001 v_1002 H_1003 hx_1004 o_1005 g_1006 w_1007 r_1008 => ?_)
    have r_1009 := (kX (kX kI)).up g_1006.im r0
    refine g_for (E := E) (cl := cl) (xs := x0) (s0 := (found_1001)) (Sx := (fun s : ((List Int)) => [])) (fun (I : Hp) (rs : List (List Int)) (s : ((List Int))) (σ : L2.St) => ∃ (u0 : V) (l2 : Option V), σ = [some v0, some u0, l2] ∧ (kX kI).r I u0 (s) ∧ ((s)).length + ((rs).map List.length).sum ≤ 100000 ∧ rs.length ≤ 1000) w_1007 o_1005 (ei_L (em_XL (em_var (t := (kX (kX kI))) (v := v0) (x := x0) rfl r_1009))) (fun _ => rfl) (fun _ => eg_name) (fun _ g => ⟨_, _, rfl, ((kX kI).up g.im r_1008), by rw [hx_1004]; simp only [List.length_nil]; omega⟩) (fun s_1047 σ_1048 H_1049 g_1050 w_1051 rv_1052 o_1053 => ?_) (fun hd_1026 x_1010 s_1011 σ_1012 σ_1013 I_1014 H_1015 rest_1016 hm_1017 g_1018 w_1019 ei_1020 rv_1021 b_1022 o_1023 Nx_1024 nx_1025 => ?_)
    · have r_1055 := (kX (kX kI)).up g_1050.im r_1009
      have r_1056 := (kX kI).up g_1050.im r_1008
      obtain ⟨v_1057, l_1059, rfl, r_1058, iv_1060⟩ := rv_1052
      simp only [List.length_nil] at iv_1060
      refine g_ret (E := E) (cl := cl) (t := (kX kI)) (x := s_1047) w_1051 (em_var (t := (kX kI)) (v := v_1057) (x := s_1047) rfl r_1058) (fun v_1061 H_1062 g_1063 w_1064 r_1065 => ?_)
      exact qok _ v_1061 H_1062 o_1053 (show Ex H _ from Gr.fr ((g_1006.then g_1050 rfl).then g_1063 rfl)) r_1065
    · obtain ⟨v_1030, l_1032, rfl, r_1031, iv_1033⟩ := rv_1021
      simp only [List.length_cons] at iv_1033
      have r_1034 := (kX kI).up ei_1020 r_1031
      have r_1035 := (kX (kX kI)).up g_1018.im r_1009
      obtain ⟨v_1027, r_1028, rfl⟩ := b_1022
      refine g_asgL (E := E) (cl := cl) (i := 1) (t := (kX kI)) (x := (s_1011 ++ x_1010)) w_1019 o_1023 (em_op (em_var (t := (kX kI)) (v := v_1030) (x := s_1011) rfl r_1034) (em_var (t := (kX kI)) (v := v_1027) (x := x_1010) rfl r_1028) (o_catXX (K := K) (by simp only [tot_cons] at *; omega))) (fun found_1036 v_1037 H_1038 hx_1039 o_1040 g_1041 w_1042 r_1043 => ?_)
      have r_1044 := (kX (kX kI)).up g_1041.im r_1035
      have r_1045 := (kX kI).up g_1041.im r_1034
      have r_1046 := (kX kI).up g_1041.im r_1028
      have lf : found_1036.length = s_1011.length + x_1010.length := by rw [hx_1039, List.length_append]
      exact nx_1025 (found_1036) _ _ o_1040 (Gr.cast g_1041 rfl) w_1042 ⟨_, _, rfl, r_1043, by (try simp only [tot_cons] at *); (try dsimp only); omega⟩
end
end Rw
/-! the law's lots: whole hours -/
namespace Rw
open PySem PySem.Spec PyProof.Rows L2 Evl
/-- spans of whole hours of a day -/
def SpH (x : List (Int × Int)) : Prop := x.length ≤ 3 ∧ ∀ q ∈ x, ∃ a b : Int, q = (3600 * a, 3600 * b) ∧ 0 ≤ a ∧ a < b ∧ b ≤ 24
theorem sph_raw {x : List (Int × Int)} (h : SpH x) : RawOk x := ⟨by have := h.1; omega, fun q m => by
  obtain ⟨a, b, rfl, h1, h2, h3⟩ := h.2 q m
  show 3600 * a < 3600 * b
  omega, fun q m => by
  obtain ⟨a, b, rfl, h1, h2, h3⟩ := h.2 q m
  show 0 ≤ 3600 * a ∧ 3600 * b ≤ 86400
  omega⟩
theorem forK_inv {α τ R : Type} {b : α → τ → (τ → R) → (τ → R) → R} {k : τ → R} {P : R → Prop} (I : Nat → τ → Prop) (hk : ∀ s, I 0 s → P (k s)) (h : ∀ n x s kn kb, I (n + 1) s → (∀ s', I n s' → P (kn s')) → P (b x s kn kb)) : ∀ (xs : List α) (s : τ), I xs.length s → P (forK b k xs s)
  | [], s, i => hk s i
  | x :: xs, s, i => h xs.length x s _ _ i fun s' i' => forK_inv I hk h xs s' i'
theorem sp_h (z : Dice) : SpH (f__law_spans () z).1 := by
  unfold f__law_spans
  have q3 := roll_in z (m := 3) (by decide)
  refine forK_inv (P := fun r : List (Int × Int) × Dice => SpH r.1) (fun n s => 0 ≤ s.1 ∧ s.2.1.length + n ≤ 3 ∧ ∀ q ∈ s.2.1, ∃ a b : Int, q = (3600 * a, 3600 * b) ∧ 0 ≤ a ∧ a < b ∧ b ≤ 24) (fun s h => ⟨by have := h.2.1; show s.2.1.length ≤ 3; omega, h.2.2⟩) (fun n x s kn kb h k => ?_) _ _ ⟨Int.le_refl 0, by rw [rng_len]; show 0 + _ ≤ 3; omega, List.forall_mem_nil _⟩
  obtain ⟨h0, h1, h2⟩ := h
  have r8 := roll_in s.2.2 (m := 8) (by decide)
  have r10 := roll_in (roll s.2.2 8).2 (m := 10) (by decide)
  dsimp only [lt]
  by_cases c : s.1 + (roll s.2.2 8).1 < 24
  · rw [decide_eq_true c]
    refine k _ ⟨by show 0 ≤ ite _ _ _; split <;> omega, by show (s.2.1 ++ [_]).length + n ≤ 3; rw [List.length_append]; show s.2.1.length + 1 + n ≤ 3; omega, fun q m => ?_⟩
    rcases List.mem_append.mp m with m | m
    · exact h2 q m
    · obtain rfl := List.mem_singleton.mp m
      exact ⟨_, _, rfl, by omega, by split <;> omega, by split <;> omega⟩
  · rw [decide_eq_false c]
    exact k _ ⟨by show 0 ≤ s.1 + _; omega, by show s.2.1.length + n ≤ 3; omega, h2⟩
def mkH (w : Int) (rows : List (List (Int × Int))) (oth : List (Int × List (Int × Int))) : Hv := (w, rows.map fun x => tog x, oth.map fun x => (x.1, tog x.2))
structure Cx19 (w : Int) (rows : List (List (Int × Int))) (oth : List (Int × List (Int × Int))) : Prop where
  w1 : 1 ≤ w
  w3 : w ≤ 3
  ln : (rows.length : Int) = w
  rw : ∀ x ∈ rows, SpH x
  ot : ∀ x ∈ oth, SpH x.2 ∧ (x.1 = -2 ∨ x.1 = 1 ∨ x.1 = 4)
  nd : (oth.map fun x => x.1).Nodup
  lo : oth.length ≤ 3
section
variable {w : Int} {rows : List (List (Int × Int))} {oth : List (Int × List (Int × Int))}
theorem Cx19.l3 (cx : Cx19 w rows oth) : rows.length ≤ 3 := by have := cx.ln; have := cx.w3; omega
theorem Cx19.ipre (cx : Cx19 w rows oth) : pre_Hours_init (w, rows, some oth, ()) := ⟨⟨by have := cx.w1; omega, by have := cx.w3; omega⟩, by have := cx.l3; omega, fun x m => sph_raw (cx.rw x m), fun o e => by
  obtain rfl := Option.some.inj e
  exact ⟨by have := cx.lo; omega, fun x m => ⟨sph_raw (cx.ot x m).1, by have := (cx.ot x m).2; omega⟩, cx.nd⟩⟩
theorem Cx19.iok (cx : Cx19 w rows oth) : f_Hours_init (w, rows, some oth, ()) = .ok (mkH w rows oth) := by
  show cond (decide (w < 1) || !decide (((rows.map fun x => tog x).length : Int) = w)) (Re.er 2) _ = _
  rw [List.length_map, decide_eq_true cx.ln, decide_eq_false (by have := cx.w1; omega)]
  rfl
theorem Cx19.gd (cx : Cx19 w rows oth) : Gd (mkH w rows oth) where
  w1 := cx.w1
  w2 := by show w ≤ 1000; have := cx.w3; omega
  ln := by show (((rows.map fun x => tog x).length : Nat) : Int) = w; rw [List.length_map]; exact cx.ln
  rw := fun x m => by
    obtain ⟨y, my, rfl⟩ := List.mem_map.mp m
    exact ⟨tog_day (sph_raw (cx.rw y my)), tog_can (sph_raw (cx.rw y my)).2.1⟩
  ot := fun x m => by
    obtain ⟨y, my, rfl⟩ := List.mem_map.mp m
    exact ⟨tog_day (sph_raw (cx.ot y my).1), tog_can (sph_raw (cx.ot y my).1).2.1⟩
  nd := by
    show ((oth.map fun x => (x.1, tog x.2)).map (·.1)).Nodup
    rw [List.map_map]
    exact cx.nd
theorem Cx19.keys (cx : Cx19 w rows oth) : ∀ x ∈ (mkH w rows oth).2.2.map (·.1), x ≤ 4 := fun x m => by
  obtain ⟨y, my, rfl⟩ := List.mem_map.mp m
  obtain ⟨z, mz, rfl⟩ := List.mem_map.mp my
  have := (cx.ot z mz).2
  show z.1 ≤ 4
  omega
theorem runE_all {α β τ : Type} {ct : α → τ → Bool × τ} {f : α → τ → β × τ} {P : β → Prop} (h : ∀ x s, P (f x s).1) : ∀ (xs : List α) (s : τ), ∀ y ∈ (runE ct f xs s).1, P y
  | [], s, y, m => nomatch m
  | x :: xs, s, y, m => by
    simp only [runE] at m
    split at m
    · rcases List.mem_cons.mp m with z | z
      · rw [z]; exact h x _
      · exact runE_all h xs _ y z
    · exact runE_all h xs _ y m
theorem runE_len {α β τ : Type} {f : α → τ → β × τ} : ∀ (xs : List α) (s : τ), (runE (fun _ s => (true, s)) f xs s).1.length = xs.length
  | [], s => rfl
  | x :: xs, s => by
    simp only [runE]
    exact congrArg (· + 1) (runE_len xs _)
theorem runE_key {α β τ : Type} {ct : α → τ → Bool × τ} {f : α → τ → β × τ} {key : β → α} (h : ∀ x s, key (f x s).1 = x) : ∀ (xs : List α) (s : τ), ((runE ct f xs s).1.map key).Sublist xs
  | [], s => List.Sublist.slnil
  | x :: xs, s => by
    simp only [runE]
    split
    · rw [List.map_cons, h]
      exact (runE_key h xs _).cons_cons x
    · exact (runE_key h xs _).cons x
theorem cx_ok (h : 1 ≤ w ∧ w ≤ 3) {z z' : Dice} : Cx19 w (runE (fun (_ : Int) (z : Dice) => (true, z)) (fun (_ : Int) (z : Dice) => ((f__law_spans () z).1, (f__law_spans () z).2)) (rng 0 w) z).1
    (runE (fun (_ : Int) (z : Dice) => (decide ((roll z 3).1 = 0), (roll z 3).2)) (fun (x : Int) (z : Dice) => ((x, (f__law_spans () z).1), (f__law_spans () z).2)) [(0 : Int) - 2, 1, 4] z').1 where
  w1 := h.1
  w3 := h.2
  ln := by rw [runE_len, rng_len]; omega
  rw := runE_all (P := SpH) (fun _ z => sp_h z) _ _
  ot := fun x m => by
    refine ⟨runE_all (P := fun x : Int × List (Int × Int) => SpH x.2) (fun _ z => sp_h z) _ _ x m, ?_⟩
    have := (runE_key (key := fun x : Int × List (Int × Int) => x.1) (fun _ _ => rfl) _ _).subset (List.mem_map.mpr ⟨x, m, rfl⟩)
    simp at this
    omega
  nd := List.Sublist.nodup (runE_key (key := fun x : Int × List (Int × Int) => x.1) (fun _ _ => rfl) _ _) (by decide)
  lo := by
    have := (runE_key (ct := fun (_ : Int) (z : Dice) => (decide ((roll z 3).1 = 0), (roll z 3).2)) (f := fun (x : Int) (z : Dice) => ((x, (f__law_spans () z).1), (f__law_spans () z).2)) (key := fun x : Int × List (Int × Int) => x.1) (fun _ _ => rfl) [(0 : Int) - 2, 1, 4] z').length_le
    rw [List.length_map] at this
    exact this
/-! ### what is open in an hour -/
abbrev rawL (w : Int) (rows : List (List (Int × Int))) (tb : List (Int × List (Int × Int))) (d : Int) : List (Int × Int) := (tb.lookup d).getD ((atI rows (d % w)).getD [])
theorem raw_h (cx : Cx19 w rows oth) (d : Int) : SpH (rawL w rows oth d) := by
  unfold rawL
  cases e : oth.lookup d with
  | some x => exact (cx.ot _ (look_mem e)).1
  | none =>
    cases e2 : atI rows (d % w) with
    | none => exact ⟨by decide, List.forall_mem_nil _⟩
    | some x =>
      unfold atI at e2
      obtain ⟨j, _, hj⟩ := Option.bind_eq_some_iff.mp e2
      exact cx.rw x (List.mem_of_getElem? hj)
theorem look_map {α β : Type} {f : α → β} {k : Int} : ∀ {l : List (Int × α)}, (l.map fun x => (x.1, f x.2)).lookup k = (l.lookup k).map f
  | [] => rfl
  | a :: l => by
    rw [List.map_cons, List.lookup_cons, List.lookup_cons]
    by_cases e : k = a.1
    · rw [show (k == a.1) = true by simp [e]]; rfl
    · rw [show (k == a.1) = false by simpa using e]; exact look_map
theorem at_mapG {α β : Type} {f : α → β} {l : List α} {i : Int} : atI (l.map f) i = (atI l i).map f := by
  unfold atI
  rw [List.length_map]
  cases ixN l.length i with
  | none => rfl
  | some j => simp
theorem day_raw (d : Int) : dayL (mkH w rows oth) d = tog (rawL w rows oth d) := by
  rw [dayL_eq]
  show (match (oth.map fun x => (x.1, tog x.2)).lookup d with | some x => x | none => rowL (mkH w rows oth) (d % w)) = _
  unfold rawL
  rw [look_map]
  cases oth.lookup d with
  | some x => rfl
  | none =>
    show ((atI (rows.map fun x => tog x) (d % w)).getD []) = tog ((atI rows (d % w)).getD [])
    rw [at_mapG]
    cases atI rows (d % w) with
    | some x => rfl
    | none =>
      show [] = tog []
      unfold tog sortP
      rw [List.mergeSort_nil]
      rfl
def opB (w : Int) (rows : List (List (Int × Int))) (tb : List (Int × List (Int × Int))) (k : Int) : Bool := !decide ((((rawL w rows tb (k / 24)).filter fun p => decide (p.1 ≤ k % 24 * 3600) && decide (k % 24 * 3600 < p.2)).map fun _ => (1 : Int)) = [])
theorem opB_in {k : Int} : opB w rows oth k = true ↔ In (rawL w rows oth (k / 24)) (k % 24 * 3600) := by
  unfold opB
  simp only [Bool.not_eq_true', decide_eq_false_iff_not, List.map_eq_nil_iff, List.filter_eq_nil_iff, Bool.and_eq_true, decide_eq_true_eq]
  refine ⟨fun h => ?_, fun ⟨p, m, a, b⟩ z => z p m ⟨a, b⟩⟩
  by_cases c : In (rawL w rows oth (k / 24)) (k % 24 * 3600)
  · exact c
  · exact absurd (fun p m z => c ⟨p, m, z.1, z.2⟩) h
theorem in_h {x : List (Int × Int)} (h : SpH x) {k r : Int} (r0 : 0 ≤ r) (r1 : r < 3600) : In x (k * 3600 + r) ↔ In x (k * 3600) := by
  constructor
  · rintro ⟨p, m, a, b⟩
    obtain ⟨u, v, rfl, _⟩ := h.2 p m
    exact ⟨_, m, by simp only at *; omega, by simp only at *; omega⟩
  · rintro ⟨p, m, a, b⟩
    obtain ⟨u, v, rfl, _⟩ := h.2 p m
    exact ⟨_, m, by simp only at *; omega, by simp only at *; omega⟩
theorem oS_h (cx : Cx19 w rows oth) (k : Int) {r : Int} (r0 : 0 ≤ r) (r1 : r < 3600) : oS (mkH w rows oth) (3600 * k + r) = cond (opB w rows oth k) 1 0 := by
  unfold oS inI
  rw [show (3600 * k + r) / 86400 = k / 24 by omega, show (3600 * k + r) % 86400 = k % 24 * 3600 + r by omega, day_raw]
  have e : In (tog (rawL w rows oth (k / 24))) (k % 24 * 3600 + r) ↔ opB w rows oth k = true := by
    rw [tog_in (sph_raw (raw_h cx _)).2.1, in_h (raw_h cx _) r0 r1, opB_in]
  by_cases c : opB w rows oth k = true
  · rw [if_pos (e.mpr c), c]; rfl
  · rw [if_neg (fun z => c (e.mp z)), Bool.not_eq_true _ |>.mp c]; rfl
theorem ah_in (cx : Cx19 w rows oth) (k : Int) : ∀ (n : Nat), n ≤ 3600 → ahV (mkH w rows oth) (3600 * k + n) = ahV (mkH w rows oth) (3600 * k) + n * cond (opB w rows oth k) 1 0
  | 0, _ => by rw [show 3600 * k + ((0 : Nat) : Int) = 3600 * k by omega]; simp
  | n + 1, h => by
    have ih := ah_in cx k n (by omega)
    have s := ah_step cx.gd (3600 * k + n)
    rw [oS_h cx k (by omega) (by omega)] at s
    rw [show 3600 * k + ((n + 1 : Nat) : Int) = 3600 * k + n + 1 by omega]
    generalize opB w rows oth k = b at *
    cases b <;> simp only [cond_true, cond_false] at * <;> omega
end
end Rw
/-! counts of hours -/
namespace Rw
open PySem PySem.Spec PyProof.Rows L2 Evl
theorem rng_one (n : Int) : rng n (n + 1) = [n] := by
  unfold rng
  rw [show (n + 1 - n).toNat = 1 by omega]
  show [n + ((0 : Nat) : Int)] = [n]
  congr 1
  omega
theorem rng_nil {a b : Int} (h : b ≤ a) : rng a b = [] := by
  unfold rng
  rw [show (b - a).toNat = 0 by omega]
  rfl
def cntP (p : Int → Bool) (f l : Int) : Int := (((rng f l).filter p).length : Int)
theorem cnt_snoc {p : Int → Bool} {f l : Int} (h : f ≤ l) : cntP p f (l + 1) = cntP p f l + cond (p l) 1 0 := by
  unfold cntP
  rw [rng_app (a := f) (b := l) (d := l + 1) h (by omega), rng_one, List.filter_append, List.length_append, List.filter_cons, List.filter_nil]
  cases p l
  · simp
  · simp
theorem cnt_nil {p : Int → Bool} {f : Int} : cntP p f f = 0 := by unfold cntP; rw [rng_nil (Int.le_refl _)]; rfl
theorem cnt_not {p : Int → Bool} {f : Int} (n : Nat) : cntP p f (f + n) + cntP (fun x => !p x) f (f + n) = n := by
  induction n with
  | zero => rw [show f + ((0 : Nat) : Int) = f by omega, cnt_nil, cnt_nil]; rfl
  | succ n ih =>
    rw [show f + ((n + 1 : Nat) : Int) = f + n + 1 by omega, cnt_snoc (by omega), cnt_snoc (by omega)]
    cases p (f + n) <;> simp only [cond_true, cond_false, Bool.not_true, Bool.not_false] <;> omega
theorem filter_all {p : Int → Bool} {l : List Int} (h : ∀ x ∈ l, p x = true) : l.filter p = l := List.filter_eq_self.mpr h
theorem filter_none {p : Int → Bool} {l : List Int} (h : ∀ x ∈ l, p x = false) : l.filter p = [] := List.filter_eq_nil_iff.mpr fun x m => by rw [h x m]; decide
/-- a cut of a range -/
theorem rng_cut {lo hi f l : Int} {q : Int → Bool} (h1 : lo ≤ f) (h2 : f ≤ l) (h3 : l ≤ hi) (hq : ∀ x, lo ≤ x → x < hi → (q x = true ↔ f ≤ x ∧ x < l)) (p : Int → Bool) : ((rng lo hi).filter p).filter q = (rng f l).filter p := by
  have qf : ∀ x, lo ≤ x → x < hi → ¬ (f ≤ x ∧ x < l) → q x = false := fun x a b c => by
    cases e : q x with
    | false => rfl
    | true => exact absurd ((hq x a b).mp e) c
  rw [List.filter_filter, rng_app (a := lo) (b := f) (d := hi) h1 (by omega), rng_app (a := f) (b := l) (d := hi) h2 h3, List.filter_append, List.filter_append]
  have a1 : (rng lo f).filter (fun a => q a && p a) = [] := filter_none fun x m => by
    have := rng_mem.mp m
    rw [qf x (by omega) (by omega) (by omega)]; rfl
  have a3 : (rng l hi).filter (fun a => q a && p a) = [] := filter_none fun x m => by
    have := rng_mem.mp m
    rw [qf x (by omega) (by omega) (by omega)]; rfl
  have a2 : (rng f l).filter (fun a => q a && p a) = (rng f l).filter p := List.filter_congr fun x m => by
    have := rng_mem.mp m
    rw [(hq x (by omega) (by omega)).mpr this]; rfl
  rw [a1, a2, a3, List.nil_append, List.append_nil]
/-- the i-th of those that are so -/
theorem nth_is {p : Int → Bool} {f h : Int} {i : Nat} {k : Int} (e : ((rng f h).filter p)[i]? = some k) : f ≤ k ∧ k < h ∧ p k = true ∧ cntP p f k = i := by
  have m := List.mem_filter.mp (List.mem_of_getElem? e)
  have b := rng_mem.mp m.1
  refine ⟨b.1, b.2, m.2, ?_⟩
  have s : (rng f h).filter p = (rng f k).filter p ++ k :: (rng (k + 1) h).filter p := by
    rw [rng_app (a := f) (b := k) (d := h) b.1 (by omega), rng_app (a := k) (b := k + 1) (d := h) (by omega) (by omega), rng_one, List.filter_append, List.filter_append, List.filter_cons, if_pos m.2]
    rfl
  have nd : ((rng f h).filter p).Nodup := List.Nodup.sublist List.filter_sublist ((rng_lt f h).imp fun a => Int.ne_of_lt a)
  have e2 : ((rng f h).filter p)[((rng f k).filter p).length]? = some k := by rw [s, List.getElem?_append_right (Nat.le_refl _), Nat.sub_self]; rfl
  have hi := (List.getElem?_eq_some_iff.mp e).1
  have := (List.getElem?_inj hi nd).mp (e.trans e2.symm)
  unfold cntP
  rw [this]
section
variable {w : Int} {rows : List (List (Int × Int))} {oth : List (Int × List (Int × Int))}
theorem ah_cnt (cx : Cx19 w rows oth) {f l : Int} (h : f ≤ l) : ahV (mkH w rows oth) (3600 * l) - ahV (mkH w rows oth) (3600 * f) = 3600 * cntP (opB w rows oth) f l := by
  have k : ∀ n : Nat, ahV (mkH w rows oth) (3600 * (f + n)) - ahV (mkH w rows oth) (3600 * f) = 3600 * cntP (opB w rows oth) f (f + n) := fun n => by
    induction n with
    | zero => rw [show f + ((0 : Nat) : Int) = f by omega, cnt_nil]; omega
    | succ n ih =>
      have s := ah_in cx (f + n) 3600 (Nat.le_refl _)
      rw [show f + ((n + 1 : Nat) : Int) = f + n + 1 by omega, cnt_snoc (by omega), show 3600 * (f + n + 1) = 3600 * (f + n) + ((3600 : Nat) : Int) by omega, s]
      generalize opB w rows oth (f + n) = b at *
      cases b <;> simp only [cond_true, cond_false] at * <;> omega
  have := k (l - f).toNat
  rwa [show f + ((l - f).toNat : Int) = l by omega] at this
/-- the law's list of open hours -/
def opsL (w : Int) (rows : List (List (Int × Int))) (tb : List (Int × List (Int × Int))) : List Int := ((rng ((0 : Int) - (24 : Int) * (5 : Int)) ((24 : Int) * (12 : Int))).filter (fun x => opB w rows tb x)).map fun x => x
theorem ops_eq : opsL w rows oth = (rng (-120) 288).filter (opB w rows oth) := List.map_id' _
theorem mem_ops {x : Int} : x ∈ opsL w rows oth ↔ -120 ≤ x ∧ x < 288 ∧ opB w rows oth x = true := by rw [ops_eq, List.mem_filter, rng_mem]; exact ⟨fun h => ⟨h.1.1, h.1.2, h.2⟩, fun h => ⟨⟨h.1, h.2.1⟩, h.2.2⟩⟩
theorem ops_cnt {f l : Int} {q : Int → Bool} (h1 : -120 ≤ f) (h2 : f ≤ l) (h3 : l ≤ 288) (hq : ∀ x, -120 ≤ x → x < 288 → (q x = true ↔ f ≤ x ∧ x < l)) : ((((opsL w rows oth).filter q).map fun x => x).length : Int) = cntP (opB w rows oth) f l := by
  rw [List.length_map, ops_eq, rng_cut h1 h2 h3 hq]
  rfl
/-! ### what is told once it is known -/
def getO {α : Type} (z : α) : Re α → α
  | .ok y => y
  | .er _ => z
def noV (h : Hv) (t : Int) : Int := getO 0 (f_Hours_next_open (h, t, ()))
def nsV (h : Hv) (t : Int) : Int := getO 0 (f_Hours_next_shut (h, t, ()))
def addV (h : Hv) (t n : Int) : Int := getO 0 (f_Hours_add (h, t, n, ()))
theorem get_is {α : Type} {z y : α} {r : Re α} (h : r = .ok y) : r = .ok (getO z r) ∧ getO z r = y := by subst h; exact ⟨rfl, rfl⟩
theorem gO (h : Hv) (t : Int) : gV h false t = ahV h t := gV_eq h false t
theorem gS (h : Hv) (t : Int) : gV h true t = t - ahV h t := gV_eq h true t
theorem ah_one (cx : Cx19 w rows oth) {k : Int} : ahV (mkH w rows oth) (3600 * k + 1) = ahV (mkH w rows oth) (3600 * k) + cond (opB w rows oth k) 1 0 := by
  have := ah_in cx k 1 (by decide)
  rw [show ((1 : Nat) : Int) = 1 from rfl, Int.one_mul] at this
  exact this
theorem ah_last (cx : Cx19 w rows oth) {k : Int} (o : opB w rows oth k = true) : ahV (mkH w rows oth) (3600 * (k + 1) - 1) < ahV (mkH w rows oth) (3600 * (k + 1)) := by
  have a := ah_in cx k 3599 (by decide)
  have b := ah_in cx k 3600 (by decide)
  rw [o] at a b
  rw [show 3600 * (k + 1) - 1 = 3600 * k + ((3599 : Nat) : Int) by omega, show 3600 * (k + 1) = 3600 * k + ((3600 : Nat) : Int) by omega, a, b]
  simp only [cond_true]
  omega
theorem keys_le (cx : Cx19 w rows oth) : ∀ x ∈ (mkH w rows oth).2.2.map (·.1), x ≤ 1000 := fun x m => by have := cx.keys x m; omega
theorem no_full (cx : Cx19 w rows oth) {f k : Int} (h : -100 ≤ f ∧ f < 100) (h1 : f ≤ k ∧ k < 288) (o : opB w rows oth k = true) (c : cntP (opB w rows oth) f k = 0) : pre_Hours_next_open (mkH w rows oth, 3600 * f, ()) ∧ f_Hours_next_open (mkH w rows oth, 3600 * f, ()) = .ok (3600 * k) := by
  have a := ah_cnt cx h1.1
  have b := ah_one cx (k := k)
  rw [o] at b
  simp only [cond_true] at b
  obtain ⟨p, e⟩ := tb_is cx.gd (keys_le cx) (s := false) (time := 3600 * f) (much := 1) (T := 3600 * k + 1) (Int.le_refl _) ⟨by omega, by omega⟩ (by omega) (by rw [gO, gO, show 3600 * k + 1 - 1 = 3600 * k by omega]; omega) (by rw [gO, gO]; omega)
  refine ⟨p, ?_⟩
  show (f_Hours_time_by (mkH w rows oth, 3600 * f, 1, false, ())).bind (fun y => .ok (y - 1)) = _
  rw [e]
  exact congrArg Re.ok (by omega)
theorem ns_full (cx : Cx19 w rows oth) {f k : Int} (h : -100 ≤ f ∧ f < 100) (h1 : f ≤ k ∧ k < 288) (o : opB w rows oth k = false) (c : cntP (fun x => !opB w rows oth x) f k = 0) : pre_Hours_next_shut (mkH w rows oth, 3600 * f, ()) ∧ f_Hours_next_shut (mkH w rows oth, 3600 * f, ()) = .ok (3600 * k) := by
  have a := ah_cnt cx h1.1
  have b := ah_one cx (k := k)
  have n := cnt_not (p := opB w rows oth) (f := f) (k - f).toNat
  rw [show f + ((k - f).toNat : Int) = k by omega] at n
  rw [o] at b
  simp only [cond_false] at b
  obtain ⟨p, e⟩ := tb_is cx.gd (keys_le cx) (s := true) (time := 3600 * f) (much := 1) (T := 3600 * k + 1) (Int.le_refl _) ⟨by omega, by omega⟩ (by omega) (by rw [gS, gS, show 3600 * k + 1 - 1 = 3600 * k by omega]; omega) (by rw [gS, gS]; omega)
  refine ⟨p, ?_⟩
  show (f_Hours_time_by (mkH w rows oth, 3600 * f, 1, true, ())).bind (fun y => .ok (y - 1)) = _
  rw [e]
  exact congrArg Re.ok (by omega)
theorem add_0 (cx : Cx19 w rows oth) {f : Int} (h : -100 ≤ f ∧ f < 100) : pre_Hours_add (mkH w rows oth, 3600 * f, 0, ()) ∧ f_Hours_add (mkH w rows oth, 3600 * f, 0, ()) = .ok (3600 * f) :=
  ⟨⟨⟨by omega, by omega⟩, .inl fun t ht => by
    have := g_le cx.gd (s := false) (a := 3600 * f) (b := t) (by omega)
    show gV (mkH w rows oth) false (3600 * f) + 0 ≤ gV (mkH w rows oth) false t
    omega⟩, rfl⟩
theorem add_full (cx : Cx19 w rows oth) {f k m : Int} (h : -100 ≤ f ∧ f < 100) (h1 : f ≤ k ∧ k < 288) (o : opB w rows oth k = true) (hm : 1 ≤ m) (c : cntP (opB w rows oth) f k = m - 1) : pre_Hours_add (mkH w rows oth, 3600 * f, 3600 * m, ()) ∧ f_Hours_add (mkH w rows oth, 3600 * f, 3600 * m, ()) = .ok (3600 * (k + 1)) := by
  have a := ah_cnt cx (f := f) (l := k + 1) (by omega)
  rw [cnt_snoc h1.1, o, c] at a
  simp only [cond_true] at a
  have b := ah_last cx o
  obtain ⟨p, e⟩ := tb_is cx.gd (keys_le cx) (s := false) (time := 3600 * f) (much := 3600 * m) (T := 3600 * (k + 1)) (by omega) ⟨by omega, by omega⟩ (by omega) (by rw [gO, gO]; omega) (by rw [gO, gO]; omega)
  refine ⟨p, ?_⟩
  show cond (decide (3600 * m < 0)) _ (cond (decide (3600 * m = 0)) _ (f_Hours_time_by (mkH w rows oth, 3600 * f, 3600 * m, false, ()))) = _
  rw [decide_eq_false (by omega), decide_eq_false (by omega), e]
  rfl
end
end Rw
/-! what the law says of them -/
namespace Rw
open PySem PySem.Spec PyProof.Rows L2 Evl
section
variable {w : Int} {rows : List (List (Int × Int))} {oth tb : List (Int × List (Int × Int))} {hv : Hv} {ops beh shut : List Int} {f m : Int}
theorem map_i (l : List Int) : l.map (fun x => x) = l := List.map_id' l
theorem beh_is (taE : tb = oth) (opE : ops = opsL w rows tb) (behE : beh = (ops.filter fun x => decide (f ≤ x)).map fun x => x) (h : -100 ≤ f ∧ f < 100) : beh = (rng f 288).filter (opB w rows oth) := by
  subst taE
  rw [behE, map_i, opE, ops_eq]
  exact rng_cut (by omega) (by omega) (Int.le_refl _) (fun x a b => by rw [decide_eq_true_eq]; omega) _
theorem at_get {l : List Int} {i : Nat} (h : i < l.length) : l[i]? = some ((atI l (i : Int)).getD 0) := by
  rw [List.getElem?_eq_getElem h, atI_nat (v := l[i]) (List.getElem?_eq_getElem h)]
  rfl
theorem shut_is (taE : tb = oth) (opE : ops = opsL w rows tb) (shE : shut = ((rng f ((24 : Int) * (11 : Int))).filter fun x => !decide (x ∈ ops)).map fun x => x) (h : -100 ≤ f ∧ f < 100) : shut = (rng f 264).filter fun x => !opB w rows oth x := by
  subst taE
  rw [shE, map_i]
  refine List.filter_congr fun x mx => ?_
  have b := rng_mem.mp mx
  congr 1
  rw [opE]
  by_cases c : opB w rows tb x = true
  · rw [c, decide_eq_true (mem_ops.mpr ⟨by omega, by omega, c⟩)]
  · rw [Bool.not_eq_true _ |>.mp c, decide_eq_false fun z => c (mem_ops.mp z).2.2]
theorem no_all (cx : Cx19 w rows oth) (hoE : hv = mkH w rows oth) (taE : tb = oth) (opE : ops = opsL w rows tb) (behE : beh = (ops.filter fun x => decide (f ≤ x)).map fun x => x) (behN : ¬ beh = []) (h : -100 ≤ f ∧ f < 100) : pre_Hours_next_open (hv, 3600 * f, ()) ∧ f_Hours_next_open (hv, 3600 * f, ()) = .ok (3600 * ((atI beh (0 : Int)).getD 0)) := by
  subst hoE
  have e := beh_is taE opE behE h
  have g := at_get (l := beh) (i := 0) (List.length_pos_iff.mpr behN)
  rw [e] at g
  obtain ⟨a, b, c, d⟩ := nth_is g
  rw [e]
  exact no_full cx h ⟨a, b⟩ c d
theorem no_pre (cx : Cx19 w rows oth) (hoE : hv = mkH w rows oth) (taE : tb = oth) (opE : ops = opsL w rows tb) (behE : beh = (ops.filter fun x => decide (f ≤ x)).map fun x => x) (behN : ¬ beh = []) (h : -100 ≤ f ∧ f < 100) : pre_Hours_next_open (hv, 3600 * f, ()) := (no_all cx hoE taE opE behE behN h).1
theorem no_is (cx : Cx19 w rows oth) (hoE : hv = mkH w rows oth) (taE : tb = oth) (opE : ops = opsL w rows tb) (behE : beh = (ops.filter fun x => decide (f ≤ x)).map fun x => x) (behN : ¬ beh = []) (h : -100 ≤ f ∧ f < 100) : f_Hours_next_open (hv, 3600 * f, ()) = .ok (noV hv (3600 * f)) := (get_is (no_all cx hoE taE opE behE behN h).2).1
theorem add_all (cx : Cx19 w rows oth) (hoE : hv = mkH w rows oth) (taE : tb = oth) (opE : ops = opsL w rows tb) (behE : beh = (ops.filter fun x => decide (f ≤ x)).map fun x => x) (muB : 0 ≤ m ∧ m < (beh.length : Int)) (h : -100 ≤ f ∧ f < 100) : pre_Hours_add (hv, 3600 * f, 3600 * m, ()) ∧ f_Hours_add (hv, 3600 * f, 3600 * m, ()) = .ok (cond (decide (m = (0 : Int))) ((3600 : Int) * f) ((3600 : Int) * (((atI beh (m - (1 : Int))).getD 0) + (1 : Int)))) := by
  subst hoE
  by_cases z : m = 0
  · subst z
    exact add_0 cx h
  · rw [decide_eq_false z]
    have e := beh_is taE opE behE h
    obtain ⟨n, hn⟩ : ∃ n : Nat, m - 1 = n := ⟨(m - 1).toNat, by omega⟩
    have g := at_get (l := beh) (i := n) (by omega)
    rw [e] at g
    obtain ⟨a, b, c, d⟩ := nth_is g
    rw [e, hn]
    exact add_full cx h ⟨a, b⟩ c (by omega) (by omega)
theorem add_pre (cx : Cx19 w rows oth) (hoE : hv = mkH w rows oth) (taE : tb = oth) (opE : ops = opsL w rows tb) (behE : beh = (ops.filter fun x => decide (f ≤ x)).map fun x => x) (muB : 0 ≤ m ∧ m < (beh.length : Int)) (h : -100 ≤ f ∧ f < 100) : pre_Hours_add (hv, 3600 * f, 3600 * m, ()) := (add_all cx hoE taE opE behE muB h).1
theorem add_is (cx : Cx19 w rows oth) (hoE : hv = mkH w rows oth) (taE : tb = oth) (opE : ops = opsL w rows tb) (behE : beh = (ops.filter fun x => decide (f ≤ x)).map fun x => x) (muB : 0 ≤ m ∧ m < (beh.length : Int)) (h : -100 ≤ f ∧ f < 100) : f_Hours_add (hv, 3600 * f, 3600 * m, ()) = .ok (addV hv (3600 * f) (3600 * m)) := (get_is (add_all cx hoE taE opE behE muB h).2).1
theorem ne_raw {l : List Int} (h : (!decide (l = [])) = true) : ¬ l = [] := by simpa using h
theorem ns_all (cx : Cx19 w rows oth) (hoE : hv = mkH w rows oth) (taE : tb = oth) (opE : ops = opsL w rows tb) (shE : shut = ((rng f ((24 : Int) * (11 : Int))).filter fun x => !decide (x ∈ ops)).map fun x => x) (n : (!decide (shut = [])) = true) (h : -100 ≤ f ∧ f < 100) : pre_Hours_next_shut (hv, 3600 * f, ()) ∧ f_Hours_next_shut (hv, 3600 * f, ()) = .ok (3600 * ((atI shut (0 : Int)).getD 0)) := by
  subst hoE
  have e := shut_is taE opE shE h
  have g := at_get (l := shut) (i := 0) (List.length_pos_iff.mpr (ne_raw n))
  rw [e] at g
  obtain ⟨a, b, c, d⟩ := nth_is g
  rw [e]
  exact ns_full cx h ⟨a, Int.lt_trans b (by decide)⟩ (by simpa using c) d
theorem ns_pre (cx : Cx19 w rows oth) (hoE : hv = mkH w rows oth) (taE : tb = oth) (opE : ops = opsL w rows tb) (shE : shut = ((rng f ((24 : Int) * (11 : Int))).filter fun x => !decide (x ∈ ops)).map fun x => x) (n : (!decide (shut = [])) = true) (h : -100 ≤ f ∧ f < 100) : pre_Hours_next_shut (hv, 3600 * f, ()) := (ns_all cx hoE taE opE shE n h).1
theorem ns_is (cx : Cx19 w rows oth) (hoE : hv = mkH w rows oth) (taE : tb = oth) (opE : ops = opsL w rows tb) (shE : shut = ((rng f ((24 : Int) * (11 : Int))).filter fun x => !decide (x ∈ ops)).map fun x => x) (n : (!decide (shut = [])) = true) (h : -100 ≤ f ∧ f < 100) : f_Hours_next_shut (hv, 3600 * f, ()) = .ok (nsV hv (3600 * f)) := (get_is (ns_all cx hoE taE opE shE n h).2).1
/-! small things -/
theorem raw_row (cx : Cx19 w rows oth) {x : List (Int × Int)} (m : x ∈ rows) : RawOk x := sph_raw (cx.rw x m)
theorem raw_day (cx : Cx19 w rows oth) (taE : tb = oth) (d : Int) : RawOk ((tb.lookup d).getD ((atI rows (d % w)).getD [])) := by subst taE; exact sph_raw (raw_h cx d)
theorem rw_pre {x : List (Int × Int)} (h : RawOk x) : pre_day_spans (x, ()) := ⟨h.1, h.2.1, trivial⟩
theorem bt_ok {h : Hv} {a b : Int} (l : a ≤ b) : f_Hours_between (h, a, b, ()) = .ok (ahV h b - ahV h a) := by
  obtain ⟨x, y, z⟩ := h
  show cond (decide (b < a)) _ _ = _
  rw [decide_eq_false (by omega)]
  rfl
theorem bt_er {h : Hv} {a b : Int} (l : b < a) : f_Hours_between (h, a, b, ()) = .er 2 := by
  obtain ⟨x, y, z⟩ := h
  show cond (decide (b < a)) _ _ = _
  rw [decide_eq_true l]
  rfl
theorem ix_wk {n : Nat} (rl : (n : Int) = w) (h : 1 ≤ w) (i : Int) : 0 - (n : Int) ≤ i % w ∧ i % w < (n : Int) := by
  have := Int.emod_nonneg i (b := w) (by omega)
  have := Int.emod_lt_of_pos i (b := w) (by omega)
  omega
theorem gt_len (cx : Cx19 w rows oth) (taE : tb = oth) {d : Int} : ((tb.lookup d).getD ((atI rows (d % w)).getD [])).length ≤ 100000 - 1 := by
  have := (raw_day cx taE d).1
  omega
theorem lf_le {α β : Type} {l : List α} {c : α → Bool} {g : α → β} (h : l.length ≤ 1000) : ((l.filter c).map g).length ≤ 1000 := by
  rw [List.length_map]
  exact Nat.le_trans (List.length_filter_le _ _) h
theorem roll_1 {z : Dice} {m : Int} (h : 0 < m) : 1 ≤ 1 + (roll z m).1 ∧ 1 + (roll z m).1 ≤ m := by
  have := roll_in z h
  omega
theorem roll_100 {z : Dice} : -100 ≤ (roll z 200).1 - 100 ∧ (roll z 200).1 - 100 < 100 := by
  have := roll_in z (m := 200) (by decide)
  omega
theorem tog_le {x : List (Int × Int)} (h : RawOk x) : (tog x).length ≤ 100000 - 1 := by
  have := tog_len x
  have := h.1
  omega
theorem beh_len (behE : beh = (ops.filter fun x => decide (f ≤ x)).map fun x => x) (opL : ops.length ≤ 1000) : beh.length ≤ 1000 := by
  rw [behE]
  exact lf_le opL
theorem flat_pre19 (cx : Cx19 w rows oth) : pre__law_flat (rows.map (fun x => (tog x).map fun y => y.2 - y.1), ()) := by
  have h3 := cx.l3
  refine ⟨by rw [List.length_map]; omega, ?_⟩
  have k : ∀ l : List (List (Int × Int)), (∀ x ∈ l, SpH x) → ((l.map (fun x => (tog x).map fun y : Int × Int => y.2 - y.1)).map List.length).sum ≤ 3 * l.length := fun l => by
    induction l with
    | nil => intro _; exact Nat.le_refl _
    | cons x l ih =>
      intro h
      have := ih fun y m => h y (List.mem_cons_of_mem _ m)
      have := (h x List.mem_cons_self).1
      have := tog_len x
      simp only [List.map_cons, List.sum_cons, List.length_cons, List.length_map] at *
      omega
  have := k rows cx.rw
  omega
theorem flat_ok (xs : List (List Int)) : f__law_flat (xs, ()) = .ok (flatL xs) := by
  show forK _ _ xs [] = _
  rw [forK_fold (f := fun a b => a ++ b)]
  · rfl
  · intro x s kn kb
    rfl
/-! ### never open -/
theorem empty_rows (e : decide (((rows.filter fun x => !decide (x = ([] : List (Int × Int)))).map fun x => x) = ([] : List (List (Int × Int)))) = true) : ∀ x ∈ rows, x = [] := fun x m => by
  have h := of_decide_eq_true e
  rw [List.map_eq_nil_iff, List.filter_eq_nil_iff] at h
  have := h x m
  simpa using this
theorem noe_all (cx : Cx19 w rows oth) (hoE : hv = mkH w rows oth) (e : decide (((rows.filter fun x => !decide (x = ([] : List (Int × Int)))).map fun x => x) = ([] : List (List (Int × Int)))) = true) : pre_Hours_next_open (hv, 86400 * 6, ()) ∧ f_Hours_next_open (hv, 86400 * 6, ()) = .er 9 := by
  subst hoE
  have er := empty_rows e
  have rz : ∀ i, rowL (mkH w rows oth) i = [] := fun i => by
    unfold rowL
    show ((atI (rows.map fun x => tog x) i).getD []) = []
    rw [at_mapG]
    cases e2 : atI rows i with
    | none => rfl
    | some x =>
      unfold atI at e2
      obtain ⟨j, _, hj⟩ := Option.bind_eq_some_iff.mp e2
      rw [er x (List.mem_of_getElem? hj)]
      show tog [] = []
      unfold tog sortP
      rw [List.mergeSort_nil]
      rfl
  have wz : wkV (mkH w rows oth) false = 0 := by
    rw [← week_z cx.gd false]
    have k : ∀ l : List Int, (l.map (zV (mkH w rows oth) false)).sum = 0 := fun l => by
      induction l with
      | nil => rfl
      | cons i l ih =>
        rw [List.map_cons, List.sum_cons, ih]
        unfold zV
        rw [rz]
        rfl
    exact k _
  have la : laV (mkH w rows oth) ≤ 4 := by
    unfold laV
    have k := cx.keys
    generalize (mkH w rows oth).2.2.map (·.1) = l at *
    cases l with
    | nil => show (0 : Int) ≤ 4; decide
    | cons y ys =>
      obtain ⟨_, _, z⟩ := maxOf_facts ys y
      show PySem.W.maxOf y ys ≤ 4
      rcases z with z | z
      · rw [z]; exact k _ List.mem_cons_self
      · exact k _ (List.mem_cons_of_mem _ z)
  have fl := flat_is cx.gd wz (86400 * 6) (86400 * 6 + 86400) (by omega) (by omega)
  obtain ⟨p, q⟩ := tb_er (h := mkH w rows oth) (s := false) (time := 86400 * 6) (much := 1) ⟨by omega, by omega⟩ wz (by omega) (by omega)
  refine ⟨p, ?_⟩
  show (f_Hours_time_by (mkH w rows oth, 86400 * 6, 1, false, ())).bind (fun y => .ok (y - 1)) = _
  rw [q]
  rfl
theorem noe_pre (cx : Cx19 w rows oth) (hoE : hv = mkH w rows oth) (e : decide (((rows.filter fun x => !decide (x = ([] : List (Int × Int)))).map fun x => x) = ([] : List (List (Int × Int)))) = true) : pre_Hours_next_open (hv, 86400 * 6, ()) := (noe_all cx hoE e).1
theorem noe_er (cx : Cx19 w rows oth) (hoE : hv = mkH w rows oth) (e : decide (((rows.filter fun x => !decide (x = ([] : List (Int × Int)))).map fun x => x) = ([] : List (List (Int × Int)))) = true) : f_Hours_next_open (hv, 86400 * 6, ()) = .er 9 := (noe_all cx hoE e).2
end
/-! told of any -/
theorem add_gen {h : Hv} {t n y : Int} (hn : 1 ≤ n) (p : pre_Hours_time_by (h, t, n, false, ())) (e : f_Hours_time_by (h, t, n, false, ()) = .ok y) : pre_Hours_add (h, t, n, ()) ∧ f_Hours_add (h, t, n, ()) = .ok y := by
  obtain ⟨a, l, o⟩ := h
  refine ⟨p, ?_⟩
  show cond (decide (n < 0)) _ (cond (decide (n = 0)) _ (f_Hours_time_by ((a, l, o), t, n, false, ()))) = _
  rw [decide_eq_false (by omega), decide_eq_false (by omega)]
  exact e
theorem add_zero {h : Hv} (g : Gd h) {t n : Int} (ht : -1000000000 ≤ t ∧ t ≤ 1000000000) (hn : n ≤ 0) : pre_Hours_add (h, t, n, ()) := by
  obtain ⟨a, l, o⟩ := h
  refine ⟨ht, .inl fun t' ht' => ?_⟩
  have := g_le g (s := false) (a := t) (b := t') (by omega)
  show gV (a, l, o) false t + n ≤ gV (a, l, o) false t'
  omega
theorem add_eq0 {h : Hv} {t : Int} : f_Hours_add (h, t, 0, ()) = .ok t := by
  obtain ⟨a, l, o⟩ := h
  rfl
theorem add_neg {h : Hv} {t n : Int} (hn : n < 0) : f_Hours_add (h, t, n, ()) = .er 2 := by
  obtain ⟨a, l, o⟩ := h
  show cond (decide (n < 0)) _ _ = _
  rw [decide_eq_true hn]
  rfl
theorem ns_gen {h : Hv} {t : Int} (p : pre_Hours_time_by (h, t, 1, true, ()) ∧ f_Hours_time_by (h, t, 1, true, ()) = .er 9) : pre_Hours_next_shut (h, t, ()) ∧ f_Hours_next_shut (h, t, ()) = .er 9 := by
  obtain ⟨a, l, o⟩ := h
  refine ⟨p.1, ?_⟩
  show (f_Hours_time_by ((a, l, o), t, 1, true, ())).bind (fun y => .ok (y - 1)) = _
  rw [p.2]
  rfl
theorem wk_1 {h : Hv} (g : Gd h) {s : Bool} (e : h.1 = 1) : wkV h s = zV h s 0 := by
  rw [← week_z g s, e]
  show zV h s 0 + 0 = _
  omega
end Rw
namespace Rw
open PySem PySem.Spec PyProof.Rows L2 Evl
/-! ### always open -/
abbrev AW : Hv := mkH (1 : Int) ([([((0 : Int), (86400 : Int))] : List (Int × Int))] : List (List (Int × Int))) []
theorem aw_cx : Cx19 1 [[((0 : Int), (86400 : Int))]] [] where
  w1 := by decide
  w3 := by decide
  ln := rfl
  rw := fun x m => by
    obtain rfl := List.mem_singleton.mp m
    exact ⟨by decide, fun q mq => by
      obtain rfl := List.mem_singleton.mp mq
      exact ⟨0, 24, rfl, by decide, by decide, by decide⟩⟩
  ot := List.forall_mem_nil _
  nd := List.nodup_nil
  lo := by decide
theorem aw_raw (d : Int) : rawL 1 [[((0 : Int), (86400 : Int))]] [] d = [(0, 86400)] := by
  show ((atI [[((0 : Int), (86400 : Int))]] (d % 1)).getD []) = _
  rw [Int.emod_one]
  rfl
theorem aw_in (k : Int) : opB 1 [[((0 : Int), (86400 : Int))]] [] k = true := by
  rw [opB_in, aw_raw]
  exact ⟨_, List.mem_cons_self, by show 0 ≤ k % 24 * 3600; omega, by show k % 24 * 3600 < 86400; omega⟩
theorem aw_ah (t : Int) : ahV AW t = t := by
  have a : ∀ k, ahV AW (3600 * k) = 3600 * k := fun k => by
    have c : ∀ f (n : Nat), cntP (opB 1 [[((0 : Int), (86400 : Int))]] []) f (f + n) = n := fun f n => by
      induction n with
      | zero => rw [show f + ((0 : Nat) : Int) = f by omega, cnt_nil]; rfl
      | succ n ih => rw [show f + ((n + 1 : Nat) : Int) = f + n + 1 by omega, cnt_snoc (by omega), ih, aw_in]; simp only [cond_true]; omega
    have z := ah_0 aw_cx.gd
    rcases Int.le_total 0 k with h | h
    · have := ah_cnt aw_cx h
      have q := c 0 k.toNat
      rw [show (0 : Int) + (k.toNat : Int) = k by omega] at q
      rw [show (3600 : Int) * 0 = 0 from rfl, z] at this
      show ahV (mkH 1 [[((0 : Int), (86400 : Int))]] []) (3600 * k) = _
      omega
    · have := ah_cnt aw_cx h
      have q := c k (-k).toNat
      rw [show k + ((-k).toNat : Int) = 0 by omega] at q
      rw [show (3600 : Int) * 0 = 0 from rfl, z] at this
      show ahV (mkH 1 [[((0 : Int), (86400 : Int))]] []) (3600 * k) = _
      omega
  have b := ah_in aw_cx (t / 3600) (t % 3600).toNat (by omega)
  rw [aw_in] at b
  simp only [cond_true] at b
  have e : 3600 * (t / 3600) + ((t % 3600).toNat : Int) = t := by omega
  rw [e] at b
  have := a (t / 3600)
  show ahV (mkH 1 [[((0 : Int), (86400 : Int))]] []) t = t
  have a' : ahV (mkH 1 [[((0 : Int), (86400 : Int))]] []) (3600 * (t / 3600)) = 3600 * (t / 3600) := this
  omega
theorem alw_pre : pre_Hours_init ((1 : Int), ([([((0 : Int), (86400 : Int))] : List (Int × Int))] : List (List (Int × Int))), none, ()) := ⟨⟨by decide, by decide⟩, by decide, fun x m => sph_raw (aw_cx.rw x m), fun o e => nomatch e⟩
theorem alw_ok : f_Hours_init ((1 : Int), ([([((0 : Int), (86400 : Int))] : List (Int × Int))] : List (List (Int × Int))), none, ()) = .ok AW := rfl
end Rw
namespace Rw
open PySem PySem.Spec PyProof.Rows L2 Evl
theorem aw_add {x : Int} (h : 0 ≤ x ∧ x ≤ 100000) : pre_Hours_add (AW, 5, x, ()) ∧ f_Hours_add (AW, 5, x, ()) = .ok (5 + x) := by
  rcases Int.lt_or_eq_of_le h.1 with z | z
  · have l1 : ahV AW (5 + x - 1) < ahV AW 5 + x := by rw [aw_ah, aw_ah]; omega
    have l2 : ahV AW 5 + x ≤ ahV AW (5 + x) := by rw [aw_ah, aw_ah]; omega
    rw [← gO, ← gO] at l1 l2
    have t := tb_is aw_cx.gd (keys_le aw_cx) (s := false) (time := 5) (much := x) (T := 5 + x) (by omega) ⟨by omega, by omega⟩ (by omega) l1 l2
    exact add_gen (by omega) t.1 t.2
  · subst z
    exact ⟨add_zero aw_cx.gd ⟨by omega, by omega⟩ (by omega), add_eq0⟩
theorem alw_m {x : Int} (m : x ∈ ([(0 : Int), (1 : Int), ((86400 : Int) + (2 : Int))] : List Int)) : pre_Hours_add (AW, (5 : Int), x, ()) ∧ f_Hours_add (AW, (5 : Int), x, ()) = .ok (addV AW (5 : Int) x) := by
  have h : 0 ≤ x ∧ x ≤ 100000 := by simp at m; omega
  exact ⟨(aw_add h).1, (get_is (aw_add h).2).1⟩
theorem alw_v {x : Int} (h : 0 ≤ x ∧ x ≤ 100000) : addV AW 5 x = 5 + x := (get_is (aw_add h).2).2
theorem alw_o : Pt (cond (!decide ((([(0 : Int), (1 : Int), ((86400 : Int) + (2 : Int))] : List Int).map (fun (x : Int) => (addV AW (5 : Int) x))) = ([(5 : Int), (6 : Int), ((86400 : Int) + (7 : Int))] : List Int))) false true) := by
  have e : (([(0 : Int), (1 : Int), ((86400 : Int) + (2 : Int))] : List Int).map (fun (x : Int) => (addV AW (5 : Int) x))) = ([(5 : Int), (6 : Int), ((86400 : Int) + (7 : Int))] : List Int) := by
    simp only [List.map_cons, List.map_nil]
    rw [alw_v (by omega), alw_v (by omega), alw_v (by omega)]
    rfl
  rw [decide_eq_true e]
  rfl
theorem alw_add_m1 : pre_Hours_add (AW, (0 : Int), (0 : Int) - 1, ()) ∧ True := ⟨add_zero aw_cx.gd ⟨by omega, by omega⟩ (by omega), trivial⟩
end Rw
namespace Rw
open PySem PySem.Spec PyProof.Rows L2 Evl
theorem alw_ns : pre_Hours_next_shut (AW, (0 : Int), ()) ∧ f_Hours_next_shut (AW, (0 : Int), ()) = .er 9 := by
  have e : dayL AW 0 = rowL AW 0 := by
    rw [dayL_eq]
    show rowL AW (0 % 1) = rowL AW 0
    rw [Int.emod_one]
  have wz : wkV AW true = 0 := by
    have g := gday aw_cx.gd true 0
    rw [gS, gS] at g
    have a1 : ahV (mkH 1 [[((0 : Int), (86400 : Int))]] []) (86400 * (0 + 1)) = 86400 * (0 + 1) := aw_ah _
    have a0 : ahV (mkH 1 [[((0 : Int), (86400 : Int))]] []) (86400 * 0) = 86400 * 0 := aw_ah _
    rw [a1, a0, e] at g
    have g' : ((86400 : Int) * (0 + 1) - 86400 * (0 + 1)) - (86400 * 0 - 86400 * 0) = 86400 - lenS (rowL AW 0) := g
    rw [wk_1 aw_cx.gd rfl]
    show 86400 - lenS (rowL AW 0) = 0
    omega
  have l : gV AW true (0 + 86400) < gV AW true 0 + 1 := by rw [gS, gS, aw_ah, aw_ah]; omega
  have la : laV AW = 0 := rfl
  exact ns_gen (tb_er (h := AW) (s := true) (time := 0) (much := 1) ⟨by omega, by omega⟩ wz l (by rw [la]; decide))
end Rw
namespace Rw
open PySem PySem.Spec PyProof.Rows L2 Evl
theorem ini_pre2 : pre_Hours_init ((2 : Int), ([[]] : List (List (Int × Int))), none, ()) := ⟨⟨by decide, by decide⟩, by decide, fun x m => by
  obtain rfl := List.mem_singleton.mp m
  exact ⟨by decide, List.forall_mem_nil _, List.forall_mem_nil _⟩, fun o e => nomatch e⟩
theorem ini_er2 : f_Hours_init ((2 : Int), ([[]] : List (List (Int × Int))), none, ()) = .er 2 := rfl
theorem tog_one {p : Int × Int} : tog [p] = [p] := by
  unfold tog sortP
  rw [List.mergeSort_singleton]
  rfl
theorem ds_er1 : f_day_spans ([((0 : Int), (86400 : Int) + 1)], ()) = .er 2 := by
  show cond (((tog [((0 : Int), (86400 : Int) + 1)]).map fun y : Int × Int => (decide (y.1 < (0 : Int)) || decide ((86400 : Int) < y.2))).any id) _ _ = _
  rw [tog_one]
  rfl
theorem ds_er2 : f_day_spans ([((0 : Int) - 1, (5 : Int))], ()) = .er 2 := by
  show cond (((tog [((0 : Int) - 1, (5 : Int))]).map fun y : Int × Int => (decide (y.1 < (0 : Int)) || decide ((86400 : Int) < y.2))).any id) _ _ = _
  rw [tog_one]
  rfl
section
variable {K : PySem.W.Frag}
theorem upA_Hu3 : UpA (aC kI (aC (kL K (kL K (k2 K kI kI))) (aC (kO (kL K (k2 K kI (kL K (k2 K kI kI))))) a0))) := fun e h => up_aC (t := kI) (A := aC (kL K (kL K (k2 K kI kI))) (aC (kO (kL K (k2 K kI (kL K (k2 K kI kI))))) a0)) (fun e h => up_aC (t := kL K (kL K (k2 K kI kI))) (A := aC (kO (kL K (k2 K kI (kL K (k2 K kI kI))))) a0) (fun e h => up_aC (t := kO (kL K (k2 K kI (kL K (k2 K kI kI))))) (A := a0) up_a0 e h) e h) e h
theorem upA_Hu2 : UpA (aC kI (aC (kL K (kL K (k2 K kI kI))) (aC (kO (kL K (k2 K kI (kL K (k2 K kI kI))))) a0))) := upA_Hu3
theorem nn_L {α : Type} {t : Ty α} {x : List α} : ∀ H v, (kL K t).r H v x → v ≠ .non := fun H v ⟨p, _, h, _⟩ z => by rw [h] at z; cases z
theorem ini_args {x : Int} {y : List (List (Int × Int))} : ∀ (H : Hp) (vs : List V), (aC kI (aC (kL K (kL K (k2 K kI kI))) a0)) H vs (x, y, ()) → (aC kI (aC (kL K (kL K (k2 K kI kI))) (aC (kO (kL K (k2 K kI (kL K (k2 K kI kI))))) a0))) H (vs ++ [.non]) (x, y, none, ()) := fun H vs h => by
  obtain ⟨v1, r1, rfl, g1, v2, r2, rfl, g2, rfl⟩ := h
  exact ⟨v1, _, rfl, g1, v2, _, rfl, g2, .non, [], rfl, rfl, rfl⟩
end
end Rw
/-! dict(pairs), K named -/
namespace Rw
open PySem PySem.Spec PyProof.Rows L2 Evl
abbrev rDictP (K : PySem.W.Frag) : List V → Hp → VK → Prop := fun xs H Q => ∃ (a : Addr) (ps : List Addr) (kvs : List (Key × V)), xs = [.ref a] ∧ SqL K H a (ps.map V.ref) ∧ Paired (fun p kv => SqT K H p [kV kv.1, kv.2]) ps kvs ∧ ∀ p, H p = none → Q (.ref p) (upd H p (.dK (mergeK [] kvs)))
theorem call_dictPK {X : Cx} {K : PySem.W.Frag} (hc : X.calm = true) (h : X.K = K := by rfl) : CallR X (.type "dict") (rDictP K) := by
  subst h
  exact call_dictP hc
end Rw
namespace Rw
open PySem PySem.Spec PyProof.Rows L2 Evl
abbrev sLaw : Stmt := topS 28
def lawN : List Str := ["script", "dice", "week", "rows", "others", "hours", "table", "opens", "first", "last", "day", "behind", "much", "shut", "always_now", "wrong", "k", "hour", "spans", "first_now", "last_now", "pair"]
theorem scLaw : FnScope lawN ["script"] (defScope sLaw) := ⟨rfl, rfl, rfl, by decide +kernel, rfl, by decide +kernel, by decide +kernel⟩

section
variable (P : Program) (w : World) (K : PySem.W.Frag) (mg : Str → Option Value) (base : Heap) (CH : Addr) (cl : Nat → Addr)
abbrev lawX (f cc : Addr) (A : Around) (outer : List Env) (s : Shared) (H : Hp) (E : XK) : Cx := cxOf (L2.CX P w) P w K mg base lawN "law" (defScope sLaw) f (.ref cc) A outer s H E
structure LawTL : Prop where
  n_list : mg "list" = none
  n_dict : mg "dict" = none
  gi_DAY : ∃ t, mg "DAY" = some (.int 86400 t)
  roll : Cal P w K mg base 1 "_law_roll" spRollX []
  rounds : Cal P w K mg base 2 "_law_rounds" (spRounds K) []
  spans : Cal P w K mg base 2 "_law_spans" (sp__law_spans K) []
  flat : Cal P w K mg base 1 "_law_flat" (sp__law_flat K cl) []
  c_day_spans : Cal P w K mg base 3 "day_spans" (sp_day_spans K cl) []
  nH3 : Nw P w K mg base 4 "Hours" CH (sp_Hours_init K CH cl) []
  nH2 : Nw P w K mg base 4 "Hours" CH (sp_Hours_init K CH cl) [.non]
  m_of_day : Mt P w K mg base 1 CH "of_day" (sp_Hours_of_day K CH cl) []
  m_is_open : Mt P w K mg base 2 CH "is_open" (sp_Hours_is_open K CH cl) []
  m_in_day : Mt P w K mg base 4 CH "in_day" (sp_Hours_in_day K CH cl) []
  m_in_week : Mt P w K mg base 5 CH "in_week" (sp_Hours_in_week K CH cl) []
  m_ahead : Mt P w K mg base 7 CH "ahead" (sp_Hours_ahead K CH cl) []
  m_between : Mt P w K mg base 8 CH "between" (sp_Hours_between K CH cl) []
  m_next_open : Mt P w K mg base 10 CH "next_open" (sp_Hours_next_open K CH cl) []
  m_next_shut : Mt P w K mg base 10 CH "next_shut" (sp_Hours_next_shut K CH cl) []
  m_add : Mt P w K mg base 10 CH "add" (sp_Hours_add K CH cl) []
  exs : Exs K mg cl
  told : ToldF K mg
end
def m_lawB (z0 : Dice) : Bool :=
  lt ((1 : Int) + (roll z0 (3 : Int)).1) fun week_1 =>
  lt (runE (fun (x_9 : Int) (z_19 : Dice) => (true, z_19)) (fun (x_9 : Int) (z_23 : Dice) => ((f__law_spans () z_23).1, (f__law_spans () z_23).2)) (rng 0 week_1) (roll z0 (3 : Int)).2).1 fun rows_24 =>
  lt (runE (fun (x_32 : Int) (z_42 : Dice) => ((decide ((roll z_42 (3 : Int)).1 = (0 : Int))), (roll z_42 (3 : Int)).2)) (fun (x_32 : Int) (z_46 : Dice) => ((x_32, (f__law_spans () z_46).1), (f__law_spans () z_46).2)) ([((0 : Int) - (2 : Int)), (1 : Int), (4 : Int)] : List Int) (runE (fun (x_9 : Int) (z_19 : Dice) => (true, z_19)) (fun (x_9 : Int) (z_23 : Dice) => ((f__law_spans () z_23).1, (f__law_spans () z_23).2)) (rng 0 week_1) (roll z0 (3 : Int)).2).2).1 fun others_47 =>
  lt (mkH week_1 rows_24 others_47) fun hours_56 => lt others_47 fun table_57 =>
  lt (((rng ((0 : Int) - ((24 : Int) * (5 : Int))) ((24 : Int) * (12 : Int))).filter (fun (x_70 : Int) => (!decide (((((table_57.lookup (x_70 / (24 : Int))).getD ((atI rows_24 ((x_70 / (24 : Int)) % week_1)).getD [])).filter (fun (x_84 : (Int × Int)) => ((decide (x_84.1 ≤ ((x_70 % (24 : Int)) * (3600 : Int)))) && (decide (((x_70 % (24 : Int)) * (3600 : Int)) < x_84.2))))).map (fun (x_84 : (Int × Int)) => (1 : Int))) = ([] : List Int))))).map (fun (x_70 : Int) => x_70)) fun opens_96 =>
  cond (!decide ((((rng ((0 : Int) - (100 : Int)) (200 : Int)).filter (fun (x_108 : Int) => (!decide ((v_Hours_is_open (hours_56, ((3600 : Int) * x_108), ())) = (decide (x_108 ∈ opens_96)))))).map (fun (x_108 : Int) => x_108)) = ([] : List Int)))
  (false)
  (lt ((roll (runE (fun (x_32 : Int) (z_42 : Dice) => ((decide ((roll z_42 (3 : Int)).1 = (0 : Int))), (roll z_42 (3 : Int)).2)) (fun (x_32 : Int) (z_46 : Dice) => ((x_32, (f__law_spans () z_46).1), (f__law_spans () z_46).2)) ([((0 : Int) - (2 : Int)), (1 : Int), (4 : Int)] : List Int) (runE (fun (x_9 : Int) (z_19 : Dice) => (true, z_19)) (fun (x_9 : Int) (z_23 : Dice) => ((f__law_spans () z_23).1, (f__law_spans () z_23).2)) (rng 0 week_1) (roll z0 (3 : Int)).2).2).2 (200 : Int)).1 - (100 : Int)) fun first_142 => lt ((roll (roll (runE (fun (x_32 : Int) (z_42 : Dice) => ((decide ((roll z_42 (3 : Int)).1 = (0 : Int))), (roll z_42 (3 : Int)).2)) (fun (x_32 : Int) (z_46 : Dice) => ((x_32, (f__law_spans () z_46).1), (f__law_spans () z_46).2)) ([((0 : Int) - (2 : Int)), (1 : Int), (4 : Int)] : List Int) (runE (fun (x_9 : Int) (z_19 : Dice) => (true, z_19)) (fun (x_9 : Int) (z_23 : Dice) => ((f__law_spans () z_23).1, (f__law_spans () z_23).2)) (rng 0 week_1) (roll z0 (3 : Int)).2).2).2 (200 : Int)).2 (200 : Int)).1 - (100 : Int)) fun last_143 =>
  cond ((decide (first_142 ≤ last_143)) && (!decide ((ahV hours_56 ((3600 : Int) * last_143) - ahV hours_56 ((3600 : Int) * first_142)) = ((3600 : Int) * (((opens_96.filter (fun (x_160 : Int) => ((decide (first_142 ≤ x_160)) && (decide (x_160 < last_143))))).map (fun (x_160 : Int) => x_160)).length : Int)))))
  (false)
  (cond (((decide (last_143 < first_142)) && (!decide ((kindName 2) = ("time" : Str)))) || (!decide ((ahV hours_56 (((3600 : Int) * (30 : Int)) + (60 : Int))) = (((3600 : Int) * (((opens_96.filter (fun (x_226 : Int) => ((decide ((0 : Int) ≤ x_226)) && (decide (x_226 < (30 : Int)))))).map (fun (x_226 : Int) => x_226)).length : Int)) + (cond (decide ((30 : Int) ∈ opens_96)) (60 : Int) (0 : Int))))))
  (false)
  (lt ((roll (roll (roll (runE (fun (x_32 : Int) (z_42 : Dice) => ((decide ((roll z_42 (3 : Int)).1 = (0 : Int))), (roll z_42 (3 : Int)).2)) (fun (x_32 : Int) (z_46 : Dice) => ((x_32, (f__law_spans () z_46).1), (f__law_spans () z_46).2)) ([((0 : Int) - (2 : Int)), (1 : Int), (4 : Int)] : List Int) (runE (fun (x_9 : Int) (z_19 : Dice) => (true, z_19)) (fun (x_9 : Int) (z_23 : Dice) => ((f__law_spans () z_23).1, (f__law_spans () z_23).2)) (rng 0 week_1) (roll z0 (3 : Int)).2).2).2 (200 : Int)).2 (200 : Int)).2 (7 : Int)).1 - (3 : Int)) fun day_261 =>
  cond ((!decide ((v_Hours_in_day (hours_56, day_261, ())) = ((3600 : Int) * (((opens_96.filter (fun (x_274 : Int) => (decide ((x_274 / (24 : Int)) = day_261)))).map (fun (x_274 : Int) => x_274)).length : Int)))) || (!decide ((v_Hours_of_day (hours_56, day_261, ())) = (tog ((table_57.lookup day_261).getD ((atI rows_24 (day_261 % week_1)).getD []))))))
  (false)
  (cond (!decide ((v_Hours_in_week (hours_56, ())) = ((flatL (rows_24.map (fun (x_310 : (List (Int × Int))) => ((tog x_310).map (fun (x_324 : (Int × Int)) => (x_324.2 - x_324.1)))))).sum)))
  (false)
  (lt ((opens_96.filter (fun (x_356 : Int) => (decide (first_142 ≤ x_356)))).map (fun (x_356 : Int) => x_356)) fun behind_370 =>
  cond (!decide (behind_370 = ([] : List Int)))
  (cond (!decide ((noV hours_56 ((3600 : Int) * first_142)) = ((3600 : Int) * ((atI behind_370 (0 : Int)).getD 0))))
  (false)
  (lt (roll (roll (roll (roll (runE (fun (x_32 : Int) (z_42 : Dice) => ((decide ((roll z_42 (3 : Int)).1 = (0 : Int))), (roll z_42 (3 : Int)).2)) (fun (x_32 : Int) (z_46 : Dice) => ((x_32, (f__law_spans () z_46).1), (f__law_spans () z_46).2)) ([((0 : Int) - (2 : Int)), (1 : Int), (4 : Int)] : List Int) (runE (fun (x_9 : Int) (z_19 : Dice) => (true, z_19)) (fun (x_9 : Int) (z_23 : Dice) => ((f__law_spans () z_23).1, (f__law_spans () z_23).2)) (rng 0 week_1) (roll z0 (3 : Int)).2).2).2 (200 : Int)).2 (200 : Int)).2 (7 : Int)).2 (behind_370.length : Int)).1 fun much_421 =>
  cond (!decide ((addV hours_56 ((3600 : Int) * first_142) ((3600 : Int) * much_421)) = (cond (decide (much_421 = (0 : Int))) ((3600 : Int) * first_142) ((3600 : Int) * (((atI behind_370 (much_421 - (1 : Int))).getD 0) + (1 : Int))))))
  (false)
  (cond ((decide (((rows_24.filter (fun (x_457 : (List (Int × Int))) => (!decide (x_457 = ([] : List (Int × Int)))))).map (fun (x_457 : (List (Int × Int))) => x_457)) = ([] : List (List (Int × Int))))) && (!decide ((kindName 9) = ("no day" : Str))))
  (false)
  (lt (((rng first_142 ((24 : Int) * (11 : Int))).filter (fun (x_495 : Int) => (!decide (x_495 ∈ opens_96)))).map (fun (x_495 : Int) => x_495)) fun shut_509 =>
  cond ((!decide (shut_509 = ([] : List Int))) && (!decide ((nsV hours_56 ((3600 : Int) * first_142)) = ((3600 : Int) * ((atI shut_509 (0 : Int)).getD 0)))))
  (false)
  (true)))))
  (cond ((decide (((rows_24.filter (fun (x_555 : (List (Int × Int))) => (!decide (x_555 = ([] : List (Int × Int)))))).map (fun (x_555 : (List (Int × Int))) => x_555)) = ([] : List (List (Int × Int))))) && (!decide ((kindName 9) = ("no day" : Str))))
  (false)
  (lt (((rng first_142 ((24 : Int) * (11 : Int))).filter (fun (x_593 : Int) => (!decide (x_593 ∈ opens_96)))).map (fun (x_593 : Int) => x_593)) fun shut_607 =>
  cond ((!decide (shut_607 = ([] : List Int))) && (!decide ((nsV hours_56 ((3600 : Int) * first_142)) = ((3600 : Int) * ((atI shut_607 (0 : Int)).getD 0)))))
  (false)
  (true))))))))
section
variable {P : Program} {w : World} {K : PySem.W.Frag} {mg : Str → Option Value} {base : Heap} {CH : Addr} {cl : Nat → Addr}
def spLaw (K : PySem.W.Frag) (PT : Addr) : Sp := fun vs H Q _ => ∃ (a : Addr) (ns : List Int), vs = [.ref a] ∧ SqL K H a (ns.map V.int) ∧ H PT = some (.tbl #[]) ∧ ∀ H', Q (.bl true) H'
theorem ok_law {f cc PT : Addr} {oc : Value} {od an : Option Addr} {osl : Array (Option Value)} {kV doc pm ct : Value} (lk : K.lookup f = some ⟨oc, od, .func (PySem.W.fnOf "law" "law" (defArgs sLaw) (defBody sLaw) (defScope sLaw) .none kV doc pm an (.ref cc) ct), osl⟩) (hcd : PySem.W.codeIn K (.ref cc) "law" = true) (TB : LamX.TabB base mg cc PT) (L : LawTL P w K mg base CH cl) (B : BD mg) (o0 : ∀ z', Pt (m_lawB z')) :
    FnOk P w K mg base (L2.CX P w) 15 f (PySem.W.fnOf "law" "law" (defArgs sLaw) (defBody sLaw) (defScope sLaw) .none kV doc pm an (.ref cc) ct) ["script"] (spLaw K PT) := by
  refine fn_of lk hcd scLaw (fun vs H Q E h => ?_) (fun A outer s H vs Q E hr h => ?_)
  · obtain ⟨a, ns, rfl, _⟩ := h
    rfl
  · obtain ⟨sc, ns, rfl, hS, hT, q⟩ := h
    obtain ⟨gT, ocT, kVT, dcT, pmT, cdT, ctT, odT, anT, oslT, hmT, kpT, lkT, hcT, bT⟩ := L.told
    let LQ : Str := (lawX P w K mg base f cc A outer s H E).env.qual ++ "<lambda>"
    refine ⟨_, pss_cons (ps_for (passes_of rfl) rfl (pi_list (pe_k L.rounds hr (by decide) passL (pa_cons (pv 0) (pa_cons pe_int pa_nil)))) (pg_name (i := 1) scLaw.nd rfl (.inr rfl)) (pss_cons (ps_set (i := 2) scLaw.nd rfl (.inr rfl) (pe_op op_add pe_int (pe_k L.roll hr (by decide) passL (pa_cons (pv 1) (pa_cons pe_int pa_nil))))) (pss_cons (ps_set (i := 3) scLaw.nd rfl (.inr rfl) (pe_lc (own := [("k", 16)]) (g := gName 16) (tt := tYes) rfl scLaw.nd (pi_range1 rfl B.range (pa_cons (pv 2) pa_nil)) (blkOk_by (own := [("k", 16)]) (N := lawN) (sc := (defScope sLaw)) (by decide +kernel)) (fun _ _ _ _ _ => pg_name (i := 16) scLaw.nd rfl (Or.inl rfl)) (fun _ _ _ _ _ => pts_nil) (fun _ _ _ _ _ => (pe_k L.spans hr (by decide) passL (pa_cons (pv 1) pa_nil))))) (pss_cons (ps_setLc (own := [("day", 10)]) (i := 4) (g := gName 10) (tt := _) rfl scLaw.nd rfl rfl (sw_true rfl rfl rfl (by decide +kernel)) (pi_list (pe_lst (pa_cons (pe_op op_sub pe_int pe_int) (pa_cons pe_int (pa_cons pe_int pa_nil))))) (blkOk_by (own := [("day", 10)]) (N := lawN) (sc := defScope sLaw) (by decide +kernel)) (fun _ _ _ _ _ => pg_name (i := 10) scLaw.nd rfl (Or.inl rfl)) (fun _ _ _ _ _ => pts_one (pt_cmpR op_eq (pe_k L.roll hr (by decide) passL (pa_cons (pv 1) (pa_cons pe_int pa_nil))) pe_int (nomark _))) (fun _ _ _ _ _ => (pe_tup (pa_cons (pv 10) (pa_cons (pe_k L.spans hr (by decide) passL (pa_cons (pv 1) pa_nil)) pa_nil))))) (pss_cons (ps_asg (pe_tup (pa_cons (pe_nw L.nH3 hr (by decide) passL (pa_cons (pv 2) (pa_cons (pv 3) (pa_cons (pv 4) pa_nil)))) (pa_cons (pe_callTy (call_dictPK (K := K) rfl) (by rfl) L.n_dict (by decide +kernel) (pa_cons (pv 4) pa_nil)) pa_nil))) (pg_tup rfl (pgs_cons (pg_name (i := 5) scLaw.nd rfl (.inr rfl)) (pgs_cons (pg_name (i := 6) scLaw.nd rfl (.inr rfl)) pgs_nil)))) (pss_cons (ps_set (i := 7) scLaw.nd rfl (.inr rfl) (pe_lc (own := [("hour", 17)]) (g := gName 17) (tt := _) rfl scLaw.nd (pi_range2 rfl B.range (pa_cons (pe_op op_sub pe_int (pe_op op_mul pe_int pe_int)) (pa_cons (pe_op op_mul pe_int pe_int) pa_nil))) (blkOk_by (own := [("hour", 17)]) (N := lawN) (sc := (defScope sLaw)) (by decide +kernel)) (fun _ _ _ _ _ => pg_name (i := 17) scLaw.nd rfl (Or.inr rfl)) (fun _ _ _ _ _ => pts_one (pt_cmpR (op_neDK (K := K) hr.units) (pe_lc (own := [("first", 8), ("last", 9)]) (g := gTup K 2 (gCons (gName 8) (gCons (gName 9) gNil))) (tt := _) rfl scLaw.nd (pi_listK (K := K) (pe_dget2 hr.u1 (pv 6) (pe_op op_fdiv (pv 17) pe_int) (pe_ix (ix_listK (K := K)) (pv 3) (pe_op op_mod (pe_op op_fdiv (pv 17) pe_int) (pv 2)) (fun _ _ => rfl)) ⟨rfl, rfl, rfl, rfl⟩)) (blkOk_by (own := [("first", 8), ("last", 9)]) (N := lawN) (sc := _) (by kernel_rfl)) (fun _ _ _ _ _ => pg_tup rfl (pgs_cons (pg_name (i := 8) scLaw.nd rfl (Or.inl rfl)) (pgs_cons (pg_name (i := 9) scLaw.nd rfl (Or.inl rfl)) pgs_nil))) (fun _ _ _ _ _ => pts_one (pt_chain op_le op_lt (pv 8) (pe_op op_mul (pe_op op_mod (pv 17) pe_int) pe_int) (pv 9))) (fun _ _ _ _ _ => pe_int)) (pe_lst pa_nil) (nomark _))) (fun _ _ _ _ _ => (pv 17)))) (pss_cons (ps_if (pt_cmpR (op_neD hr.units) (pe_lc (own := [("hour", 17)]) (g := gName 17) (tt := _) rfl scLaw.nd (pi_range2 rfl B.range (pa_cons (pe_op op_sub pe_int pe_int) (pa_cons pe_int pa_nil))) (blkOk_by (own := [("hour", 17)]) (N := lawN) (sc := (defScope sLaw)) (by decide +kernel)) (fun _ _ _ _ _ => pg_name (i := 17) scLaw.nd rfl (Or.inl rfl)) (fun _ _ _ _ _ => pts_one (pt_cmpR op_ne (pe_mk L.m_is_open hr (by decide) passL (pv 5) (pa_cons (pe_op op_mul pe_int (pv 17)) pa_nil)) (pe_cmpR (op_inK (K := K)) (pv 17) (pv 7) (by rfl)) (nomark _))) (fun _ _ _ _ _ => (pv 17))) (pe_lst pa_nil) (nomark _)) (pss_one (ps_ret pe_bl)) (pss_nil)) (pss_cons (ps_asg (pe_tup (pa_cons (pe_op op_sub (pe_k L.roll hr (by decide) passL (pa_cons (pv 1) (pa_cons pe_int pa_nil))) pe_int) (pa_cons (pe_op op_sub (pe_k L.roll hr (by decide) passL (pa_cons (pv 1) (pa_cons pe_int pa_nil))) pe_int) pa_nil))) (pg_tup rfl (pgs_cons (pg_name (i := 8) scLaw.nd rfl (.inr rfl)) (pgs_cons (pg_name (i := 9) scLaw.nd rfl (.inr rfl)) pgs_nil)))) (pss_cons (ps_if (PW.pt (pw_and (pt_cmpR op_le (pv 8) (pv 9) (nomark _)) (pw_and1 (pt_cmpR op_ne (pe_mk L.m_between hr (by decide) passL (pv 5) (pa_cons (pe_op op_mul pe_int (pv 8)) (pa_cons (pe_op op_mul pe_int (pv 9)) pa_nil))) (pe_op op_mul pe_int (pe_callB call_len_seq (by rfl) B.len (by decide +kernel) (pa_cons (pe_lc (own := [("hour", 17)]) (g := gName 17) (tt := _) rfl scLaw.nd (pi_list (pv 7)) (blkOk_by (own := [("hour", 17)]) (N := lawN) (sc := (defScope sLaw)) (by decide +kernel)) (fun _ _ _ _ _ => pg_name (i := 17) scLaw.nd rfl (Or.inl rfl)) (fun _ _ _ _ _ => pts_one (pt_chain op_le op_lt (pv 8) (pv 17) (pv 9))) (fun _ _ _ _ _ => (pv 17))) pa_nil))) (nomark _))))) (pss_one (ps_ret pe_bl)) (pss_nil)) (pss_cons (ps_if (PW.pt (pw_or (PW.pt (pw_and (pt_cmpR op_gt (pv 8) (pv 9) (nomark _)) (pw_and1 (pt_cmpR op_ne (pe_toldC (c := cl) (k := 12) L.exs hmT kpT lkT hcT bT hr (pa_cons (pe_lamC (T := [(PT, LQ)]) (LamX.lamS_by (sc := defScope sLaw) (by decide +kernel)) TB rfl (List.mem_singleton.mpr rfl) (fun p hp _ => by rw [List.mem_singleton.mp hp]) rfl) pa_nil)) pe_str (nomark _))))) (pw_or1 (pt_cmpR op_ne (pe_mk L.m_ahead hr (by decide) passL (pv 5) (pa_cons (pe_op op_add (pe_op op_mul pe_int pe_int) pe_int) pa_nil)) (pe_op op_add (pe_op op_mul pe_int (pe_callB call_len_seq (by rfl) B.len (by decide +kernel) (pa_cons (pe_lc (own := [("hour", 17)]) (g := gName 17) (tt := _) rfl scLaw.nd (pi_list (pv 7)) (blkOk_by (own := [("hour", 17)]) (N := lawN) (sc := (defScope sLaw)) (by decide +kernel)) (fun _ _ _ _ _ => pg_name (i := 17) scLaw.nd rfl (Or.inl rfl)) (fun _ _ _ _ _ => pts_one (pt_chain op_le op_lt pe_int (pv 17) pe_int)) (fun _ _ _ _ _ => (pv 17))) pa_nil))) (pe_ifExp (pt_cmpR op_in_seq pe_int (pv 7) (by rfl)) pe_int pe_int)) (nomark _))))) (pss_one (ps_ret pe_bl)) (pss_nil)) (pss_cons (ps_set (i := 10) scLaw.nd rfl (.inr rfl) (pe_op op_sub (pe_k L.roll hr (by decide) passL (pa_cons (pv 1) (pa_cons pe_int pa_nil))) pe_int)) (pss_cons (ps_if (PW.pt (pw_or (pt_cmpR op_ne (pe_mk L.m_in_day hr (by decide) passL (pv 5) (pa_cons (pv 10) pa_nil)) (pe_op op_mul pe_int (pe_callB call_len_seq (by rfl) B.len (by decide +kernel) (pa_cons (pe_lc (own := [("hour", 17)]) (g := gName 17) (tt := _) rfl scLaw.nd (pi_list (pv 7)) (blkOk_by (own := [("hour", 17)]) (N := lawN) (sc := (defScope sLaw)) (by decide +kernel)) (fun _ _ _ _ _ => pg_name (i := 17) scLaw.nd rfl (Or.inl rfl)) (fun _ _ _ _ _ => pts_one (pt_cmpR op_eq (pe_op op_fdiv (pv 17) pe_int) (pv 10) (nomark _))) (fun _ _ _ _ _ => (pv 17))) pa_nil))) (nomark _)) (pw_or1 (pt_cmpR (op_neD hr.units) (pe_callTy call_list_of (by rfl) L.n_list (by decide +kernel) (pa_cons (pe_mk L.m_of_day hr (by decide) passL (pv 5) (pa_cons (pv 10) pa_nil)) pa_nil)) (pe_callTy call_list_of (by rfl) L.n_list (by decide +kernel) (pa_cons (pe_k L.c_day_spans hr (by decide) passL (pa_cons (pe_dget2 hr.u1 (pv 6) (pv 10) (pe_ix ix_list (pv 3) (pe_op op_mod (pv 10) (pv 2)) (fun _ _ => rfl)) ⟨rfl, rfl, rfl, rfl⟩) pa_nil)) pa_nil)) (nomark _))))) (pss_one (ps_ret pe_bl)) (pss_nil)) (pss_cons (ps_if (pt_cmpR op_ne (pe_mk0 L.m_in_week hr (by decide) passL (pv 5)) (pe_callB (cr_sum rfl) (by rfl) B.sum (by decide +kernel) (pa_cons (pe_k L.flat hr (by decide) passL (pa_cons (pe_lc (own := [("spans", 18)]) (g := gName 18) (tt := tYes) rfl scLaw.nd (pi_list (pv 3)) (blkOk_by (own := [("spans", 18)]) (N := lawN) (sc := (defScope sLaw)) (by decide +kernel)) (fun _ _ _ _ _ => pg_name (i := 18) scLaw.nd rfl (Or.inl rfl)) (fun _ _ _ _ _ => pts_nil) (fun _ _ _ _ _ => (pe_lc (own := [("first_now", 19), ("last_now", 20)]) (g := gTup K 2 (gCons (gName 19) (gCons (gName 20) gNil))) (tt := tYes) rfl scLaw.nd (pi_tupK (K := K) (pe_k L.c_day_spans hr (by decide) passL (pa_cons (pv 18) pa_nil))) (blkOk_by (own := [("first_now", 19), ("last_now", 20)]) (N := lawN) (sc := _) (by kernel_rfl)) (fun _ _ _ _ _ => pg_tup rfl (pgs_cons (pg_name (i := 19) scLaw.nd rfl (Or.inl rfl)) (pgs_cons (pg_name (i := 20) scLaw.nd rfl (Or.inl rfl)) pgs_nil))) (fun _ _ _ _ _ => pts_nil) (fun _ _ _ _ _ => (pe_op op_sub (pv 20) (pv 19)))))) pa_nil)) pa_nil)) (nomark _)) (pss_one (ps_ret pe_bl)) (pss_nil)) (pss_cons (ps_setLc (own := [("hour", 17)]) (i := 11) (g := gName 17) (tt := _) rfl scLaw.nd rfl rfl (sw_true rfl rfl rfl (by decide +kernel)) (pi_list (pv 7)) (blkOk_by (own := [("hour", 17)]) (N := lawN) (sc := defScope sLaw) (by decide +kernel)) (fun _ _ _ _ _ => pg_name (i := 17) scLaw.nd rfl (Or.inl rfl)) (fun _ _ _ _ _ => pts_one (pt_cmpR op_ge (pv 17) (pv 8) (nomark _))) (fun _ _ _ _ _ => (pv 17))) (pss_cons (ps_if (pt_cmpR (op_neD hr.units) (pv 11) (pe_lst pa_nil) (nomark _)) (pss_cons (ps_if (pt_cmpR op_ne (pe_mk L.m_next_open hr (by decide) passL (pv 5) (pa_cons (pe_op op_mul pe_int (pv 8)) pa_nil)) (pe_op op_mul pe_int (pe_ix ix_list (pv 11) pe_int (fun _ _ => rfl))) (nomark _)) (pss_one (ps_ret pe_bl)) (pss_nil)) (pss_cons (ps_set (i := 12) scLaw.nd rfl (.inl rfl) (pe_k L.roll hr (by decide) passL (pa_cons (pv 1) (pa_cons (pe_callB call_len_seq (by rfl) B.len (by decide +kernel) (pa_cons (pv 11) pa_nil)) pa_nil)))) (pss_one (ps_if (pt_cmpR op_ne (pe_mk L.m_add hr (by decide) passL (pv 5) (pa_cons (pe_op op_mul pe_int (pv 8)) (pa_cons (pe_op op_mul pe_int (pv 12)) pa_nil))) (pe_ifExp (pt_cmpR op_eq (pv 12) pe_int (nomark _)) (pe_op op_mul pe_int (pv 8)) (pe_op op_mul pe_int (pe_op op_add (pe_ix ix_list (pv 11) (pe_op op_sub (pv 12) pe_int) (fun _ _ => rfl)) pe_int))) (nomark _)) (pss_one (ps_ret pe_bl)) (pss_nil))))) (pss_nil)) (pss_cons (ps_if (PW.pt (pw_and (pt_cmpR (op_eqD hr.units) (pe_lc (own := [("spans", 18)]) (g := gName 18) (tt := _) rfl scLaw.nd (pi_list (pv 3)) (blkOk_by (own := [("spans", 18)]) (N := lawN) (sc := (defScope sLaw)) (by decide +kernel)) (fun _ _ _ _ _ => pg_name (i := 18) scLaw.nd rfl (Or.inl rfl)) (fun _ _ _ _ _ => pts_one (pt_cmpR (op_neDK (K := K) hr.units) (pv 18) (pe_lst pa_nil) (nomark _))) (fun _ _ _ _ _ => (pv 18))) (pe_lst pa_nil) (nomark _)) (pw_and1 (pt_cmpR op_ne (pe_toldC (c := cl) (k := 12) L.exs hmT kpT lkT hcT bT hr (pa_cons (pe_lamC (T := [(PT, LQ)]) (LamX.lamS_by (sc := defScope sLaw) (by decide +kernel)) TB rfl (List.mem_singleton.mpr rfl) (fun p hp _ => by rw [List.mem_singleton.mp hp]) rfl) pa_nil)) pe_str (nomark _))))) (pss_one (ps_ret pe_bl)) (pss_nil)) (pss_cons (ps_setLc (own := [("hour", 17)]) (i := 13) (g := gName 17) (tt := _) rfl scLaw.nd rfl rfl (sw_true rfl rfl rfl (by decide +kernel)) (pi_range2 rfl B.range (pa_cons (pv 8) (pa_cons (pe_op op_mul pe_int pe_int) pa_nil))) (blkOk_by (own := [("hour", 17)]) (N := lawN) (sc := defScope sLaw) (by decide +kernel)) (fun _ _ _ _ _ => pg_name (i := 17) scLaw.nd rfl (Or.inl rfl)) (fun _ _ _ _ _ => pts_one (pt_cmpR (op_notInK (K := K)) (pv 17) (pv 7) (by rfl))) (fun _ _ _ _ _ => (pv 17))) (pss_one (ps_if (PW.pt (pw_and (pt_cmpR (op_neD hr.units) (pv 13) (pe_lst pa_nil) (nomark _)) (pw_and1 (pt_cmpR op_ne (pe_mk L.m_next_shut hr (by decide) passL (pv 5) (pa_cons (pe_op op_mul pe_int (pv 8)) pa_nil)) (pe_op op_mul pe_int (pe_ix ix_list (pv 13) pe_int (fun _ _ => rfl))) (nomark _))))) (pss_one (ps_ret pe_bl)) (pss_nil)))))))))))))))))))) (pss_cons (ps_set (i := 14) scLaw.nd rfl (.inr rfl) (pe_nw L.nH2 hr (by decide) passL (pa_cons pe_int (pa_cons (pe_lst (pa_cons (pe_lst (pa_cons (pe_tup (pa_cons pe_int (pa_cons (pe_GI L.gi_DAY) pa_nil))) pa_nil)) pa_nil)) pa_nil)))) (pss_cons (ps_set (i := 15) scLaw.nd rfl (.inl rfl) (pe_lst (pa_cons (pe_tup (pa_cons (pe_lamC (T := [(PT, LQ)]) (LamX.lamS_by (sc := defScope sLaw) (by decide +kernel)) TB rfl (List.mem_singleton.mpr rfl) (fun p hp _ => by rw [List.mem_singleton.mp hp]) rfl) (pa_cons pe_str pa_nil))) (pa_cons (pe_tup (pa_cons (pe_lamC (T := [(PT, LQ)]) (LamX.lamS_by (sc := defScope sLaw) (by decide +kernel)) TB rfl (List.mem_singleton.mpr rfl) (fun p hp _ => by rw [List.mem_singleton.mp hp]) rfl) (pa_cons pe_str pa_nil))) (pa_cons (pe_tup (pa_cons (pe_lamC (T := [(PT, LQ)]) (LamX.lamS_by (sc := defScope sLaw) (by decide +kernel)) TB rfl (List.mem_singleton.mpr rfl) (fun p hp _ => by rw [List.mem_singleton.mp hp]) rfl) (pa_cons pe_str pa_nil))) (pa_cons (pe_tup (pa_cons (pe_lamC (T := [(PT, LQ)]) (LamX.lamS_by (sc := defScope sLaw) (by decide +kernel)) TB rfl (List.mem_singleton.mpr rfl) (fun p hp _ => by rw [List.mem_singleton.mp hp]) rfl) (pa_cons pe_str pa_nil))) (pa_cons (pe_tup (pa_cons (pe_lamC (T := [(PT, LQ)]) (LamX.lamS_by (sc := defScope sLaw) (by decide +kernel)) TB rfl (List.mem_singleton.mpr rfl) (fun p hp _ => by rw [List.mem_singleton.mp hp]) rfl) (pa_cons pe_str pa_nil))) pa_nil))))))) (pss_cons (ps_if (pt_cmpR (op_neD hr.units) (pe_lc (own := [("much", 12)]) (g := gName 12) (tt := tYes) rfl scLaw.nd (pi_list (pe_lst (pa_cons pe_int (pa_cons pe_int (pa_cons (pe_op op_add (pe_GI L.gi_DAY) pe_int) pa_nil))))) (blkOk_by (own := [("much", 12)]) (N := lawN) (sc := (defScope sLaw)) (by decide +kernel)) (fun _ _ _ _ _ => pg_name (i := 12) scLaw.nd rfl (Or.inl rfl)) (fun _ _ _ _ _ => pts_nil) (fun _ _ _ _ _ => (pe_mk L.m_add hr (by decide) passL (pv 14) (pa_cons pe_int (pa_cons (pv 12) pa_nil))))) (pe_lst (pa_cons pe_int (pa_cons pe_int (pa_cons (pe_op op_add (pe_GI L.gi_DAY) pe_int) pa_nil)))) (nomark _)) (pss_one (ps_ret pe_bl)) (pss_nil)) (pss_one (ps_ret (pe_cmpR (op_eqD hr.units) (pe_lcK (own := [("pair", 21)]) (g := gName 21) rfl scLaw.nd (pi_list (pv 15)) (blkOk_by (own := [("pair", 21)]) (N := lawN) (sc := defScope sLaw) (by decide +kernel)) (fun _ _ _ _ _ => pg_name (i := 21) scLaw.nd rfl (Or.inl rfl)) (fun ps2 σ2 s2 H2 C2 cl2 fp2 I2 fo2 => pts_one (pt_cmpR op_ne (pe_toldB (k := 12) I2 fo2 L.exs hmT kpT lkT hcT bT hr (pa_cons (pe_ix (ix_tupK (K := K)) (pv 21) pe_int (fun _ _ => rfl)) pa_nil)) (pe_ix (ix_tupK (K := K)) (pv 21) pe_int (fun _ _ => rfl)) (nomark _))) (fun _ _ _ _ _ _ _ _ _ => pv 21)) (pe_lst pa_nil) (nomark _))))))), ?_⟩
    refine q_dice2 (a := sc) (ns := ns) (PT := PT) (LQ := LQ) (ea_cons (ev_var rfl) (ea_cons ev_c ea_nil)) hS hT (fun σ => ∃ l1 l2 l3 l4 l5 l6 l7 l8 l9 l10 l11 l12 l13 l14 l15 l16 l17 l18 l19 l20 l21, σ = [some (.ref sc), l1, l2, l3, l4, l5, l6, l7, l8, l9, l10, l11, l12, l13, l14, l15, l16, l17, l18, l19, l20, l21]) ⟨_, _, _, _, _, _, _, _, _, _, _, _, _, _, _, _, _, _, _, _, _, rfl⟩ (fun d z0 σ' H0 hσ w0 Nx nx => ?_) (fun d z0 σ' H0 hσ w0 => ?_)
    · obtain ⟨l1, l2, l3, l4, l5, l6, l7, l8, l9, l10, l11, l12, l13, l14, l15, l16, l17, l18, l19, l20, l21, rfl⟩ := hσ
      have o0 := o0 z0
      unfold m_lawB at o0
      refine nrm (σ' := [some (.ref sc), some (.ref d), l2, l3, l4, l5, l6, l7, l8, l9, l10, l11, l12, l13, l14, l15, l16, l17, l18, l19, l20, l21]) rfl ?_
      refine g_asg (E := E0) (cl := cl) (i := 2) (t := kI) (x := ((1 : Int) + (roll z0 (3 : Int)).1)) w0 o0 (em_op em_int (em_roll (n := 0) (em_cons (em_var (t := kPtr d) (v := .ref d) (x := ()) rfl rfl) (em_cons em_int em_nil)) rfl (by omega)) o_I) (fun week_1 v_2 H_3 hx_4 o_5 g_6 w_7 r_8 => ?_)
      obtain rfl : v_2 = (.int week_1) := r_8
      refine nrm (σ' := [some (.ref sc), some (.ref d), some (.int week_1), l3, l4, l5, l6, l7, l8, l9, l10, l11, l12, l13, l14, l15, l16, l17, l18, l19, l20, l21]) rfl ?_
      have wkB : 1 ≤ week_1 ∧ week_1 ≤ 3 := by rw [hx_4]; exact roll_1 (by decide)
      refine g_asg (E := E0) (cl := cl) (i := 3) (t := (kL K (kL K (k2 K kI kI)))) (x := (runE (fun (x_9 : Int) (z_19 : Dice) => (true, z_19)) (fun (x_9 : Int) (z_23 : Dice) => ((f__law_spans () z_23).1, (f__law_spans () z_23).2)) (rng 0 week_1) (roll z0 (3 : Int)).2).1) w_7 o_5 (em_lcE (K := K) (u := (kL K (k2 K kI kI))) (ct := (fun (x_9 : Int) (z_19 : Dice) => (true, z_19))) (f := (fun (x_9 : Int) (z_23 : Dice) => ((f__law_spans () z_23).1, (f__law_spans () z_23).2))) (Sx := (fun q => [cDice d q, cTab PT LQ])) (s0 := (roll z0 (3 : Int)).2) (ei_R1 (em_cons (em_var (t := kI) (v := (.int week_1)) (x := week_1) rfl rfl) em_nil) (by refine ⟨by omega, by omega⟩)) (by rw [rng_len]; omega) (fun _ => rfl) eg_name (fun _ _ _ b => by obtain ⟨_, rfl, rfl⟩ := b; rfl) (fun _ _ _ _ _ _ _ _ _ => gt_yes) (fun D_17 acc_18 I_10 x_9 z_19 s_14 e_11 m_12 c_20 b_13 => by obtain ⟨_, rfl, rfl⟩ := b_13; rw [rng_mem] at m_12; exact (em_callRA (n := 1) (z := z_19) (a := ()) (f := f__law_spans) (pre := fun _ => True) (B := a0) (a' := ()) (em_cons (em_var (t := kPtr d) (v := .ref d) (x := ()) rfl rfl) em_nil) (fun _ vs r => by rw [show vs = [] from r]; rfl) rfl trivial rfl))) (fun rows_24 v_25 H_26 hx_27 o_28 g_29 w_30 r_31 => ?_)
      refine nrm (σ' := [some (.ref sc), some (.ref d), some (.int week_1), some v_25, l4, l5, l6, l7, l8, l9, l10, l11, l12, l13, l14, l15, l16, l17, l18, l19, l20, l21]) rfl ?_
      refine g_asg (E := E0) (cl := cl) (i := 4) (t := (kL K (k2 K kI (kL K (k2 K kI kI))))) (x := (runE (fun (x_32 : Int) (z_42 : Dice) => ((decide ((roll z_42 (3 : Int)).1 = (0 : Int))), (roll z_42 (3 : Int)).2)) (fun (x_32 : Int) (z_46 : Dice) => ((x_32, (f__law_spans () z_46).1), (f__law_spans () z_46).2)) ([((0 : Int) - (2 : Int)), (1 : Int), (4 : Int)] : List Int) (runE (fun (x_9 : Int) (z_19 : Dice) => (true, z_19)) (fun (x_9 : Int) (z_23 : Dice) => ((f__law_spans () z_23).1, (f__law_spans () z_23).2)) (rng 0 week_1) (roll z0 (3 : Int)).2).2).1) w_30 o_28 (em_lcE (K := K) (u := (k2 K kI (kL K (k2 K kI kI)))) (ct := (fun (x_32 : Int) (z_42 : Dice) => ((decide ((roll z_42 (3 : Int)).1 = (0 : Int))), (roll z_42 (3 : Int)).2))) (f := (fun (x_32 : Int) (z_46 : Dice) => ((x_32, (f__law_spans () z_46).1), (f__law_spans () z_46).2))) (Sx := (fun q => [cDice d q, cTab PT LQ])) (s0 := (runE (fun (x_9 : Int) (z_19 : Dice) => (true, z_19)) (fun (x_9 : Int) (z_23 : Dice) => ((f__law_spans () z_23).1, (f__law_spans () z_23).2)) (rng 0 week_1) (roll z0 (3 : Int)).2).2) (ei_L (em_lst K (t := kI) (em_consL (em_op em_int em_int o_I) (em_consL em_int (em_consL em_int em_nilL))) (by simp))) (by show 3 ≤ 100000 - 1; decide) (fun _ => rfl) eg_name (fun _ _ _ b => by obtain ⟨_, rfl, rfl⟩ := b; rfl) (fun D_40 acc_41 I_33 x_32 z_42 s_37 e_34 m_35 b_36 => by obtain ⟨_, rfl, rfl⟩ := b_36; exact (gt_test (em_op (em_roll (n := 1) (em_cons (em_var (t := kPtr d) (v := .ref d) (x := ()) rfl rfl) (em_cons em_int em_nil)) rfl (by omega)) em_int o_eqI))) (fun D_40 acc_41 I_33 x_32 z_42 s_37 e_34 m_35 c_43 b_36 => by obtain ⟨_, rfl, rfl⟩ := b_36; exact (em_t2 K (em_cons (em_var (t := kI) (v := (.int x_32)) (x := x_32) rfl rfl) (em_cons (em_callRA (n := 1) (z := ((fun (x_32 : Int) (z_42 : Dice) => ((decide ((roll z_42 (3 : Int)).1 = (0 : Int))), (roll z_42 (3 : Int)).2)) x_32 z_42).2) (a := ()) (f := f__law_spans) (pre := fun _ => True) (B := a0) (a' := ()) (em_cons (em_var (t := kPtr d) (v := .ref d) (x := ()) rfl rfl) em_nil) (fun _ vs r => by rw [show vs = [] from r]; rfl) rfl trivial rfl) em_nil))))) (fun others_47 v_48 H_49 hx_50 o_51 g_52 w_53 r_54 => ?_)
      have r_55 := (kL K (kL K (k2 K kI kI))).up g_52.im r_31
      refine nrm (σ' := [some (.ref sc), some (.ref d), some (.int week_1), some v_25, some v_48, l5, l6, l7, l8, l9, l10, l11, l12, l13, l14, l15, l16, l17, l18, l19, l20, l21]) rfl ?_
      have cx : Cx19 week_1 rows_24 others_47 := by rw [hx_27, hx_50]; exact cx_ok wkB
      refine g_tup2 (E := E0) (cl := cl) (i := 5) (j := 6) (t := (k_Hu K CH)) (u := (kDV (kL K (k2 K kI kI)))) (x := (mkH week_1 rows_24 others_47)) (y := others_47) w_53 o_51 (em_cons (em_mkObP (a := (week_1, rows_24, (some others_47), ())) (pre := pre_Hours_init) (f := f_Hours_init) (Rr := R_Hu K) (up := fun e h => R_Hu_up e h) (em_cons (em_var (t := kI) (v := (.int week_1)) (x := week_1) rfl rfl) (em_cons (em_var (t := (kL K (kL K (k2 K kI kI)))) (v := v_25) (x := rows_24) rfl r_55) (em_cons (em_someO nn_L (em_var (t := (kL K (k2 K kI (kL K (k2 K kI kI))))) (v := v_48) (x := others_47) rfl r_54)) em_nil))) args_id upA_Hu3 (by exact cx.ipre) (by exact cx.iok)) (em_cons (em_cb (em_cons (em_var (t := (kL K (k2 K kI (kL K (k2 K kI kI))))) (v := v_48) (x := others_47) rfl r_54) em_nil) (o_dictV (by exact cx.nd))) em_nil)) (fun hours_56 table_57 v_58 v_59 H_62 hx_66 hx_67 o_63 g_64 w_65 r_60 r_61 => ?_)
      have r_68 := (kL K (kL K (k2 K kI kI))).up g_64.im r_55
      have r_69 := (kL K (k2 K kI (kL K (k2 K kI kI)))).up g_64.im r_54
      refine nrm (σ' := [some (.ref sc), some (.ref d), some (.int week_1), some v_25, some v_48, some v_58, some v_59, l7, l8, l9, l10, l11, l12, l13, l14, l15, l16, l17, l18, l19, l20, l21]) rfl ?_
      have hoE : hours_56 = mkH week_1 rows_24 others_47 := hx_66
      have taE : table_57 = others_47 := hx_67
      have rl : (rows_24.length : Int) = week_1 := cx.ln
      refine g_asg (E := E0) (cl := cl) (i := 7) (t := (kL K kI)) (x := (((rng ((0 : Int) - ((24 : Int) * (5 : Int))) ((24 : Int) * (12 : Int))).filter (fun (x_70 : Int) => (!decide (((((table_57.lookup (x_70 / (24 : Int))).getD ((atI rows_24 ((x_70 / (24 : Int)) % week_1)).getD [])).filter (fun (x_84 : (Int × Int)) => ((decide (x_84.1 ≤ ((x_70 % (24 : Int)) * (3600 : Int)))) && (decide (((x_70 % (24 : Int)) * (3600 : Int)) < x_84.2))))).map (fun (x_84 : (Int × Int)) => (1 : Int))) = ([] : List Int))))).map (fun (x_70 : Int) => x_70))) w_65 o_63 (em_lc (K := K) (u := kI) (fun x_70 => (!decide (((((table_57.lookup (x_70 / (24 : Int))).getD ((atI rows_24 ((x_70 / (24 : Int)) % week_1)).getD [])).filter (fun (x_84 : (Int × Int)) => ((decide (x_84.1 ≤ ((x_70 % (24 : Int)) * (3600 : Int)))) && (decide (((x_70 % (24 : Int)) * (3600 : Int)) < x_84.2))))).map (fun (x_84 : (Int × Int)) => (1 : Int))) = ([] : List Int)))) (fun x_70 => x_70) (ei_R2 (em_cons (em_op em_int (em_op em_int em_int (o_IC (by first | exact .inl ⟨by omega, by omega⟩ | exact .inr ⟨by omega, by omega⟩))) o_I) (em_cons (em_op em_int em_int (o_IC (by first | exact .inl ⟨by omega, by omega⟩ | exact .inr ⟨by omega, by omega⟩))) em_nil)) (by refine ⟨by omega, by omega, by omega, by omega⟩)) (by rw [rng_len]; decide) eg_name (fun _ _ _ b => by obtain ⟨_, rfl, rfl⟩ := b; rfl) (fun M_76 S_77 I_71 x_70 s_75 e_72 m_73 b_74 => by obtain ⟨_, rfl, rfl⟩ := b_74; rw [rng_mem] at m_73; exact (gt_test (em_op (em_lc (K := K) (u := kI) (fun x_84 => ((decide (x_84.1 ≤ ((x_70 % (24 : Int)) * (3600 : Int)))) && (decide (((x_70 % (24 : Int)) * (3600 : Int)) < x_84.2)))) (fun x_84 => (1 : Int)) (ei_L (em_dget2V (em_var (t := (kDV (kL K (k2 K kI kI)))) (v := v_59) (x := table_57) rfl ((kDV (kL K (k2 K kI kI))).up e_72 r_61)) (em_op (em_var (t := kI) (v := (.int x_70)) (x := x_70) rfl rfl) em_int (o_IC (C := CDiv) (g := fun i j => i / j) (by exact ⟨by omega, by omega⟩))) (em_op (em_var (t := (kL K (kL K (k2 K kI kI)))) (v := v_25) (x := rows_24) rfl ((kL K (kL K (k2 K kI kI))).up e_72 r_68)) (em_op (em_op (em_var (t := kI) (v := (.int x_70)) (x := x_70) rfl rfl) em_int (o_IC (C := CDiv) (g := fun i j => i / j) (by exact ⟨by omega, by omega⟩))) (em_var (t := kI) (v := (.int week_1)) (x := week_1) rfl rfl) (o_IC (C := fun _ j => 0 < j) (by show (0 : Int) < _; omega))) (o_ixLI (at_inG (z := []) (by exact ix_wk rl wkB.1 _)))))) (by exact gt_len cx taE) eg_2 (fun _ _ _ b => by obtain ⟨_, _, rfl, rfl, rfl⟩ := b; rfl) (fun M_90 S_91 I_85 x_84 s_89 e_86 m_87 b_88 => by obtain ⟨_, _, rfl, rfl, rfl⟩ := b_88; exact (gt_test (em_chain (em_var (t := kI) (v := (.int x_84.1)) (x := x_84.1) rfl rfl) (em_op (em_op (em_var (t := kI) (v := (.int x_70)) (x := x_70) rfl rfl) em_int (o_IC (C := fun _ j => 0 < j) (by show (0 : Int) < _; omega))) em_int (o_IC (by first | exact .inl ⟨by omega, by omega⟩ | exact .inr ⟨by omega, by omega⟩))) (fun _ => (em_var (t := kI) (v := (.int x_84.2)) (x := x_84.2) rfl rfl)) o_IB o_IB))) (fun M_90 S_91 I_85 x_84 s_89 e_86 m_87 c_95 b_88 => by obtain ⟨_, _, rfl, rfl, rfl⟩ := b_88; exact em_int)) (em_lst K (t := kI) em_nilL (by simp)) (o_neD (dL dI) (by decide))))) (fun M_76 S_77 I_71 x_70 s_75 e_72 m_73 c_81 b_74 => by obtain ⟨_, rfl, rfl⟩ := b_74; rw [rng_mem] at m_73; exact (em_var (t := kI) (v := (.int x_70)) (x := x_70) rfl rfl))) (fun opens_96 v_97 H_98 hx_99 o_100 g_101 w_102 r_103 => ?_)
      have r_104 := (kL K (kL K (k2 K kI kI))).up g_101.im r_68
      have r_105 := (kL K (k2 K kI (kL K (k2 K kI kI)))).up g_101.im r_69
      have r_106 := (k_Hu K CH).up g_101.im r_60
      have r_107 := (kDV (kL K (k2 K kI kI))).up g_101.im r_61
      refine nrm (σ' := [some (.ref sc), some (.ref d), some (.int week_1), some v_25, some v_48, some v_58, some v_59, some v_97, l8, l9, l10, l11, l12, l13, l14, l15, l16, l17, l18, l19, l20, l21]) rfl ?_
      have opL : opens_96.length ≤ 1000 := by rw [hx_99]; exact lf_le (by rw [rng_len]; decide)
      refine g_when (E := E0) (cl := cl) (b := (!decide ((((rng ((0 : Int) - (100 : Int)) (200 : Int)).filter (fun (x_108 : Int) => (!decide ((v_Hours_is_open (hours_56, ((3600 : Int) * x_108), ())) = (decide (x_108 ∈ opens_96)))))).map (fun (x_108 : Int) => x_108)) = ([] : List Int)))) w_102 o_100 (gt_test (em_op (em_lc (K := K) (u := kI) (fun x_108 => (!decide ((v_Hours_is_open (hours_56, ((3600 : Int) * x_108), ())) = (decide (x_108 ∈ opens_96))))) (fun x_108 => x_108) (ei_R2 (em_cons (em_op em_int em_int o_I) (em_cons em_int em_nil)) (by refine ⟨by omega, by omega, by omega, by omega⟩)) (by rw [rng_len]; decide) eg_name (fun _ _ _ b => by obtain ⟨_, rfl, rfl⟩ := b; rfl) (fun M_114 S_115 I_109 x_108 s_113 e_110 m_111 b_112 => by obtain ⟨_, rfl, rfl⟩ := b_112; rw [rng_mem] at m_111; exact (gt_test (em_op (em_methP (pre := pre_Hours_is_open) (f := f_Hours_is_open) (y := (v_Hours_is_open (hours_56, ((3600 : Int) * x_108), ()))) (b := (((3600 : Int) * x_108), ())) (em_weak (em_var (t := (k_Hu K CH)) (v := v_58) (x := hours_56) rfl ((k_Hu K CH).up e_110 r_106))) (ob_Hr fun _ _ _ => rfl) (em_cons (em_op em_int (em_var (t := kI) (v := (.int x_108)) (x := x_108) rfl rfl) (o_IC (by first | exact .inl ⟨by omega, by omega⟩ | exact .inr ⟨by omega, by omega⟩))) em_nil) args_mG (by exact trivial) (by exact is_Hours_is_open _)) (em_op (em_var (t := kI) (v := (.int x_108)) (x := x_108) rfl rfl) (em_var (t := (kL K kI)) (v := v_97) (x := opens_96) rfl ((kL K kI).up e_110 r_103)) (o_inI (neg := false))) o_neB))) (fun M_114 S_115 I_109 x_108 s_113 e_110 m_111 c_119 b_112 => by obtain ⟨_, rfl, rfl⟩ := b_112; rw [rng_mem] at m_111; exact (em_var (t := kI) (v := (.int x_108)) (x := x_108) rfl rfl))) (em_lst K (t := kI) em_nilL (by simp)) (o_neD (dL dI) (by decide)))) (fun hb_123 o_124 H_122 g_125 w_126 => ?_) (fun hb_128 o_129 H_127 g_130 w_131 => ?_)
      · try simp only [decide_eq_true_eq, decide_eq_false_iff_not, Bool.and_eq_true, Bool.or_eq_true, Bool.and_eq_false_iff, Bool.or_eq_false_iff, Bool.not_eq_true', Bool.not_eq_false'] at hb_123
        have r_132 := (kL K (kL K (k2 K kI kI))).up g_125.im r_104
        have r_133 := (kL K (k2 K kI (kL K (k2 K kI kI)))).up g_125.im r_105
        have r_134 := (k_Hu K CH).up g_125.im r_106
        have r_135 := (kDV (kL K (k2 K kI kI))).up g_125.im r_107
        have r_136 := (kL K kI).up g_125.im r_103
        exact absurd o_124 Bool.false_ne_true
      · try simp only [decide_eq_true_eq, decide_eq_false_iff_not, Bool.and_eq_true, Bool.or_eq_true, Bool.and_eq_false_iff, Bool.or_eq_false_iff, Bool.not_eq_true', Bool.not_eq_false'] at hb_128
        have r_137 := (kL K (kL K (k2 K kI kI))).up g_130.im r_104
        have r_138 := (kL K (k2 K kI (kL K (k2 K kI kI)))).up g_130.im r_105
        have r_139 := (k_Hu K CH).up g_130.im r_106
        have r_140 := (kDV (kL K (k2 K kI kI))).up g_130.im r_107
        have r_141 := (kL K kI).up g_130.im r_103
        refine g_tup2 (E := E0) (cl := cl) (i := 8) (j := 9) (t := kI) (u := kI) (x := ((roll (runE (fun (x_32 : Int) (z_42 : Dice) => ((decide ((roll z_42 (3 : Int)).1 = (0 : Int))), (roll z_42 (3 : Int)).2)) (fun (x_32 : Int) (z_46 : Dice) => ((x_32, (f__law_spans () z_46).1), (f__law_spans () z_46).2)) ([((0 : Int) - (2 : Int)), (1 : Int), (4 : Int)] : List Int) (runE (fun (x_9 : Int) (z_19 : Dice) => (true, z_19)) (fun (x_9 : Int) (z_23 : Dice) => ((f__law_spans () z_23).1, (f__law_spans () z_23).2)) (rng 0 week_1) (roll z0 (3 : Int)).2).2).2 (200 : Int)).1 - (100 : Int))) (y := ((roll (roll (runE (fun (x_32 : Int) (z_42 : Dice) => ((decide ((roll z_42 (3 : Int)).1 = (0 : Int))), (roll z_42 (3 : Int)).2)) (fun (x_32 : Int) (z_46 : Dice) => ((x_32, (f__law_spans () z_46).1), (f__law_spans () z_46).2)) ([((0 : Int) - (2 : Int)), (1 : Int), (4 : Int)] : List Int) (runE (fun (x_9 : Int) (z_19 : Dice) => (true, z_19)) (fun (x_9 : Int) (z_23 : Dice) => ((f__law_spans () z_23).1, (f__law_spans () z_23).2)) (rng 0 week_1) (roll z0 (3 : Int)).2).2).2 (200 : Int)).2 (200 : Int)).1 - (100 : Int))) w_131 o_129 (em_cons (em_op (em_roll (n := 0) (em_cons (em_var (t := kPtr d) (v := .ref d) (x := ()) rfl rfl) (em_cons em_int em_nil)) rfl (by omega)) em_int o_I) (em_cons (em_op (em_roll (n := 0) (em_cons (em_var (t := kPtr d) (v := .ref d) (x := ()) rfl rfl) (em_cons em_int em_nil)) rfl (by omega)) em_int o_I) em_nil)) (fun first_142 last_143 v_144 v_145 H_148 hx_152 hx_153 o_149 g_150 w_151 r_146 r_147 => ?_)
        have r_154 := (kL K (kL K (k2 K kI kI))).up g_150.im r_137
        have r_155 := (kL K (k2 K kI (kL K (k2 K kI kI)))).up g_150.im r_138
        have r_156 := (k_Hu K CH).up g_150.im r_139
        have r_157 := (kDV (kL K (k2 K kI kI))).up g_150.im r_140
        have r_158 := (kL K kI).up g_150.im r_141
        obtain rfl : v_144 = (.int first_142) := r_146
        obtain rfl : v_145 = (.int last_143) := r_147
        refine nrm (σ' := [some (.ref sc), some (.ref d), some (.int week_1), some v_25, some v_48, some v_58, some v_59, some v_97, some (.int first_142), some (.int last_143), l10, l11, l12, l13, l14, l15, l16, l17, l18, l19, l20, l21]) rfl ?_
        have flB : (-100 ≤ first_142 ∧ first_142 < 100) ∧ -100 ≤ last_143 ∧ last_143 < 100 := ⟨by rw [hx_152]; exact roll_100, by rw [hx_153]; exact roll_100⟩
        refine g_when (E := E0) (cl := cl) (b := ((decide (first_142 ≤ last_143)) && (!decide ((ahV hours_56 ((3600 : Int) * last_143) - ahV hours_56 ((3600 : Int) * first_142)) = ((3600 : Int) * (((opens_96.filter (fun (x_160 : Int) => ((decide (first_142 ≤ x_160)) && (decide (x_160 < last_143))))).map (fun (x_160 : Int) => x_160)).length : Int)))))) w_151 o_149 (gt_and (gt_test (em_op (em_var (t := kI) (v := (.int first_142)) (x := first_142) rfl rfl) (em_var (t := kI) (v := (.int last_143)) (x := last_143) rfl rfl) o_IB)) (fun h_159 => (gt_test (em_op (em_methP (pre := pre_Hours_between) (f := f_Hours_between) (y := (ahV hours_56 ((3600 : Int) * last_143) - ahV hours_56 ((3600 : Int) * first_142))) (b := (((3600 : Int) * first_142), ((3600 : Int) * last_143), ())) (em_var (t := (k_Hu K CH)) (v := v_58) (x := hours_56) rfl r_156) (ob_Hu fun _ _ _ => rfl) (em_cons (em_op em_int (em_var (t := kI) (v := (.int first_142)) (x := first_142) rfl rfl) (o_IC (by first | exact .inl ⟨by omega, by omega⟩ | exact .inr ⟨by omega, by omega⟩))) (em_cons (em_op em_int (em_var (t := kI) (v := (.int last_143)) (x := last_143) rfl rfl) (o_IC (by first | exact .inl ⟨by omega, by omega⟩ | exact .inr ⟨by omega, by omega⟩))) em_nil)) args_mG (by exact trivial) (by exact bt_ok (by have hz := of_decide_eq_true h_159; omega))) (em_op em_int (em_cb (em_cons (em_lc (K := K) (u := kI) (fun x_160 => ((decide (first_142 ≤ x_160)) && (decide (x_160 < last_143)))) (fun x_160 => x_160) (ei_L (em_var (t := (kL K kI)) (v := v_97) (x := opens_96) rfl r_158)) (by omega) eg_name (fun _ _ _ b => by obtain ⟨_, rfl, rfl⟩ := b; rfl) (fun M_166 S_167 I_161 x_160 s_165 e_162 m_163 b_164 => by obtain ⟨_, rfl, rfl⟩ := b_164; exact (gt_test (em_chain (em_var (t := kI) (v := (.int first_142)) (x := first_142) rfl rfl) (em_var (t := kI) (v := (.int x_160)) (x := x_160) rfl rfl) (fun _ => (em_var (t := kI) (v := (.int last_143)) (x := last_143) rfl rfl)) o_IB o_IB))) (fun M_166 S_167 I_161 x_160 s_165 e_162 m_163 c_171 b_164 => by obtain ⟨_, rfl, rfl⟩ := b_164; exact (em_var (t := kI) (v := (.int x_160)) (x := x_160) rfl rfl))) em_nil) o_lenL) (o_IC (by first | exact .inl ⟨by omega, by omega⟩ | exact .inr ⟨by omega, by omega⟩))) o_neI)))) (fun hb_176 o_177 H_175 g_178 w_179 => ?_) (fun hb_181 o_182 H_180 g_183 w_184 => ?_)
        · try simp only [decide_eq_true_eq, decide_eq_false_iff_not, Bool.and_eq_true, Bool.or_eq_true, Bool.and_eq_false_iff, Bool.or_eq_false_iff, Bool.not_eq_true', Bool.not_eq_false'] at hb_176
          have r_185 := (kL K (kL K (k2 K kI kI))).up g_178.im r_154
          have r_186 := (kL K (k2 K kI (kL K (k2 K kI kI)))).up g_178.im r_155
          have r_187 := (k_Hu K CH).up g_178.im r_156
          have r_188 := (kDV (kL K (k2 K kI kI))).up g_178.im r_157
          have r_189 := (kL K kI).up g_178.im r_158
          exact absurd o_177 Bool.false_ne_true
        · try simp only [decide_eq_true_eq, decide_eq_false_iff_not, Bool.and_eq_true, Bool.or_eq_true, Bool.and_eq_false_iff, Bool.or_eq_false_iff, Bool.not_eq_true', Bool.not_eq_false'] at hb_181
          have r_190 := (kL K (kL K (k2 K kI kI))).up g_183.im r_154
          have r_191 := (kL K (k2 K kI (kL K (k2 K kI kI)))).up g_183.im r_155
          have r_192 := (k_Hu K CH).up g_183.im r_156
          have r_193 := (kDV (kL K (k2 K kI kI))).up g_183.im r_157
          have r_194 := (kL K kI).up g_183.im r_158
          refine g_when (E := E0) (cl := cl) (b := (((decide (last_143 < first_142)) && (!decide ((kindName 2) = ("time" : Str)))) || (!decide ((ahV hours_56 (((3600 : Int) * (30 : Int)) + (60 : Int))) = (((3600 : Int) * (((opens_96.filter (fun (x_226 : Int) => ((decide ((0 : Int) ≤ x_226)) && (decide (x_226 < (30 : Int)))))).map (fun (x_226 : Int) => x_226)).length : Int)) + (cond (decide ((30 : Int) ∈ opens_96)) (60 : Int) (0 : Int))))))) w_184 o_182 (gt_or (gt_and (gt_test (em_op (em_var (t := kI) (v := (.int first_142)) (x := first_142) rfl rfl) (em_var (t := kI) (v := (.int last_143)) (x := last_143) rfl rfl) o_IB)) (fun h_195 => (gt_test (em_op (em_reS0 (i := 2) (by exact bt_er (by have hz := of_decide_eq_true h_195; omega)) (em_toldR (ag := fun σ2 => σ2 = _) (em_cons (em_lamC (n := 1) (t := kLam (lawX P w K mg base f cc A outer s H E) cl 12 (fun σ2 => σ2 = _) kI) (x := (f_Hours_between (hours_56, ((3600 : Int) * first_142), ((3600 : Int) * last_143), ()))) rfl (nc_cons (nc_cons nc_nil nc_tab) nc_dice) (lam_r (LamX.lamS_by (sc := defScope sLaw) (by decide +kernel)) (fun _ _ _ => rfl) (fun f2 cc2 A2 outer2 s2 H2 E2 hr2 => (pe_mk L.m_between hr2 (by decide) (passE (E := E2)) (pv 5) (pa_cons (pe_op op_mul pe_int (pv 8)) (pa_cons (pe_op op_mul pe_int (pv 9)) pa_nil)))) (fun i h => by rw [show (f_Hours_between (hours_56, ((3600 : Int) * first_142), ((3600 : Int) * last_143), ())) = .er 2 from by exact bt_er (by have hz := of_decide_eq_true h_195; omega)] at h; cases h; decide) (fun E2 M2 S2 σ2 I2 e ag => by subst ag; exact (em_meth (b := (((3600 : Int) * first_142), ((3600 : Int) * last_143), ())) (em_var (t := (k_Hu K CH)) (v := v_58) (x := hours_56) rfl ((k_Hu K CH).up e r_192)) (ob_Hu fun _ _ _ => rfl) (em_cons (em_op em_int (em_var (t := kI) (v := (.int first_142)) (x := first_142) rfl rfl) (o_IC (by first | exact .inl ⟨by omega, by omega⟩ | exact .inr ⟨by omega, by omega⟩))) (em_cons (em_op em_int (em_var (t := kI) (v := (.int last_143)) (x := last_143) rfl rfl) (o_IC (by first | exact .inl ⟨by omega, by omega⟩ | exact .inr ⟨by omega, by omega⟩))) em_nil)) args_mG (by exact trivial))))) em_nil) rfl)) em_str o_neS)))) (fun h_197 => (gt_test (em_op (em_methP (pre := pre_Hours_ahead) (f := f_Hours_ahead) (y := (ahV hours_56 (((3600 : Int) * (30 : Int)) + (60 : Int)))) (b := ((((3600 : Int) * (30 : Int)) + (60 : Int)), ())) (em_var (t := (k_Hu K CH)) (v := v_58) (x := hours_56) rfl r_192) (ob_Hu fun _ _ _ => rfl) (em_cons (em_op (em_op em_int em_int (o_IC (by first | exact .inl ⟨by omega, by omega⟩ | exact .inr ⟨by omega, by omega⟩))) em_int o_I) em_nil) args_mG (by exact trivial) (by exact is_Hours_ahead _)) (em_op (em_op em_int (em_cb (em_cons (em_lc (K := K) (u := kI) (fun x_226 => ((decide ((0 : Int) ≤ x_226)) && (decide (x_226 < (30 : Int))))) (fun x_226 => x_226) (ei_L (em_var (t := (kL K kI)) (v := v_97) (x := opens_96) rfl r_194)) (by omega) eg_name (fun _ _ _ b => by obtain ⟨_, rfl, rfl⟩ := b; rfl) (fun M_232 S_233 I_227 x_226 s_231 e_228 m_229 b_230 => by obtain ⟨_, rfl, rfl⟩ := b_230; exact (gt_test (em_chain em_int (em_var (t := kI) (v := (.int x_226)) (x := x_226) rfl rfl) (fun _ => em_int) o_IB o_IB))) (fun M_232 S_233 I_227 x_226 s_231 e_228 m_229 c_237 b_230 => by obtain ⟨_, rfl, rfl⟩ := b_230; exact (em_var (t := kI) (v := (.int x_226)) (x := x_226) rfl rfl))) em_nil) o_lenL) (o_IC (by first | exact .inl ⟨by omega, by omega⟩ | exact .inr ⟨by omega, by omega⟩))) (em_if (gt_test (em_op em_int (em_var (t := (kL K kI)) (v := v_97) (x := opens_96) rfl r_194) (o_inI (neg := false)))) (fun _ => em_int) (fun _ => em_int)) o_I) o_neI)))) (fun hb_242 o_243 H_241 g_244 w_245 => ?_) (fun hb_247 o_248 H_246 g_249 w_250 => ?_)
          · try simp only [decide_eq_true_eq, decide_eq_false_iff_not, Bool.and_eq_true, Bool.or_eq_true, Bool.and_eq_false_iff, Bool.or_eq_false_iff, Bool.not_eq_true', Bool.not_eq_false'] at hb_242
            have r_251 := (kL K (kL K (k2 K kI kI))).up g_244.im r_190
            have r_252 := (kL K (k2 K kI (kL K (k2 K kI kI)))).up g_244.im r_191
            have r_253 := (k_Hu K CH).up g_244.im r_192
            have r_254 := (kDV (kL K (k2 K kI kI))).up g_244.im r_193
            have r_255 := (kL K kI).up g_244.im r_194
            exact absurd o_243 Bool.false_ne_true
          · try simp only [decide_eq_true_eq, decide_eq_false_iff_not, Bool.and_eq_true, Bool.or_eq_true, Bool.and_eq_false_iff, Bool.or_eq_false_iff, Bool.not_eq_true', Bool.not_eq_false'] at hb_247
            have r_256 := (kL K (kL K (k2 K kI kI))).up g_249.im r_190
            have r_257 := (kL K (k2 K kI (kL K (k2 K kI kI)))).up g_249.im r_191
            have r_258 := (k_Hu K CH).up g_249.im r_192
            have r_259 := (kDV (kL K (k2 K kI kI))).up g_249.im r_193
            have r_260 := (kL K kI).up g_249.im r_194
            refine g_asg (E := E0) (cl := cl) (i := 10) (t := kI) (x := ((roll (roll (roll (runE (fun (x_32 : Int) (z_42 : Dice) => ((decide ((roll z_42 (3 : Int)).1 = (0 : Int))), (roll z_42 (3 : Int)).2)) (fun (x_32 : Int) (z_46 : Dice) => ((x_32, (f__law_spans () z_46).1), (f__law_spans () z_46).2)) ([((0 : Int) - (2 : Int)), (1 : Int), (4 : Int)] : List Int) (runE (fun (x_9 : Int) (z_19 : Dice) => (true, z_19)) (fun (x_9 : Int) (z_23 : Dice) => ((f__law_spans () z_23).1, (f__law_spans () z_23).2)) (rng 0 week_1) (roll z0 (3 : Int)).2).2).2 (200 : Int)).2 (200 : Int)).2 (7 : Int)).1 - (3 : Int))) w_250 o_248 (em_op (em_roll (n := 0) (em_cons (em_var (t := kPtr d) (v := .ref d) (x := ()) rfl rfl) (em_cons em_int em_nil)) rfl (by omega)) em_int o_I) (fun day_261 v_262 H_263 hx_264 o_265 g_266 w_267 r_268 => ?_)
            have r_269 := (kL K (kL K (k2 K kI kI))).up g_266.im r_256
            have r_270 := (kL K (k2 K kI (kL K (k2 K kI kI)))).up g_266.im r_257
            have r_271 := (k_Hu K CH).up g_266.im r_258
            have r_272 := (kDV (kL K (k2 K kI kI))).up g_266.im r_259
            have r_273 := (kL K kI).up g_266.im r_260
            obtain rfl : v_262 = (.int day_261) := r_268
            refine nrm (σ' := [some (.ref sc), some (.ref d), some (.int week_1), some v_25, some v_48, some v_58, some v_59, some v_97, some (.int first_142), some (.int last_143), some (.int day_261), l11, l12, l13, l14, l15, l16, l17, l18, l19, l20, l21]) rfl ?_
            refine g_when (E := E0) (cl := cl) (b := ((!decide ((v_Hours_in_day (hours_56, day_261, ())) = ((3600 : Int) * (((opens_96.filter (fun (x_274 : Int) => (decide ((x_274 / (24 : Int)) = day_261)))).map (fun (x_274 : Int) => x_274)).length : Int)))) || (!decide ((v_Hours_of_day (hours_56, day_261, ())) = (tog ((table_57.lookup day_261).getD ((atI rows_24 (day_261 % week_1)).getD []))))))) w_267 o_265 (gt_or (gt_test (em_op (em_methP (pre := pre_Hours_in_day) (f := f_Hours_in_day) (y := (v_Hours_in_day (hours_56, day_261, ()))) (b := (day_261, ())) (em_weak (em_var (t := (k_Hu K CH)) (v := v_58) (x := hours_56) rfl r_271)) (ob_Hr fun _ _ _ => rfl) (em_cons (em_var (t := kI) (v := (.int day_261)) (x := day_261) rfl rfl) em_nil) args_mG (by exact trivial) (by exact is_Hours_in_day _)) (em_op em_int (em_cb (em_cons (em_lc (K := K) (u := kI) (fun x_274 => (decide ((x_274 / (24 : Int)) = day_261))) (fun x_274 => x_274) (ei_L (em_var (t := (kL K kI)) (v := v_97) (x := opens_96) rfl r_273)) (by omega) eg_name (fun _ _ _ b => by obtain ⟨_, rfl, rfl⟩ := b; rfl) (fun M_280 S_281 I_275 x_274 s_279 e_276 m_277 b_278 => by obtain ⟨_, rfl, rfl⟩ := b_278; exact (gt_test (em_op (em_op (em_var (t := kI) (v := (.int x_274)) (x := x_274) rfl rfl) em_int (o_IC (C := CDiv) (g := fun i j => i / j) (by exact ⟨by omega, by omega⟩))) (em_var (t := kI) (v := (.int day_261)) (x := day_261) rfl rfl) o_eqI))) (fun M_280 S_281 I_275 x_274 s_279 e_276 m_277 c_285 b_278 => by obtain ⟨_, rfl, rfl⟩ := b_278; exact (em_var (t := kI) (v := (.int x_274)) (x := x_274) rfl rfl))) em_nil) o_lenL) (o_IC (by first | exact .inl ⟨by omega, by omega⟩ | exact .inr ⟨by omega, by omega⟩))) o_neI)) (fun h_288 => (gt_test (em_op (em_cb (em_cons (em_methP (pre := pre_Hours_of_day) (f := f_Hours_of_day) (y := (v_Hours_of_day (hours_56, day_261, ()))) (b := (day_261, ())) (em_weak (em_var (t := (k_Hu K CH)) (v := v_58) (x := hours_56) rfl r_271)) (ob_Hr fun _ _ _ => rfl) (em_cons (em_var (t := kI) (v := (.int day_261)) (x := day_261) rfl rfl) em_nil) args_mG (by exact trivial) (by exact is_Hours_of_day _)) em_nil) o_listT) (em_cb (em_cons (em_callP (y := (tog ((table_57.lookup day_261).getD ((atI rows_24 (day_261 % week_1)).getD [])))) (pre := pre_day_spans) (f := f_day_spans) (a := (((table_57.lookup day_261).getD ((atI rows_24 (day_261 % week_1)).getD [])), ())) (em_cons (em_dget2V (em_var (t := (kDV (kL K (k2 K kI kI)))) (v := v_59) (x := table_57) rfl r_272) (em_var (t := kI) (v := (.int day_261)) (x := day_261) rfl rfl) (em_op (em_var (t := (kL K (kL K (k2 K kI kI)))) (v := v_25) (x := rows_24) rfl r_269) (em_op (em_var (t := kI) (v := (.int day_261)) (x := day_261) rfl rfl) (em_var (t := kI) (v := (.int week_1)) (x := week_1) rfl rfl) (o_IC (C := fun _ j => 0 < j) (by show (0 : Int) < _; omega))) (o_ixLI (at_inG (z := []) (by exact ix_wk rl wkB.1 _))))) em_nil) args_id (by exact rw_pre (raw_day cx taE _)) (ds_ok (raw_day cx taE _))) em_nil) o_listT) (o_neD (dL (d2 dI dI)) (by decide)))))) (fun hb_291 o_292 H_290 g_293 w_294 => ?_) (fun hb_296 o_297 H_295 g_298 w_299 => ?_)
            · try simp only [decide_eq_true_eq, decide_eq_false_iff_not, Bool.and_eq_true, Bool.or_eq_true, Bool.and_eq_false_iff, Bool.or_eq_false_iff, Bool.not_eq_true', Bool.not_eq_false'] at hb_291
              have r_300 := (kL K (kL K (k2 K kI kI))).up g_293.im r_269
              have r_301 := (kL K (k2 K kI (kL K (k2 K kI kI)))).up g_293.im r_270
              have r_302 := (k_Hu K CH).up g_293.im r_271
              have r_303 := (kDV (kL K (k2 K kI kI))).up g_293.im r_272
              have r_304 := (kL K kI).up g_293.im r_273
              exact absurd o_292 Bool.false_ne_true
            · try simp only [decide_eq_true_eq, decide_eq_false_iff_not, Bool.and_eq_true, Bool.or_eq_true, Bool.and_eq_false_iff, Bool.or_eq_false_iff, Bool.not_eq_true', Bool.not_eq_false'] at hb_296
              have r_305 := (kL K (kL K (k2 K kI kI))).up g_298.im r_269
              have r_306 := (kL K (k2 K kI (kL K (k2 K kI kI)))).up g_298.im r_270
              have r_307 := (k_Hu K CH).up g_298.im r_271
              have r_308 := (kDV (kL K (k2 K kI kI))).up g_298.im r_272
              have r_309 := (kL K kI).up g_298.im r_273
              refine g_when (E := E0) (cl := cl) (b := (!decide ((v_Hours_in_week (hours_56, ())) = ((flatL (rows_24.map (fun (x_310 : (List (Int × Int))) => ((tog x_310).map (fun (x_324 : (Int × Int)) => (x_324.2 - x_324.1)))))).sum)))) w_299 o_297 (gt_test (em_op (em_methP (pre := pre_Hours_in_week) (f := f_Hours_in_week) (y := (v_Hours_in_week (hours_56, ()))) (b := (())) (em_weak (em_var (t := (k_Hu K CH)) (v := v_58) (x := hours_56) rfl r_307)) (ob_Hr fun _ _ _ => rfl) em_nil args_mG (by exact trivial) (by exact is_Hours_in_week _)) (em_cb (em_cons (em_XL (em_callP (y := flatL (rows_24.map (fun (x_310 : (List (Int × Int))) => ((tog x_310).map (fun (x_324 : (Int × Int)) => (x_324.2 - x_324.1)))))) (pre := pre__law_flat) (f := f__law_flat) (a := ((rows_24.map (fun (x_310 : (List (Int × Int))) => ((tog x_310).map (fun (x_324 : (Int × Int)) => (x_324.2 - x_324.1))))), ())) (em_cons (em_eq (em_lcX (u := (kX kI)) (fun _ => true) (fun x_310 => ((tog x_310).map (fun (x_324 : (Int × Int)) => (x_324.2 - x_324.1)))) (ei_L (em_var (t := (kL K (kL K (k2 K kI kI)))) (v := v_25) (x := rows_24) rfl r_305)) (by have := cx.l3; omega) eg_name (fun _ _ _ b => by obtain ⟨v_322, r_323, rfl⟩ := b; rfl) (fun _ _ _ _ _ _ _ _ => gt_yes) (fun M_316 S_317 I_311 x_310 s_315 e_312 m_313 c_321 b_314 => by obtain ⟨v_322, r_323, rfl⟩ := b_314; skip; exact (em_eq (em_lcX (u := kI) (fun _ => true) (fun x_324 => (x_324.2 - x_324.1)) (ei_T (em_callP (y := (tog x_310)) (pre := pre_day_spans) (f := f_day_spans) (a := (x_310, ())) (em_cons (em_var (t := (kL K (k2 K kI kI))) (v := v_322) (x := x_310) rfl r_323) em_nil) args_id (by exact rw_pre (raw_row cx (by assumption))) (ds_ok (raw_row cx (by assumption))))) (by exact tog_le (raw_row cx (by assumption))) eg_2 (fun _ _ _ b => by obtain ⟨_, _, rfl, rfl, rfl⟩ := b; rfl) (fun _ _ _ _ _ _ _ _ => gt_yes) (fun M_330 S_331 I_325 x_324 s_329 e_326 m_327 c_335 b_328 => by obtain ⟨_, _, rfl, rfl, rfl⟩ := b_328; exact (em_op (em_var (t := kI) (v := (.int x_324.2)) (x := x_324.2) rfl rfl) (em_var (t := kI) (v := (.int x_324.1)) (x := x_324.1) rfl rfl) o_I))) (by rw [filter_yes])))) (by rw [filter_yes])) em_nil) args_id (by exact flat_pre19 cx) (flat_ok _))) em_nil) o_sumL) o_neI)) (fun hb_337 o_338 H_336 g_339 w_340 => ?_) (fun hb_342 o_343 H_341 g_344 w_345 => ?_)
              · try simp only [decide_eq_true_eq, decide_eq_false_iff_not, Bool.and_eq_true, Bool.or_eq_true, Bool.and_eq_false_iff, Bool.or_eq_false_iff, Bool.not_eq_true', Bool.not_eq_false'] at hb_337
                have r_346 := (kL K (kL K (k2 K kI kI))).up g_339.im r_305
                have r_347 := (kL K (k2 K kI (kL K (k2 K kI kI)))).up g_339.im r_306
                have r_348 := (k_Hu K CH).up g_339.im r_307
                have r_349 := (kDV (kL K (k2 K kI kI))).up g_339.im r_308
                have r_350 := (kL K kI).up g_339.im r_309
                exact absurd o_338 Bool.false_ne_true
              · try simp only [decide_eq_true_eq, decide_eq_false_iff_not, Bool.and_eq_true, Bool.or_eq_true, Bool.and_eq_false_iff, Bool.or_eq_false_iff, Bool.not_eq_true', Bool.not_eq_false'] at hb_342
                have r_351 := (kL K (kL K (k2 K kI kI))).up g_344.im r_305
                have r_352 := (kL K (k2 K kI (kL K (k2 K kI kI)))).up g_344.im r_306
                have r_353 := (k_Hu K CH).up g_344.im r_307
                have r_354 := (kDV (kL K (k2 K kI kI))).up g_344.im r_308
                have r_355 := (kL K kI).up g_344.im r_309
                refine g_asg (E := E0) (cl := cl) (i := 11) (t := (kL K kI)) (x := ((opens_96.filter (fun (x_356 : Int) => (decide (first_142 ≤ x_356)))).map (fun (x_356 : Int) => x_356))) w_345 o_343 (em_lc (K := K) (u := kI) (fun x_356 => (decide (first_142 ≤ x_356))) (fun x_356 => x_356) (ei_L (em_var (t := (kL K kI)) (v := v_97) (x := opens_96) rfl r_355)) (by omega) eg_name (fun _ _ _ b => by obtain ⟨_, rfl, rfl⟩ := b; rfl) (fun M_362 S_363 I_357 x_356 s_361 e_358 m_359 b_360 => by obtain ⟨_, rfl, rfl⟩ := b_360; exact (gt_test (em_op (em_var (t := kI) (v := (.int x_356)) (x := x_356) rfl rfl) (em_var (t := kI) (v := (.int first_142)) (x := first_142) rfl rfl) o_IB))) (fun M_362 S_363 I_357 x_356 s_361 e_358 m_359 c_367 b_360 => by obtain ⟨_, rfl, rfl⟩ := b_360; exact (em_var (t := kI) (v := (.int x_356)) (x := x_356) rfl rfl))) (fun behind_370 v_371 H_372 hx_373 o_374 g_375 w_376 r_377 => ?_)
                have r_378 := (kL K (kL K (k2 K kI kI))).up g_375.im r_351
                have r_379 := (kL K (k2 K kI (kL K (k2 K kI kI)))).up g_375.im r_352
                have r_380 := (k_Hu K CH).up g_375.im r_353
                have r_381 := (kDV (kL K (k2 K kI kI))).up g_375.im r_354
                have r_382 := (kL K kI).up g_375.im r_355
                refine nrm (σ' := [some (.ref sc), some (.ref d), some (.int week_1), some v_25, some v_48, some v_58, some v_59, some v_97, some (.int first_142), some (.int last_143), some (.int day_261), some v_371, l12, l13, l14, l15, l16, l17, l18, l19, l20, l21]) rfl ?_
                refine g_when (E := E0) (cl := cl) (b := (!decide (behind_370 = ([] : List Int)))) w_376 o_374 (gt_test (em_op (em_var (t := (kL K kI)) (v := v_371) (x := behind_370) rfl r_377) (em_lst K (t := kI) em_nilL (by simp)) (o_neD (dL dI) (by decide)))) (fun hb_384 o_385 H_383 g_386 w_387 => ?_) (fun hb_389 o_390 H_388 g_391 w_392 => ?_)
                · try simp only [decide_eq_true_eq, decide_eq_false_iff_not, Bool.and_eq_true, Bool.or_eq_true, Bool.and_eq_false_iff, Bool.or_eq_false_iff, Bool.not_eq_true', Bool.not_eq_false'] at hb_384
                  have r_393 := (kL K (kL K (k2 K kI kI))).up g_386.im r_378
                  have r_394 := (kL K (k2 K kI (kL K (k2 K kI kI)))).up g_386.im r_379
                  have r_395 := (k_Hu K CH).up g_386.im r_380
                  have r_396 := (kDV (kL K (k2 K kI kI))).up g_386.im r_381
                  have r_397 := (kL K kI).up g_386.im r_382
                  have r_398 := (kL K kI).up g_386.im r_377
                  have behE := hx_373
                  have opE := hx_99
                  have behN : behind_370 ≠ [] := hb_384
                  refine g_when (E := E0) (cl := cl) (b := (!decide ((noV hours_56 ((3600 : Int) * first_142)) = ((3600 : Int) * ((atI behind_370 (0 : Int)).getD 0))))) w_387 o_385 (gt_test (em_op (em_methP (pre := pre_Hours_next_open) (f := f_Hours_next_open) (y := (noV hours_56 ((3600 : Int) * first_142))) (b := (((3600 : Int) * first_142), ())) (em_var (t := (k_Hu K CH)) (v := v_58) (x := hours_56) rfl r_395) (ob_Hu fun _ _ _ => rfl) (em_cons (em_op em_int (em_var (t := kI) (v := (.int first_142)) (x := first_142) rfl rfl) (o_IC (by first | exact .inl ⟨by omega, by omega⟩ | exact .inr ⟨by omega, by omega⟩))) em_nil) args_mG (by exact (no_pre cx hoE taE opE behE behN flB.1)) (by exact (no_is cx hoE taE opE behE behN flB.1))) (em_op em_int (em_op (em_var (t := (kL K kI)) (v := v_371) (x := behind_370) rfl r_398) em_int (o_ixLI (at_in (by have := List.length_pos_iff.mpr behN; omega)))) (o_IC (by first | exact .inl ⟨by omega, by omega⟩ | exact .inr ⟨by omega, by omega⟩))) o_neI)) (fun hb_400 o_401 H_399 g_402 w_403 => ?_) (fun hb_405 o_406 H_404 g_407 w_408 => ?_)
                  · try simp only [decide_eq_true_eq, decide_eq_false_iff_not, Bool.and_eq_true, Bool.or_eq_true, Bool.and_eq_false_iff, Bool.or_eq_false_iff, Bool.not_eq_true', Bool.not_eq_false'] at hb_400
                    have r_409 := (kL K (kL K (k2 K kI kI))).up g_402.im r_393
                    have r_410 := (kL K (k2 K kI (kL K (k2 K kI kI)))).up g_402.im r_394
                    have r_411 := (k_Hu K CH).up g_402.im r_395
                    have r_412 := (kDV (kL K (k2 K kI kI))).up g_402.im r_396
                    have r_413 := (kL K kI).up g_402.im r_397
                    have r_414 := (kL K kI).up g_402.im r_398
                    exact absurd o_401 Bool.false_ne_true
                  · try simp only [decide_eq_true_eq, decide_eq_false_iff_not, Bool.and_eq_true, Bool.or_eq_true, Bool.and_eq_false_iff, Bool.or_eq_false_iff, Bool.not_eq_true', Bool.not_eq_false'] at hb_405
                    have r_415 := (kL K (kL K (k2 K kI kI))).up g_407.im r_393
                    have r_416 := (kL K (k2 K kI (kL K (k2 K kI kI)))).up g_407.im r_394
                    have r_417 := (k_Hu K CH).up g_407.im r_395
                    have r_418 := (kDV (kL K (k2 K kI kI))).up g_407.im r_396
                    have r_419 := (kL K kI).up g_407.im r_397
                    have r_420 := (kL K kI).up g_407.im r_398
                    refine g_asg (E := E0) (cl := cl) (i := 12) (t := kI) (x := (roll (roll (roll (roll (runE (fun (x_32 : Int) (z_42 : Dice) => ((decide ((roll z_42 (3 : Int)).1 = (0 : Int))), (roll z_42 (3 : Int)).2)) (fun (x_32 : Int) (z_46 : Dice) => ((x_32, (f__law_spans () z_46).1), (f__law_spans () z_46).2)) ([((0 : Int) - (2 : Int)), (1 : Int), (4 : Int)] : List Int) (runE (fun (x_9 : Int) (z_19 : Dice) => (true, z_19)) (fun (x_9 : Int) (z_23 : Dice) => ((f__law_spans () z_23).1, (f__law_spans () z_23).2)) (rng 0 week_1) (roll z0 (3 : Int)).2).2).2 (200 : Int)).2 (200 : Int)).2 (7 : Int)).2 (behind_370.length : Int)).1) w_408 o_406 (em_roll (n := 0) (em_cons (em_var (t := kPtr d) (v := .ref d) (x := ()) rfl rfl) (em_cons (em_cb (em_cons (em_var (t := (kL K kI)) (v := v_371) (x := behind_370) rfl r_420) em_nil) o_lenL) em_nil)) rfl (by have := List.length_pos_iff.mpr behN; have := beh_len behE opL; exact ⟨by omega, by omega⟩)) (fun much_421 v_422 H_423 hx_424 o_425 g_426 w_427 r_428 => ?_)
                    have r_429 := (kL K (kL K (k2 K kI kI))).up g_426.im r_415
                    have r_430 := (kL K (k2 K kI (kL K (k2 K kI kI)))).up g_426.im r_416
                    have r_431 := (k_Hu K CH).up g_426.im r_417
                    have r_432 := (kDV (kL K (k2 K kI kI))).up g_426.im r_418
                    have r_433 := (kL K kI).up g_426.im r_419
                    have r_434 := (kL K kI).up g_426.im r_420
                    obtain rfl : v_422 = (.int much_421) := r_428
                    refine nrm (σ' := [some (.ref sc), some (.ref d), some (.int week_1), some v_25, some v_48, some v_58, some v_59, some v_97, some (.int first_142), some (.int last_143), some (.int day_261), some v_371, some (.int much_421), l13, l14, l15, l16, l17, l18, l19, l20, l21]) rfl ?_
                    have muB : 0 ≤ much_421 ∧ much_421 < behind_370.length := by rw [hx_424]; exact roll_in _ (by have := List.length_pos_iff.mpr behN; omega)
                    refine g_ifL (E := E0) (cl := cl) (b := (!decide ((addV hours_56 ((3600 : Int) * first_142) ((3600 : Int) * much_421)) = (cond (decide (much_421 = (0 : Int))) ((3600 : Int) * first_142) ((3600 : Int) * (((atI behind_370 (much_421 - (1 : Int))).getD 0) + (1 : Int))))))) w_427 o_425 (gt_test (em_op (em_methP (pre := pre_Hours_add) (f := f_Hours_add) (y := (addV hours_56 ((3600 : Int) * first_142) ((3600 : Int) * much_421))) (b := (((3600 : Int) * first_142), ((3600 : Int) * much_421), ())) (em_var (t := (k_Hu K CH)) (v := v_58) (x := hours_56) rfl r_431) (ob_Hu fun _ _ _ => rfl) (em_cons (em_op em_int (em_var (t := kI) (v := (.int first_142)) (x := first_142) rfl rfl) (o_IC (by first | exact .inl ⟨by omega, by omega⟩ | exact .inr ⟨by omega, by omega⟩))) (em_cons (em_op em_int (em_var (t := kI) (v := (.int much_421)) (x := much_421) rfl rfl) (o_IC (by first | exact .inl ⟨by omega, by omega⟩ | exact .inr ⟨by omega, by omega⟩))) em_nil)) args_mG (by exact (add_pre cx hoE taE opE behE muB flB.1)) (by exact (add_is cx hoE taE opE behE muB flB.1))) (em_if (gt_test (em_op (em_var (t := kI) (v := (.int much_421)) (x := much_421) rfl rfl) em_int o_eqI)) (fun _ => (em_op em_int (em_var (t := kI) (v := (.int first_142)) (x := first_142) rfl rfl) (o_IC (by first | exact .inl ⟨by omega, by omega⟩ | exact .inr ⟨by omega, by omega⟩)))) (fun _ => (em_op em_int (em_op (em_op (em_var (t := (kL K kI)) (v := v_371) (x := behind_370) rfl r_434) (em_op (em_var (t := kI) (v := (.int much_421)) (x := much_421) rfl rfl) em_int o_I) (o_ixLI (at_in (by omega)))) em_int o_I) (o_IC (by first | exact .inl ⟨by omega, by omega⟩ | exact .inr ⟨by omega, by omega⟩))))) o_neI)) (fun hb_436 o_437 H_435 g_438 w_439 => ?_) (fun hb_441 o_442 H_440 g_443 w_444 => ?_)
                    · try simp only [decide_eq_true_eq, decide_eq_false_iff_not, Bool.and_eq_true, Bool.or_eq_true, Bool.and_eq_false_iff, Bool.or_eq_false_iff, Bool.not_eq_true', Bool.not_eq_false'] at hb_436
                      have r_445 := (kL K (kL K (k2 K kI kI))).up g_438.im r_429
                      have r_446 := (kL K (k2 K kI (kL K (k2 K kI kI)))).up g_438.im r_430
                      have r_447 := (k_Hu K CH).up g_438.im r_431
                      have r_448 := (kDV (kL K (k2 K kI kI))).up g_438.im r_432
                      have r_449 := (kL K kI).up g_438.im r_433
                      have r_450 := (kL K kI).up g_438.im r_434
                      exact absurd o_437 Bool.false_ne_true
                    · try simp only [decide_eq_true_eq, decide_eq_false_iff_not, Bool.and_eq_true, Bool.or_eq_true, Bool.and_eq_false_iff, Bool.or_eq_false_iff, Bool.not_eq_true', Bool.not_eq_false'] at hb_441
                      have r_451 := (kL K (kL K (k2 K kI kI))).up g_443.im r_429
                      have r_452 := (kL K (k2 K kI (kL K (k2 K kI kI)))).up g_443.im r_430
                      have r_453 := (k_Hu K CH).up g_443.im r_431
                      have r_454 := (kDV (kL K (k2 K kI kI))).up g_443.im r_432
                      have r_455 := (kL K kI).up g_443.im r_433
                      have r_456 := (kL K kI).up g_443.im r_434
                      refine g_when (E := E0) (cl := cl) (b := ((decide (((rows_24.filter (fun (x_457 : (List (Int × Int))) => (!decide (x_457 = ([] : List (Int × Int)))))).map (fun (x_457 : (List (Int × Int))) => x_457)) = ([] : List (List (Int × Int))))) && (!decide ((kindName 9) = ("no day" : Str))))) w_444 o_442 (gt_and (gt_test (em_op (em_lc (K := K) (u := (kL K (k2 K kI kI))) (fun x_457 => (!decide (x_457 = ([] : List (Int × Int))))) (fun x_457 => x_457) (ei_L (em_var (t := (kL K (kL K (k2 K kI kI)))) (v := v_25) (x := rows_24) rfl r_451)) (by have := cx.l3; omega) eg_name (fun _ _ _ b => by obtain ⟨v_469, r_470, rfl⟩ := b; rfl) (fun M_463 S_464 I_458 x_457 s_462 e_459 m_460 b_461 => by obtain ⟨v_469, r_470, rfl⟩ := b_461; skip; exact (gt_test (em_op (em_var (t := (kL K (k2 K kI kI))) (v := v_469) (x := x_457) rfl r_470) (em_lst K (t := (k2 K kI kI)) em_nilL (by simp)) (o_neD (dL (d2 dI dI)) (by decide))))) (fun M_463 S_464 I_458 x_457 s_462 e_459 m_460 c_468 b_461 => by obtain ⟨v_469, r_470, rfl⟩ := b_461; skip; exact (em_var (t := (kL K (k2 K kI kI))) (v := v_469) (x := x_457) rfl r_470))) (em_lst K (t := (kL K (k2 K kI kI))) em_nilL (by simp)) (o_eqD (dL (dL (d2 dI dI))) (by decide)))) (fun h_471 => (gt_test (em_op (em_reS0 (i := 9) (by exact noe_er cx hoE h_471) (em_toldR (ag := fun σ2 => σ2 = _) (em_cons (em_lamC (n := 1) (t := kLam (lawX P w K mg base f cc A outer s H E) cl 12 (fun σ2 => σ2 = _) kI) (x := (f_Hours_next_open (hours_56, ((86400 : Int) * (6 : Int)), ()))) rfl (nc_cons (nc_cons nc_nil nc_tab) nc_dice) (lam_r (LamX.lamS_by (sc := defScope sLaw) (by decide +kernel)) (fun _ _ _ => rfl) (fun f2 cc2 A2 outer2 s2 H2 E2 hr2 => (pe_mk L.m_next_open hr2 (by decide) (passE (E := E2)) (pv 5) (pa_cons (pe_op op_mul (pe_GI L.gi_DAY) pe_int) pa_nil))) (fun i h => by rw [show (f_Hours_next_open (hours_56, ((86400 : Int) * (6 : Int)), ())) = .er 9 from by exact noe_er cx hoE h_471] at h; cases h; decide) (fun E2 M2 S2 σ2 I2 e ag => by subst ag; exact (em_meth (b := (((86400 : Int) * (6 : Int)), ())) (em_var (t := (k_Hu K CH)) (v := v_58) (x := hours_56) rfl ((k_Hu K CH).up e r_453)) (ob_Hu fun _ _ _ => rfl) (em_cons (em_op em_int em_int (o_IC (by first | exact .inl ⟨by omega, by omega⟩ | exact .inr ⟨by omega, by omega⟩))) em_nil) args_mG (by exact noe_pre cx hoE h_471))))) em_nil) rfl)) em_str o_neS)))) (fun hb_474 o_475 H_473 g_476 w_477 => ?_) (fun hb_479 o_480 H_478 g_481 w_482 => ?_)
                      · try simp only [decide_eq_true_eq, decide_eq_false_iff_not, Bool.and_eq_true, Bool.or_eq_true, Bool.and_eq_false_iff, Bool.or_eq_false_iff, Bool.not_eq_true', Bool.not_eq_false'] at hb_474
                        have r_483 := (kL K (kL K (k2 K kI kI))).up g_476.im r_451
                        have r_484 := (kL K (k2 K kI (kL K (k2 K kI kI)))).up g_476.im r_452
                        have r_485 := (k_Hu K CH).up g_476.im r_453
                        have r_486 := (kDV (kL K (k2 K kI kI))).up g_476.im r_454
                        have r_487 := (kL K kI).up g_476.im r_455
                        have r_488 := (kL K kI).up g_476.im r_456
                        exact absurd o_475 Bool.false_ne_true
                      · try simp only [decide_eq_true_eq, decide_eq_false_iff_not, Bool.and_eq_true, Bool.or_eq_true, Bool.and_eq_false_iff, Bool.or_eq_false_iff, Bool.not_eq_true', Bool.not_eq_false'] at hb_479
                        have r_489 := (kL K (kL K (k2 K kI kI))).up g_481.im r_451
                        have r_490 := (kL K (k2 K kI (kL K (k2 K kI kI)))).up g_481.im r_452
                        have r_491 := (k_Hu K CH).up g_481.im r_453
                        have r_492 := (kDV (kL K (k2 K kI kI))).up g_481.im r_454
                        have r_493 := (kL K kI).up g_481.im r_455
                        have r_494 := (kL K kI).up g_481.im r_456
                        refine g_asg (E := E0) (cl := cl) (i := 13) (t := (kL K kI)) (x := (((rng first_142 ((24 : Int) * (11 : Int))).filter (fun (x_495 : Int) => (!decide (x_495 ∈ opens_96)))).map (fun (x_495 : Int) => x_495))) w_482 o_480 (em_lc (K := K) (u := kI) (fun x_495 => (!decide (x_495 ∈ opens_96))) (fun x_495 => x_495) (ei_R2 (em_cons (em_var (t := kI) (v := (.int first_142)) (x := first_142) rfl rfl) (em_cons (em_op em_int em_int (o_IC (by first | exact .inl ⟨by omega, by omega⟩ | exact .inr ⟨by omega, by omega⟩))) em_nil)) (by refine ⟨by omega, by omega, by omega, by omega⟩)) (by rw [rng_len]; omega) eg_name (fun _ _ _ b => by obtain ⟨_, rfl, rfl⟩ := b; rfl) (fun M_501 S_502 I_496 x_495 s_500 e_497 m_498 b_499 => by obtain ⟨_, rfl, rfl⟩ := b_499; rw [rng_mem] at m_498; exact (gt_test (em_op (em_var (t := kI) (v := (.int x_495)) (x := x_495) rfl rfl) (em_var (t := (kL K kI)) (v := v_97) (x := opens_96) rfl ((kL K kI).up e_497 r_493)) (o_inI (neg := true))))) (fun M_501 S_502 I_496 x_495 s_500 e_497 m_498 c_506 b_499 => by obtain ⟨_, rfl, rfl⟩ := b_499; rw [rng_mem] at m_498; exact (em_var (t := kI) (v := (.int x_495)) (x := x_495) rfl rfl))) (fun shut_509 v_510 H_511 hx_512 o_513 g_514 w_515 r_516 => ?_)
                        have r_517 := (kL K (kL K (k2 K kI kI))).up g_514.im r_489
                        have r_518 := (kL K (k2 K kI (kL K (k2 K kI kI)))).up g_514.im r_490
                        have r_519 := (k_Hu K CH).up g_514.im r_491
                        have r_520 := (kDV (kL K (k2 K kI kI))).up g_514.im r_492
                        have r_521 := (kL K kI).up g_514.im r_493
                        have r_522 := (kL K kI).up g_514.im r_494
                        refine nrm (σ' := [some (.ref sc), some (.ref d), some (.int week_1), some v_25, some v_48, some v_58, some v_59, some v_97, some (.int first_142), some (.int last_143), some (.int day_261), some v_371, some (.int much_421), some v_510, l14, l15, l16, l17, l18, l19, l20, l21]) rfl ?_
                        have shE := hx_512
                        have opE := hx_99
                        refine g_ifL (E := E0) (cl := cl) (b := ((!decide (shut_509 = ([] : List Int))) && (!decide ((nsV hours_56 ((3600 : Int) * first_142)) = ((3600 : Int) * ((atI shut_509 (0 : Int)).getD 0)))))) w_515 o_513 (gt_and (gt_test (em_op (em_var (t := (kL K kI)) (v := v_510) (x := shut_509) rfl r_516) (em_lst K (t := kI) em_nilL (by simp)) (o_neD (dL dI) (by decide)))) (fun h_523 => (gt_test (em_op (em_methP (pre := pre_Hours_next_shut) (f := f_Hours_next_shut) (y := (nsV hours_56 ((3600 : Int) * first_142))) (b := (((3600 : Int) * first_142), ())) (em_var (t := (k_Hu K CH)) (v := v_58) (x := hours_56) rfl r_519) (ob_Hu fun _ _ _ => rfl) (em_cons (em_op em_int (em_var (t := kI) (v := (.int first_142)) (x := first_142) rfl rfl) (o_IC (by first | exact .inl ⟨by omega, by omega⟩ | exact .inr ⟨by omega, by omega⟩))) em_nil) args_mG (by exact (ns_pre cx hoE taE opE shE h_523 flB.1)) (by exact (ns_is cx hoE taE opE shE h_523 flB.1))) (em_op em_int (em_op (em_var (t := (kL K kI)) (v := v_510) (x := shut_509) rfl r_516) em_int (o_ixLI (at_in (by have := List.length_pos_iff.mpr (ne_raw h_523); omega)))) (o_IC (by first | exact .inl ⟨by omega, by omega⟩ | exact .inr ⟨by omega, by omega⟩))) o_neI)))) (fun hb_526 o_527 H_525 g_528 w_529 => ?_) (fun hb_531 o_532 H_530 g_533 w_534 => ?_)
                        · try simp only [decide_eq_true_eq, decide_eq_false_iff_not, Bool.and_eq_true, Bool.or_eq_true, Bool.and_eq_false_iff, Bool.or_eq_false_iff, Bool.not_eq_true', Bool.not_eq_false'] at hb_526
                          have r_535 := (kL K (kL K (k2 K kI kI))).up g_528.im r_517
                          have r_536 := (kL K (k2 K kI (kL K (k2 K kI kI)))).up g_528.im r_518
                          have r_537 := (k_Hu K CH).up g_528.im r_519
                          have r_538 := (kDV (kL K (k2 K kI kI))).up g_528.im r_520
                          have r_539 := (kL K kI).up g_528.im r_521
                          have r_540 := (kL K kI).up g_528.im r_522
                          have r_541 := (kL K kI).up g_528.im r_516
                          exact absurd o_527 Bool.false_ne_true
                        · try simp only [decide_eq_true_eq, decide_eq_false_iff_not, Bool.and_eq_true, Bool.or_eq_true, Bool.and_eq_false_iff, Bool.or_eq_false_iff, Bool.not_eq_true', Bool.not_eq_false'] at hb_531
                          have r_542 := (kL K (kL K (k2 K kI kI))).up g_533.im r_517
                          have r_543 := (kL K (k2 K kI (kL K (k2 K kI kI)))).up g_533.im r_518
                          have r_544 := (k_Hu K CH).up g_533.im r_519
                          have r_545 := (kDV (kL K (k2 K kI kI))).up g_533.im r_520
                          have r_546 := (kL K kI).up g_533.im r_521
                          have r_547 := (kL K kI).up g_533.im r_522
                          have r_548 := (kL K kI).up g_533.im r_516
                          exact nx _ _ _ ⟨_, _, _, _, _, _, _, _, _, _, _, _, _, _, _, _, _, _, _, _, _, rfl⟩ (Gr.cast (((((((((((((((((((g_6.then g_29 rfl).then g_52 rfl).then g_64 rfl).then g_101 rfl).then g_130 rfl).then g_150 rfl).then g_183 rfl).then g_249 rfl).then g_266 rfl).then g_298 rfl).then g_344 rfl).then g_375 rfl).then g_386 rfl).then g_407 rfl).then g_426 rfl).then g_443 rfl).then g_481 rfl).then g_514 rfl).then g_533 rfl) rfl) w_534
                · try simp only [decide_eq_true_eq, decide_eq_false_iff_not, Bool.and_eq_true, Bool.or_eq_true, Bool.and_eq_false_iff, Bool.or_eq_false_iff, Bool.not_eq_true', Bool.not_eq_false'] at hb_389
                  have r_549 := (kL K (kL K (k2 K kI kI))).up g_391.im r_378
                  have r_550 := (kL K (k2 K kI (kL K (k2 K kI kI)))).up g_391.im r_379
                  have r_551 := (k_Hu K CH).up g_391.im r_380
                  have r_552 := (kDV (kL K (k2 K kI kI))).up g_391.im r_381
                  have r_553 := (kL K kI).up g_391.im r_382
                  have r_554 := (kL K kI).up g_391.im r_377
                  refine g_when (E := E0) (cl := cl) (b := ((decide (((rows_24.filter (fun (x_555 : (List (Int × Int))) => (!decide (x_555 = ([] : List (Int × Int)))))).map (fun (x_555 : (List (Int × Int))) => x_555)) = ([] : List (List (Int × Int))))) && (!decide ((kindName 9) = ("no day" : Str))))) w_392 o_390 (gt_and (gt_test (em_op (em_lc (K := K) (u := (kL K (k2 K kI kI))) (fun x_555 => (!decide (x_555 = ([] : List (Int × Int))))) (fun x_555 => x_555) (ei_L (em_var (t := (kL K (kL K (k2 K kI kI)))) (v := v_25) (x := rows_24) rfl r_549)) (by have := cx.l3; omega) eg_name (fun _ _ _ b => by obtain ⟨v_567, r_568, rfl⟩ := b; rfl) (fun M_561 S_562 I_556 x_555 s_560 e_557 m_558 b_559 => by obtain ⟨v_567, r_568, rfl⟩ := b_559; skip; exact (gt_test (em_op (em_var (t := (kL K (k2 K kI kI))) (v := v_567) (x := x_555) rfl r_568) (em_lst K (t := (k2 K kI kI)) em_nilL (by simp)) (o_neD (dL (d2 dI dI)) (by decide))))) (fun M_561 S_562 I_556 x_555 s_560 e_557 m_558 c_566 b_559 => by obtain ⟨v_567, r_568, rfl⟩ := b_559; skip; exact (em_var (t := (kL K (k2 K kI kI))) (v := v_567) (x := x_555) rfl r_568))) (em_lst K (t := (kL K (k2 K kI kI))) em_nilL (by simp)) (o_eqD (dL (dL (d2 dI dI))) (by decide)))) (fun h_569 => (gt_test (em_op (em_reS0 (i := 9) (by exact noe_er cx hoE h_569) (em_toldR (ag := fun σ2 => σ2 = _) (em_cons (em_lamC (n := 1) (t := kLam (lawX P w K mg base f cc A outer s H E) cl 12 (fun σ2 => σ2 = _) kI) (x := (f_Hours_next_open (hours_56, ((86400 : Int) * (6 : Int)), ()))) rfl (nc_cons (nc_cons nc_nil nc_tab) nc_dice) (lam_r (LamX.lamS_by (sc := defScope sLaw) (by decide +kernel)) (fun _ _ _ => rfl) (fun f2 cc2 A2 outer2 s2 H2 E2 hr2 => (pe_mk L.m_next_open hr2 (by decide) (passE (E := E2)) (pv 5) (pa_cons (pe_op op_mul (pe_GI L.gi_DAY) pe_int) pa_nil))) (fun i h => by rw [show (f_Hours_next_open (hours_56, ((86400 : Int) * (6 : Int)), ())) = .er 9 from by exact noe_er cx hoE h_569] at h; cases h; decide) (fun E2 M2 S2 σ2 I2 e ag => by subst ag; exact (em_meth (b := (((86400 : Int) * (6 : Int)), ())) (em_var (t := (k_Hu K CH)) (v := v_58) (x := hours_56) rfl ((k_Hu K CH).up e r_551)) (ob_Hu fun _ _ _ => rfl) (em_cons (em_op em_int em_int (o_IC (by first | exact .inl ⟨by omega, by omega⟩ | exact .inr ⟨by omega, by omega⟩))) em_nil) args_mG (by exact noe_pre cx hoE h_569))))) em_nil) rfl)) em_str o_neS)))) (fun hb_572 o_573 H_571 g_574 w_575 => ?_) (fun hb_577 o_578 H_576 g_579 w_580 => ?_)
                  · try simp only [decide_eq_true_eq, decide_eq_false_iff_not, Bool.and_eq_true, Bool.or_eq_true, Bool.and_eq_false_iff, Bool.or_eq_false_iff, Bool.not_eq_true', Bool.not_eq_false'] at hb_572
                    have r_581 := (kL K (kL K (k2 K kI kI))).up g_574.im r_549
                    have r_582 := (kL K (k2 K kI (kL K (k2 K kI kI)))).up g_574.im r_550
                    have r_583 := (k_Hu K CH).up g_574.im r_551
                    have r_584 := (kDV (kL K (k2 K kI kI))).up g_574.im r_552
                    have r_585 := (kL K kI).up g_574.im r_553
                    have r_586 := (kL K kI).up g_574.im r_554
                    exact absurd o_573 Bool.false_ne_true
                  · try simp only [decide_eq_true_eq, decide_eq_false_iff_not, Bool.and_eq_true, Bool.or_eq_true, Bool.and_eq_false_iff, Bool.or_eq_false_iff, Bool.not_eq_true', Bool.not_eq_false'] at hb_577
                    have r_587 := (kL K (kL K (k2 K kI kI))).up g_579.im r_549
                    have r_588 := (kL K (k2 K kI (kL K (k2 K kI kI)))).up g_579.im r_550
                    have r_589 := (k_Hu K CH).up g_579.im r_551
                    have r_590 := (kDV (kL K (k2 K kI kI))).up g_579.im r_552
                    have r_591 := (kL K kI).up g_579.im r_553
                    have r_592 := (kL K kI).up g_579.im r_554
                    refine g_asg (E := E0) (cl := cl) (i := 13) (t := (kL K kI)) (x := (((rng first_142 ((24 : Int) * (11 : Int))).filter (fun (x_593 : Int) => (!decide (x_593 ∈ opens_96)))).map (fun (x_593 : Int) => x_593))) w_580 o_578 (em_lc (K := K) (u := kI) (fun x_593 => (!decide (x_593 ∈ opens_96))) (fun x_593 => x_593) (ei_R2 (em_cons (em_var (t := kI) (v := (.int first_142)) (x := first_142) rfl rfl) (em_cons (em_op em_int em_int (o_IC (by first | exact .inl ⟨by omega, by omega⟩ | exact .inr ⟨by omega, by omega⟩))) em_nil)) (by refine ⟨by omega, by omega, by omega, by omega⟩)) (by rw [rng_len]; omega) eg_name (fun _ _ _ b => by obtain ⟨_, rfl, rfl⟩ := b; rfl) (fun M_599 S_600 I_594 x_593 s_598 e_595 m_596 b_597 => by obtain ⟨_, rfl, rfl⟩ := b_597; rw [rng_mem] at m_596; exact (gt_test (em_op (em_var (t := kI) (v := (.int x_593)) (x := x_593) rfl rfl) (em_var (t := (kL K kI)) (v := v_97) (x := opens_96) rfl ((kL K kI).up e_595 r_591)) (o_inI (neg := true))))) (fun M_599 S_600 I_594 x_593 s_598 e_595 m_596 c_604 b_597 => by obtain ⟨_, rfl, rfl⟩ := b_597; rw [rng_mem] at m_596; exact (em_var (t := kI) (v := (.int x_593)) (x := x_593) rfl rfl))) (fun shut_607 v_608 H_609 hx_610 o_611 g_612 w_613 r_614 => ?_)
                    have r_615 := (kL K (kL K (k2 K kI kI))).up g_612.im r_587
                    have r_616 := (kL K (k2 K kI (kL K (k2 K kI kI)))).up g_612.im r_588
                    have r_617 := (k_Hu K CH).up g_612.im r_589
                    have r_618 := (kDV (kL K (k2 K kI kI))).up g_612.im r_590
                    have r_619 := (kL K kI).up g_612.im r_591
                    have r_620 := (kL K kI).up g_612.im r_592
                    refine nrm (σ' := [some (.ref sc), some (.ref d), some (.int week_1), some v_25, some v_48, some v_58, some v_59, some v_97, some (.int first_142), some (.int last_143), some (.int day_261), some v_371, l12, some v_608, l14, l15, l16, l17, l18, l19, l20, l21]) rfl ?_
                    have shE := hx_610
                    have opE := hx_99
                    refine g_ifL (E := E0) (cl := cl) (b := ((!decide (shut_607 = ([] : List Int))) && (!decide ((nsV hours_56 ((3600 : Int) * first_142)) = ((3600 : Int) * ((atI shut_607 (0 : Int)).getD 0)))))) w_613 o_611 (gt_and (gt_test (em_op (em_var (t := (kL K kI)) (v := v_608) (x := shut_607) rfl r_614) (em_lst K (t := kI) em_nilL (by simp)) (o_neD (dL dI) (by decide)))) (fun h_621 => (gt_test (em_op (em_methP (pre := pre_Hours_next_shut) (f := f_Hours_next_shut) (y := (nsV hours_56 ((3600 : Int) * first_142))) (b := (((3600 : Int) * first_142), ())) (em_var (t := (k_Hu K CH)) (v := v_58) (x := hours_56) rfl r_617) (ob_Hu fun _ _ _ => rfl) (em_cons (em_op em_int (em_var (t := kI) (v := (.int first_142)) (x := first_142) rfl rfl) (o_IC (by first | exact .inl ⟨by omega, by omega⟩ | exact .inr ⟨by omega, by omega⟩))) em_nil) args_mG (by exact (ns_pre cx hoE taE opE shE h_621 flB.1)) (by exact (ns_is cx hoE taE opE shE h_621 flB.1))) (em_op em_int (em_op (em_var (t := (kL K kI)) (v := v_608) (x := shut_607) rfl r_614) em_int (o_ixLI (at_in (by have := List.length_pos_iff.mpr (ne_raw h_621); omega)))) (o_IC (by first | exact .inl ⟨by omega, by omega⟩ | exact .inr ⟨by omega, by omega⟩))) o_neI)))) (fun hb_624 o_625 H_623 g_626 w_627 => ?_) (fun hb_629 o_630 H_628 g_631 w_632 => ?_)
                    · try simp only [decide_eq_true_eq, decide_eq_false_iff_not, Bool.and_eq_true, Bool.or_eq_true, Bool.and_eq_false_iff, Bool.or_eq_false_iff, Bool.not_eq_true', Bool.not_eq_false'] at hb_624
                      have r_633 := (kL K (kL K (k2 K kI kI))).up g_626.im r_615
                      have r_634 := (kL K (k2 K kI (kL K (k2 K kI kI)))).up g_626.im r_616
                      have r_635 := (k_Hu K CH).up g_626.im r_617
                      have r_636 := (kDV (kL K (k2 K kI kI))).up g_626.im r_618
                      have r_637 := (kL K kI).up g_626.im r_619
                      have r_638 := (kL K kI).up g_626.im r_620
                      have r_639 := (kL K kI).up g_626.im r_614
                      exact absurd o_625 Bool.false_ne_true
                    · try simp only [decide_eq_true_eq, decide_eq_false_iff_not, Bool.and_eq_true, Bool.or_eq_true, Bool.and_eq_false_iff, Bool.or_eq_false_iff, Bool.not_eq_true', Bool.not_eq_false'] at hb_629
                      have r_640 := (kL K (kL K (k2 K kI kI))).up g_631.im r_615
                      have r_641 := (kL K (k2 K kI (kL K (k2 K kI kI)))).up g_631.im r_616
                      have r_642 := (k_Hu K CH).up g_631.im r_617
                      have r_643 := (kDV (kL K (k2 K kI kI))).up g_631.im r_618
                      have r_644 := (kL K kI).up g_631.im r_619
                      have r_645 := (kL K kI).up g_631.im r_620
                      have r_646 := (kL K kI).up g_631.im r_614
                      exact nx _ _ _ ⟨_, _, _, _, _, _, _, _, _, _, _, _, _, _, _, _, _, _, _, _, _, rfl⟩ (Gr.cast ((((((((((((((((g_6.then g_29 rfl).then g_52 rfl).then g_64 rfl).then g_101 rfl).then g_130 rfl).then g_150 rfl).then g_183 rfl).then g_249 rfl).then g_266 rfl).then g_298 rfl).then g_344 rfl).then g_375 rfl).then g_391 rfl).then g_579 rfl).then g_612 rfl).then g_631 rfl) rfl) w_632
    · obtain ⟨l1, l2, l3, l4, l5, l6, l7, l8, l9, l10, l11, l12, l13, l14, l15, l16, l17, l18, l19, l20, l21, rfl⟩ := hσ
      refine g_asg (E := E0) (cl := cl) (P := Pt) (k := fun _ => true) (i := 14) (t := (k_Hu K CH)) (x := (mkH (1 : Int) ([([((0 : Int), (86400 : Int))] : List (Int × Int))] : List (List (Int × Int))) [])) w0 rfl (em_mkObP (a := ((1 : Int), ([([((0 : Int), (86400 : Int))] : List (Int × Int))] : List (List (Int × Int))), none, ())) (pre := pre_Hours_init) (f := f_Hours_init) (Rr := R_Hu K) (up := fun e h => R_Hu_up e h) (em_cons em_int (em_cons (em_lst K (t := (kL K (k2 K kI kI))) (em_consL (em_lst K (t := (k2 K kI kI)) (em_consL (em_t2 K (em_cons em_int (em_cons em_int em_nil))) em_nilL) (by simp)) em_nilL) (by simp)) em_nil)) ini_args upA_Hu2 (by exact alw_pre) (by exact alw_ok)) (fun always_now_647 v_648 H_649 hx_650 o_651 g_652 w_653 r_654 => ?_)
      subst hx_650
      refine nrm (σ' := [some (.ref sc), l1, l2, l3, l4, l5, l6, l7, l8, l9, l10, l11, l12, l13, some v_648, l15, l16, l17, l18, l19, l20, l21]) rfl ?_
      let ag_655 : L2.St → Prop := fun σ2 => ∃ lw : Option V, σ2 = [some (.ref sc), l1, l2, l3, l4, l5, l6, l7, l8, l9, l10, l11, l12, l13, some v_648, lw, l16, l17, l18, l19, l20, l21]
      have nc_656 : NoCode [d, PT] [cDice d z0, cTab PT LQ] := (nc_cons (nc_cons nc_nil nc_tab) nc_dice)
      refine g_asg (E := E0) (cl := cl) (P := Pt) (k := fun _ => true) (i := 15) (t := (kL K (k2 K (kTold (lawX P w K mg base f cc A outer s H E) cl 12 ag_655) kS))) (x := ([(kindName 2, ("time" : Str)), (kindName 2, ("time" : Str)), (kindName 2, ("time" : Str)), (kindName 2, ("time" : Str)), (kindName 9, ("no day" : Str))] : List (Str × Str))) w_653 rfl (em_lst K (em_consL (em_t2 K (em_cons (em_lamC (n := 1) (t := kTold (lawX P w K mg base f cc A outer s H E) cl 12 ag_655) (x := kindName 2) rfl nc_656 (told_r (LamX.lamS_by (sc := defScope sLaw) (by decide +kernel)) (fun _ _ _ => rfl) (fun f2 cc2 A2 outer2 s2 H2 E2 hr2 => (pe_nw L.nH2 hr2 (by decide) (passE (E := E2)) (pa_cons pe_int (pa_cons (pe_lst (pa_cons (pe_lst pa_nil) pa_nil)) pa_nil)))) (by decide) (fun E2 M2 S2 σ2 I2 e ag => by obtain ⟨lw, rfl⟩ := ag; exact (em_toEr (i := 2) (em_mkOb (a := ((2 : Int), ([([] : List (Int × Int))] : List (List (Int × Int))), none, ())) (pre := pre_Hours_init) (f := f_Hours_init) (Rr := R_Hu K) (up := fun e h => R_Hu_up e h) (em_cons em_int (em_cons (em_lst K (t := (kL K (k2 K kI kI))) (em_consL (em_lst K (t := (k2 K kI kI)) em_nilL (by simp)) em_nilL) (by simp)) em_nil)) ini_args upA_Hu2 (by exact ini_pre2)) (by exact ini_er2))))) (em_cons em_str em_nil))) (em_consL (em_t2 K (em_cons (em_lamC (n := 1) (t := kTold (lawX P w K mg base f cc A outer s H E) cl 12 ag_655) (x := kindName 2) rfl nc_656 (told_r (LamX.lamS_by (sc := defScope sLaw) (by decide +kernel)) (fun _ _ _ => rfl) (fun f2 cc2 A2 outer2 s2 H2 E2 hr2 => (pe_k L.c_day_spans hr2 (by decide) (passE (E := E2)) (pa_cons (pe_lst (pa_cons (pe_tup (pa_cons pe_int (pa_cons (pe_op op_add (pe_GI L.gi_DAY) pe_int) pa_nil))) pa_nil)) pa_nil))) (by decide) (fun E2 M2 S2 σ2 I2 e ag => by obtain ⟨lw, rfl⟩ := ag; exact (em_toEr (i := 2) (em_call (pre := pre_day_spans) (f := f_day_spans) (a := (([((0 : Int), ((86400 : Int) + (1 : Int)))] : List (Int × Int)), ())) (em_cons (em_lst K (t := (k2 K kI kI)) (em_consL (em_t2 K (em_cons em_int (em_cons (em_op em_int em_int o_I) em_nil))) em_nilL) (by simp)) em_nil) args_id (by exact ⟨by decide, by decide, trivial⟩)) (by exact ds_er1))))) (em_cons em_str em_nil))) (em_consL (em_t2 K (em_cons (em_lamC (n := 1) (t := kTold (lawX P w K mg base f cc A outer s H E) cl 12 ag_655) (x := kindName 2) rfl nc_656 (told_r (LamX.lamS_by (sc := defScope sLaw) (by decide +kernel)) (fun _ _ _ => rfl) (fun f2 cc2 A2 outer2 s2 H2 E2 hr2 => (pe_k L.c_day_spans hr2 (by decide) (passE (E := E2)) (pa_cons (pe_lst (pa_cons (pe_tup (pa_cons (pe_op op_sub pe_int pe_int) (pa_cons pe_int pa_nil))) pa_nil)) pa_nil))) (by decide) (fun E2 M2 S2 σ2 I2 e ag => by obtain ⟨lw, rfl⟩ := ag; exact (em_toEr (i := 2) (em_call (pre := pre_day_spans) (f := f_day_spans) (a := (([(((0 : Int) - (1 : Int)), (5 : Int))] : List (Int × Int)), ())) (em_cons (em_lst K (t := (k2 K kI kI)) (em_consL (em_t2 K (em_cons (em_op em_int em_int o_I) (em_cons em_int em_nil))) em_nilL) (by simp)) em_nil) args_id (by exact ⟨by decide, by decide, trivial⟩)) (by exact ds_er2))))) (em_cons em_str em_nil))) (em_consL (em_t2 K (em_cons (em_lamC (n := 1) (t := kTold (lawX P w K mg base f cc A outer s H E) cl 12 ag_655) (x := kindName 2) rfl nc_656 (told_r (LamX.lamS_by (sc := defScope sLaw) (by decide +kernel)) (fun _ _ _ => rfl) (fun f2 cc2 A2 outer2 s2 H2 E2 hr2 => (pe_mk L.m_add hr2 (by decide) (passE (E := E2)) (pv 14) (pa_cons pe_int (pa_cons (pe_op op_sub pe_int pe_int) pa_nil)))) (by decide) (fun E2 M2 S2 σ2 I2 e ag => by obtain ⟨lw, rfl⟩ := ag; exact (em_toEr (i := 2) (em_meth (b := ((0 : Int), ((0 : Int) - (1 : Int)), ())) (em_var (t := (k_Hu K CH)) (v := v_648) (x := (mkH (1 : Int) ([([((0 : Int), (86400 : Int))] : List (Int × Int))] : List (List (Int × Int))) [])) rfl ((k_Hu K CH).up e r_654)) (ob_Hu fun _ _ _ => rfl) (em_cons em_int (em_cons (em_op em_int em_int o_I) em_nil)) args_mG (by exact alw_add_m1.1)) (by exact add_neg (by omega)))))) (em_cons em_str em_nil))) (em_consL (em_t2 K (em_cons (em_lamC (n := 1) (t := kTold (lawX P w K mg base f cc A outer s H E) cl 12 ag_655) (x := kindName 9) rfl nc_656 (told_r (LamX.lamS_by (sc := defScope sLaw) (by decide +kernel)) (fun _ _ _ => rfl) (fun f2 cc2 A2 outer2 s2 H2 E2 hr2 => (pe_mk L.m_next_shut hr2 (by decide) (passE (E := E2)) (pv 14) (pa_cons pe_int pa_nil))) (by decide) (fun E2 M2 S2 σ2 I2 e ag => by obtain ⟨lw, rfl⟩ := ag; exact (em_toEr (i := 9) (em_meth (b := ((0 : Int), ())) (em_var (t := (k_Hu K CH)) (v := v_648) (x := (mkH (1 : Int) ([([((0 : Int), (86400 : Int))] : List (Int × Int))] : List (List (Int × Int))) [])) rfl ((k_Hu K CH).up e r_654)) (ob_Hu fun _ _ _ => rfl) (em_cons em_int em_nil) args_mG (by exact alw_ns.1)) (by exact alw_ns.2))))) (em_cons em_str em_nil))) em_nilL))))) (by decide)) (fun wrong_657 v_658 H_659 hx_660 o_661 g_662 w_663 r_664 => ?_)
      have r_665 := (k_Hu K CH).up g_662.im r_654
      have none_666 : (wrong_657.filter fun q => !decide (q.1 = q.2)) = [] := by rw [hx_660]; decide +kernel
      refine nrm (σ' := [some (.ref sc), l1, l2, l3, l4, l5, l6, l7, l8, l9, l10, l11, l12, l13, some v_648, some v_658, l16, l17, l18, l19, l20, l21]) rfl ?_
      refine g_when (E := E0) (cl := cl) (b := (!decide ((([(0 : Int), (1 : Int), ((86400 : Int) + (2 : Int))] : List Int).map (fun (x_667 : Int) => (addV (mkH (1 : Int) ([([((0 : Int), (86400 : Int))] : List (Int × Int))] : List (List (Int × Int))) []) (5 : Int) x_667))) = ([(5 : Int), (6 : Int), ((86400 : Int) + (7 : Int))] : List Int)))) w_663 alw_o (gt_test (em_op (em_eq (em_lc (K := K) (u := kI) (fun _ => true) (fun x_667 => (addV (mkH (1 : Int) ([([((0 : Int), (86400 : Int))] : List (Int × Int))] : List (List (Int × Int))) []) (5 : Int) x_667)) (ei_L (em_lst K (t := kI) (em_consL em_int (em_consL em_int (em_consL (em_op em_int em_int o_I) em_nilL))) (by simp))) (by show 3 ≤ 100000 - 1; decide) eg_name (fun _ _ _ b => by obtain ⟨_, rfl, rfl⟩ := b; rfl) (fun _ _ _ _ _ _ _ _ => gt_yes) (fun M_673 S_674 I_668 x_667 s_672 e_669 m_670 c_678 b_671 => by obtain ⟨_, rfl, rfl⟩ := b_671; have am := alw_m m_670; exact (em_methP (pre := pre_Hours_add) (f := f_Hours_add) (y := (addV (mkH (1 : Int) ([([((0 : Int), (86400 : Int))] : List (Int × Int))] : List (List (Int × Int))) []) (5 : Int) x_667)) (b := ((5 : Int), x_667, ())) (em_var (t := (k_Hu K CH)) (v := v_648) (x := (mkH (1 : Int) ([([((0 : Int), (86400 : Int))] : List (Int × Int))] : List (List (Int × Int))) [])) rfl ((k_Hu K CH).up e_669 r_665)) (ob_Hu fun _ _ _ => rfl) (em_cons em_int (em_cons (em_var (t := kI) (v := (.int x_667)) (x := x_667) rfl rfl) em_nil)) args_mG (by exact am.1) (by exact am.2)))) (by rw [filter_yes])) (em_lst K (t := kI) (em_consL em_int (em_consL em_int (em_consL (em_op em_int em_int o_I) em_nilL))) (by simp)) (o_neD (dL dI) (by decide)))) (fun hb_682 o_683 H_681 g_684 w_685 => ?_) (fun hb_687 o_688 H_686 g_689 w_690 => ?_)
      · try simp only [decide_eq_true_eq, decide_eq_false_iff_not, Bool.and_eq_true, Bool.or_eq_true, Bool.and_eq_false_iff, Bool.or_eq_false_iff, Bool.not_eq_true', Bool.not_eq_false'] at hb_682
        have r_691 := (k_Hu K CH).up g_684.im r_665
        have r_692 := (kL K (k2 K (kTold (lawX P w K mg base f cc A outer s H E) cl 12 ag_655) kS)).up g_684.im r_664
        exact absurd o_683 Bool.false_ne_true
      · try simp only [decide_eq_true_eq, decide_eq_false_iff_not, Bool.and_eq_true, Bool.or_eq_true, Bool.and_eq_false_iff, Bool.or_eq_false_iff, Bool.not_eq_true', Bool.not_eq_false'] at hb_687
        have r_693 := (k_Hu K CH).up g_689.im r_665
        have r_694 := (kL K (k2 K (kTold (lawX P w K mg base f cc A outer s H E) cl 12 ag_655) kS)).up g_689.im r_664
        refine g_ret (E := E0) (cl := cl) (t := kB) (x := true) w_690 (em_op (em_eq (em_lcK (em_lc (K := K) (u := k2 K (kTold (lawX P w K mg base f cc A outer s H E) cl 12 ag_655) kS) (fun q => !decide (q.1 = q.2)) (fun q => q) (ei_L (em_var rfl r_694)) (by rw [‹wrong_657 = _›]; decide) eg_name (fun _ _ _ b => by obtain ⟨_, _, rfl⟩ := b; rfl) (fun M2 S2 I2 q σ2 e hq b => by obtain ⟨v2, r2, rfl⟩ := b; exact gt_test (em_op (em_toldB (em_cons (em_op (em_var rfl r2) em_int o_ix20) em_nil) (⟨_, rfl⟩ : ag_655 _)) (em_op (em_var rfl r2) em_int o_ix21) o_neS)) (fun M2 S2 I2 q σ2 e hq hc b => by obtain ⟨v2, r2, rfl⟩ := b; exact em_var rfl r2))) (show _ = [] by simp only [List.map_id']; exact none_666)) (em_noneL (t := k2 K (kTold (lawX P w K mg base f cc A outer s H E) cl 12 ag_655) kS)) o_eqNil) (fun v_695 H_696 g_697 w_698 r_699 => ?_)
        obtain rfl : v_695 = .bl true := r_699
        exact q _
end
end Rw
namespace Rw
open PySem PySem.Spec PyProof.Rows L2 Evl
section
variable {w : Int} {rows : List (List (Int × Int))} {oth : List (Int × List (Int × Int))}
theorem u1 (cx : Cx19 w rows oth) (x : Int) : v_Hours_is_open (mkH w rows oth, 3600 * x, ()) = opB w rows oth x := by
  have e : v_Hours_is_open (mkH w rows oth, 3600 * x, ()) = ((dayL (mkH w rows oth) (3600 * x / 86400)).map fun p => decide (p.1 ≤ 3600 * x % 86400) && decide (3600 * x % 86400 < p.2)).any id := rfl
  have k : (((dayL (mkH w rows oth) (3600 * x / 86400)).map fun p => decide (p.1 ≤ 3600 * x % 86400) && decide (3600 * x % 86400 < p.2)).any id) = true ↔ In (dayL (mkH w rows oth) (3600 * x / 86400)) (3600 * x % 86400) := by
    rw [List.any_map, List.any_eq_true]
    constructor
    · rintro ⟨p, m, h⟩
      simp only [Function.comp, id, Bool.and_eq_true, decide_eq_true_eq] at h
      exact ⟨p, m, h⟩
    · rintro ⟨p, m, h⟩
      exact ⟨p, m, by simp only [Function.comp, id, Bool.and_eq_true, decide_eq_true_eq]; exact h⟩
  rw [e]
  have q : In (dayL (mkH w rows oth) (3600 * x / 86400)) (3600 * x % 86400) ↔ opB w rows oth x = true := by
    rw [show 3600 * x / 86400 = x / 24 by omega, show 3600 * x % 86400 = x % 24 * 3600 by omega, day_raw, tog_in (sph_raw (raw_h cx _)).2.1, opB_in]
  rw [q] at k
  exact Bool.eq_iff_iff.mpr k
theorem u2 (cx : Cx19 w rows oth) : ((rng ((0 : Int) - (100 : Int)) (200 : Int)).filter fun x => !decide (v_Hours_is_open (mkH w rows oth, (3600 : Int) * x, ()) = decide (x ∈ opsL w rows oth))).map (fun x => x) = [] := by
  rw [map_i, List.filter_eq_nil_iff]
  intro x m
  have b := rng_mem.mp m
  rw [u1 cx]
  have : decide (x ∈ opsL w rows oth) = opB w rows oth x := by
    rw [Bool.eq_iff_iff, decide_eq_true_eq, mem_ops]
    exact ⟨fun h => h.2.2, fun h => ⟨by omega, by omega, h⟩⟩
  rw [this]
  simp
theorem u3 (cx : Cx19 w rows oth) {f l : Int} (h : -100 ≤ f) (h2 : l ≤ 200) (k : f ≤ l) : ahV (mkH w rows oth) (3600 * l) - ahV (mkH w rows oth) (3600 * f) = 3600 * ((((opsL w rows oth).filter fun x => decide (f ≤ x) && decide (x < l)).map fun x => x).length : Int) := by
  rw [ah_cnt cx k, ops_cnt (f := f) (l := l) (by omega) k (by omega) fun x _ _ => by rw [Bool.and_eq_true, decide_eq_true_eq, decide_eq_true_eq]]
theorem u4 (cx : Cx19 w rows oth) : ahV (mkH w rows oth) ((3600 : Int) * (30 : Int) + (60 : Int)) = (3600 : Int) * ((((opsL w rows oth).filter fun x => decide ((0 : Int) ≤ x) && decide (x < (30 : Int))).map fun x => x).length : Int) + cond (decide ((30 : Int) ∈ opsL w rows oth)) (60 : Int) (0 : Int) := by
  have a := u3 cx (f := 0) (l := 30) (by omega) (by omega) (by omega)
  have z := ah_0 cx.gd
  have b := ah_in cx 30 60 (by decide)
  have e : decide ((30 : Int) ∈ opsL w rows oth) = opB w rows oth 30 := by
    rw [Bool.eq_iff_iff, decide_eq_true_eq, mem_ops]
    exact ⟨fun h => h.2.2, fun h => ⟨by omega, by omega, h⟩⟩
  rw [e]
  rw [show (3600 : Int) * 0 = 0 from rfl, z] at a
  generalize opB w rows oth 30 = c at *
  rw [show ((60 : Nat) : Int) = 60 from rfl] at b
  cases c <;> simp only [cond_true, cond_false] at * <;> omega
theorem u5 (cx : Cx19 w rows oth) {d : Int} (h : -3 ≤ d) (h2 : d ≤ 3) : v_Hours_in_day (mkH w rows oth, d, ()) = (3600 : Int) * ((((opsL w rows oth).filter fun x => decide (x / (24 : Int) = d)).map fun x => x).length : Int) := by
  rw [inday cx.gd, ← ad_step cx.gd]
  have e : ∀ d, ahV (mkH w rows oth) (86400 * d) = adV (mkH w rows oth) d := fun d => by
    rw [ahV_eq, show 86400 * d / 86400 = d by omega, show 86400 * d % 86400 = 0 by omega, part_0 fun p m => ((dayL_ok cx.gd d).1.2.2 p m).1]
    omega
  have a := ah_cnt cx (f := 24 * d) (l := 24 * (d + 1)) (by omega)
  rw [show 3600 * (24 * (d + 1)) = 86400 * (d + 1) by omega, show 3600 * (24 * d) = 86400 * d by omega, e, e] at a
  rw [a, ops_cnt (f := 24 * d) (l := 24 * (d + 1)) (by omega) (by omega) (by omega) fun x _ _ => by rw [decide_eq_true_eq]; omega]
theorem u6 (cx : Cx19 w rows oth) : v_Hours_in_week (mkH w rows oth, ()) = (flatL (rows.map fun x => (tog x).map fun y => y.2 - y.1)).sum := by
  have k : ∀ (xs : List (List Int)) (acc : List Int), (xs.foldl (fun a b => a ++ b) acc).sum = acc.sum + (xs.map List.sum).sum := fun xs => by
    induction xs with
    | nil => intro acc; simp
    | cons x xs ih => intro acc; rw [List.foldl_cons, ih, List.sum_append, List.map_cons, List.sum_cons]; omega
  rw [show (flatL (rows.map fun x => (tog x).map fun y => y.2 - y.1)).sum = _ from k _ []]
  rw [week_eq]
  have e : ((rng 0 (mkH w rows oth).1).map fun i => v_Hours_in_row (mkH w rows oth, i, ())) = rows.map fun x => lenS (tog x) := by
    refine List.ext_getElem? fun i => ?_
    rw [List.getElem?_map, List.getElem?_map]
    by_cases h : i < rows.length
    · have hw : (i : Int) < w := by have := cx.ln; omega
      have g : (rng 0 w)[i]? = some (i : Int) := by
        have := rng_get (f := w) (i := (i : Int)) ⟨by omega, hw⟩
        rwa [Int.toNat_natCast] at this
      rw [show (rng 0 (mkH w rows oth).1)[i]? = some (i : Int) from g, List.getElem?_eq_getElem h]
      show some _ = some _
      congr 1
      show v_Hours_in_row (mkH w rows oth, (i : Int), ()) = lenS (tog rows[i])
      rw [inrow cx.gd]
      unfold rowL
      show lenS ((atI (rows.map fun x => tog x) (i : Int)).getD []) = _
      rw [at_mapG, atI_nat (v := rows[i]) (List.getElem?_eq_getElem h)]
      rfl
    · rw [List.getElem?_eq_none (by rw [rng_len]; show (w - 0).toNat ≤ i; have := cx.ln; omega), List.getElem?_eq_none (by omega)]
      rfl
  rw [e, List.map_map]
  simp only [List.sum_nil, Int.zero_add]
  rfl
theorem kn2 : (!decide ((kindName 2) = ("time" : Str))) = false := by decide +kernel
theorem kn9 : (!decide ((kindName 9) = ("no day" : Str))) = false := by decide +kernel
theorem and_nd {b : Bool} {p : Prop} [Decidable p] (h : b = true → p) : (b && !decide p) = false := by
  cases b with
  | false => rfl
  | true => rw [decide_eq_true (h rfl)]; rfl
end
theorem m_lawB_ok (z0 : Dice) : Pt (m_lawB z0) := by
  unfold Pt m_lawB
  have wkB := roll_1 (z := z0) (m := 3) (by decide)
  dsimp only [lt]
  have cx := cx_ok wkB (z := (roll z0 3).2) (z' := (runE (fun (_ : Int) (z : Dice) => (true, z)) (fun (_ : Int) (z : Dice) => ((f__law_spans () z).1, (f__law_spans () z).2)) (rng 0 (1 + (roll z0 3).1)) (roll z0 3).2).2)
  generalize hw : 1 + (roll z0 3).1 = week at *
  generalize hr : (runE (fun (_ : Int) (z : Dice) => (true, z)) (fun (_ : Int) (z : Dice) => ((f__law_spans () z).1, (f__law_spans () z).2)) (rng 0 week) (roll z0 3).2).1 = rows at *
  generalize hz : (runE (fun (_ : Int) (z : Dice) => (true, z)) (fun (_ : Int) (z : Dice) => ((f__law_spans () z).1, (f__law_spans () z).2)) (rng 0 week) (roll z0 3).2).2 = z1 at *
  generalize ho : (runE (fun (_ : Int) (z : Dice) => (decide ((roll z 3).1 = 0), (roll z 3).2)) (fun (x : Int) (z : Dice) => ((x, (f__law_spans () z).1), (f__law_spans () z).2)) [(0 : Int) - 2, 1, 4] z1).1 = oth at *
  generalize hz2 : (runE (fun (_ : Int) (z : Dice) => (decide ((roll z 3).1 = 0), (roll z 3).2)) (fun (x : Int) (z : Dice) => ((x, (f__law_spans () z).1), (f__law_spans () z).2)) [(0 : Int) - 2, 1, 4] z1).2 = z2 at *
  have r1 := @roll_100 z2
  generalize (roll z2 200).1 - 100 = f at *
  generalize (roll z2 200).2 = z3 at *
  have r2 := @roll_100 z3
  generalize (roll z3 200).1 - 100 = l at *
  generalize (roll z3 200).2 = z4 at *
  have r3 := roll_in z4 (m := 7) (by decide)
  generalize (roll z4 7).1 = d0 at *
  generalize (roll z4 7).2 = z5 at *
  generalize oe : (((rng ((0 : Int) - ((24 : Int) * (5 : Int))) ((24 : Int) * (12 : Int))).filter _).map _) = ops
  have opE : ops = opsL week rows oth := oe.symm
  rw [opE]
  refine cf (nd (u2 cx)) ?_
  refine cf (and_nd fun k => u3 cx r1.1 (by omega) (of_decide_eq_true k)) ?_
  refine cf (or_ff (by rw [kn2, Bool.and_false]) (nd (u4 cx))) ?_
  refine cf (or_ff (nd (u5 cx (by omega) (by omega))) (nd (day_raw _))) ?_
  refine cf (nd (u6 cx)) ?_
  have rest : ∀ r : Bool, r = true → cond ((decide (((rows.filter (fun (x : (List (Int × Int))) => (!decide (x = ([] : List (Int × Int)))))).map (fun (x : (List (Int × Int))) => x)) = ([] : List (List (Int × Int))))) && (!decide ((kindName 9) = ("no day" : Str)))) false r = true := fun r h => cf (by rw [kn9, Bool.and_false]) h
  have sh : cond ((!decide ((((rng f ((24 : Int) * (11 : Int))).filter (fun (x : Int) => (!decide (x ∈ opsL week rows oth)))).map (fun (x : Int) => x)) = ([] : List Int))) && (!decide ((nsV (mkH week rows oth) ((3600 : Int) * f)) = ((3600 : Int) * ((atI (((rng f ((24 : Int) * (11 : Int))).filter (fun (x : Int) => (!decide (x ∈ opsL week rows oth)))).map (fun (x : Int) => x)) (0 : Int)).getD 0))))) false true = true :=
    cf (and_nd fun k => (get_is (ns_all cx rfl rfl rfl rfl k r1).2).2) rfl
  by_cases hb : (((opsL week rows oth).filter fun x => decide (f ≤ x)).map fun x => x) = ([] : List Int)
  · rw [decide_eq_true hb]
    exact rest _ sh
  · rw [decide_eq_false hb]
    refine cf (nd (get_is (no_all cx rfl rfl rfl rfl hb r1).2).2) ?_
    have mu := roll_in z5 (m := ((((opsL week rows oth).filter fun x => decide (f ≤ x)).map fun x => x).length : Int)) (by have := List.length_pos_iff.mpr hb; omega)
    exact cf (nd (get_is (add_all cx rfl rfl rfl rfl mu r1).2).2) (rest _ sh)
end Rw
namespace Rw
open PySem PySem.Spec PyProof.Rows L2 Evl
local macro_rules | `(tactic| walk_at "sq") => `(tactic| first | assumption | exact SqL.of (by assumption) | exact SqT.of (by assumption))
local macro_rules | `(tactic| walk_at "at") => `(tactic| first | exact atI_nat (j := 0) rfl | exact atI_nat (j := 1) rfl | exact atI_nat (j := 2) rfl | exact atI_nat (j := 3) rfl)
local macro_rules | `(tactic| walk_at "rv") => `(tactic| first
  | with_reducible exact rv_I0
  | ((with_reducible refine' rv_I ?k1); (case k1 => first | (show (0 : Int) < _; omega) | exact ⟨by omega, by omega⟩ | exact .inr ⟨by omega, by omega⟩ | exact .inl ⟨by omega, by omega⟩ | exact ⟨by decide, by decide, by decide⟩))
  | ((with_reducible refine' rv_eq ?k1); (case k1 => exact rfl))
  | ((with_reducible refine' rv_ne ?k1); (case k1 => exact rfl))
  | (refine' rv_ixL ?k1 ?k2; (case k1 => walk_at "sq"); (case k2 => walk_at "at"))
  | (refine' rv_ixT ?k1 ?k2; (case k1 => walk_at "sq"); (case k2 => walk_at "at")))
local macro_rules | `(tactic| walk_at "rc") => `(tactic| first | exact rc_int1 | exact rc_int1b | exact rc_abs)
local macro_rules | `(tactic| walk_at "ea") => `(tactic| first
  | with_reducible exact ea_nil
  | ((with_reducible refine' ea_cons ?k1 ?k2); (case k1 => walk_at "ev"); (case k2 => walk_at "ea")))
local macro_rules | `(tactic| walk_at "ev") => `(tactic| first
  | with_reducible exact ev_c
  | ((with_reducible refine' ev_var ?k1); (case k1 => exact rfl))
  | ((with_reducible refine' ev_op ?k1 ?k2 ?k3); (case k1 => walk_at "ev"); (case k2 => walk_at "ev"); (case k3 => walk_at "rv"))
  | ((with_reducible refine' et_chain ?k1 ?k2 ?k3 ?k4 ?k5); (case k1 => walk_at "ev"); (case k2 => walk_at "ev"); (case k3 => (intro _; walk_at "ev")); (case k4 => walk_at "rv"); (case k5 => (intro _; walk_at "rv")))
  | ((with_reducible refine' ev_cb ?k1 ?k2); (case k1 => walk_at "ea"); (case k2 => walk_at "rc")))
local macro_rules | `(tactic| walk_at "et") => `(tactic| first
  | ((with_reducible refine' et_test ?k1); (case k1 => walk_at "ev"))
  | ((with_reducible refine' et_B ?k1); (case k1 => walk_at "ev"))
  | ((with_reducible refine' et_and ?k1 ?k2); (case k1 => walk_at "et"); (case k2 => (intro _; walk_at "et")))
  | ((with_reducible refine' et_or ?k1 ?k2); (case k1 => walk_at "et"); (case k2 => (intro _; walk_at "et")))
  | ((with_reducible refine' et_not ?k1); (case k1 => walk_at "et")))
section
variable {P : Program} {w : World} {K : PySem.W.Frag} {mg : Str → Option Value} {base : Heap}
theorem ok_rollX {f : Addr} {fd : FuncData} (F : Fun K "_law_roll" "_law_roll" sRoll f fd) (B : Blt mg) : FnOk P w K mg base (L2.CX P w) 1 f fd ["dice", "many"] spRollX := by
  refine F.okX scRoll (fun vs H Q E h => ?_) (fun cdv A outer s H vs Q E hr h => ?_)
  · obtain ⟨d, x, m, rfl, _⟩ := h
    rfl
  · obtain ⟨d, ⟨a, b, c⟩, m, rfl, hd, h0, h1, q⟩ := h
    have hd : H d = some (.lst [.int a, .int b, .int c]) := hd
    refine ⟨_, pss_cons (ps_if (PW.pt (pw_or (pt_cmpR op_eq (pe_ix ix_list (pv 0) pe_int (fun _ _ => rfl)) pe_int (nomark _)) (pw_or1 (PW.pt (pw_and (pt_cmpR op_eq (pe_ix ix_list (pv 0) pe_int (fun _ _ => rfl)) pe_int (nomark _)) (pw_and1 (pt_cmpR op_gt (pe_ix ix_list (pv 0) pe_int (fun _ _ => rfl)) pe_int (nomark _))))))))
        (pss_cons (ps_set (i := 2) scRoll.nd rfl (.inl rfl) (pe_op op_mod (pe_callTy call_int1 (by rfl) B.int (by decide +kernel) (pa_cons (pe_ix ix_list (pv 0) pe_int (fun _ _ => rfl)) pa_nil)) (pv 1)))
        (pss_cons (ps_asg (pe_op op_fdiv (pe_ix ix_list (pv 0) pe_int (fun _ _ => rfl)) (pv 1)) (pg_sub (pv 0) pe_int set_list))
        (pss_one (ps_ret (pv 2))))) pss_nil)
      (pss_cons (ps_asg pe_int (pg_sub (pv 0) pe_int set_list))
      (pss_cons (ps_asg (pe_op op_mod (pe_callTy call_int1 (by rfl) B.int (by decide +kernel) (pa_cons (pe_op op_add (pe_op op_add (pe_op op_mul (pe_ix ix_list (pv 0) pe_int (fun _ _ => rfl)) pe_int) (pe_op op_mul (pe_ix ix_list (pv 0) pe_int (fun _ _ => rfl)) pe_int)) pe_int) pa_nil)) pe_int) (pg_sub (pv 0) pe_int set_list))
      (pss_cons (ps_asg (pe_op op_add (pe_ix ix_list (pv 0) pe_int (fun _ _ => rfl)) pe_int) (pg_sub (pv 0) pe_int set_list))
      (pss_one (ps_ret (pe_op op_mod (pe_callTy call_int1 (by rfl) B.int (by decide +kernel) (pa_cons (pe_op op_add (pe_op op_fdiv (pe_ix ix_list (pv 0) pe_int (fun _ _ => rfl)) pe_int) (pe_ix ix_list (pv 0) pe_int (fun _ _ => rfl))) pa_nil)) (pv 1))))))), ?_⟩
    refine q_when (b := decide (c = 2) || (decide (c = 1) && decide (0 < a))) (et_is (by walk_at "et") (by congr 1 <;> simp)) (fun hb H1 e1 => ?_) (fun hb H1 e1 => ?_)
    · have hd1 := e1 d _ hd
      refine q_asg (by walk_at "ev") fun H2 e2 => ?_
      have hd2 := e2 d _ hd1
      refine q_setL (j := 0) hd2 (by walk_at "ev") (by walk_at "ev") (by exact ev_c) (by show 0 < 3; decide) fun H3 e3 => ?_
      refine s_ret (by walk_at "ev") fun H4 e4 => ?_
      have er : roll (a, b, c) m = (a % m, (a / m, b, c)) := by unfold roll; rw [if_pos hb]
      rw [er] at q
      exact q H4 (((ExB.of ((e1.trans e2).trans e3)).upd).ex e4) (e4 d _ upd_same)
    · have hd1 := e1 d _ hd
      refine q_setL (j := 2) hd1 (by walk_at "ev") (by walk_at "ev") (by exact ev_c) (by show 2 < 3; decide) fun H2 e2 => ?_
      have hd2 : upd H2 d (.lst [.int a, .int b, .int 0]) d = some _ := upd_same
      refine q_setL (xs := [.int a, .int b, .int 0]) (j := 0) hd2 (by walk_at "ev") (by walk_at "ev") (by exact ev_c) (by show 0 < 3; decide) fun H3 e3 => ?_
      have b1 : ExB d H (upd H2 d (.lst [.int a, .int b, .int 0])) := (ExB.of (e1.trans e2)).upd
      generalize hz : (a * 48271 + b * 69621 + 11) % 2147483647 = z
      have hd3 : upd H3 d (.lst [.int z, .int b, .int 0]) d = some _ := upd_same
      refine q_setL (xs := [.int z, .int b, .int 0]) (j := 1) hd3 (by walk_at "ev") (by walk_at "ev") (by exact ev_c) (by show 1 < 3; decide) fun H4 e4 => ?_
      have b2 : ExB d H (upd H3 d (.lst [.int z, .int b, .int 0])) := (b1.ex e3).upd
      have hd4 : upd H4 d (.lst [.int z, .int (b + 1), .int 0]) d = some _ := upd_same
      have b3 : ExB d H (upd H4 d (.lst [.int z, .int (b + 1), .int 0])) := (b2.ex e4).upd
      refine s_ret (v := .int ((z / 7 + z) % m)) (by walk_at "ev") fun H5 e5 => ?_
      have er : roll (a, b, c) m = ((z / 7 + z) % m, (z, b + 1, 0)) := by unfold roll; rw [if_neg (by rw [hb]; decide), ← hz]
      rw [er] at q
      exact q H5 (b3.ex e5) (e5 d _ hd4)
end
end Rw
namespace Rw
open PySem PySem.Spec PyProof.Rows L2 Evl
/-- an error of the class at S is what «except S» names, and none of the classes before it -/
def exRow (K : PySem.W.Frag) (C : Addr) (before : List Addr) : Bool := decide (PySem.W.exmOne K (.ref C) (.ref C) = some true) && before.all fun b => decide (PySem.W.exmOne K (.ref C) (.ref b) = some false)
def cOf (l : List Addr) (i : Nat) : Addr := l.getD i 0
theorem exRow_self {K : PySem.W.Frag} {C : Addr} {l : List Addr} (h : exRow K C l = true) : PySem.W.exmOne K (.ref C) (.ref C) = some true := by
  unfold exRow at h
  exact of_decide_eq_true (Bool.and_eq_true_iff.mp h).1
theorem exRow_mem {K : PySem.W.Frag} {C b : Addr} {l : List Addr} (h : exRow K C l = true) (hb : b ∈ l) : PySem.W.exmOne K (.ref C) (.ref b) = some false := by
  unfold exRow at h
  exact of_decide_eq_true (List.all_eq_true.mp (Bool.and_eq_true_iff.mp h).2 b hb)
section
variable {P : Program} {w : World} {K : PySem.W.Frag} {mg : Str → Option Value} {base : Heap}
theorem cal_of {x : Str} {k : Nat} {sp : Sp} {st : Stmt} {f : Addr} {fd : FuncData} {ps : List Str} (F : Fun K x x st f fd) (hm : mg x = some (.ref f)) (ok : FnOk P w K mg base (L2.CX P w) k f fd ps sp) (b : Binds K fd ps []) : Cal P w K mg base k x sp [] :=
  ⟨f, fd, ps, [], hm, F.kp, ok, b, .nil⟩
theorem mt_of {m q : Str} {k : Nat} {C : Addr} {sp : Sp} {st : Stmt} {f : Addr} {fd : FuncData} {ps : List Str} (c : Cls K C) (me : Meth K C m f) (F : Fun K m q st f fd) (ok : FnOk P w K mg base (L2.CX P w) k f fd ps sp) (b : Binds K fd ps []) : Mt P w K mg base k C m sp [] :=
  ⟨f, fd, ps, [], c, me, ok, b, .nil⟩
theorem nw_of {x m q : Str} {k : Nat} {C : Addr} {sp : Sp} {st : Stmt} {f : Addr} {fd : FuncData} {ps : List Str} (M : Mk K C f) (hm : mg x = some (.ref C)) (F : Fun K m q st f fd) (ok : FnOk P w K mg base (L2.CX P w) k f fd ps sp) (b : Binds K fd ps []) : Nw P w K mg base k x C sp [] :=
  ⟨f, fd, ps, [], M, hm, ok, b, .nil⟩
end
theorem all_mk {P : Program} {w : World} {K : PySem.W.Frag} {h : Heap} {mg : Str → Option Value} {C0 C1 C2 C3 C4 C5 C6 C7 C8 C9 C10 f_check_span f_together f_total f_day_spans f__law_dice f__law_roll f__law_rounds f__law_told f__law_flat f__law_spans CH f_Hours_init f_Hours_of_day f_Hours_is_open f_Hours_in_week f_Hours_in_day f_Hours_in_row f_Hours_ahead f_Hours_ahead_of_day f_Hours_between f_Hours_gone f_Hours_time_by f_Hours_next_open f_Hours_next_shut f_Hours_add fL fa : Addr} (X : K.In h) (G : h.Ns mainGlobals mg) (hfa : mg "law" = some (.ref fa)) (own : LamX.OwnTab K fa h)
    {od_check_span an_check_span : Option Addr} {sl_check_span : Array (Option Value)} {oc_check_span kV_check_span dc_check_span pm_check_span cd_check_span ct_check_span : Value}
    {od_together an_together : Option Addr} {sl_together : Array (Option Value)} {oc_together kV_together dc_together pm_together cd_together ct_together : Value}
    {od_total an_total : Option Addr} {sl_total : Array (Option Value)} {oc_total kV_total dc_total pm_total cd_total ct_total : Value}
    {od_day_spans an_day_spans : Option Addr} {sl_day_spans : Array (Option Value)} {oc_day_spans kV_day_spans dc_day_spans pm_day_spans cd_day_spans ct_day_spans : Value}
    {od__law_dice an__law_dice : Option Addr} {sl__law_dice : Array (Option Value)} {oc__law_dice kV__law_dice dc__law_dice pm__law_dice cd__law_dice ct__law_dice : Value}
    {od__law_roll an__law_roll : Option Addr} {sl__law_roll : Array (Option Value)} {oc__law_roll kV__law_roll dc__law_roll pm__law_roll cd__law_roll ct__law_roll : Value}
    {od__law_rounds an__law_rounds : Option Addr} {sl__law_rounds : Array (Option Value)} {oc__law_rounds kV__law_rounds dc__law_rounds pm__law_rounds cd__law_rounds ct__law_rounds : Value}
    {od__law_told an__law_told : Option Addr} {sl__law_told : Array (Option Value)} {oc__law_told kV__law_told dc__law_told pm__law_told cd__law_told ct__law_told : Value}
    {od__law_flat an__law_flat : Option Addr} {sl__law_flat : Array (Option Value)} {oc__law_flat kV__law_flat dc__law_flat pm__law_flat cd__law_flat ct__law_flat : Value}
    {od__law_spans an__law_spans : Option Addr} {sl__law_spans : Array (Option Value)} {oc__law_spans kV__law_spans dc__law_spans pm__law_spans cd__law_spans ct__law_spans : Value}
    {od_Hours_init an_Hours_init : Option Addr} {sl_Hours_init : Array (Option Value)} {oc_Hours_init kV_Hours_init dc_Hours_init pm_Hours_init cd_Hours_init ct_Hours_init : Value}
    {T_Hours_init : Addr} {oT_Hours_init : Obj}  {nT_Hours_init : Nat}
    {od_Hours_of_day an_Hours_of_day : Option Addr} {sl_Hours_of_day : Array (Option Value)} {oc_Hours_of_day kV_Hours_of_day dc_Hours_of_day pm_Hours_of_day cd_Hours_of_day ct_Hours_of_day : Value}
    {od_Hours_is_open an_Hours_is_open : Option Addr} {sl_Hours_is_open : Array (Option Value)} {oc_Hours_is_open kV_Hours_is_open dc_Hours_is_open pm_Hours_is_open cd_Hours_is_open ct_Hours_is_open : Value}
    {od_Hours_in_week an_Hours_in_week : Option Addr} {sl_Hours_in_week : Array (Option Value)} {oc_Hours_in_week kV_Hours_in_week dc_Hours_in_week pm_Hours_in_week cd_Hours_in_week ct_Hours_in_week : Value}
    {od_Hours_in_day an_Hours_in_day : Option Addr} {sl_Hours_in_day : Array (Option Value)} {oc_Hours_in_day kV_Hours_in_day dc_Hours_in_day pm_Hours_in_day cd_Hours_in_day ct_Hours_in_day : Value}
    {od_Hours_in_row an_Hours_in_row : Option Addr} {sl_Hours_in_row : Array (Option Value)} {oc_Hours_in_row kV_Hours_in_row dc_Hours_in_row pm_Hours_in_row cd_Hours_in_row ct_Hours_in_row : Value}
    {od_Hours_ahead an_Hours_ahead : Option Addr} {sl_Hours_ahead : Array (Option Value)} {oc_Hours_ahead kV_Hours_ahead dc_Hours_ahead pm_Hours_ahead cd_Hours_ahead ct_Hours_ahead : Value}
    {od_Hours_ahead_of_day an_Hours_ahead_of_day : Option Addr} {sl_Hours_ahead_of_day : Array (Option Value)} {oc_Hours_ahead_of_day kV_Hours_ahead_of_day dc_Hours_ahead_of_day pm_Hours_ahead_of_day cd_Hours_ahead_of_day ct_Hours_ahead_of_day : Value}
    {od_Hours_between an_Hours_between : Option Addr} {sl_Hours_between : Array (Option Value)} {oc_Hours_between kV_Hours_between dc_Hours_between pm_Hours_between cd_Hours_between ct_Hours_between : Value}
    {od_Hours_gone an_Hours_gone : Option Addr} {sl_Hours_gone : Array (Option Value)} {oc_Hours_gone kV_Hours_gone dc_Hours_gone pm_Hours_gone cd_Hours_gone ct_Hours_gone : Value}
    {od_Hours_time_by an_Hours_time_by : Option Addr} {sl_Hours_time_by : Array (Option Value)} {oc_Hours_time_by kV_Hours_time_by dc_Hours_time_by pm_Hours_time_by cd_Hours_time_by ct_Hours_time_by : Value}
    {od_Hours_next_open an_Hours_next_open : Option Addr} {sl_Hours_next_open : Array (Option Value)} {oc_Hours_next_open kV_Hours_next_open dc_Hours_next_open pm_Hours_next_open cd_Hours_next_open ct_Hours_next_open : Value}
    {od_Hours_next_shut an_Hours_next_shut : Option Addr} {sl_Hours_next_shut : Array (Option Value)} {oc_Hours_next_shut kV_Hours_next_shut dc_Hours_next_shut pm_Hours_next_shut cd_Hours_next_shut ct_Hours_next_shut : Value}
    {od_Hours_add an_Hours_add : Option Addr} {sl_Hours_add : Array (Option Value)} {oc_Hours_add kV_Hours_add dc_Hours_add pm_Hours_add cd_Hours_add ct_Hours_add : Value}
    {tk_DAY : Tok}
    {od_L an_L : Option Addr} {sl_L : Array (Option Value)} {oc_L kV_L dc_L pm_L ct_L : Value} {cc PT : Addr} {eC : Value} {dC : Option Addr} {vC : Array Value} {sC : Array (Option Value)}
    (e0 : PySem.W.nsIn K mainGlobals "BadCalendar" = some (some (.ref C0)))
    (ex0 : PySem.W.excIn K C0 [.type "ValueError", .type "Exception", .type "BaseException", .type "object"] "ValueError.__new__" = true)
    (ek0 : PySem.W.keepIn K (.ref C0) = true)
    (eb0 : PySem.W.subIn K (.ref C0) (.type "BaseException") = some true)
    (et0 : PySem.W.typeIn K (.ref C0) = some (.type "type"))
    (e1 : PySem.W.nsIn K mainGlobals "BadDay" = some (some (.ref C1)))
    (ex1 : PySem.W.excIn K C1 [.type "ValueError", .type "Exception", .type "BaseException", .type "object"] "ValueError.__new__" = true)
    (ek1 : PySem.W.keepIn K (.ref C1) = true)
    (eb1 : PySem.W.subIn K (.ref C1) (.type "BaseException") = some true)
    (et1 : PySem.W.typeIn K (.ref C1) = some (.type "type"))
    (e2 : PySem.W.nsIn K mainGlobals "BadTime" = some (some (.ref C2)))
    (ex2 : PySem.W.excIn K C2 [.type "ValueError", .type "Exception", .type "BaseException", .type "object"] "ValueError.__new__" = true)
    (ek2 : PySem.W.keepIn K (.ref C2) = true)
    (eb2 : PySem.W.subIn K (.ref C2) (.type "BaseException") = some true)
    (et2 : PySem.W.typeIn K (.ref C2) = some (.type "type"))
    (e3 : PySem.W.nsIn K mainGlobals "BadRule" = some (some (.ref C3)))
    (ex3 : PySem.W.excIn K C3 [.type "ValueError", .type "Exception", .type "BaseException", .type "object"] "ValueError.__new__" = true)
    (ek3 : PySem.W.keepIn K (.ref C3) = true)
    (eb3 : PySem.W.subIn K (.ref C3) (.type "BaseException") = some true)
    (et3 : PySem.W.typeIn K (.ref C3) = some (.type "type"))
    (e4 : PySem.W.nsIn K mainGlobals "BadZone" = some (some (.ref C4)))
    (ex4 : PySem.W.excIn K C4 [.type "ValueError", .type "Exception", .type "BaseException", .type "object"] "ValueError.__new__" = true)
    (ek4 : PySem.W.keepIn K (.ref C4) = true)
    (eb4 : PySem.W.subIn K (.ref C4) (.type "BaseException") = some true)
    (et4 : PySem.W.typeIn K (.ref C4) = some (.type "type"))
    (e5 : PySem.W.nsIn K mainGlobals "BadSize" = some (some (.ref C5)))
    (ex5 : PySem.W.excIn K C5 [.type "ValueError", .type "Exception", .type "BaseException", .type "object"] "ValueError.__new__" = true)
    (ek5 : PySem.W.keepIn K (.ref C5) = true)
    (eb5 : PySem.W.subIn K (.ref C5) (.type "BaseException") = some true)
    (et5 : PySem.W.typeIn K (.ref C5) = some (.type "type"))
    (e6 : PySem.W.nsIn K mainGlobals "BadPaper" = some (some (.ref C6)))
    (ex6 : PySem.W.excIn K C6 [.type "ValueError", .type "Exception", .type "BaseException", .type "object"] "ValueError.__new__" = true)
    (ek6 : PySem.W.keepIn K (.ref C6) = true)
    (eb6 : PySem.W.subIn K (.ref C6) (.type "BaseException") = some true)
    (et6 : PySem.W.typeIn K (.ref C6) = some (.type "type"))
    (e7 : PySem.W.nsIn K mainGlobals "BadText" = some (some (.ref C7)))
    (ex7 : PySem.W.excIn K C7 [.type "ValueError", .type "Exception", .type "BaseException", .type "object"] "ValueError.__new__" = true)
    (ek7 : PySem.W.keepIn K (.ref C7) = true)
    (eb7 : PySem.W.subIn K (.ref C7) (.type "BaseException") = some true)
    (et7 : PySem.W.typeIn K (.ref C7) = some (.type "type"))
    (e8 : PySem.W.nsIn K mainGlobals "BadStore" = some (some (.ref C8)))
    (ex8 : PySem.W.excIn K C8 [.type "ValueError", .type "Exception", .type "BaseException", .type "object"] "ValueError.__new__" = true)
    (ek8 : PySem.W.keepIn K (.ref C8) = true)
    (eb8 : PySem.W.subIn K (.ref C8) (.type "BaseException") = some true)
    (et8 : PySem.W.typeIn K (.ref C8) = some (.type "type"))
    (e9 : PySem.W.nsIn K mainGlobals "NoDay" = some (some (.ref C9)))
    (ex9 : PySem.W.excIn K C9 [.type "ValueError", .type "Exception", .type "BaseException", .type "object"] "ValueError.__new__" = true)
    (ek9 : PySem.W.keepIn K (.ref C9) = true)
    (eb9 : PySem.W.subIn K (.ref C9) (.type "BaseException") = some true)
    (et9 : PySem.W.typeIn K (.ref C9) = some (.type "type"))
    (e10 : PySem.W.nsIn K mainGlobals "NoSuch" = some (some (.ref C10)))
    (ex10 : PySem.W.excIn K C10 [.type "ValueError", .type "Exception", .type "BaseException", .type "object"] "ValueError.__new__" = true)
    (ek10 : PySem.W.keepIn K (.ref C10) = true)
    (eb10 : PySem.W.subIn K (.ref C10) (.type "BaseException") = some true)
    (et10 : PySem.W.typeIn K (.ref C10) = some (.type "type"))
    (em0 : exRow K C0 [] = true)
    (em1 : exRow K C1 [C0] = true)
    (em2 : exRow K C2 [C0, C1] = true)
    (em3 : exRow K C3 [C0, C1, C2] = true)
    (em4 : exRow K C4 [C0, C1, C2, C3] = true)
    (em5 : exRow K C5 [C0, C1, C2, C3, C4] = true)
    (em6 : exRow K C6 [C0, C1, C2, C3, C4, C5] = true)
    (em7 : exRow K C7 [C0, C1, C2, C3, C4, C5, C6] = true)
    (em8 : exRow K C8 [C0, C1, C2, C3, C4, C5, C6, C7] = true)
    (em9 : exRow K C9 [C0, C1, C2, C3, C4, C5, C6, C7, C8] = true)
    (em10 : exRow K C10 [C0, C1, C2, C3, C4, C5, C6, C7, C8, C9] = true)
    (a_check_span : PySem.W.nsIn K mainGlobals "check_span" = some (some (.ref f_check_span)))
    (l_check_span : K.lookup f_check_span = some ⟨oc_check_span, od_check_span, .func (PySem.W.fnOf "check_span" "check_span" (defArgs s_check_span) (defBody s_check_span) (defScope s_check_span) .none kV_check_span dc_check_span pm_check_span an_check_span cd_check_span ct_check_span), sl_check_span⟩)
    (c_check_span : PySem.W.codeIn K cd_check_span "check_span" = true)
    (k_check_span : PySem.W.keepIn K (.ref f_check_span) = true)
    (a_together : PySem.W.nsIn K mainGlobals "together" = some (some (.ref f_together)))
    (l_together : K.lookup f_together = some ⟨oc_together, od_together, .func (PySem.W.fnOf "together" "together" (defArgs s_together) (defBody s_together) (defScope s_together) .none kV_together dc_together pm_together an_together cd_together ct_together), sl_together⟩)
    (c_together : PySem.W.codeIn K cd_together "together" = true)
    (k_together : PySem.W.keepIn K (.ref f_together) = true)
    (a_total : PySem.W.nsIn K mainGlobals "total" = some (some (.ref f_total)))
    (l_total : K.lookup f_total = some ⟨oc_total, od_total, .func (PySem.W.fnOf "total" "total" (defArgs s_total) (defBody s_total) (defScope s_total) .none kV_total dc_total pm_total an_total cd_total ct_total), sl_total⟩)
    (c_total : PySem.W.codeIn K cd_total "total" = true)
    (k_total : PySem.W.keepIn K (.ref f_total) = true)
    (a_day_spans : PySem.W.nsIn K mainGlobals "day_spans" = some (some (.ref f_day_spans)))
    (l_day_spans : K.lookup f_day_spans = some ⟨oc_day_spans, od_day_spans, .func (PySem.W.fnOf "day_spans" "day_spans" (defArgs s_day_spans) (defBody s_day_spans) (defScope s_day_spans) .none kV_day_spans dc_day_spans pm_day_spans an_day_spans cd_day_spans ct_day_spans), sl_day_spans⟩)
    (c_day_spans : PySem.W.codeIn K cd_day_spans "day_spans" = true)
    (k_day_spans : PySem.W.keepIn K (.ref f_day_spans) = true)
    (a__law_dice : PySem.W.nsIn K mainGlobals "_law_dice" = some (some (.ref f__law_dice)))
    (l__law_dice : K.lookup f__law_dice = some ⟨oc__law_dice, od__law_dice, .func (PySem.W.fnOf "_law_dice" "_law_dice" (defArgs sDice) (defBody sDice) (defScope sDice) .none kV__law_dice dc__law_dice pm__law_dice an__law_dice cd__law_dice ct__law_dice), sl__law_dice⟩)
    (c__law_dice : PySem.W.codeIn K cd__law_dice "_law_dice" = true)
    (k__law_dice : PySem.W.keepIn K (.ref f__law_dice) = true)
    (a__law_roll : PySem.W.nsIn K mainGlobals "_law_roll" = some (some (.ref f__law_roll)))
    (l__law_roll : K.lookup f__law_roll = some ⟨oc__law_roll, od__law_roll, .func (PySem.W.fnOf "_law_roll" "_law_roll" (defArgs sRoll) (defBody sRoll) (defScope sRoll) .none kV__law_roll dc__law_roll pm__law_roll an__law_roll cd__law_roll ct__law_roll), sl__law_roll⟩)
    (c__law_roll : PySem.W.codeIn K cd__law_roll "_law_roll" = true)
    (k__law_roll : PySem.W.keepIn K (.ref f__law_roll) = true)
    (a__law_rounds : PySem.W.nsIn K mainGlobals "_law_rounds" = some (some (.ref f__law_rounds)))
    (l__law_rounds : K.lookup f__law_rounds = some ⟨oc__law_rounds, od__law_rounds, .func (PySem.W.fnOf "_law_rounds" "_law_rounds" (defArgs sRounds) (defBody sRounds) (defScope sRounds) .none kV__law_rounds dc__law_rounds pm__law_rounds an__law_rounds cd__law_rounds ct__law_rounds), sl__law_rounds⟩)
    (c__law_rounds : PySem.W.codeIn K cd__law_rounds "_law_rounds" = true)
    (k__law_rounds : PySem.W.keepIn K (.ref f__law_rounds) = true)
    (a__law_told : PySem.W.nsIn K mainGlobals "_law_told" = some (some (.ref f__law_told)))
    (l__law_told : K.lookup f__law_told = some ⟨oc__law_told, od__law_told, .func (PySem.W.fnOf "_law_told" "_law_told" (defArgs sTold) (defBody sTold) (defScope sTold) .none kV__law_told dc__law_told pm__law_told an__law_told cd__law_told ct__law_told), sl__law_told⟩)
    (c__law_told : PySem.W.codeIn K cd__law_told "_law_told" = true)
    (k__law_told : PySem.W.keepIn K (.ref f__law_told) = true)
    (a__law_flat : PySem.W.nsIn K mainGlobals "_law_flat" = some (some (.ref f__law_flat)))
    (l__law_flat : K.lookup f__law_flat = some ⟨oc__law_flat, od__law_flat, .func (PySem.W.fnOf "_law_flat" "_law_flat" (defArgs s__law_flat) (defBody s__law_flat) (defScope s__law_flat) .none kV__law_flat dc__law_flat pm__law_flat an__law_flat cd__law_flat ct__law_flat), sl__law_flat⟩)
    (c__law_flat : PySem.W.codeIn K cd__law_flat "_law_flat" = true)
    (k__law_flat : PySem.W.keepIn K (.ref f__law_flat) = true)
    (a__law_spans : PySem.W.nsIn K mainGlobals "_law_spans" = some (some (.ref f__law_spans)))
    (l__law_spans : K.lookup f__law_spans = some ⟨oc__law_spans, od__law_spans, .func (PySem.W.fnOf "_law_spans" "_law_spans" (defArgs s__law_spans) (defBody s__law_spans) (defScope s__law_spans) .none kV__law_spans dc__law_spans pm__law_spans an__law_spans cd__law_spans ct__law_spans), sl__law_spans⟩)
    (c__law_spans : PySem.W.codeIn K cd__law_spans "_law_spans" = true)
    (k__law_spans : PySem.W.keepIn K (.ref f__law_spans) = true)
    (a_Hours : PySem.W.nsIn K mainGlobals "Hours" = some (some (.ref CH)))
    (pg_Hours : PySem.W.plainGet K CH Str.empty = true)
    (hd_Hours : PySem.W.hasDictIn K CH = true)
    (po_Hours : PySem.W.plainOver K CH = true)
    (sa_Hours : PySem.W.findIn K (.ref CH) "__setattr__" = some (some (.builtin "object.__setattr__")))
    (kc_Hours : PySem.W.keepIn K (.ref CH) = true)
    (mk_Hours : PySem.W.makesIn K CH = true)
    (n_Hours_week : PySem.W.findIn K (.ref CH) "week" = some none)
    (n_Hours_rows : PySem.W.findIn K (.ref CH) "rows" = some none)
    (n_Hours_others : PySem.W.findIn K (.ref CH) "others" = some none)
    (m_Hours_init : PySem.W.findIn K (.ref CH) "__init__" = some (some (.ref f_Hours_init)))
    (i_Hours_init : PySem.W.isFn K (.ref f_Hours_init) = true)
    (l_Hours_init : K.lookup f_Hours_init = some ⟨oc_Hours_init, od_Hours_init, .func (PySem.W.fnOf "__init__" "Hours.__init__" (defArgs s_Hours_init) (defBody s_Hours_init) (defScope s_Hours_init) (.ref T_Hours_init) kV_Hours_init dc_Hours_init pm_Hours_init an_Hours_init cd_Hours_init ct_Hours_init), sl_Hours_init⟩)
    (c_Hours_init : PySem.W.codeIn K cd_Hours_init "Hours.__init__" = true)
    (k_Hours_init : PySem.W.keepIn K (.ref f_Hours_init) = true)
    (lT_Hours_init : K.lookup T_Hours_init = some oT_Hours_init)
    (dT_Hours_init : oT_Hours_init.data = .seq #[.none] nT_Hours_init)
    (m_Hours_of_day : PySem.W.findIn K (.ref CH) "of_day" = some (some (.ref f_Hours_of_day)))
    (i_Hours_of_day : PySem.W.isFn K (.ref f_Hours_of_day) = true)
    (l_Hours_of_day : K.lookup f_Hours_of_day = some ⟨oc_Hours_of_day, od_Hours_of_day, .func (PySem.W.fnOf "of_day" "Hours.of_day" (defArgs s_Hours_of_day) (defBody s_Hours_of_day) (defScope s_Hours_of_day) .none kV_Hours_of_day dc_Hours_of_day pm_Hours_of_day an_Hours_of_day cd_Hours_of_day ct_Hours_of_day), sl_Hours_of_day⟩)
    (c_Hours_of_day : PySem.W.codeIn K cd_Hours_of_day "Hours.of_day" = true)
    (k_Hours_of_day : PySem.W.keepIn K (.ref f_Hours_of_day) = true)
    (m_Hours_is_open : PySem.W.findIn K (.ref CH) "is_open" = some (some (.ref f_Hours_is_open)))
    (i_Hours_is_open : PySem.W.isFn K (.ref f_Hours_is_open) = true)
    (l_Hours_is_open : K.lookup f_Hours_is_open = some ⟨oc_Hours_is_open, od_Hours_is_open, .func (PySem.W.fnOf "is_open" "Hours.is_open" (defArgs s_Hours_is_open) (defBody s_Hours_is_open) (defScope s_Hours_is_open) .none kV_Hours_is_open dc_Hours_is_open pm_Hours_is_open an_Hours_is_open cd_Hours_is_open ct_Hours_is_open), sl_Hours_is_open⟩)
    (c_Hours_is_open : PySem.W.codeIn K cd_Hours_is_open "Hours.is_open" = true)
    (k_Hours_is_open : PySem.W.keepIn K (.ref f_Hours_is_open) = true)
    (m_Hours_in_week : PySem.W.findIn K (.ref CH) "in_week" = some (some (.ref f_Hours_in_week)))
    (i_Hours_in_week : PySem.W.isFn K (.ref f_Hours_in_week) = true)
    (l_Hours_in_week : K.lookup f_Hours_in_week = some ⟨oc_Hours_in_week, od_Hours_in_week, .func (PySem.W.fnOf "in_week" "Hours.in_week" (defArgs s_Hours_in_week) (defBody s_Hours_in_week) (defScope s_Hours_in_week) .none kV_Hours_in_week dc_Hours_in_week pm_Hours_in_week an_Hours_in_week cd_Hours_in_week ct_Hours_in_week), sl_Hours_in_week⟩)
    (c_Hours_in_week : PySem.W.codeIn K cd_Hours_in_week "Hours.in_week" = true)
    (k_Hours_in_week : PySem.W.keepIn K (.ref f_Hours_in_week) = true)
    (m_Hours_in_day : PySem.W.findIn K (.ref CH) "in_day" = some (some (.ref f_Hours_in_day)))
    (i_Hours_in_day : PySem.W.isFn K (.ref f_Hours_in_day) = true)
    (l_Hours_in_day : K.lookup f_Hours_in_day = some ⟨oc_Hours_in_day, od_Hours_in_day, .func (PySem.W.fnOf "in_day" "Hours.in_day" (defArgs s_Hours_in_day) (defBody s_Hours_in_day) (defScope s_Hours_in_day) .none kV_Hours_in_day dc_Hours_in_day pm_Hours_in_day an_Hours_in_day cd_Hours_in_day ct_Hours_in_day), sl_Hours_in_day⟩)
    (c_Hours_in_day : PySem.W.codeIn K cd_Hours_in_day "Hours.in_day" = true)
    (k_Hours_in_day : PySem.W.keepIn K (.ref f_Hours_in_day) = true)
    (m_Hours_in_row : PySem.W.findIn K (.ref CH) "in_row" = some (some (.ref f_Hours_in_row)))
    (i_Hours_in_row : PySem.W.isFn K (.ref f_Hours_in_row) = true)
    (l_Hours_in_row : K.lookup f_Hours_in_row = some ⟨oc_Hours_in_row, od_Hours_in_row, .func (PySem.W.fnOf "in_row" "Hours.in_row" (defArgs s_Hours_in_row) (defBody s_Hours_in_row) (defScope s_Hours_in_row) .none kV_Hours_in_row dc_Hours_in_row pm_Hours_in_row an_Hours_in_row cd_Hours_in_row ct_Hours_in_row), sl_Hours_in_row⟩)
    (c_Hours_in_row : PySem.W.codeIn K cd_Hours_in_row "Hours.in_row" = true)
    (k_Hours_in_row : PySem.W.keepIn K (.ref f_Hours_in_row) = true)
    (m_Hours_ahead : PySem.W.findIn K (.ref CH) "ahead" = some (some (.ref f_Hours_ahead)))
    (i_Hours_ahead : PySem.W.isFn K (.ref f_Hours_ahead) = true)
    (l_Hours_ahead : K.lookup f_Hours_ahead = some ⟨oc_Hours_ahead, od_Hours_ahead, .func (PySem.W.fnOf "ahead" "Hours.ahead" (defArgs s_Hours_ahead) (defBody s_Hours_ahead) (defScope s_Hours_ahead) .none kV_Hours_ahead dc_Hours_ahead pm_Hours_ahead an_Hours_ahead cd_Hours_ahead ct_Hours_ahead), sl_Hours_ahead⟩)
    (c_Hours_ahead : PySem.W.codeIn K cd_Hours_ahead "Hours.ahead" = true)
    (k_Hours_ahead : PySem.W.keepIn K (.ref f_Hours_ahead) = true)
    (m_Hours_ahead_of_day : PySem.W.findIn K (.ref CH) "ahead_of_day" = some (some (.ref f_Hours_ahead_of_day)))
    (i_Hours_ahead_of_day : PySem.W.isFn K (.ref f_Hours_ahead_of_day) = true)
    (l_Hours_ahead_of_day : K.lookup f_Hours_ahead_of_day = some ⟨oc_Hours_ahead_of_day, od_Hours_ahead_of_day, .func (PySem.W.fnOf "ahead_of_day" "Hours.ahead_of_day" (defArgs s_Hours_ahead_of_day) (defBody s_Hours_ahead_of_day) (defScope s_Hours_ahead_of_day) .none kV_Hours_ahead_of_day dc_Hours_ahead_of_day pm_Hours_ahead_of_day an_Hours_ahead_of_day cd_Hours_ahead_of_day ct_Hours_ahead_of_day), sl_Hours_ahead_of_day⟩)
    (c_Hours_ahead_of_day : PySem.W.codeIn K cd_Hours_ahead_of_day "Hours.ahead_of_day" = true)
    (k_Hours_ahead_of_day : PySem.W.keepIn K (.ref f_Hours_ahead_of_day) = true)
    (m_Hours_between : PySem.W.findIn K (.ref CH) "between" = some (some (.ref f_Hours_between)))
    (i_Hours_between : PySem.W.isFn K (.ref f_Hours_between) = true)
    (l_Hours_between : K.lookup f_Hours_between = some ⟨oc_Hours_between, od_Hours_between, .func (PySem.W.fnOf "between" "Hours.between" (defArgs s_Hours_between) (defBody s_Hours_between) (defScope s_Hours_between) .none kV_Hours_between dc_Hours_between pm_Hours_between an_Hours_between cd_Hours_between ct_Hours_between), sl_Hours_between⟩)
    (c_Hours_between : PySem.W.codeIn K cd_Hours_between "Hours.between" = true)
    (k_Hours_between : PySem.W.keepIn K (.ref f_Hours_between) = true)
    (m_Hours_gone : PySem.W.findIn K (.ref CH) "gone" = some (some (.ref f_Hours_gone)))
    (i_Hours_gone : PySem.W.isFn K (.ref f_Hours_gone) = true)
    (l_Hours_gone : K.lookup f_Hours_gone = some ⟨oc_Hours_gone, od_Hours_gone, .func (PySem.W.fnOf "gone" "Hours.gone" (defArgs s_Hours_gone) (defBody s_Hours_gone) (defScope s_Hours_gone) .none kV_Hours_gone dc_Hours_gone pm_Hours_gone an_Hours_gone cd_Hours_gone ct_Hours_gone), sl_Hours_gone⟩)
    (c_Hours_gone : PySem.W.codeIn K cd_Hours_gone "Hours.gone" = true)
    (k_Hours_gone : PySem.W.keepIn K (.ref f_Hours_gone) = true)
    (m_Hours_time_by : PySem.W.findIn K (.ref CH) "time_by" = some (some (.ref f_Hours_time_by)))
    (i_Hours_time_by : PySem.W.isFn K (.ref f_Hours_time_by) = true)
    (l_Hours_time_by : K.lookup f_Hours_time_by = some ⟨oc_Hours_time_by, od_Hours_time_by, .func (PySem.W.fnOf "time_by" "Hours.time_by" (defArgs s_Hours_time_by) (defBody s_Hours_time_by) (defScope s_Hours_time_by) .none kV_Hours_time_by dc_Hours_time_by pm_Hours_time_by an_Hours_time_by cd_Hours_time_by ct_Hours_time_by), sl_Hours_time_by⟩)
    (c_Hours_time_by : PySem.W.codeIn K cd_Hours_time_by "Hours.time_by" = true)
    (k_Hours_time_by : PySem.W.keepIn K (.ref f_Hours_time_by) = true)
    (m_Hours_next_open : PySem.W.findIn K (.ref CH) "next_open" = some (some (.ref f_Hours_next_open)))
    (i_Hours_next_open : PySem.W.isFn K (.ref f_Hours_next_open) = true)
    (l_Hours_next_open : K.lookup f_Hours_next_open = some ⟨oc_Hours_next_open, od_Hours_next_open, .func (PySem.W.fnOf "next_open" "Hours.next_open" (defArgs s_Hours_next_open) (defBody s_Hours_next_open) (defScope s_Hours_next_open) .none kV_Hours_next_open dc_Hours_next_open pm_Hours_next_open an_Hours_next_open cd_Hours_next_open ct_Hours_next_open), sl_Hours_next_open⟩)
    (c_Hours_next_open : PySem.W.codeIn K cd_Hours_next_open "Hours.next_open" = true)
    (k_Hours_next_open : PySem.W.keepIn K (.ref f_Hours_next_open) = true)
    (m_Hours_next_shut : PySem.W.findIn K (.ref CH) "next_shut" = some (some (.ref f_Hours_next_shut)))
    (i_Hours_next_shut : PySem.W.isFn K (.ref f_Hours_next_shut) = true)
    (l_Hours_next_shut : K.lookup f_Hours_next_shut = some ⟨oc_Hours_next_shut, od_Hours_next_shut, .func (PySem.W.fnOf "next_shut" "Hours.next_shut" (defArgs s_Hours_next_shut) (defBody s_Hours_next_shut) (defScope s_Hours_next_shut) .none kV_Hours_next_shut dc_Hours_next_shut pm_Hours_next_shut an_Hours_next_shut cd_Hours_next_shut ct_Hours_next_shut), sl_Hours_next_shut⟩)
    (c_Hours_next_shut : PySem.W.codeIn K cd_Hours_next_shut "Hours.next_shut" = true)
    (k_Hours_next_shut : PySem.W.keepIn K (.ref f_Hours_next_shut) = true)
    (m_Hours_add : PySem.W.findIn K (.ref CH) "add" = some (some (.ref f_Hours_add)))
    (i_Hours_add : PySem.W.isFn K (.ref f_Hours_add) = true)
    (l_Hours_add : K.lookup f_Hours_add = some ⟨oc_Hours_add, od_Hours_add, .func (PySem.W.fnOf "add" "Hours.add" (defArgs s_Hours_add) (defBody s_Hours_add) (defScope s_Hours_add) .none kV_Hours_add dc_Hours_add pm_Hours_add an_Hours_add cd_Hours_add ct_Hours_add), sl_Hours_add⟩)
    (c_Hours_add : PySem.W.codeIn K cd_Hours_add "Hours.add" = true)
    (k_Hours_add : PySem.W.keepIn K (.ref f_Hours_add) = true)
    (n_int : PySem.W.nsIn K mainGlobals "int" = some none)
    (n_abs : PySem.W.nsIn K mainGlobals "abs" = some none)
    (n_len : PySem.W.nsIn K mainGlobals "len" = some none)
    (n_sum : PySem.W.nsIn K mainGlobals "sum" = some none)
    (n_min : PySem.W.nsIn K mainGlobals "min" = some none)
    (n_max : PySem.W.nsIn K mainGlobals "max" = some none)
    (n_tuple : PySem.W.nsIn K mainGlobals "tuple" = some none)
    (n_range : PySem.W.nsIn K mainGlobals "range" = some none)
    (n_divmod : PySem.W.nsIn K mainGlobals "divmod" = some none)
    (n_list : PySem.W.nsIn K mainGlobals "list" = some none)
    (n_dict : PySem.W.nsIn K mainGlobals "dict" = some none)
    (n_any : PySem.W.nsIn K mainGlobals "any" = some none)
    (n_sorted : PySem.W.nsIn K mainGlobals "sorted" = some none)
    (gi_DAY : PySem.W.nsIn K mainGlobals "DAY" = some (some (.int 86400 tk_DAY)))
    (aL : PySem.W.nsIn K mainGlobals "law" = some (some (.ref fL)))
    (lL : K.lookup fL = some ⟨oc_L, od_L, .func (PySem.W.fnOf "law" "law" (defArgs sLaw) (defBody sLaw) (defScope sLaw) .none kV_L dc_L pm_L an_L (.ref cc) ct_L), sl_L⟩)
    (cL : PySem.W.codeIn K (.ref cc) "law" = true)
    (lC : K.lookup cc = some ⟨eC, dC, .fields vC, sC⟩)
    (vP : vC[11]? = some (.ref PT))
    (nP : K.lookup PT = none)
    (hC : PySem.W.codeHdIn K cc PT = true) :
    ∃ (fd : FuncData) (cs : List (Addr × Addr)) (sp : Sp), (∀ p ∈ cs, h.get? p.2 = some { cls := .none, data := .fields #[] }) ∧ (∀ p ∈ cs, K.lookup p.2 = none) ∧ (∀ p ∈ cs, PySem.W.CodeHd h p.1 p.2) ∧ (∀ (s : Shared) (u : Value), BindsTo s fd ⟨[u], []⟩ [("script", u)]) ∧
    (∀ (H : Hp) (a : Addr) (ns : List Int), ns.length ≤ 63 → (∀ z ∈ ns, Builtin.Int.intBits z ≤ 1048576) → (∀ p ∈ cs, H p.2 = some (.tbl #[])) → SqL K H a (ns.map V.int) → sp [.ref a] H (fun v _ => v = .bl true) fun _ _ _ => False) ∧
    ∀ base : Heap, K.In base → base.Ns mainGlobals mg → (∀ p ∈ cs, LamX.TabB base mg p.1 p.2) → FnOk P w K mg base (L2.CX P w) 15 fa fd ["script"] sp := by
  have e := hfa.symm.trans (PySem.W.mg_of X G aL)
  cases e
  have tab : h.get? PT = some { cls := .none, data := .fields #[] } := own cc PT _ _ _ _ _ _ lL rfl rfl lC vP
  refine ⟨PySem.W.fnOf "law" "law" (defArgs sLaw) (defBody sLaw) (defScope sLaw) .none kV_L dc_L pm_L an_L (.ref cc) ct_L, [(cc, PT)], spLaw K PT, fun p hp => (by rw [List.mem_singleton.mp hp]; exact tab), fun p hp => (by rw [List.mem_singleton.mp hp]; exact nP), fun p hp => (by rw [List.mem_singleton.mp hp]; exact PySem.W.codeHd_of_K X hC), fun s u => .of_eq (by rfl), fun H a ns _ _ hT hS => ⟨a, ns, rfl, hS, hT _ (List.mem_singleton.mpr rfl), fun _ => rfl⟩, fun base KB GB TB => ?_⟩
  have g : ∀ {x : Str} {v : Value}, PySem.W.nsIn K mainGlobals x = some (some v) → mg x = some v := fun e => PySem.W.mg_of X G e
  have g0 : ∀ {x : Str}, PySem.W.nsIn K mainGlobals x = some none → mg x = none := fun e => PySem.W.mg_none_of X G e
  have EX : Exs K mg (cOf [C0, C1, C2, C3, C4, C5, C6, C7, C8, C9, C10]) := by
    constructor
    · intro i hi
      match i, hi with
      | 0, _ => exact ⟨g e0, ex0, ek0, eb0, et0⟩
      | 1, _ => exact ⟨g e1, ex1, ek1, eb1, et1⟩
      | 2, _ => exact ⟨g e2, ex2, ek2, eb2, et2⟩
      | 3, _ => exact ⟨g e3, ex3, ek3, eb3, et3⟩
      | 4, _ => exact ⟨g e4, ex4, ek4, eb4, et4⟩
      | 5, _ => exact ⟨g e5, ex5, ek5, eb5, et5⟩
      | 6, _ => exact ⟨g e6, ex6, ek6, eb6, et6⟩
      | 7, _ => exact ⟨g e7, ex7, ek7, eb7, et7⟩
      | 8, _ => exact ⟨g e8, ex8, ek8, eb8, et8⟩
      | 9, _ => exact ⟨g e9, ex9, ek9, eb9, et9⟩
      | 10, _ => exact ⟨g e10, ex10, ek10, eb10, et10⟩
      | i + 11, hi => exact absurd hi (by omega)
    · intro i j hi hj
      match i, hi with
      | 0, _ =>
        match j, hj with
        | 0, _ => exact exRow_self em0
        | j + 1, hj => exact absurd hj (by omega)
      | 1, _ =>
        match j, hj with
        | 0, _ => exact exRow_mem (b := C0) em1 (by simp)
        | 1, _ => exact exRow_self em1
        | j + 2, hj => exact absurd hj (by omega)
      | 2, _ =>
        match j, hj with
        | 0, _ => exact exRow_mem (b := C0) em2 (by simp)
        | 1, _ => exact exRow_mem (b := C1) em2 (by simp)
        | 2, _ => exact exRow_self em2
        | j + 3, hj => exact absurd hj (by omega)
      | 3, _ =>
        match j, hj with
        | 0, _ => exact exRow_mem (b := C0) em3 (by simp)
        | 1, _ => exact exRow_mem (b := C1) em3 (by simp)
        | 2, _ => exact exRow_mem (b := C2) em3 (by simp)
        | 3, _ => exact exRow_self em3
        | j + 4, hj => exact absurd hj (by omega)
      | 4, _ =>
        match j, hj with
        | 0, _ => exact exRow_mem (b := C0) em4 (by simp)
        | 1, _ => exact exRow_mem (b := C1) em4 (by simp)
        | 2, _ => exact exRow_mem (b := C2) em4 (by simp)
        | 3, _ => exact exRow_mem (b := C3) em4 (by simp)
        | 4, _ => exact exRow_self em4
        | j + 5, hj => exact absurd hj (by omega)
      | 5, _ =>
        match j, hj with
        | 0, _ => exact exRow_mem (b := C0) em5 (by simp)
        | 1, _ => exact exRow_mem (b := C1) em5 (by simp)
        | 2, _ => exact exRow_mem (b := C2) em5 (by simp)
        | 3, _ => exact exRow_mem (b := C3) em5 (by simp)
        | 4, _ => exact exRow_mem (b := C4) em5 (by simp)
        | 5, _ => exact exRow_self em5
        | j + 6, hj => exact absurd hj (by omega)
      | 6, _ =>
        match j, hj with
        | 0, _ => exact exRow_mem (b := C0) em6 (by simp)
        | 1, _ => exact exRow_mem (b := C1) em6 (by simp)
        | 2, _ => exact exRow_mem (b := C2) em6 (by simp)
        | 3, _ => exact exRow_mem (b := C3) em6 (by simp)
        | 4, _ => exact exRow_mem (b := C4) em6 (by simp)
        | 5, _ => exact exRow_mem (b := C5) em6 (by simp)
        | 6, _ => exact exRow_self em6
        | j + 7, hj => exact absurd hj (by omega)
      | 7, _ =>
        match j, hj with
        | 0, _ => exact exRow_mem (b := C0) em7 (by simp)
        | 1, _ => exact exRow_mem (b := C1) em7 (by simp)
        | 2, _ => exact exRow_mem (b := C2) em7 (by simp)
        | 3, _ => exact exRow_mem (b := C3) em7 (by simp)
        | 4, _ => exact exRow_mem (b := C4) em7 (by simp)
        | 5, _ => exact exRow_mem (b := C5) em7 (by simp)
        | 6, _ => exact exRow_mem (b := C6) em7 (by simp)
        | 7, _ => exact exRow_self em7
        | j + 8, hj => exact absurd hj (by omega)
      | 8, _ =>
        match j, hj with
        | 0, _ => exact exRow_mem (b := C0) em8 (by simp)
        | 1, _ => exact exRow_mem (b := C1) em8 (by simp)
        | 2, _ => exact exRow_mem (b := C2) em8 (by simp)
        | 3, _ => exact exRow_mem (b := C3) em8 (by simp)
        | 4, _ => exact exRow_mem (b := C4) em8 (by simp)
        | 5, _ => exact exRow_mem (b := C5) em8 (by simp)
        | 6, _ => exact exRow_mem (b := C6) em8 (by simp)
        | 7, _ => exact exRow_mem (b := C7) em8 (by simp)
        | 8, _ => exact exRow_self em8
        | j + 9, hj => exact absurd hj (by omega)
      | 9, _ =>
        match j, hj with
        | 0, _ => exact exRow_mem (b := C0) em9 (by simp)
        | 1, _ => exact exRow_mem (b := C1) em9 (by simp)
        | 2, _ => exact exRow_mem (b := C2) em9 (by simp)
        | 3, _ => exact exRow_mem (b := C3) em9 (by simp)
        | 4, _ => exact exRow_mem (b := C4) em9 (by simp)
        | 5, _ => exact exRow_mem (b := C5) em9 (by simp)
        | 6, _ => exact exRow_mem (b := C6) em9 (by simp)
        | 7, _ => exact exRow_mem (b := C7) em9 (by simp)
        | 8, _ => exact exRow_mem (b := C8) em9 (by simp)
        | 9, _ => exact exRow_self em9
        | j + 10, hj => exact absurd hj (by omega)
      | 10, _ =>
        match j, hj with
        | 0, _ => exact exRow_mem (b := C0) em10 (by simp)
        | 1, _ => exact exRow_mem (b := C1) em10 (by simp)
        | 2, _ => exact exRow_mem (b := C2) em10 (by simp)
        | 3, _ => exact exRow_mem (b := C3) em10 (by simp)
        | 4, _ => exact exRow_mem (b := C4) em10 (by simp)
        | 5, _ => exact exRow_mem (b := C5) em10 (by simp)
        | 6, _ => exact exRow_mem (b := C6) em10 (by simp)
        | 7, _ => exact exRow_mem (b := C7) em10 (by simp)
        | 8, _ => exact exRow_mem (b := C8) em10 (by simp)
        | 9, _ => exact exRow_mem (b := C9) em10 (by simp)
        | 10, _ => exact exRow_self em10
        | j + 11, hj => exact absurd hj (by omega)
      | i + 11, hi => exact absurd hi (by omega)
  let CL : Nat → Addr := cOf [C0, C1, C2, C3, C4, C5, C6, C7, C8, C9, C10]
  have xBadCalendar : Exc1 K mg "BadCalendar" (CL 0) := ⟨g e0, ex0, ek0, eb0, et0⟩
  have xBadDay : Exc1 K mg "BadDay" (CL 1) := ⟨g e1, ex1, ek1, eb1, et1⟩
  have xBadTime : Exc1 K mg "BadTime" (CL 2) := ⟨g e2, ex2, ek2, eb2, et2⟩
  have xBadRule : Exc1 K mg "BadRule" (CL 3) := ⟨g e3, ex3, ek3, eb3, et3⟩
  have xBadZone : Exc1 K mg "BadZone" (CL 4) := ⟨g e4, ex4, ek4, eb4, et4⟩
  have xBadSize : Exc1 K mg "BadSize" (CL 5) := ⟨g e5, ex5, ek5, eb5, et5⟩
  have xBadPaper : Exc1 K mg "BadPaper" (CL 6) := ⟨g e6, ex6, ek6, eb6, et6⟩
  have xBadText : Exc1 K mg "BadText" (CL 7) := ⟨g e7, ex7, ek7, eb7, et7⟩
  have xBadStore : Exc1 K mg "BadStore" (CL 8) := ⟨g e8, ex8, ek8, eb8, et8⟩
  have xNoDay : Exc1 K mg "NoDay" (CL 9) := ⟨g e9, ex9, ek9, eb9, et9⟩
  have xNoSuch : Exc1 K mg "NoSuch" (CL 10) := ⟨g e10, ex10, ek10, eb10, et10⟩
  have F_check_span := fun_mk (x := "check_span") (qual := "check_span") (st := s_check_span) l_check_span c_check_span k_check_span
  have b_check_span := F_check_span.binds (ps := ["span"]) fun _ _ _ _ _ _ us hl => match us, hl with | [_], _ => rfl
  have F_together := fun_mk (x := "together") (qual := "together") (st := s_together) l_together c_together k_together
  have b_together := F_together.binds (ps := ["spans"]) fun _ _ _ _ _ _ us hl => match us, hl with | [_], _ => rfl
  have F_total := fun_mk (x := "total") (qual := "total") (st := s_total) l_total c_total k_total
  have b_total := F_total.binds (ps := ["spans"]) fun _ _ _ _ _ _ us hl => match us, hl with | [_], _ => rfl
  have F_day_spans := fun_mk (x := "day_spans") (qual := "day_spans") (st := s_day_spans) l_day_spans c_day_spans k_day_spans
  have b_day_spans := F_day_spans.binds (ps := ["spans"]) fun _ _ _ _ _ _ us hl => match us, hl with | [_], _ => rfl
  have F__law_dice := fun_mk (x := "_law_dice") (qual := "_law_dice") (st := sDice) l__law_dice c__law_dice k__law_dice
  have b__law_dice := F__law_dice.binds (ps := ["cell"]) fun _ _ _ _ _ _ us hl => match us, hl with | [_], _ => rfl
  have F__law_roll := fun_mk (x := "_law_roll") (qual := "_law_roll") (st := sRoll) l__law_roll c__law_roll k__law_roll
  have b__law_roll := F__law_roll.binds (ps := ["dice", "many"]) fun _ _ _ _ _ _ us hl => match us, hl with | [_, _], _ => rfl
  have F__law_rounds := fun_mk (x := "_law_rounds") (qual := "_law_rounds") (st := sRounds) l__law_rounds c__law_rounds k__law_rounds
  have b__law_rounds := F__law_rounds.binds (ps := ["script", "most"]) fun _ _ _ _ _ _ us hl => match us, hl with | [_, _], _ => rfl
  have F__law_told := fun_mk (x := "_law_told") (qual := "_law_told") (st := sTold) l__law_told c__law_told k__law_told
  have b__law_told := F__law_told.binds (ps := ["what"]) fun _ _ _ _ _ _ us hl => match us, hl with | [_], _ => rfl
  have F__law_flat := fun_mk (x := "_law_flat") (qual := "_law_flat") (st := s__law_flat) l__law_flat c__law_flat k__law_flat
  have b__law_flat := F__law_flat.binds (ps := ["rows"]) fun _ _ _ _ _ _ us hl => match us, hl with | [_], _ => rfl
  have F__law_spans := fun_mk (x := "_law_spans") (qual := "_law_spans") (st := s__law_spans) l__law_spans c__law_spans k__law_spans
  have b__law_spans := F__law_spans.binds (ps := ["dice"]) fun _ _ _ _ _ _ us hl => match us, hl with | [_], _ => rfl
  have cls_Hours : Cls K CH := ⟨pg_Hours, hd_Hours, po_Hours, sa_Hours⟩
  have F_Hours_init : L2.FunD K "__init__" "Hours.__init__" (defArgs s_Hours_init) (defBody s_Hours_init) (defScope s_Hours_init) [(.non)] [] f_Hours_init _ := ⟨⟨_, _, _, _, _, _, _, _, _, _, rfl, l_Hours_init, c_Hours_init, .inr ⟨by simp, T_Hours_init, oT_Hours_init, [.none], nT_Hours_init, rfl, lT_Hours_init, dT_Hours_init, (.cons rfl .nil)⟩, .inl rfl⟩, k_Hours_init⟩
  obtain ⟨ds0_Hours_init, v0_Hours_init, b0_Hours_init⟩ := F_Hours_init.binds1 (ps := ["self", "week", "rows", "others"]) 4 1 (by simp) rfl fun T kV doc pm an cdv ct us its hu hi => match us, its, hu, hi with | [_, _, _, _], [_], _, _ => ⟨_, rfl, rfl⟩
  obtain ⟨ds1_Hours_init, v1_Hours_init, b1_Hours_init⟩ := F_Hours_init.binds1 (ps := ["self", "week", "rows", "others"]) 3 0 (by simp) rfl fun T kV doc pm an cdv ct us its hu hi => match us, its, hu, hi with | [_, _, _], [_], _, _ => ⟨_, rfl, rfl⟩
  have make_Hours : Mk K CH f_Hours_init := ⟨mk_Hours, m_Hours_init, i_Hours_init, kc_Hours⟩
  have F_Hours_of_day := fun_mk (x := "of_day") (qual := "Hours.of_day") (st := s_Hours_of_day) l_Hours_of_day c_Hours_of_day k_Hours_of_day
  have b_Hours_of_day := F_Hours_of_day.binds (ps := ["self", "day"]) fun _ _ _ _ _ _ us hl => match us, hl with | [_, _], _ => rfl
  have meth_Hours_of_day : Meth K CH "of_day" f_Hours_of_day := ⟨m_Hours_of_day, i_Hours_of_day, k_Hours_of_day⟩
  have F_Hours_is_open := fun_mk (x := "is_open") (qual := "Hours.is_open") (st := s_Hours_is_open) l_Hours_is_open c_Hours_is_open k_Hours_is_open
  have b_Hours_is_open := F_Hours_is_open.binds (ps := ["self", "time"]) fun _ _ _ _ _ _ us hl => match us, hl with | [_, _], _ => rfl
  have meth_Hours_is_open : Meth K CH "is_open" f_Hours_is_open := ⟨m_Hours_is_open, i_Hours_is_open, k_Hours_is_open⟩
  have F_Hours_in_week := fun_mk (x := "in_week") (qual := "Hours.in_week") (st := s_Hours_in_week) l_Hours_in_week c_Hours_in_week k_Hours_in_week
  have b_Hours_in_week := F_Hours_in_week.binds (ps := ["self"]) fun _ _ _ _ _ _ us hl => match us, hl with | [_], _ => rfl
  have meth_Hours_in_week : Meth K CH "in_week" f_Hours_in_week := ⟨m_Hours_in_week, i_Hours_in_week, k_Hours_in_week⟩
  have F_Hours_in_day := fun_mk (x := "in_day") (qual := "Hours.in_day") (st := s_Hours_in_day) l_Hours_in_day c_Hours_in_day k_Hours_in_day
  have b_Hours_in_day := F_Hours_in_day.binds (ps := ["self", "day"]) fun _ _ _ _ _ _ us hl => match us, hl with | [_, _], _ => rfl
  have meth_Hours_in_day : Meth K CH "in_day" f_Hours_in_day := ⟨m_Hours_in_day, i_Hours_in_day, k_Hours_in_day⟩
  have F_Hours_in_row := fun_mk (x := "in_row") (qual := "Hours.in_row") (st := s_Hours_in_row) l_Hours_in_row c_Hours_in_row k_Hours_in_row
  have b_Hours_in_row := F_Hours_in_row.binds (ps := ["self", "weekday"]) fun _ _ _ _ _ _ us hl => match us, hl with | [_, _], _ => rfl
  have meth_Hours_in_row : Meth K CH "in_row" f_Hours_in_row := ⟨m_Hours_in_row, i_Hours_in_row, k_Hours_in_row⟩
  have F_Hours_ahead := fun_mk (x := "ahead") (qual := "Hours.ahead") (st := s_Hours_ahead) l_Hours_ahead c_Hours_ahead k_Hours_ahead
  have b_Hours_ahead := F_Hours_ahead.binds (ps := ["self", "time"]) fun _ _ _ _ _ _ us hl => match us, hl with | [_, _], _ => rfl
  have meth_Hours_ahead : Meth K CH "ahead" f_Hours_ahead := ⟨m_Hours_ahead, i_Hours_ahead, k_Hours_ahead⟩
  have F_Hours_ahead_of_day := fun_mk (x := "ahead_of_day") (qual := "Hours.ahead_of_day") (st := s_Hours_ahead_of_day) l_Hours_ahead_of_day c_Hours_ahead_of_day k_Hours_ahead_of_day
  have b_Hours_ahead_of_day := F_Hours_ahead_of_day.binds (ps := ["self", "day"]) fun _ _ _ _ _ _ us hl => match us, hl with | [_, _], _ => rfl
  have meth_Hours_ahead_of_day : Meth K CH "ahead_of_day" f_Hours_ahead_of_day := ⟨m_Hours_ahead_of_day, i_Hours_ahead_of_day, k_Hours_ahead_of_day⟩
  have F_Hours_between := fun_mk (x := "between") (qual := "Hours.between") (st := s_Hours_between) l_Hours_between c_Hours_between k_Hours_between
  have b_Hours_between := F_Hours_between.binds (ps := ["self", "first", "last"]) fun _ _ _ _ _ _ us hl => match us, hl with | [_, _, _], _ => rfl
  have meth_Hours_between : Meth K CH "between" f_Hours_between := ⟨m_Hours_between, i_Hours_between, k_Hours_between⟩
  have F_Hours_gone := fun_mk (x := "gone") (qual := "Hours.gone") (st := s_Hours_gone) l_Hours_gone c_Hours_gone k_Hours_gone
  have b_Hours_gone := F_Hours_gone.binds (ps := ["self", "time", "shut"]) fun _ _ _ _ _ _ us hl => match us, hl with | [_, _, _], _ => rfl
  have meth_Hours_gone : Meth K CH "gone" f_Hours_gone := ⟨m_Hours_gone, i_Hours_gone, k_Hours_gone⟩
  have F_Hours_time_by := fun_mk (x := "time_by") (qual := "Hours.time_by") (st := s_Hours_time_by) l_Hours_time_by c_Hours_time_by k_Hours_time_by
  have b_Hours_time_by := F_Hours_time_by.binds (ps := ["self", "time", "much", "shut"]) fun _ _ _ _ _ _ us hl => match us, hl with | [_, _, _, _], _ => rfl
  have meth_Hours_time_by : Meth K CH "time_by" f_Hours_time_by := ⟨m_Hours_time_by, i_Hours_time_by, k_Hours_time_by⟩
  have F_Hours_next_open := fun_mk (x := "next_open") (qual := "Hours.next_open") (st := s_Hours_next_open) l_Hours_next_open c_Hours_next_open k_Hours_next_open
  have b_Hours_next_open := F_Hours_next_open.binds (ps := ["self", "time"]) fun _ _ _ _ _ _ us hl => match us, hl with | [_, _], _ => rfl
  have meth_Hours_next_open : Meth K CH "next_open" f_Hours_next_open := ⟨m_Hours_next_open, i_Hours_next_open, k_Hours_next_open⟩
  have F_Hours_next_shut := fun_mk (x := "next_shut") (qual := "Hours.next_shut") (st := s_Hours_next_shut) l_Hours_next_shut c_Hours_next_shut k_Hours_next_shut
  have b_Hours_next_shut := F_Hours_next_shut.binds (ps := ["self", "time"]) fun _ _ _ _ _ _ us hl => match us, hl with | [_, _], _ => rfl
  have meth_Hours_next_shut : Meth K CH "next_shut" f_Hours_next_shut := ⟨m_Hours_next_shut, i_Hours_next_shut, k_Hours_next_shut⟩
  have F_Hours_add := fun_mk (x := "add") (qual := "Hours.add") (st := s_Hours_add) l_Hours_add c_Hours_add k_Hours_add
  have b_Hours_add := F_Hours_add.binds (ps := ["self", "time", "much"]) fun _ _ _ _ _ _ us hl => match us, hl with | [_, _, _], _ => rfl
  have meth_Hours_add : Meth K CH "add" f_Hours_add := ⟨m_Hours_add, i_Hours_add, k_Hours_add⟩
  have T_Hu : Tt_Hu K CH := ⟨cls_Hours, n_Hours_week, n_Hours_rows, n_Hours_others⟩
  have T_Hr : Tt_Hr K CH := ⟨cls_Hours, n_Hours_week, n_Hours_rows, n_Hours_others⟩
  have gi_DAY : ∃ t, mg "DAY" = some (.int 86400 t) := ⟨_, g gi_DAY⟩
  have n_tuple := g0 n_tuple
  have n_sorted := g0 n_sorted
  have n_any := g0 n_any
  have n_list := g0 n_list
  have BL : Blt mg := ⟨g0 n_int, g0 n_abs⟩
  have B : BD mg := ⟨g0 n_len, g0 n_min, g0 n_max, g0 n_range, g0 n_divmod, g0 n_sum, g0 n_int, g0 n_abs⟩
  have c_check_span := cal_of F_check_span (g a_check_span) (ok_check_span (P := P) (w := w) (mg := mg) (base := base) (cl := CL) F_check_span xBadTime) b_check_span
  have c_together := cal_of F_together (g a_together) (ok_together (P := P) (w := w) (mg := mg) (base := base) (cl := CL) F_together B n_tuple n_sorted c_check_span) b_together
  have c_togetherT := cal_of F_together (g a_together) (ok_togetherT (P := P) (w := w) (mg := mg) (base := base) (cl := CL) F_together B n_tuple n_sorted c_check_span) b_together
  have c_total := cal_of F_total (g a_total) (ok_total (P := P) (w := w) (mg := mg) (base := base) (cl := CL) F_total B c_togetherT) b_total
  have c_day_spans := cal_of F_day_spans (g a_day_spans) (ok_day_spans (P := P) (w := w) (mg := mg) (base := base) (cl := CL) F_day_spans n_any gi_DAY c_together xBadTime) b_day_spans
  have cDi := cal_of F__law_dice (g a__law_dice) (ok_dice (P := P) (w := w) (base := base) F__law_dice BL) b__law_dice
  have roll := cal_of F__law_roll (g a__law_roll) (ok_rollX (P := P) (w := w) (base := base) F__law_roll BL) b__law_roll
  have c_roll := roll
  have rounds := cal_of F__law_rounds (g a__law_rounds) (ok_rounds F__law_rounds cDi) b__law_rounds
  have spans := cal_of F__law_spans (g a__law_spans) (ok__law_spans (P := P) (w := w) (mg := mg) (base := base) F__law_spans B roll) b__law_spans
  have tF : ToldF K mg := ⟨_, _, _, _, _, _, _, _, _, _, g a__law_told, k__law_told, l__law_told, c__law_told, b__law_told⟩
  have flat := cal_of F__law_flat (g a__law_flat) (ok__law_flat (P := P) (w := w) (mg := mg) (base := base) (cl := CL) F__law_flat ) b__law_flat
  have oI := (ok_Hours_init (P := P) (w := w) (mg := mg) (base := base) (cl := CL) F_Hours_init T_Hu B c_day_spans xBadTime)
  have nH3 : Nw P w K mg base 4 "Hours" CH (sp_Hours_init K CH CL) [] := ⟨_, _, _, _, make_Hours, g a_Hours, oI, b0_Hours_init, v0_Hours_init⟩
  have nH2 : Nw P w K mg base 4 "Hours" CH (sp_Hours_init K CH CL) [.non] := ⟨_, _, _, _, make_Hours, g a_Hours, oI, b1_Hours_init, v1_Hours_init⟩
  have m_of_day := mt_of cls_Hours meth_Hours_of_day F_Hours_of_day (ok_Hours_of_day (P := P) (w := w) (mg := mg) (base := base) (cl := CL) F_Hours_of_day T_Hr) b_Hours_of_day
  have m_is_open := mt_of cls_Hours meth_Hours_is_open F_Hours_is_open (ok_Hours_is_open (P := P) (w := w) (mg := mg) (base := base) (cl := CL) F_Hours_is_open T_Hr B n_any gi_DAY m_of_day) b_Hours_is_open
  have m_in_row := mt_of cls_Hours meth_Hours_in_row F_Hours_in_row (ok_Hours_in_row (P := P) (w := w) (mg := mg) (base := base) (cl := CL) F_Hours_in_row T_Hr c_total) b_Hours_in_row
  have m_in_day := mt_of cls_Hours meth_Hours_in_day F_Hours_in_day (ok_Hours_in_day (P := P) (w := w) (mg := mg) (base := base) (cl := CL) F_Hours_in_day T_Hr c_total m_of_day) b_Hours_in_day
  have m_in_week := mt_of cls_Hours meth_Hours_in_week F_Hours_in_week (ok_Hours_in_week (P := P) (w := w) (mg := mg) (base := base) (cl := CL) F_Hours_in_week T_Hr B m_in_row) b_Hours_in_week
  have m_ahead_of_day := mt_of cls_Hours meth_Hours_ahead_of_day F_Hours_ahead_of_day (ok_Hours_ahead_of_day (P := P) (w := w) (mg := mg) (base := base) (cl := CL) F_Hours_ahead_of_day T_Hr T_Hu B m_in_week m_in_day m_in_row) b_Hours_ahead_of_day
  have m_ahead := mt_of cls_Hours meth_Hours_ahead F_Hours_ahead (ok_Hours_ahead (P := P) (w := w) (mg := mg) (base := base) (cl := CL) F_Hours_ahead T_Hr T_Hu B gi_DAY m_of_day m_ahead_of_day) b_Hours_ahead
  have m_between := mt_of cls_Hours meth_Hours_between F_Hours_between (ok_Hours_between (P := P) (w := w) (mg := mg) (base := base) (cl := CL) F_Hours_between T_Hu m_ahead xBadTime) b_Hours_between
  have m_gone := mt_of cls_Hours meth_Hours_gone F_Hours_gone (ok_Hours_gone (P := P) (w := w) (mg := mg) (base := base) (cl := CL) F_Hours_gone T_Hu m_ahead) b_Hours_gone
  have m_time_by := mt_of cls_Hours meth_Hours_time_by F_Hours_time_by (ok_Hours_time_by (P := P) (w := w) (mg := mg) (base := base) (cl := CL) F_Hours_time_by T_Hr T_Hu B gi_DAY n_list m_gone m_in_week xNoDay) b_Hours_time_by
  have m_next_open := mt_of cls_Hours meth_Hours_next_open F_Hours_next_open (ok_Hours_next_open (P := P) (w := w) (mg := mg) (base := base) (cl := CL) F_Hours_next_open T_Hu m_time_by) b_Hours_next_open
  have m_next_shut := mt_of cls_Hours meth_Hours_next_shut F_Hours_next_shut (ok_Hours_next_shut (P := P) (w := w) (mg := mg) (base := base) (cl := CL) F_Hours_next_shut T_Hu m_time_by) b_Hours_next_shut
  have m_add := mt_of cls_Hours meth_Hours_add F_Hours_add (ok_Hours_add (P := P) (w := w) (mg := mg) (base := base) (cl := CL) F_Hours_add T_Hu m_time_by xBadTime) b_Hours_add
  exact ok_law (CH := CH) (cl := CL) lL cL (TB _ (List.mem_singleton.mpr rfl)) ⟨n_list, g0 n_dict, gi_DAY, roll, rounds, spans, flat, c_day_spans, nH3, nH2, m_of_day, m_is_open, m_in_day, m_in_week, m_ahead, m_between, m_next_open, m_next_shut, m_add, EX, tF⟩ B fun z => m_lawB_ok z
end Rw
open PySem PySem.W PyProof.Rows
set_option maxRecDepth 100000 in
set_option maxHeartbeats 0 in
theorem PySem.Challenge.cw_recurwright_k19_hours_open_holds : PySem.Challenge.rw_recurwright_k19_hours_open.Holds := by
  w_on; o_law; k_head; (case hw => w_witness2)
  k_fill
  refine LamX.walk_ofOwn (l := PySem.Challenge.rw_recurwright_k19_hours_open) (n := 63) (k := 15) (x := "script") (CX := fun w => L2.CX PySem.Challenge.pw_recurwright_k19_hours_open w) rfl (by decide) rfl ⟨rfl, by decide, by decide⟩ (by decide +kernel) (fun w h Y => by first | exact PySem.W.km_in_of Y | exact PySem.W.kIn_of Y) ?F ?C
  case F =>
    intro w mg fa h Y KX G hmg own
    refine' Rw.all_mk KX G hmg own ?e0 ?ex0 ?ek0 ?eb0 ?et0 ?e1 ?ex1 ?ek1 ?eb1 ?et1 ?e2 ?ex2 ?ek2 ?eb2 ?et2 ?e3 ?ex3 ?ek3 ?eb3 ?et3 ?e4 ?ex4 ?ek4 ?eb4 ?et4 ?e5 ?ex5 ?ek5 ?eb5 ?et5 ?e6 ?ex6 ?ek6 ?eb6 ?et6 ?e7 ?ex7 ?ek7 ?eb7 ?et7 ?e8 ?ex8 ?ek8 ?eb8 ?et8 ?e9 ?ex9 ?ek9 ?eb9 ?et9 ?e10 ?ex10 ?ek10 ?eb10 ?et10 ?em0 ?em1 ?em2 ?em3 ?em4 ?em5 ?em6 ?em7 ?em8 ?em9 ?em10 ?a_check_span ?l_check_span ?c_check_span ?k_check_span ?a_together ?l_together ?c_together ?k_together ?a_total ?l_total ?c_total ?k_total ?a_day_spans ?l_day_spans ?c_day_spans ?k_day_spans ?a__law_dice ?l__law_dice ?c__law_dice ?k__law_dice ?a__law_roll ?l__law_roll ?c__law_roll ?k__law_roll ?a__law_rounds ?l__law_rounds ?c__law_rounds ?k__law_rounds ?a__law_told ?l__law_told ?c__law_told ?k__law_told ?a__law_flat ?l__law_flat ?c__law_flat ?k__law_flat ?a__law_spans ?l__law_spans ?c__law_spans ?k__law_spans ?a_Hours ?pg_Hours ?hd_Hours ?po_Hours ?sa_Hours ?kc_Hours ?mk_Hours ?n_Hours_week ?n_Hours_rows ?n_Hours_others ?m_Hours_init ?i_Hours_init ?l_Hours_init ?c_Hours_init ?k_Hours_init ?lT_Hours_init ?dT_Hours_init ?m_Hours_of_day ?i_Hours_of_day ?l_Hours_of_day ?c_Hours_of_day ?k_Hours_of_day ?m_Hours_is_open ?i_Hours_is_open ?l_Hours_is_open ?c_Hours_is_open ?k_Hours_is_open ?m_Hours_in_week ?i_Hours_in_week ?l_Hours_in_week ?c_Hours_in_week ?k_Hours_in_week ?m_Hours_in_day ?i_Hours_in_day ?l_Hours_in_day ?c_Hours_in_day ?k_Hours_in_day ?m_Hours_in_row ?i_Hours_in_row ?l_Hours_in_row ?c_Hours_in_row ?k_Hours_in_row ?m_Hours_ahead ?i_Hours_ahead ?l_Hours_ahead ?c_Hours_ahead ?k_Hours_ahead ?m_Hours_ahead_of_day ?i_Hours_ahead_of_day ?l_Hours_ahead_of_day ?c_Hours_ahead_of_day ?k_Hours_ahead_of_day ?m_Hours_between ?i_Hours_between ?l_Hours_between ?c_Hours_between ?k_Hours_between ?m_Hours_gone ?i_Hours_gone ?l_Hours_gone ?c_Hours_gone ?k_Hours_gone ?m_Hours_time_by ?i_Hours_time_by ?l_Hours_time_by ?c_Hours_time_by ?k_Hours_time_by ?m_Hours_next_open ?i_Hours_next_open ?l_Hours_next_open ?c_Hours_next_open ?k_Hours_next_open ?m_Hours_next_shut ?i_Hours_next_shut ?l_Hours_next_shut ?c_Hours_next_shut ?k_Hours_next_shut ?m_Hours_add ?i_Hours_add ?l_Hours_add ?c_Hours_add ?k_Hours_add ?n_int ?n_abs ?n_len ?n_sum ?n_min ?n_max ?n_tuple ?n_range ?n_divmod ?n_list ?n_dict ?n_any ?n_sorted ?gi_DAY ?aL ?lL ?cL ?lC ?vP ?nP ?hC
    (case e0 => k_is)
    (case ex0 => k_exc)
    (case ek0 => k_is)
    (case eb0 => k_is)
    (case et0 => k_is)
    (case e1 => k_is)
    (case ex1 => k_exc)
    (case ek1 => k_is)
    (case eb1 => k_is)
    (case et1 => k_is)
    (case e2 => k_is)
    (case ex2 => k_exc)
    (case ek2 => k_is)
    (case eb2 => k_is)
    (case et2 => k_is)
    (case e3 => k_is)
    (case ex3 => k_exc)
    (case ek3 => k_is)
    (case eb3 => k_is)
    (case et3 => k_is)
    (case e4 => k_is)
    (case ex4 => k_exc)
    (case ek4 => k_is)
    (case eb4 => k_is)
    (case et4 => k_is)
    (case e5 => k_is)
    (case ex5 => k_exc)
    (case ek5 => k_is)
    (case eb5 => k_is)
    (case et5 => k_is)
    (case e6 => k_is)
    (case ex6 => k_exc)
    (case ek6 => k_is)
    (case eb6 => k_is)
    (case et6 => k_is)
    (case e7 => k_is)
    (case ex7 => k_exc)
    (case ek7 => k_is)
    (case eb7 => k_is)
    (case et7 => k_is)
    (case e8 => k_is)
    (case ex8 => k_exc)
    (case ek8 => k_is)
    (case eb8 => k_is)
    (case et8 => k_is)
    (case e9 => k_is)
    (case ex9 => k_exc)
    (case ek9 => k_is)
    (case eb9 => k_is)
    (case et9 => k_is)
    (case e10 => k_is)
    (case ex10 => k_exc)
    (case ek10 => k_is)
    (case eb10 => k_is)
    (case et10 => k_is)
    (case em0 => kernel_rfl)
    (case em1 => kernel_rfl)
    (case em2 => kernel_rfl)
    (case em3 => kernel_rfl)
    (case em4 => kernel_rfl)
    (case em5 => kernel_rfl)
    (case em6 => kernel_rfl)
    (case em7 => kernel_rfl)
    (case em8 => kernel_rfl)
    (case em9 => kernel_rfl)
    (case em10 => kernel_rfl)
    (case a_check_span => k_is)
    (case l_check_span => k_is)
    (case c_check_span => k_is)
    (case k_check_span => k_is)
    (case a_together => k_is)
    (case l_together => k_is)
    (case c_together => k_is)
    (case k_together => k_is)
    (case a_total => k_is)
    (case l_total => k_is)
    (case c_total => k_is)
    (case k_total => k_is)
    (case a_day_spans => k_is)
    (case l_day_spans => k_is)
    (case c_day_spans => k_is)
    (case k_day_spans => k_is)
    (case a__law_dice => k_is)
    (case l__law_dice => k_is)
    (case c__law_dice => k_is)
    (case k__law_dice => k_is)
    (case a__law_roll => k_is)
    (case l__law_roll => k_is)
    (case c__law_roll => k_is)
    (case k__law_roll => k_is)
    (case a__law_rounds => k_is)
    (case l__law_rounds => k_is)
    (case c__law_rounds => k_is)
    (case k__law_rounds => k_is)
    (case a__law_told => k_is)
    (case l__law_told => k_is)
    (case c__law_told => k_is)
    (case k__law_told => k_is)
    (case a__law_flat => k_is)
    (case l__law_flat => k_is)
    (case c__law_flat => k_is)
    (case k__law_flat => k_is)
    (case a__law_spans => k_is)
    (case l__law_spans => k_is)
    (case c__law_spans => k_is)
    (case k__law_spans => k_is)
    (case a_Hours => k_is)
    (case pg_Hours => k_is)
    (case hd_Hours => k_is)
    (case po_Hours => k_is)
    (case sa_Hours => k_is)
    (case kc_Hours => k_is)
    (case mk_Hours => k_is)
    (case n_Hours_week => k_is)
    (case n_Hours_rows => k_is)
    (case n_Hours_others => k_is)
    (case m_Hours_init => k_is)
    (case i_Hours_init => k_is)
    (case l_Hours_init => k_is)
    (case c_Hours_init => k_is)
    (case k_Hours_init => k_is)
    (case lT_Hours_init => k_is)
    (case dT_Hours_init => exact rfl)
    (case m_Hours_of_day => k_is)
    (case i_Hours_of_day => k_is)
    (case l_Hours_of_day => k_is)
    (case c_Hours_of_day => k_is)
    (case k_Hours_of_day => k_is)
    (case m_Hours_is_open => k_is)
    (case i_Hours_is_open => k_is)
    (case l_Hours_is_open => k_is)
    (case c_Hours_is_open => k_is)
    (case k_Hours_is_open => k_is)
    (case m_Hours_in_week => k_is)
    (case i_Hours_in_week => k_is)
    (case l_Hours_in_week => k_is)
    (case c_Hours_in_week => k_is)
    (case k_Hours_in_week => k_is)
    (case m_Hours_in_day => k_is)
    (case i_Hours_in_day => k_is)
    (case l_Hours_in_day => k_is)
    (case c_Hours_in_day => k_is)
    (case k_Hours_in_day => k_is)
    (case m_Hours_in_row => k_is)
    (case i_Hours_in_row => k_is)
    (case l_Hours_in_row => k_is)
    (case c_Hours_in_row => k_is)
    (case k_Hours_in_row => k_is)
    (case m_Hours_ahead => k_is)
    (case i_Hours_ahead => k_is)
    (case l_Hours_ahead => k_is)
    (case c_Hours_ahead => k_is)
    (case k_Hours_ahead => k_is)
    (case m_Hours_ahead_of_day => k_is)
    (case i_Hours_ahead_of_day => k_is)
    (case l_Hours_ahead_of_day => k_is)
    (case c_Hours_ahead_of_day => k_is)
    (case k_Hours_ahead_of_day => k_is)
    (case m_Hours_between => k_is)
    (case i_Hours_between => k_is)
    (case l_Hours_between => k_is)
    (case c_Hours_between => k_is)
    (case k_Hours_between => k_is)
    (case m_Hours_gone => k_is)
    (case i_Hours_gone => k_is)
    (case l_Hours_gone => k_is)
    (case c_Hours_gone => k_is)
    (case k_Hours_gone => k_is)
    (case m_Hours_time_by => k_is)
    (case i_Hours_time_by => k_is)
    (case l_Hours_time_by => k_is)
    (case c_Hours_time_by => k_is)
    (case k_Hours_time_by => k_is)
    (case m_Hours_next_open => k_is)
    (case i_Hours_next_open => k_is)
    (case l_Hours_next_open => k_is)
    (case c_Hours_next_open => k_is)
    (case k_Hours_next_open => k_is)
    (case m_Hours_next_shut => k_is)
    (case i_Hours_next_shut => k_is)
    (case l_Hours_next_shut => k_is)
    (case c_Hours_next_shut => k_is)
    (case k_Hours_next_shut => k_is)
    (case m_Hours_add => k_is)
    (case i_Hours_add => k_is)
    (case l_Hours_add => k_is)
    (case c_Hours_add => k_is)
    (case k_Hours_add => k_is)
    (case n_int => k_is)
    (case n_abs => k_is)
    (case n_len => k_is)
    (case n_sum => k_is)
    (case n_min => k_is)
    (case n_max => k_is)
    (case n_tuple => k_is)
    (case n_range => k_is)
    (case n_divmod => k_is)
    (case n_list => k_is)
    (case n_dict => k_is)
    (case n_any => k_is)
    (case n_sorted => k_is)
    (case gi_DAY => k_is)
    (case aL => k_is)
    (case lL => k_is)
    (case cL => k_is)
    (case lC => k_is)
    (case vP => exact rfl)
    (case nP => kernel_rfl)
    (case hC => kernel_rfl)
  case C =>
    intro w H s e s' z
    unfold L2.CX at z
    simp at z
