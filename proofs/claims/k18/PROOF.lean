import PyProof.Rows.All
import Wide.All
import OpenK.AllK
import Wide.FinOn
import PySem.Challenge.RW_recurwright_k18_numbers_that_come_again
import HandS.EndOwn
import HandS.WordsExc
import HandS.Defaults
import PyProof.WalksMore
import PyProof.SumWalkG
import PyProof.MinMaxWalk
import PyProof.Rows.StrCut
import HandS.Codes
import HandS.StrMore
import PyProof.FString3
import PyProof.FString
import PyProof.Rows.StrIntSpec
import HandS.FStr
import KE.KLam
import HandS.Base
import HandS.Call
import HandS.List
import HandS.Comp
import HandS.Ends
import HandS.Text
import HandS.Exc
import HandS.ExcOwn
import HandS.TryOnly
import HandS.TryMany
import HandS.Lambda
import HandS.Iter
import HandS.Words
import HandS.Evl
import HandS.Flow
import KE.GoesMore
import KE.GoesZip
import KE.GoesEnum
import HandS.Walk
import HandS.Steps
import KE.DataEq
import HandS.Dict
import HandS.DictComp
import PyProof.EnumMake
import PyProof.EnumFor
import PyProof.Draws
import PyProof.AssignAttr
import HandS.Sort
import KE.DatumOrd
import HandS.SortKw
import HandS.Deep
import HandS.Small
import HandS.Style
import HandS.More
import HandS.SetFor
import HandS.Strs
import HandS.TupAny
import HandS.SortInts
import HandS.Conv
import HandS.NoneIn
import HandS.TupLe
set_option Elab.async false
set_option linter.all false
set_option maxRecDepth 100000
set_option maxHeartbeats 4100000
namespace Rw
open PySem PySem.Spec PyProof.Rows L2 Evl
/-- a lambda of no captured names, as a tracked object -/
def LamO (f : Addr) (q : Str) (params : Arguments) (body : Expr) (scope : Scope) (c' : Addr) : HO :=
  .ext fun h => ∃ pm ctv, h.get? f = some (PySem.W.kla_obj "<lambda>" q params body scope [] pm c' ctv)
theorem LamO_ne {f : Addr} {q : Str} {params : Arguments} {body : Expr} {scope : Scope} {c' : Addr} (ps : Array Value) : LamO f q params body scope c' ≠ .tbl ps := fun z => by
  unfold LamO at z
  cases z
/-- the names of a lambda without parameters that captures nothing -/
structure Lam0 (scope : Scope) : Prop where
  kind : scope.kind = .function
  co : scope.isCoroutine = false
  gen : scope.isGenerator = false
  own : ∀ y ∈ scope.names, y.2 ≠ .local ∧ y.2 ≠ .cell ∧ y.2 ≠ .free
def lam0B (scope : Scope) : Bool := decide (scope.kind = .function) && !scope.isCoroutine && !scope.isGenerator && scope.names.all fun y => !decide (y.2 = .local) && !decide (y.2 = .cell) && !decide (y.2 = .free)
theorem lam0_by {scope : Scope} (h : lam0B scope = true) : Lam0 scope := by
  unfold lam0B at h
  simp only [Bool.and_eq_true, Bool.not_eq_true', decide_eq_true_eq, decide_eq_false_iff_not, List.all_eq_true] at h
  obtain ⟨⟨⟨h1, h2⟩, h3⟩, h4⟩ := h
  exact ⟨h1, h2, h3, fun y hy => ⟨(h4 y hy).1.1, (h4 y hy).1.2, (h4 y hy).2⟩⟩
theorem Lam0.clo {scope : Scope} (L : Lam0 scope) (cells : List (Str × Addr)) : cloFrom cells scope.names [] = [] := by
  have go : ∀ (names : List (Str × NameKind)) (acc : List (Str × Addr)), (∀ y ∈ names, y.2 ≠ .free) → cloFrom cells names acc = acc := by
    intro names
    induction names with
    | nil => intro acc _; rfl
    | cons a r ih =>
      obtain ⟨n, k⟩ := a
      intro acc h
      unfold cloFrom
      have hk : ¬ ((k == NameKind.free) = true) := fun e => h (n, k) List.mem_cons_self (by simpa using e)
      rw [if_neg hk]
      exact ih acc fun y hy => h y (List.mem_cons_of_mem _ hy)
  exact go scope.names [] fun y hy => (L.own y hy).2.2
abbrev lamEnv0 (q : Str) (scope : Scope) (L f c' : Addr) : Env := PySem.W.envX q scope L f (.ref c') []
def lamCx0 (P : Program) (w : World) (K : PySem.W.Frag) (mg : Str → Option Value) (base : Heap) (A : Around) (outer : List Env) (s : Shared) (H : Hp) (E : XK) (q : Str) (scope : Scope) (f c' : Addr) : Cx where
  prog := P
  w := w
  K := K
  mg := mg
  base := base
  A := A.deeper (lamEnv0 q scope s.heap.objs.size f c')
  N := []
  s_0 := s
  H_0 := H
  env := lamEnv0 q scope s.heap.objs.size f c'
  outer := outer
  stack := lamEnv0 q scope s.heap.objs.size f c' :: outer
  ex := []
  fn := fun _ => false
  calm := true
  pn := []
  xe := fun e s' => wpAny (model P w) (A.deeper (lamEnv0 q scope s.heap.objs.size f c')) (leaving (lamEnv0 q scope s.heap.objs.size f c') e) (fun _ s'' => L2.CX P w outer H s E e s'') (fun e' s'' => L2.CX P w outer H s E e' s'') s'
section
variable {P : Program} {w : World} {K : PySem.W.Frag} {mg : Str → Option Value} {base : Heap}
theorem lam_start0 {A : Around} {outer : List Env} {E : XK} {q : Str} {scope : Scope} {f c' : Addr} {hN : Heap} {tk : Nat} {s1 : Shared} {HZ : Hp} (LS : Lam0 scope) (env0 : Env0 P w K mg base A outer s1 HZ) (calm : A.handled = none)
    (newNs : hN.Ns s1.heap.objs.size fun y => ([] : List (Str × Value)).reverse.lookup y) (stays : ∀ b o, s1.heap.get? b = some o → hN.get? b = some o) :
    Inv (lamCx0 P w K mg base A outer s1 HZ E q scope f c') [] [] HZ { s1 with heap := hN, toks := tk } := by
  have noEx : ∀ b : Addr, b ∉ (lamCx0 P w K mg base A outer s1 HZ E q scope f c').ex := fun b z => absurd (show b ∈ ([] : List Addr) from z) (by simp)
  have plainN : ∀ {y : Str} {k : NameKind}, scope.names.lookup y = some k → k ≠ .local ∧ k ≠ .cell ∧ k ≠ .free := fun {y k} hl => LS.own _ (PySem.mem_of_lookup hl)
  refine ⟨⟨env0.mod, LS.kind, rfl, rfl, Nat.le_refl _, fun y z c e1 e2 => ?_, fun y isy => ?_, fun y c z _ => ?_, fun _ => calm, Around.frames_deeper env0.frames, .inr ⟨rfl, rfl⟩, fun b z => absurd z (noEx b), env0.bs, env0.bsz, fun b _ _ => noEx b,
      fun b z => absurd z (noEx b), env0.funs, env0.frf⟩,
    rfl, env0.bare, Un.kept stays, ⟨_, newNs, fun i y v e1 e2 e3 => ?_⟩, fun y c e => ?_, env0.hok.fresh (Nat.le_refl _), fun y c e => ?_, fun q hq => absurd (show q ∈ ([] : List (Addr × Obj)) ++ [] from hq) (by simp), env0.hok.kept stays, rfl⟩
  · have z : List.lookup y ([] : List (Str × Addr)) = some c := e1
    cases z
  · have isy : scope.names.lookup y = some .cell ∨ scope.names.lookup y = some .free := isy
    rcases isy with isy | isy
    · exact absurd rfl (plainN isy).2.1
    · exact absurd rfl (plainN isy).2.2
  · have z : false = true := z
    cases z
  · have e1 : ([] : List Str)[i]? = some y := e1
    simp at e1
  · have z : List.lookup y ([] : List (Str × Addr)) = some c := e
    cases z
  · have z : List.lookup y ([] : List (Str × Addr)) = some c := e
    cases z
end
section
variable {X : Cx} {pins : List (Addr × Obj)} {σ : L2.St} {H : Hp} {s : Shared}
/-- what the body of a lambda at f is worth: E what it raises; read where it runs -/
def LamRun (P : Program) (w : World) (K : PySem.W.Frag) (mg : Str → Option Value) (base : Heap) (k : Nat) (q : Str) (scope : Scope) (body : Expr) (f c' : Addr) (tb : XK → Hp → VK → Prop) : Prop :=
  ∀ (A : Around) (outer : List Env) (s : Shared) (H : Hp) (E : XK), Room k (A.deeper (lamEnv0 q scope s.heap.objs.size f c')) →
    PE (lamCx0 P w K mg base A outer s H E q scope f c') body (fun _ H1 Q1 => tb E H1 Q1)
/-- x() where x holds such a lambda -/
theorem pe_actO {W : WX} {E : XK} {k i : Nat} {a : Str} {p1 p2 : Pos} (takes : Takes X W) (hW : ∀ cls d σ' Hv, E cls d Hv → W cls d σ' Hv) (room : Room (k + 1) X.A)
    (hN : X.N[i]? = some a) (hv : Vis X.env.scope a) (hd : (a == ("__debug__" : Str)) = false := by decide) (hcd : (a == ("__classdict__" : Str)) = false := by decide) :
    PE X (.Call (.Name a p1) [] [] p2) (fun σ H Q => ∃ (f c' : Addr) (q : Str) (params : Arguments) (body : Expr) (scope : Scope) (tb : XK → Hp → VK → Prop), σ[i]? = some (some (.ref f)) ∧ H f = some (LamO f q params body scope c') ∧ H c' = some (LamX.CodeO c' q) ∧ Lam0 scope ∧
      (∀ (pm cv ctv : Value), bindArgs (PySem.W.kla_fn "<lambda>" q params body scope [] pm cv ctv) ⟨[], []⟩ = pure []) ∧ LamRun X.prog X.w X.K X.mg X.base k q scope body f c' tb ∧ tb E H Q) := by
  refine ⟨fun pz tz uz Hz Q Iz h => ?_⟩
  obtain ⟨f, c', q, params, body, scope, tb, hs, isf, isc, L, binds, runs, ht⟩ := h
  refine wpAny_Call_Name_kw (thn ((pe_var (pos := p1) (i := i) hN hv hd hcd).run pz tz uz Hz (fun v H1 => v = .ref f ∧ H1 = Hz) Iz ⟨.ref f, hs, rfl, rfl⟩) fun u sv ⟨v, H1, J1, rel, ends⟩ => ?_)
  obtain ⟨eqv, eqH⟩ := ends
  subst eqv
  rw [eqH] at J1
  obtain rfl : u = Value.ref f := rel
  obtain ⟨⟨pm, ctv, objf⟩, _, _⟩ := J1.hok f _ isf
  refine PySem.W.callWith_F0 ⟨_, _, _, _, objf⟩ ?_
  obtain ⟨⟨oc, vs, t, objc, datac, qualc⟩, _, _⟩ := J1.hok c' _ isc
  have ran : codeAny (model X.prog X.w) X.A (.call (.ref f) ⟨[], []⟩) (CR (L2.CX X.prog X.w) X.stack X.prog X.w Hz sv Q E) sv := by
    refine PySem.W.kla_callFunE room.depth objf rfl L.co L.gen rfl ⟨c', oc, vs, t, rfl, objc, datac, qualc⟩ ?_
    rw [binds]
    refine wpAny_pure (wpAny_newFunctionEnv (fun y hy => (L.own y hy).2.1) (fun y hy => absurd hy (by simp)) (fun hN newNs steps => ⟨J1.nolimit.fresh _ steps, ?_⟩) L.kind)
    show codeAny _ _ (.expr body (lamEnv0 q scope sv.heap.objs.size f c')) _ _
    have stays : ∀ b o, sv.heap.get? b = some o → hN.get? b = some o := fun b o e => steps.extBut b o (Nat.ne_of_lt (Heap.lt_size e)) (Heap.get?_push_of_some _ e)
    have J : Inv (lamCx0 X.prog X.w X.K X.mg X.base X.A X.stack sv Hz E q scope f c') [] [] Hz { sv with heap := hN, toks := sv.toks + ([] : List (Str × Value)).length } :=
      lam_start0 L J1.env0 room.hd newNs stays
    refine PySem.W.kla_codeExpr (wpAny_mono ((runs _ _ sv Hz E (room.deeper _)).run [] _ _ Hz Q J ht) (fun v s' got => ?_) fun e s' got => got)
    obtain ⟨wv, Hv, Jv, rv, q⟩ := got
    exact ⟨wv, Hv, Jv.os, Jv.bare, Jv.base, Jv.hok, rv, q⟩
  have out : Passes (L2.CX X.prog X.w) X E := passes_call takes hW
  refine wpAny_call (codeAny_mono ran fun r s' got => ?_)
  cases r with
  | error e => exact out pz uz Hz sv e s' J1 got
  | ok fl =>
    cases fl with
    | ret u => exact J1.after got
    | next => exact False.elim got
    | brk => exact False.elim got
    | cont => exact False.elim got
/-- lambda: body -/
def tLamO (T : List (Addr × Str)) (q : Str) (params : Arguments) (body : Expr) (scope : Scope) : TE := fun _ H Q => LamX.Tabs T H ∧
  ∀ f cc H1, H f = none → LamX.ExtN H H1 → LamX.Tabs T H1 → H1 f = some (LamO f q params body scope cc) → H1 cc = some (LamX.CodeO cc q) → Q (.ref f) H1
theorem pe_lamO {T : List (Addr × Str)} {c P : Addr} {params : Arguments} {body : Expr} {scope : Scope} {pos : Pos} (L : Lam0 scope) (TB : LamX.TabB X.base X.mg c P) (codeX : X.env.code = .ref c)
    (inT : (P, X.env.qual ++ "<lambda>") ∈ T) (oneT : ∀ p ∈ T, p.1 = P → p.2 = X.env.qual ++ "<lambda>") (nodef : defaultsOf params X.env = ([], [])) :
    PE X (.Lambda params body scope pos) (tLamO T (X.env.qual ++ "<lambda>") params body scope) := by
  refine ⟨fun pins s σ H Q I h => ?_⟩
  obtain ⟨tabs0, h⟩ := h
  obtain ⟨trs, atP, okP, allP⟩ := tabs0 _ inT
  have hclo : cloFrom X.env.cells scope.names [] = [] := L.clo _
  have frees : ∀ y ∈ scope.names, y.2 = .free → ∃ c, X.env.cells.lookup y.1 = some c := fun y hy e => absurd e (L.own y hy).2.2
  refine PySem.W.kla_eval nodef ?_
  have bltP : s.heap.BuiltinsAt X.mg P := TB.bm.keeps I.bk
  have heapP : s.heap.get? P = some { cls := .none, data := .fields trs } := I.hok P _ atP
  cases among : codeAmong pos trs.toList with
  | none =>
    refine PySem.W.kla_makeFunction (mg := X.mg) (c := c) (P := P) (ps := trs) (closure_ok frees) I.ok.glob (I.mod.glob.keeps I.bk) codeX (TB.code.keeps I.bk) heapP okP among TB.gP bltP fun cc tv hp tt kept ge0 lt0 rec0 tab0 => ?_
    rw [hclo]
    obtain ⟨c2, co, fs, t, f2, coAt, coData, coQual⟩ := rec0
    cases f2
    have ge1 : s.heap.objs.size ≤ hp.objs.size := Nat.le_trans ge0 (Nat.le_of_lt lt0)
    have newC : H cc = none := I.hok.fresh ge0
    have J1 := LamX.inv_table (t' := tt) (more := #[rawInt pos.line, rawInt pos.col, .ref cc]) (h' := hp) I atP kept tab0 ge0 ⟨co, fs, t, coAt, coData, coQual⟩
    have extH : LamX.ExtN H (upd (upd H P (.tbl (trs ++ #[rawInt pos.line, rawInt pos.col, .ref cc]))) cc (LamX.CodeO cc (X.env.qual ++ "<lambda>"))) := fun b o e n => by
      rw [upd_ne (ne_of_none e newC), upd_ne (fun z => n trs (Option.some.inj (e.symm.trans (by rw [z]; exact atP))))]
      exact e
    have snocL : (trs ++ #[rawInt pos.line, rawInt pos.col, .ref cc]).toList = trs.toList ++ [rawInt pos.line, rawInt pos.col, .ref cc] := by simp
    have tabs1 : LamX.Tabs T (upd (upd H P (.tbl (trs ++ #[rawInt pos.line, rawInt pos.col, .ref cc]))) cc (LamX.CodeO cc (X.env.qual ++ "<lambda>"))) := fun p hp => by
      by_cases isP : p.1 = P
      · rw [oneT p hp isP, isP]
        refine ⟨_, by rw [upd_ne (ne_of_none atP newC), upd_same], by rw [snocL]; exact PySem.TriplesOk_snoc _ _ _ _ okP, fun pp cd find => ?_⟩
        rw [snocL] at find
        rcases LamX.among_app _ okP find with z | z
        · obtain ⟨c9, f1, f2⟩ := allP pp cd z
          exact ⟨c9, f1, extH _ _ f2 LamX.codeO_ne⟩
        · exact ⟨cc, z, upd_same⟩
      · obtain ⟨trs', t1, t2, t3⟩ := tabs0 p hp
        refine ⟨trs', by rw [upd_ne (ne_of_none t1 newC), upd_ne isP]; exact t1, t2, fun pp cd find => ?_⟩
        obtain ⟨c9, f1, f2⟩ := t3 pp cd find
        exact ⟨c9, f1, extH _ _ f2 LamX.codeO_ne⟩
    -- the function object
    have objF : (hp.push (PySem.W.kla_obj "<lambda>" (X.env.qual ++ "<lambda>") params body scope [] ((X.mg "__name__").getD .none) cc tv)).get? hp.objs.size = some (PySem.W.kla_obj "<lambda>" (X.env.qual ++ "<lambda>") params body scope [] ((X.mg "__name__").getD .none) cc tv) := Heap.get?_push_size _ rfl
    generalize eqH1 : (upd (upd H P (.tbl (trs ++ #[rawInt pos.line, rawInt pos.col, .ref cc]))) cc (LamX.CodeO cc (X.env.qual ++ "<lambda>"))) = H1 at J1 extH tabs1
    have newF : H1 hp.objs.size = none := J1.hok.fresh (Nat.le_refl _)
    have J2 := Inv.laid (a := hp.objs.size) (o := LamO hp.objs.size (X.env.qual ++ "<lambda>") params body scope cc) (t' := tt) (h' := hp.push (PySem.W.kla_obj "<lambda>" (X.env.qual ++ "<lambda>") params body scope [] ((X.mg "__name__").getD .none) cc tv)) J1 (fun b u e => Heap.get?_push_of_some _ e) (Nat.le_refl _)
      ⟨⟨_, _, objF⟩, ⟨_, objF⟩, fun h1 h2 ⟨pm, ct, e⟩ st => ⟨pm, ct, st _ e⟩⟩
    have extH2 : LamX.ExtN H (upd H1 hp.objs.size (LamO hp.objs.size (X.env.qual ++ "<lambda>") params body scope cc)) := fun b o e n => by
      rw [upd_ne (ne_of_none (extH b o e n) newF)]
      exact extH b o e n
    have atC : H1 cc = some (LamX.CodeO cc (X.env.qual ++ "<lambda>")) := by rw [← eqH1]; exact upd_same
    refine ⟨.ref hp.objs.size, _, J2, rfl, h hp.objs.size cc _ (I.hok.fresh ge1) extH2 (tabs1.ext fun b o e => by rw [upd_ne (ne_of_none e newF)]; exact e) upd_same ?_⟩
    rw [upd_ne (ne_of_none atC newF)]
    exact atC
  | some cd =>
    obtain ⟨cc, e, oldC⟩ := allP pos cd among
    subst e
    refine PySem.W.kla_makeFunctionHit (mg := X.mg) (c := c) (P := P) (ps := trs) (closure_ok frees) I.ok.glob (I.mod.glob.keeps I.bk) codeX (TB.code.keeps I.bk) heapP okP among bltP fun tv hp tt kept ge1 => ?_
    rw [hclo]
    have objF : (hp.push (PySem.W.kla_obj "<lambda>" (X.env.qual ++ "<lambda>") params body scope [] ((X.mg "__name__").getD .none) cc tv)).get? hp.objs.size = some (PySem.W.kla_obj "<lambda>" (X.env.qual ++ "<lambda>") params body scope [] ((X.mg "__name__").getD .none) cc tv) := Heap.get?_push_size _ rfl
    have newF : H hp.objs.size = none := I.hok.fresh ge1
    have J2 := Inv.laid (a := hp.objs.size) (o := LamO hp.objs.size (X.env.qual ++ "<lambda>") params body scope cc) (t' := tt) (h' := hp.push (PySem.W.kla_obj "<lambda>" (X.env.qual ++ "<lambda>") params body scope [] ((X.mg "__name__").getD .none) cc tv)) I (fun b u e => Heap.get?_push_of_some _ (kept b u e)) ge1
      ⟨⟨_, _, objF⟩, ⟨_, objF⟩, fun h1 h2 ⟨pm, ct, e⟩ st => ⟨pm, ct, st _ e⟩⟩
    have extH2 : ∀ b o, H b = some o → upd H hp.objs.size (LamO hp.objs.size (X.env.qual ++ "<lambda>") params body scope cc) b = some o := fun b o e => by
      rw [upd_ne (ne_of_none e newF)]
      exact e
    exact ⟨.ref hp.objs.size, _, J2, rfl, h hp.objs.size cc _ newF (LamX.ExtN.of extH2) (tabs0.ext extH2) upd_same (extH2 _ _ oldC)⟩
end

/-- a def whose name the module has, and what it promises; it may raise -/
def Cal (P : Program) (w : World) (K : PySem.W.Frag) (mg : Str → Option Value) (base : Heap) (k : Nat) (x : Str) (sp : Sp) (dvs : List V) : Prop :=
  ∃ (f : Addr) (d : FuncData) (names : List Str) (dv : List Value), mg x = some (.ref f) ∧ PySem.W.keepIn K (.ref f) = true ∧ FnOk P w K mg base (L2.CX P w) k f d names sp ∧ Binds K d names dv ∧ Vals dvs dv
section
variable {X : Cx} {k j : Nat} {x : Str} {sp : Sp} {dvs : List V} {E : XK} {p pos : Pos} {e : Expr} {es : List Expr} {t : TA}
theorem pe_k (c : Cal X.prog X.w X.K X.mg X.base k x sp dvs) (room : Room j X.A) (le : k ≤ j) (out : Passes (L2.CX X.prog X.w) X E) (args : PA X (e :: es) t) (gl : Gl X x := by rfl)
    (plain : (x == ("__debug__" : Str)) = false := by decide) (stars : starEach (e :: es) X.env = (false, eval e X.env) :: starEach es X.env := by rfl) (nostar : (backTo pos (starEach es X.env)).any (·.1) = false := by rfl) :
    PE X (.Call (.Name x p) (e :: es) [] pos) (tCall sp dvs E t) :=
  let ⟨_, _, _, _, at_, kp, F, b, d⟩ := c
  pe_call F (room.mono le) gl at_ kp b d out args plain stars nostar
theorem pe_k0 (c : Cal X.prog X.w X.K X.mg X.base k x sp dvs) (room : Room j X.A) (le : k ≤ j) (out : Passes (L2.CX X.prog X.w) X E) (gl : Gl X x := by rfl)
    (plain : (x == ("__debug__" : Str)) = false := by decide) : PE X (.Call (.Name x p) [] [] pos) (tCall sp dvs E tNil) :=
  let ⟨_, _, _, _, at_, kp, F, b, d⟩ := c
  pe_call0 F (room.mono le) gl at_ kp b d out plain
/-- what a def lets out is taken by its caller, a def likewise -/
theorem passE {X : Cx} {E : XK} {E1 : Value → Shared → Prop} (hs : X.stack = X.env :: X.outer := by rfl) (hf : X.env.frame = some X.env.locals := by rfl) (hex : X.ex = [] := by rfl)
    (hx : X.xe = fun e s' => wpAny (model X.prog X.w) X.A (leaving X.env e) (fun _ s'' => L2.CX X.prog X.w X.outer X.H_0 X.s_0 E e s'') E1 s' := by rfl) : Passes (L2.CX X.prog X.w) X E :=
  passes_call (takes_of hs hf hex hx) fun _ _ _ _ h => h
end
/-! ### the classes of errors -/
structure Exc1 (K : PySem.W.Frag) (mg : Str → Option Value) (x : Str) (C : Addr) : Prop where
  g : mg x = some (.ref C)
  x : PySem.W.excIn K C [.type "ValueError", .type "Exception", .type "BaseException", .type "object"] "ValueError.__new__" = true
  k : PySem.W.keepIn K (.ref C) = true
  b : PySem.W.subIn K (.ref C) (.type "BaseException") = some true
  t : PySem.W.typeIn K (.ref C) = some (.type "type")
def excName : Nat → Str
  | 0 => "BadCalendar"
  | 1 => "BadDay"
  | 2 => "BadTime"
  | 3 => "BadRule"
  | 4 => "BadZone"
  | 5 => "BadSize"
  | 6 => "BadPaper"
  | 7 => "BadText"
  | 8 => "BadStore"
  | 9 => "NoDay"
  | 10 => "NoSuch"
  | _ => ""
def kindName : Nat → Str
  | 0 => "calendar"
  | 1 => "day"
  | 2 => "time"
  | 3 => "rule"
  | 4 => "zone"
  | 5 => "size"
  | 6 => "paper"
  | 7 => "text"
  | 8 => "store"
  | 9 => "no day"
  | 10 => "no such"
  | _ => ""
structure Exs (K : PySem.W.Frag) (mg : Str → Option Value) (c : Nat → Addr) : Prop where
  e : ∀ i, i < 11 → Exc1 K mg (excName i) (c i)
  m : ∀ i j, i < 11 → j ≤ i → PySem.W.exmOne K (.ref (c i)) (.ref (c j)) = some (decide (i = j))
/-- told of an error: its kind -/
def ETold (c : Nat → Addr) (Q : VK) : XK := fun cls _ H => ∃ i, i < 11 ∧ cls = .ref (c i) ∧ Q (.str (kindName i)) H
def spTold (P : Program) (w : World) (K : PySem.W.Frag) (mg : Str → Option Value) (base : Heap) (c : Nat → Addr) (k : Nat) : Sp := fun vs H Q _ =>
  ∃ (f c' : Addr) (q : Str) (params : Arguments) (body : Expr) (scope : Scope) (tb : XK → Hp → VK → Prop), vs = [.ref f] ∧ H f = some (LamO f q params body scope c') ∧ H c' = some (LamX.CodeO c' q) ∧ Lam0 scope ∧
    (∀ (pm cv ctv : Value), bindArgs (PySem.W.kla_fn "<lambda>" q params body scope [] pm cv ctv) ⟨[], []⟩ = pure []) ∧ LamRun P w K mg base k q scope body f c' tb ∧ tb (ETold c Q) H Q
section
variable {X : Cx}
/-- raise X('..') -/
theorem ps_raiseX {C : Addr} {x m : Str} {j : Nat} {p p2 pos pos2 : Pos} {E : XK} {E1 : Value → Shared → Prop} (T : Exc1 X.K X.mg x C) (hc : X.calm = true := by rfl) (hg : Gl X x := by rfl) (hs : X.stack = X.env :: X.outer := by rfl) (hf : X.env.frame = some X.env.locals := by rfl) (hex : X.ex = [] := by rfl)
    (hx : X.xe = fun e s' => wpAny (model X.prog X.w) X.A (leaving X.env e) (fun _ s'' => L2.CX X.prog X.w X.outer X.H_0 X.s_0 E e s'') E1 s' := by rfl) (hdb : (x == ("__debug__" : Str)) = false := by decide) :
    PS X (.Raise (some (.Call (.Name x p) [.Constant (.str m) j p2] [] pos)) none pos2) (fun _ _ H => E (.ref C) none H) :=
  ps_raise hc (takes_of hs hf hex hx) (pmk_own PySem.F.excBase_ValueError T.x T.g T.k (raises_own T.b T.t) hg hdb)
end
/-! ### evaluation -/
theorem et_chain {σ : L2.St} {H : Hp} {ta tb tc : TE} {x y z : V} {r r' : R2} {b b' : Bool} (ha : Ev ta σ H x) (hb : Ev tb σ H y) (hc : b = true → Ev tc σ H z) (hr : RV r x y H (.bl b)) (hr' : b = true → RV r' y z H (.bl b')) : Ev (tChain r r' ta tb tc) σ H (.bl (b && b')) := fun H1 e Q q =>
  ha H1 e _ fun H2 e2 => hb H2 (e.trans e2) _ fun H3 e3 => hr H3 ((e.trans e2).trans e3) _ fun H4 e4 => ⟨b, rfl, by
    cases b with
    | true =>
      rw [if_pos rfl]
      exact hc rfl H4 (((e.trans e2).trans e3).trans e4) _ fun H5 e5 => hr' rfl H5 ((((e.trans e2).trans e3).trans e4).trans e5) Q fun H6 e6 => q H6 (((((e2).trans e3).trans e4).trans e5).trans e6)
    | false =>
      rw [if_neg Bool.false_ne_true]
      exact q H4 ((e2.trans e3).trans e4)⟩
theorem rc_int1 {H : Hp} {i : Int} : RC (fun xs H Q => (∃ i, xs = [V.int i] ∧ Q (V.int i) H) ∨ ∃ k, xs = [V.bl k] ∧ Q (V.int (if k = true then 1 else 0)) H) [.int i] H (.int i) := fun H1 _ _ q => .inl ⟨i, rfl, q H1 (Ex.refl H1)⟩
theorem rc_int1b {H : Hp} {k : Bool} : RC (fun xs H Q => (∃ i, xs = [V.int i] ∧ Q (V.int i) H) ∨ ∃ k, xs = [V.bl k] ∧ Q (V.int (if k = true then 1 else 0)) H) [.bl k] H (.int (if k = true then 1 else 0)) := fun H1 _ _ q => .inr ⟨k, rfl, q H1 (Ex.refl H1)⟩
theorem rc_abs {H : Hp} {i : Int} : RC (fun xs H Q => ∃ i, xs = [V.int i] ∧ Q (V.int (if i < 0 then -i else i)) H) [.int i] H (.int (if i < 0 then -i else i)) := fun H1 _ _ q => ⟨i, rfl, q H1 (Ex.refl H1)⟩
def ExB (d : Addr) (H H' : Hp) : Prop := ∀ x o, x ≠ d → H x = some o → H' x = some o
theorem ExB.of {d : Addr} {H H' : Hp} (e : Ex H H') : ExB d H H' := fun x o _ h => e x o h
theorem ExB.upd {d : Addr} {H H' : Hp} {o : HO} (e : ExB d H H') : ExB d H (upd H' d o) := fun x u n h => by rw [upd_ne n]; exact e x u n h
theorem ExB.trans {d : Addr} {H H1 H2 : Hp} (a : ExB d H H1) (b : ExB d H1 H2) : ExB d H H2 := fun x o n h => b x o n (a x o n h)
theorem ExB.ex {d : Addr} {H H1 H2 : Hp} (a : ExB d H H1) (b : Ex H1 H2) : ExB d H H2 := fun x o n h => b x o (a x o n h)
end Rw
namespace Rw
open PySem PySem.Spec PyProof.Rows L2 Evl
/-! ### what a def gives: a value, a new list, a new tuple, or an error -/
inductive Rs where
  | ok (v : V)
  | lst (xs : List V)
  | tup (xs : List V)
  | err (i : Nat)
  deriving DecidableEq
def Out (c : Nat → Addr) (H : Hp) (Q : VK) (E : XK) : Rs → Prop
  | .ok v => ∀ H', Ex H H' → Q v H'
  | .lst xs => ∀ p H', H p = none → Ex H H' → H' p = some (.lst xs) → Q (.ref p) H'
  | .tup xs => ∀ p H', H p = none → Ex H H' → H' p = some (.tup xs) → Q (.ref p) H'
  | .err i => ∀ H', Ex H H' → E (.ref (c i)) none H'
theorem Out.mono {c : Nat → Addr} {H H1 : Hp} {Q : VK} {E : XK} {r : Rs} (e : Ex H H1) (o : Out c H Q E r) : Out c H1 Q E r := by
  cases r with
  | ok v => exact fun H' e' => o H' (e.trans e')
  | lst xs => exact fun p H' hp e' h => o p H' (fresh_back e hp) (e.trans e') h
  | tup xs => exact fun p H' hp e' h => o p H' (fresh_back e hp) (e.trans e') h
  | err i => exact fun H' e' => o H' (e.trans e')
def spF (c : Nat → Addr) (f : List V → Option Rs) : Sp := fun vs H Q E => ∃ r, f vs = some r ∧ Out c H Q E r
section
variable {c : Nat → Addr} {f : List V → Option Rs} {σ : L2.St} {H : Hp} {vs dvs : List V} {ta : TA} {E : XK} {z : V} {xs : List V}
theorem ev_F (h : EvA ta σ H vs) (hf : f (vs ++ dvs) = some (.ok z)) : Ev (tCall (spF c f) dvs E ta) σ H z := fun H1 e Q q =>
  h H1 e _ fun H2 e2 => ⟨_, hf, fun H3 e3 => q H3 (e2.trans e3)⟩
theorem el_F (h : EvA ta σ H vs) (hf : f (vs ++ dvs) = some (.lst xs)) : EvL (tCall (spF c f) dvs E ta) σ H xs := fun H1 e Q q =>
  h H1 e _ fun H2 e2 => ⟨_, hf, fun p H3 hp e3 h3 => q p H3 (fresh_back e2 hp) (e2.trans e3) h3⟩
theorem eu_F (h : EvA ta σ H vs) (hf : f (vs ++ dvs) = some (.tup xs)) : EvU (tCall (spF c f) dvs E ta) σ H xs := fun H1 e Q q =>
  h H1 e _ fun H2 e2 => ⟨_, hf, fun p H3 hp e3 h3 => q p H3 (fresh_back e2 hp) (e2.trans e3) h3⟩
/-- a call that raises: whatever is wanted of its value -/
theorem er_F {i : Nat} (h : EvA ta σ H vs) (hf : f (vs ++ dvs) = some (.err i)) (k : ∀ H1, Ex H H1 → E (.ref (c i)) none H1) (Q : VK) : tCall (spF c f) dvs E ta σ H Q :=
  h H (Ex.refl H) _ fun H2 e2 => ⟨_, hf, fun H3 e3 => k H3 (e2.trans e3)⟩
end
/-! ### two figures -/
def twoL (n : Int) : List Nat := [48 + n.toNat / 10, 48 + n.toNat % 10]
theorem two_text (n : Int) (h0 : 0 ≤ n) (h1 : n < 100) : (if decide (n < 10) = true then (⟨#[48]⟩ : Str) ++ Str.ofString (toString n) else Str.ofString (toString n)) = SX.S (twoL n) := by
  have all : ∀ m : Fin 100, (if decide (((m.val : Nat) : Int) < 10) = true then (⟨#[48]⟩ : Str) ++ Str.ofString (toString ((m.val : Nat) : Int)) else Str.ofString (toString ((m.val : Nat) : Int))) = SX.S (twoL ((m.val : Nat) : Int)) := by decide +kernel
  have e := all ⟨n.toNat, by omega⟩
  have en : ((n.toNat : Nat) : Int) = n := Int.toNat_of_nonneg h0
  rw [show ((⟨n.toNat, by omega⟩ : Fin 100).val) = n.toNat from rfl, en] at e
  exact e
section
variable {X : Cx}
/-- f'{e:02d}' -/
def tTwo (te : TE) : TE := fun σ H Q => te σ H fun x H1 => ∃ n : Int, x = .int n ∧ 0 ≤ n ∧ n < 100 ∧ Q (.str (SX.S (twoL n))) H1
theorem pe_two {e : Expr} {te : TE} {k : Nat} {p1 p2 pos p3 : Pos} (hD : X.base.NoDigits) (he : PE X e te) : PE X (.JoinedStr [.FormattedValue e (-1) (some (.JoinedStr [.Constant (.str "02d") k p1] p2)) pos] p3) (tTwo te) := by
  refine pe_joined1 ⟨fun pins s σ H Q I h => ?_⟩
  refine wpAny_FormattedValue_spec (thn (he.run pins s σ H _ I h) ?_)
  rintro v s1 ⟨x, H1, I1, r1, n, rfl, h0, h1, q⟩
  obtain ⟨t, rfl⟩ := r1
  have hs : PE X (.JoinedStr [.Constant (.str "02d") k p1] p2) (tC (.str "02d")) := pe_joined1 pe_str
  refine thn (hs.run pins s1 σ H1 (fun v H' => v = .str "02d" ∧ H' = H1) I1 ⟨rfl, rfl⟩) ?_
  rintro r s2 ⟨y, H2, I2, r2, rfl, rfl⟩
  obtain ⟨t2, rfl⟩ := r2
  refine ⟨_, t2, rfl, ?_⟩
  refine formatField_int_specOf (hD.keeps I2.bk) (by have : n.natAbs < 100 := by omega
                                                     exact lt_digitLimit_of_lt (by omega)) (by decide +kernel) (fun W hW F => ?_) (by decide)
  have e := F.pad2 (by decide +kernel) (hW.trans (by decide +kernel)) h0 h1
  rw [two_text n h0 h1] at e
  exact ⟨.str _, H2, I2.tok _, ⟨_, rfl⟩, by rw [e]; exact q⟩
end
theorem ev_two {te : TE} {σ : L2.St} {H : Hp} {n : Int} (h : Ev te σ H (.int n)) (h0 : 0 ≤ n) (h1 : n < 100) : Ev (tTwo te) σ H (.str (SX.S (twoL n))) := fun H1 e Q q =>
  h H1 e _ fun H2 e2 => ⟨n, rfl, h0, h1, q H2 e2⟩
/-! ### comprehensions that keep all -/
theorem given_all (n : Nat) (v : Nat → V) : given n (fun _ => true) v = (List.range n).map v := by
  unfold given
  rw [List.filter_eq_self.mpr fun _ _ => rfl]
theorem given_map {xs ys : List V} {v : Nat → V} (hl : xs.length = ys.length) (h : ∀ i y, ys[i]? = some y → v i = y) : given xs.length (fun _ => true) v = ys := by
  rw [given_all]
  refine List.ext_getElem? fun i => ?_
  rw [List.getElem?_map, hl]
  by_cases hi : i < ys.length
  · rw [List.getElem?_range hi, List.getElem?_eq_getElem hi]
    show some (v i) = some ys[i]
    rw [h i _ (List.getElem?_eq_getElem hi)]
  · rw [List.getElem?_eq_none (by rw [List.length_range]; omega), List.getElem?_eq_none (by omega)]
    rfl
theorem et_yes {σ : L2.St} {H : Hp} : EvT tYes σ H true := fun H1 _ _ q => q H1 (Ex.refl H1)
section
variable {K : PySem.W.Frag} {σ : L2.St} {H : Hp} {te tl : TE} {t : TT} {j : Nat} {vs : List Nat} {xs ys : List V}
/-- a comprehension over a new tuple -/
theorem el_lcNU (f : Nat → Bool) (v : Nat → V) (h : EvU tl σ H xs) (hz : xs.length ≤ 40000) (hw : ∀ x, wipe ((wipe σ vs).set j (some x)) vs = wipe σ vs)
    (tested : ∀ (i : Nat) (x : V) H1, Ex H H1 → xs[i]? = some x → EvT t ((wipe σ vs).set j (some x)) H1 (f i)) (he : ∀ (i : Nat) (x : V) H1, Ex H H1 → xs[i]? = some x → f i = true → Ev te ((wipe σ vs).set j (some x)) H1 (v i)) :
    EvL (tLc (iTup K tl) (gName j) t te vs) σ H (given xs.length f v) := fun H0 e Q q => h H0 e _ fun a H1 _ e1 hx => ⟨a, rfl, ⟨xs, st_of hx⟩, fun Dl hD =>
  lc_tup (xs := xs) (Cw H1 f v Dl) ⟨hD, Ex.new hD, upd_same⟩ (fun i H' _ p => st_of (p.2.1 a _ hx)) (fun i x H' hi p => ⟨hw x, cw_turn p (Nat.lt_of_lt_of_le (List.getElem?_eq_some_iff.mp hi).1 (Nat.le_trans hz (by decide))) (tested i x H1 (e.trans e1) hi) (fun hf => he i x H1 (e.trans e1) hi hf)⟩)
    (fun Hz pz => q Dl Hz (fresh_back e1 pz.1) (e1.trans pz.2.1) pz.2.2)⟩
/-- all items of a new tuple, each made another -/
theorem el_mapNU (h : EvU tl σ H xs) (hz : xs.length ≤ 40000) (hw : ∀ x, wipe ((wipe σ vs).set j (some x)) vs = wipe σ vs) (hl : xs.length = ys.length)
    (he : ∀ (i : Nat) (x y : V) H1, Ex H H1 → xs[i]? = some x → ys[i]? = some y → Ev te ((wipe σ vs).set j (some x)) H1 y) :
    EvL (tLc (iTup K tl) (gName j) tYes te vs) σ H ys := by
  have g := el_lcNU (K := K) (t := tYes) (te := te) (fun _ => true) (fun i => ys.getD i .non) h hz hw (fun _ _ _ _ _ => et_yes) fun i x H1 e hx _ => by
    have hi : i < ys.length := by
      have q := (List.getElem?_eq_some_iff.mp hx).1
      omega
    have ey : ys.getD i .non = ys[i] := by rw [List.getD_eq_getElem?_getD, List.getElem?_eq_getElem hi]; rfl
    rw [ey]
    exact he i x _ H1 e hx (List.getElem?_eq_getElem hi)
  rw [given_map hl fun i y hy => by rw [List.getD_eq_getElem?_getD, hy]; rfl] at g
  exact g
/-- all items of a list, each made another -/
theorem el_mapL {a : Addr} (h : Ev tl σ H (.ref a)) (hx : SqL K H a xs) (hz : xs.length ≤ 40000) (hw : ∀ x, wipe ((wipe σ vs).set j (some x)) vs = wipe σ vs) (hl : xs.length = ys.length)
    (he : ∀ (i : Nat) (x y : V) H1, Ex H H1 → xs[i]? = some x → ys[i]? = some y → Ev te ((wipe σ vs).set j (some x)) H1 y) :
    EvL (tLc (iList K tl) (gName j) tYes te vs) σ H ys := by
  have g := el_lcL (K := K) (t := tYes) (te := te) (fun _ => true) (fun i => ys.getD i .non) h hx hz hw (fun _ _ _ _ _ => et_yes) fun i x H1 e hx _ => by
    have hi : i < ys.length := by
      have q := (List.getElem?_eq_some_iff.mp hx).1
      omega
    have ey : ys.getD i .non = ys[i] := by rw [List.getD_eq_getElem?_getD, List.getElem?_eq_getElem hi]; rfl
    rw [ey]
    exact he i x _ H1 e hx (List.getElem?_eq_getElem hi)
  rw [given_map hl fun i y hy => by rw [List.getD_eq_getElem?_getD, hy]; rfl] at g
  exact g
/-- sep.join(new list) -/
theorem ev_join {to : TE} {a : Str} {zs : List Str} (ho : Ev to σ H (.str a)) (he : EvL te σ H (zs.map V.str)) (hz : (zs.map (·.length)).sum + zs.length * a.length ≤ 16777216) :
    Ev (tM1 (fun x xs H Q => ∃ a p, ∃ ys : List Str, x = .str a ∧ xs = [.ref p] ∧ (SqL K H p (ys.map V.str) ∨ SqT K H p (ys.map V.str)) ∧ (ys.map (·.length)).sum + ys.length * a.length ≤ 16777216 ∧ Q (.str (Txt.join a ys)) H) to te) σ H (.str (Txt.join a zs)) := fun H1 e Q q =>
  ho H1 e _ fun H2 e2 => ⟨⟨a, rfl⟩, he H2 (e.trans e2) _ fun p H3 _ e3 h3 => ⟨a, p, zs, rfl, rfl, .inl (sq_of h3), hz, q H3 (e2.trans e3)⟩⟩
end
end Rw
namespace Rw
open PySem PySem.Spec PyProof.Rows L2 Evl SX
/-! ### texts of figures -/
def isDig (c : Nat) : Bool := decide (48 ≤ c) && decide (c ≤ 57)
theorem figs_cps : (("0123456789" : Str)).cps = #[48, 49, 50, 51, 52, 53, 54, 55, 56, 57] := by decide +kernel
theorem figs_has (c : Nat) : (("0123456789" : Str)).cps.contains c = isDig c := by
  rw [figs_cps]
  unfold isDig
  rw [Bool.eq_iff_iff]
  simp only [Array.contains_eq_mem, Bool.and_eq_true, decide_eq_true_eq]
  simp only [List.mem_toArray, List.mem_cons, List.not_mem_nil, or_false]
  omega
theorem extract_S (l : List Nat) (i j : Nat) : PySem.Builtin.Str.strSub (S l) i j = S ((l.drop i).take (j - i)) := by
  unfold PySem.Builtin.Str.strSub
  refine TL.ext_tl ?_
  show ((S l).cps.extract i j).toList = (l.drop i).take (j - i)
  rw [Array.toList_extract, List.extract_eq_take_drop]
theorem drop_takeWhile (p : Nat → Bool) (l : List Nat) : l.drop (l.takeWhile p).length = l.dropWhile p := by
  induction l with
  | nil => rfl
  | cons a r ih =>
    rw [List.takeWhile_cons, List.dropWhile_cons]
    cases h : p a with
    | true => simpa using ih
    | false => rfl
theorem lstrip_S (l : List Nat) : Txt.lstripChars (S l) "0123456789" = S (l.dropWhile isDig) := by
  unfold Txt.lstripChars
  rw [PyProof.Rows.stripBy_eq, show (("0123456789" : Str)).cps.contains = isDig from funext figs_has]
  unfold stripLo stripHi
  rw [if_pos rfl, if_neg (by decide), extract_S]
  show S ((l.drop (l.takeWhile isDig).length).take ((S l).length - (l.takeWhile isDig).length)) = _
  rw [S_len, drop_takeWhile, List.take_of_length_le]
  have e := congrArg List.length (List.takeWhile_append_dropWhile (p := isDig) (l := l))
  rw [List.length_append] at e
  omega
theorem cut_figs (l : List Nat) : cutS (S l) none (some ((l.length : Int) - ((l.dropWhile isDig).length : Int))) = S (l.takeWhile isDig) := by
  have e := congrArg List.length (List.takeWhile_append_dropWhile (p := isDig) (l := l))
  rw [List.length_append] at e
  have ez : (l.length : Int) - ((l.dropWhile isDig).length : Int) = (((l.takeWhile isDig).length : Nat) : Int) := by omega
  rw [ez]
  unfold cutS
  rw [HT.sIx_none, HT.sIx_nat, S_len, List.drop_zero]
  have em : min (l.takeWhile isDig).length l.length = (l.takeWhile isDig).length := by omega
  rw [em, Nat.sub_zero]
  show S (l.take (l.takeWhile isDig).length) = _
  have t : l.take (l.takeWhile isDig).length = l.takeWhile isDig := by
    conv => lhs; rw [← List.takeWhile_append_dropWhile (p := isDig) (l := l)]
    have hp : ∀ (m : List Nat), (m.takeWhile isDig ++ m.dropWhile isDig).takeWhile isDig = m.takeWhile isDig := fun m => by rw [List.takeWhile_append_dropWhile]
    rw [hp, List.take_left]
  rw [t]
theorem cut_one (l : List Nat) : cutS (S l) none (some 1) = S (l.take 1) := by
  unfold cutS
  rw [HT.sIx_none, show HT.sIx (S l).length (S l).length (some 1) = min 1 (S l).length from HT.sIx_nat _ _ 1, S_len, List.drop_zero, Nat.sub_zero]
  show S (l.take (min 1 l.length)) = _
  cases l with
  | nil => rfl
  | cons a r =>
    rw [show min 1 (a :: r).length = 1 by rw [List.length_cons]; omega]
theorem cut_rest (l : List Nat) : cutS (S l) (some 1) none = S (l.drop 1) := by
  unfold cutS
  rw [HT.sIx_none, show HT.sIx (S l).length 0 (some 1) = min 1 (S l).length from HT.sIx_nat _ _ 1, S_len]
  show S ((l.drop (min 1 l.length)).take (l.length - min 1 l.length)) = _
  cases l with
  | nil => rfl
  | cons a r =>
    rw [show min 1 (a :: r).length = 1 by rw [List.length_cons]; omega, List.take_of_length_le (by rw [List.length_drop]; omega)]
/-! ### letters -/
def letAt (c : Nat) : Int := if c = 100 then 0 else if c = 104 then 1 else if c = 109 then 2 else if c = 115 then 3 else -1
theorem dhms_S : ("dhms" : Str) = S [100, 104, 109, 115] := by decide +kernel
theorem find_let (c : Nat) : Txt.find "dhms" (S [c]) = letAt c := by
  by_cases h : c = 100 ∨ c = 104 ∨ c = 109 ∨ c = 115
  · rcases h with rfl | rfl | rfl | rfl <;> decide +kernel
  · have hn : c ∉ [100, 104, 109, 115] := by
      intro hm
      simp only [List.mem_cons, List.not_mem_nil, or_false] at hm
      exact h hm
    have e := in_one [100, 104, 109, 115] c
    rw [decide_eq_false hn, Bool.not_eq_false', List.isEmpty_iff] at e
    unfold Txt.find
    rw [dhms_S, e]
    unfold letAt
    rw [if_neg (by omega), if_neg (by omega), if_neg (by omega), if_neg (by omega)]
theorem letAt_lt (c : Nat) : letAt c < 4 := by
  unfold letAt
  split
  · decide
  · split
    · decide
    · split
      · decide
      · split <;> decide
def sizeAt (p : Int) : Int := [86400, 3600, 60, 1].getD p.toNat 0
/-! ### a length read -/
/-- what the loop makes of what is left, seconds so far, and the last letter -/
def rlLoop : Nat → List Nat → Int → Int → Rs
  | 0, _, _, _ => .err 7
  | k + 1, l, sec, last =>
    if l = [] then .ok (.int sec) else
    match l.dropWhile isDig with
    | [] => .err 7
    | x :: more =>
      if letAt x ≤ last ∨ ¬ (0 < (l.takeWhile isDig).length ∧ (l.takeWhile isDig).length < 7) ∨ ¬ (l.takeWhile isDig = TL.numL (NumText.digitsVal (l.takeWhile isDig))) then .err 7
      else rlLoop k more (sec + (NumText.digitsVal (l.takeWhile isDig) : Nat) * sizeAt (letAt x)) (letAt x)
theorem rlLoop_succ (k : Nat) (l : List Nat) (sec last : Int) : rlLoop (k + 1) l sec last = if l = [] then .ok (.int sec) else
    match l.dropWhile isDig with
    | [] => .err 7
    | x :: more =>
      if letAt x ≤ last ∨ ¬ (0 < (l.takeWhile isDig).length ∧ (l.takeWhile isDig).length < 7) ∨ ¬ (l.takeWhile isDig = TL.numL (NumText.digitsVal (l.takeWhile isDig))) then .err 7
      else rlLoop k more (sec + (NumText.digitsVal (l.takeWhile isDig) : Nat) * sizeAt (letAt x)) (letAt x) := rfl
def mReadLen (l : List Nat) : Rs := if l = [] then .err 7 else rlLoop (l.length + 1) l 0 (-1)
theorem isDig_letter {x : Nat} (h : 57 < x) : isDig x = false := by
  unfold isDig
  rw [decide_eq_false (show ¬ x ≤ 57 by omega), Bool.and_false]
theorem numL_dig (n : Nat) : ∀ c ∈ TL.numL n, isDig c = true := fun c hc => by
  have h := TL.numL_digits n c hc
  unfold isDig
  rw [decide_eq_true h.1, decide_eq_true h.2]
  rfl
theorem tw_app {a r : List Nat} {x : Nat} (ha : ∀ c ∈ a, isDig c = true) (hx : isDig x = false) : (a ++ x :: r).takeWhile isDig = a ∧ (a ++ x :: r).dropWhile isDig = x :: r := by
  induction a with
  | nil =>
    rw [List.nil_append, List.takeWhile_cons, List.dropWhile_cons, hx]
    exact ⟨rfl, rfl⟩
  | cons b a ih =>
    have hb := ha b List.mem_cons_self
    obtain ⟨h1, h2⟩ := ih fun c hc => ha c (List.mem_cons_of_mem _ hc)
    rw [List.cons_append, List.takeWhile_cons, List.dropWhile_cons, hb]
    exact ⟨by rw [if_pos rfl, h1], by rw [if_pos rfl, h2]⟩
/-- one piece of a told length -/
theorem rl_piece {k n x : Nat} {more : List Nat} {sec last : Int} (hn : n < 1000000) (hx : 57 < x) (hl : last < letAt x) :
    rlLoop (k + 1) (TL.numL n ++ x :: more) sec last = rlLoop k more (sec + (n : Int) * sizeAt (letAt x)) (letAt x) := by
  obtain ⟨h1, h2⟩ := tw_app (a := TL.numL n) (r := more) (numL_dig n) (isDig_letter hx)
  have hne : ¬ (TL.numL n ++ x :: more = []) := by simp
  have l1 : 0 < (TL.numL n).length := List.length_pos_iff.mpr (TL.numL_ne n)
  have l2 : (TL.numL n).length ≤ 6 := TL.numL_len (by decide) (by show n < 1000000; exact hn)
  rw [rlLoop_succ, if_neg hne, h2, h1, TL.numL_val]
  dsimp only
  rw [if_neg]
  rintro (h | h | h)
  · omega
  · exact h ⟨l1, by omega⟩
  · exact h rfl
theorem rl_end {k : Nat} {sec last : Int} : rlLoop (k + 1) [] sec last = .ok (.int sec) := by
  rw [rlLoop_succ, if_pos rfl]
end Rw
namespace Rw
open PySem PySem.Spec PyProof.Rows L2 Evl SX
/-! ### a length told -/
def tlWords : List (Nat × Nat) → Nat → List (List Nat)
  | [], _ => []
  | (c, z) :: r, s => if z ≤ s then (TL.numL (s / z) ++ [c]) :: tlWords r (s % z) else tlWords r s
def tlUnits : List (Nat × Nat) := [(100, 86400), (104, 3600), (109, 60), (115, 1)]
def tlText (s : Nat) : List Nat := if s = 0 then [48, 115] else (tlWords tlUnits s).flatten
def tlVal : List (Nat × Nat) → Nat → Nat
  | [], _ => 0
  | (_, z) :: r, s => if z ≤ s then s / z * z + tlVal r (s % z) else tlVal r s
theorem tlVal_all (s : Nat) : tlVal tlUnits s = s := by
  unfold tlUnits
  simp only [tlVal]
  split <;> split <;> split <;> split <;> omega
theorem rl_words : ∀ (r : List (Nat × Nat)) (s k : Nat) (sec last : Int), (∀ p ∈ r, 57 < p.1 ∧ sizeAt (letAt p.1) = (p.2 : Int)) → r.Pairwise (fun a b => letAt a.1 < letAt b.1) → (∀ p ∈ r, last < letAt p.1) → s < 1000000 →
    (tlWords r s).length < k → rlLoop k (tlWords r s).flatten sec last = .ok (.int (sec + (tlVal r s : Nat)))
  | [], s, k, sec, last, _, _, _, _, hk => by
    obtain ⟨k, rfl⟩ : ∃ j, k = j + 1 := ⟨k - 1, by have : 0 < k := hk; omega⟩
    show rlLoop (k + 1) [] sec last = _
    rw [rl_end]
    simp [tlVal]
  | (c, z) :: r, s, k, sec, last, hp, hs, hl, hn, hk => by
    obtain ⟨h57, hz⟩ := hp (c, z) List.mem_cons_self
    rw [List.pairwise_cons] at hs
    unfold tlWords tlVal
    unfold tlWords at hk
    by_cases q : z ≤ s
    · rw [if_pos q] at hk
      rw [if_pos q, if_pos q]
      obtain ⟨k, rfl⟩ : ∃ j, k = j + 1 := ⟨k - 1, by rw [List.length_cons] at hk; omega⟩
      have e : (((TL.numL (s / z) ++ [c]) :: tlWords r (s % z)) : List (List Nat)).flatten = TL.numL (s / z) ++ c :: (tlWords r (s % z)).flatten := by simp
      rw [e, rl_piece (Nat.lt_of_le_of_lt (Nat.div_le_self _ _) hn) h57 (hl (c, z) List.mem_cons_self)]
      rw [rl_words r (s % z) k _ _ (fun p h => hp p (List.mem_cons_of_mem _ h)) hs.2 (fun p h => hs.1 p h) (Nat.lt_of_le_of_lt (Nat.mod_le _ _) hn) (by rw [List.length_cons] at hk; omega), hz]
      rw [Int.natCast_add, Int.natCast_mul, Int.add_assoc]
    · rw [if_neg q] at hk
      rw [if_neg q, if_neg q]
      exact rl_words r s k sec last (fun p h => hp p (List.mem_cons_of_mem _ h)) hs.2 (fun p h => hl p (List.mem_cons_of_mem _ h)) hn hk
theorem words_len : ∀ (r : List (Nat × Nat)) (s : Nat), (tlWords r s).length ≤ (tlWords r s).flatten.length
  | [], _ => Nat.le_refl _
  | (c, z) :: r, s => by
    unfold tlWords
    split
    · have h := words_len r (s % z)
      rw [List.length_cons, List.flatten_cons, List.length_append, List.length_append]
      show _ ≤ _ + 1 + _
      omega
    · exact words_len r s
/-- told and read -/
theorem read_told (s : Nat) (h : s < 1000000) : mReadLen (tlText s) = .ok (.int (s : Int)) := by
  unfold tlText
  by_cases h0 : s = 0
  · subst h0
    rw [if_pos rfl]
    decide +kernel
  · rw [if_neg h0]
    have go : ∀ k, (tlWords tlUnits s).length < k → rlLoop k (tlWords tlUnits s).flatten 0 (-1) = .ok (.int (s : Int)) := fun k hk => by
      rw [rl_words tlUnits s k 0 (-1) (by decide) (by decide) (by decide) h hk, tlVal_all, Int.zero_add]
    unfold mReadLen
    have hne : ¬ ((tlWords tlUnits s).flatten = []) := fun e => by
      have g := go 5 (by
        have : (tlWords tlUnits s).length ≤ 0 := by
          have w := words_len tlUnits s
          rw [e] at w
          exact w
        omega)
      rw [e, rl_end] at g
      have z : (0 : Int) = (s : Int) := by
        injection g with g
        injection g with g
      omega
    rw [if_neg hne]
    exact go _ (Nat.lt_succ_of_le (words_len tlUnits s))
/-! ### what stands in a told length -/
theorem tlText_units (s : Nat) : (tlWords tlUnits s) = (if 86400 ≤ s then [TL.numL (s / 86400) ++ [100]] else []) ++ ((if 3600 ≤ s % 86400 then [TL.numL (s % 86400 / 3600) ++ [104]] else []) ++
    ((if 60 ≤ s % 3600 then [TL.numL (s % 3600 / 60) ++ [109]] else []) ++ (if 1 ≤ s % 60 then [TL.numL (s % 60) ++ [115]] else []))) := by
  unfold tlUnits
  simp only [tlWords]
  have m1 : s % 86400 % 3600 = s % 3600 := by omega
  have m2 : s % 3600 % 60 = s % 60 := by omega
  have step3 : ∀ t, (if 1 ≤ t then [TL.numL (t / 1) ++ [115]] else []) = (if 1 ≤ t then [TL.numL t ++ [115]] else []) := fun t => by rw [Nat.div_one]
  have f3 : ∀ t, t < 60 → (if 60 ≤ t then (TL.numL (t / 60) ++ [109]) :: (if 1 ≤ t % 60 then [TL.numL (t % 60 / 1) ++ [115]] else []) else (if 1 ≤ t then [TL.numL (t / 1) ++ [115]] else [])) = (if 60 ≤ t then [TL.numL (t / 60) ++ [109]] else []) ++ (if 1 ≤ t % 60 then [TL.numL (t % 60) ++ [115]] else []) := fun t ht => by
    rw [if_neg (show ¬ 60 ≤ t by omega), if_neg (show ¬ 60 ≤ t by omega), step3, show t % 60 = t by omega]
    rfl
  have g3 : ∀ t, (if 60 ≤ t then (TL.numL (t / 60) ++ [109]) :: (if 1 ≤ t % 60 then [TL.numL (t % 60 / 1) ++ [115]] else []) else (if 1 ≤ t then [TL.numL (t / 1) ++ [115]] else [])) = (if 60 ≤ t then [TL.numL (t / 60) ++ [109]] else []) ++ (if 1 ≤ t % 60 then [TL.numL (t % 60) ++ [115]] else []) := fun t => by
    by_cases h : 60 ≤ t
    · rw [if_pos h, if_pos h, step3]
      rfl
    · exact f3 t (by omega)
  have g2 : ∀ t, (if 3600 ≤ t then (TL.numL (t / 3600) ++ [104]) :: (if 60 ≤ t % 3600 then (TL.numL (t % 3600 / 60) ++ [109]) :: (if 1 ≤ t % 3600 % 60 then [TL.numL (t % 3600 % 60 / 1) ++ [115]] else []) else (if 1 ≤ t % 3600 then [TL.numL (t % 3600 / 1) ++ [115]] else []))
      else (if 60 ≤ t then (TL.numL (t / 60) ++ [109]) :: (if 1 ≤ t % 60 then [TL.numL (t % 60 / 1) ++ [115]] else []) else (if 1 ≤ t then [TL.numL (t / 1) ++ [115]] else []))) =
      (if 3600 ≤ t then [TL.numL (t / 3600) ++ [104]] else []) ++ ((if 60 ≤ t % 3600 then [TL.numL (t % 3600 / 60) ++ [109]] else []) ++ (if 1 ≤ t % 60 then [TL.numL (t % 60) ++ [115]] else [])) := fun t => by
    by_cases h : 3600 ≤ t
    · rw [if_pos h, if_pos h, g3 (t % 3600), show t % 3600 % 60 = t % 60 by omega]
      rfl
    · rw [if_neg h, if_neg h, g3 t, show t % 3600 = t by omega]
      rfl
  by_cases h : 86400 ≤ s
  · rw [if_pos h, if_pos h, g2 (s % 86400), m1, show s % 86400 % 60 = s % 60 by omega]
    rfl
  · rw [if_neg h, if_neg h, g2 s, show s % 86400 = s by omega]
    rfl
theorem numL_head {n : Nat} (h : 0 < n) : (TL.numL n).head? ≠ some 48 := by
  induction n using Nat.strongRecOn with
  | ind n ih =>
    by_cases q : n < 10
    · rw [TL.numL_lt q]
      intro e
      have e : 48 + n = 48 := Option.some.inj e
      omega
    · rw [TL.numL_step (by omega)]
      cases hz : TL.numL (n / 10) with
      | nil => exact absurd hz (TL.numL_ne _)
      | cons a r =>
        have g := ih (n / 10) (by omega) (by omega)
        rw [hz] at g
        exact g
theorem mem_opt {x c n : Nat} {p : Prop} [Decidable p] (hx : 57 < x) : x ∈ (if p then [TL.numL n ++ [c]] else []).flatten ↔ p ∧ x = c := by
  by_cases h : p
  · rw [if_pos h]
    have f : x ∉ TL.numL n := TL.numL_free (.inr hx)
    simp [f, h]
  · rw [if_neg h]
    simp [h]
theorem let_mem {x s : Nat} (hx : 57 < x) : x ∈ (tlWords tlUnits s).flatten ↔ (86400 ≤ s ∧ x = 100) ∨ (3600 ≤ s % 86400 ∧ x = 104) ∨ (60 ≤ s % 3600 ∧ x = 109) ∨ (1 ≤ s % 60 ∧ x = 115) := by
  rw [tlText_units, List.flatten_append, List.flatten_append, List.flatten_append, List.mem_append, List.mem_append, List.mem_append, mem_opt hx, mem_opt hx, mem_opt hx, mem_opt hx]
theorem d_in (s : Nat) : decide (100 ∈ tlText s) = decide (86400 ≤ s) := by
  unfold tlText
  by_cases h : s = 0
  · subst h
    decide
  · rw [if_neg h]
    refine decide_eq_decide.mpr ?_
    rw [let_mem (by decide)]
    omega
theorem s_in (s : Nat) : decide (115 ∈ tlText s) = (decide (0 < s % 60) || decide (s = 0)) := by
  unfold tlText
  by_cases h : s = 0
  · subst h
    decide
  · rw [if_neg h, decide_eq_false h, Bool.or_false]
    refine decide_eq_decide.mpr ?_
    rw [let_mem (by decide)]
    omega
def okSign (c : Nat) : Bool := isDig c || decide (c ∈ [100, 104, 109, 115])
theorem words_ok : ∀ (r : List (Nat × Nat)) (s : Nat), (∀ p ∈ r, okSign p.1 = true) → ∀ c ∈ (tlWords r s).flatten, okSign c = true
  | [], _, _, c, h => by cases h
  | (a, z) :: r, s, hp, c, h => by
    unfold tlWords at h
    split at h
    · rw [List.flatten_cons, List.mem_append, List.mem_append, List.mem_singleton] at h
      rcases h with (h | rfl) | h
      · unfold okSign
        rw [numL_dig _ c h]
        rfl
      · exact hp (c, z) List.mem_cons_self
      · exact words_ok r _ (fun p h => hp p (List.mem_cons_of_mem _ h)) c h
    · exact words_ok r s (fun p h => hp p (List.mem_cons_of_mem _ h)) c h
theorem text_ok (s : Nat) : ∀ c ∈ tlText s, okSign c = true := by
  unfold tlText
  split
  · decide
  · exact words_ok tlUnits s (by decide)
theorem words_head : ∀ (r : List (Nat × Nat)) (s : Nat), (∀ p ∈ r, 0 < p.2) → (tlWords r s).flatten.head? ≠ some 48
  | [], _, _ => by
    show ([] : List Nat).head? ≠ some 48
    decide
  | (a, z) :: r, s, hp => by
    have hz : 0 < z := hp (a, z) List.mem_cons_self
    unfold tlWords
    split
    · rename_i q
      rw [List.flatten_cons, List.append_assoc]
      have g := numL_head (n := s / z) (Nat.div_pos q hz)
      cases e : TL.numL (s / z) with
      | nil => exact absurd e (TL.numL_ne _)
      | cons b m =>
        rw [e] at g
        exact g
    · exact words_head r s fun p h => hp p (List.mem_cons_of_mem _ h)
theorem text_head {s : Nat} (h : 0 < s) : (tlText s).head? ≠ some 48 := by
  unfold tlText
  rw [if_neg (by omega)]
  exact words_head tlUnits s (by decide)
theorem text_days {s : Nat} (h : 86400 ≤ s) : ∃ more, tlText s = TL.numL (s / 86400) ++ ([100] ++ more) := by
  unfold tlText
  rw [if_neg (by omega), tlText_units, if_pos h]
  exact ⟨_, by rw [List.flatten_append, List.flatten_singleton, List.append_assoc]⟩
theorem words_short : ∀ (r : List (Nat × Nat)) (s : Nat), s < 1000000 → (tlWords r s).flatten.length ≤ 7 * r.length
  | [], _, _ => Nat.zero_le _
  | (a, z) :: r, s, h => by
    unfold tlWords
    split
    · have g := words_short r (s % z) (Nat.lt_of_le_of_lt (Nat.mod_le _ _) h)
      have l := TL.numL_len (n := s / z) (k := 6) (by decide) (by show s / z < 1000000; exact Nat.lt_of_le_of_lt (Nat.div_le_self _ _) h)
      have er : ((a, z) :: r).length = r.length + 1 := rfl
      have e1 : ([a] : List Nat).length = 1 := rfl
      rw [List.flatten_cons, List.length_append, List.length_append, er, e1]
      omega
    · have g := words_short r s h
      have er : ((a, z) :: r).length = r.length + 1 := rfl
      omega
theorem text_short {s : Nat} (h : s < 1000000) : (tlText s).length ≤ 28 := by
  unfold tlText
  split
  · decide
  · exact words_short tlUnits s h
end Rw
namespace Rw
open PySem PySem.Spec PyProof.Rows L2 Evl SX
/-! ### texts and new lists, evaluated -/
section
variable {K : PySem.W.Frag} {σ : L2.St} {H : Hp} {to te ta tb : TE} {a b z : Str} {xs ys : List V}
theorem ev_m1 {r : V → List V → Hp → VK → Prop} {x y v : V} (ho : Ev to σ H (.str a)) (he : Ev te σ H y) (hr : ∀ H1 (Q : VK), Q v H1 → r (.str a) [y] H1 Q) : Ev (tM1 r to te) σ H v := fun H1 e Q q =>
  ho H1 e _ fun H2 e2 => ⟨⟨a, rfl⟩, he H2 (e.trans e2) _ fun H3 e3 => hr H3 Q (q H3 (e2.trans e3))⟩
theorem ev_lstrip (ho : Ev to σ H (.str a)) (he : Ev te σ H (.str b)) (hz : a.length ≤ 100000) : Ev (tM1 (fun x xs H Q => ∃ a b, x = .str a ∧ xs = [.str b] ∧ a.length ≤ sizeLine ∧ Q (.str (Txt.lstripChars a b)) H) to te) σ H (.str (Txt.lstripChars a b)) :=
  ev_m1 (x := .str a) ho he fun H1 Q q => ⟨a, b, rfl, rfl, sz_of hz, q⟩
theorem ev_strip (ho : Ev to σ H (.str a)) (he : Ev te σ H (.str b)) (hz : a.length ≤ 100000) : Ev (tM1 (fun x xs H Q => ∃ a b, x = .str a ∧ xs = [.str b] ∧ a.length ≤ sizeLine ∧ Q (.str (Txt.stripChars a b)) H) to te) σ H (.str (Txt.stripChars a b)) :=
  ev_m1 (x := .str a) ho he fun H1 Q q => ⟨a, b, rfl, rfl, sz_of hz, q⟩
theorem ev_find (ho : Ev to σ H (.str a)) (he : Ev te σ H (.str b)) : Ev (tM1 (fun x xs H Q => ∃ a b, x = .str a ∧ xs = [.str b] ∧ Q (.int (Txt.find a b)) H) to te) σ H (.int (Txt.find a b)) :=
  ev_m1 (x := .str a) ho he fun H1 Q q => ⟨a, b, rfl, rfl, q⟩
theorem ev_lenS (h : Ev ta σ H (.str z)) (hz : z.length ≤ 100000) : Ev (tCB (fun xs H Q => ∃ z, xs = [.str z] ∧ z.length ≤ sizeLine ∧ Q (.int z.length) H) (tCons ta tNil)) σ H (.int (z.length : Nat)) := fun H1 e Q q =>
  h H1 e _ fun H2 e2 => ⟨z, rfl, sz_of hz, q H2 e2⟩
theorem ev_lenL {p : Addr} (h : Ev ta σ H (.ref p)) (hs : SqL K H p xs) : Ev (tCB (fun xs H Q => ∃ p ys, xs = [.ref p] ∧ (SqL K H p ys ∨ SqT K H p ys) ∧ Q (.int ys.length) H) (tCons ta tNil)) σ H (.int (xs.length : Nat)) := fun H1 e Q q =>
  h H1 e _ fun H2 e2 => ⟨p, xs, rfl, .inl (ex_l (e.trans e2) hs), q H2 e2⟩
theorem ev_slS {tl th : TO} {lo hi : Option Int} (h : Ev te σ H (.str z)) (h1 : EvO tl σ H lo) (h2 : EvO th σ H hi) (hz : z.length ≤ 100000) : Ev (tSl rSlS te tl th) σ H (.str (cutS z lo hi)) := fun H1 e Q q =>
  h H1 e _ fun H2 e2 => h1 H2 (e.trans e2) _ fun H3 e3 => h2 H3 ((e.trans e2).trans e3) _ fun H4 e4 => ⟨z, rfl, sz_of hz, q H4 ((e2.trans e3).trans e4)⟩
theorem ev_intS {n : Int} (h : Ev ta σ H (.str z)) (hn : intText? z = some n) (hz : z.length ≤ 640) : Ev (tCB (fun xs H Q => ∃ a n, xs = [.str a] ∧ PySem.intText? a = some n ∧ a.length ≤ 640 ∧ Q (.int n) H) (tCons ta tNil)) σ H (.int n) := fun H1 e Q q =>
  h H1 e _ fun H2 e2 => ⟨z, n, rfl, hn, hz, q H2 e2⟩
theorem ev_strI {n : Int} (h : Ev ta σ H (.int n)) (hn : n.natAbs.log2 < 1920) : Ev (tCB (fun xs H Q => ∃ i, xs = [.int i] ∧ i.natAbs.log2 < 1920 ∧ Q (.str (toString i)) H) (tCons ta tNil)) σ H (.str (toString n)) := fun H1 e Q q =>
  h H1 e _ fun H2 e2 => ⟨n, rfl, hn, q H2 e2⟩
theorem ev_anyN {bs : List Bool} (h : EvL te σ H (bs.map V.bl)) : Ev (tCB (rAny K) (tCons te tNil)) σ H (.bl (bs.any id)) := fun H1 e Q q =>
  h H1 e _ fun p H2 _ e2 h2 => ⟨p, bs, rfl, sq_of h2, q H2 e2⟩
theorem el_cat (ha : EvL ta σ H xs) (hb : EvL tb σ H ys) (hz : xs.length + ys.length ≤ 100000) : EvL (tOp rCat ta tb) σ H (xs ++ ys) := fun H1 e Q q =>
  ha H1 e _ fun p H2 hp e2 h2 => hb H2 (e.trans e2) _ fun p2 H3 hp2 e3 h3 => ⟨p, p2, xs, ys, rfl, rfl, e3 p _ h2, h3, sz_of hz, fun l hl => q l _ (fresh_back (e2.trans e3) hl) ((e2.trans e3).trans (Ex.new hl)) upd_same⟩
theorem el_split (ho : Ev to σ H (.str a)) (he : Ev te σ H (.str b)) (hb : (b.length == 0) = false) (hz : a.length ≤ 90000) :
    EvL (tM1 (fun x xs H Q => ∃ a b, x = .str a ∧ xs = [.str b] ∧ (b.length == 0) = false ∧ a.length + 2 ≤ sizeLine ∧ rNewStrs (Txt.split a b) H Q) to te) σ H ((Txt.split a b).map V.str) := fun H1 e Q q =>
  ho H1 e _ fun H2 e2 => ⟨⟨a, rfl⟩, he H2 (e.trans e2) _ fun H3 e3 => ⟨a, b, rfl, rfl, hb, sz_of (by omega), fun p hp => q p _ (fresh_back (e2.trans e3) hp) ((e2.trans e3).trans (Ex.new hp)) upd_same⟩⟩
theorem et_val {b : Bool} (h : Ev te σ H (.bl b)) : EvT (tB te) σ H b := et_B h
end
/-! ### words of figures -/
theorem tw_last {p : Nat → Bool} {x : Nat} (hx : p x = false) : ∀ a : List Nat, ((a ++ [x]).takeWhile p).length ≤ a.length
  | [] => by
    rw [List.nil_append, List.takeWhile_cons, hx]
    exact Nat.le_refl _
  | b :: a => by
    rw [List.cons_append, List.takeWhile_cons]
    split
    · have h := tw_last hx a
      rw [List.length_cons, List.length_cons]
      omega
    · exact Nat.zero_le _
theorem strip_S (l : List Nat) : (Txt.stripChars (S l) "0123456789" = "") ↔ l.all isDig = true := by
  have he : ("" : Str) = S [] := by decide +kernel
  rw [he]
  unfold Txt.stripChars
  rw [PyProof.Rows.stripBy_eq, show (("0123456789" : Str)).cps.contains = isDig from funext figs_has]
  unfold stripLo stripHi
  rw [if_pos rfl, if_pos rfl, extract_S]
  show S ((l.drop (l.takeWhile isDig).length).take ((S l).length - ((l.drop (l.takeWhile isDig).length).reverse.takeWhile isDig).length - (l.takeWhile isDig).length)) = S [] ↔ _
  rw [S_len, drop_takeWhile]
  have e := congrArg List.length (List.takeWhile_append_dropWhile (p := isDig) (l := l))
  rw [List.length_append] at e
  cases hd : l.dropWhile isDig with
  | nil =>
    rw [List.take_nil]
    refine ⟨fun _ => ?_, fun _ => rfl⟩
    have t := List.takeWhile_append_dropWhile (p := isDig) (l := l)
    rw [hd, List.append_nil] at t
    rw [← t]
    exact List.all_takeWhile
  | cons x r =>
    have hx : isDig x = false := by
      have q := List.head_dropWhile_not (p := isDig) (l := l) (by rw [hd]; exact List.cons_ne_nil _ _)
      simpa [hd] using q
    have lt := tw_last (p := isDig) hx r.reverse
    rw [List.length_reverse] at lt
    rw [hd, List.length_cons] at e
    rw [List.reverse_cons]
    refine ⟨fun q => ?_, fun q => ?_⟩
    · exfalso
      obtain ⟨m, hm⟩ : ∃ m, l.length - ((r.reverse ++ [x]).takeWhile isDig).length - (l.takeWhile isDig).length = m + 1 := ⟨l.length - ((r.reverse ++ [x]).takeWhile isDig).length - (l.takeWhile isDig).length - 1, by omega⟩
      rw [hm, List.take_succ_cons] at q
      exact List.cons_ne_nil _ _ (S_inj q)
    · exfalso
      have hm : x ∈ l := by
        rw [← List.takeWhile_append_dropWhile (p := isDig) (l := l), hd]
        exact List.mem_append_right _ List.mem_cons_self
      have z := List.all_eq_true.mp q x hm
      rw [hx] at z
      cases z
/-- return f(..): what f gives -/
theorem s_retF {c : Nat → Addr} {f : List V → Option Rs} {σ : L2.St} {H : Hp} {vs dvs : List V} {ta : TA} {E : XK} {Q : VK} {D : Ends} {r : Rs} (h : EvA ta σ H vs) (hf : f (vs ++ dvs) = some r) (o : Out c H Q E r) (hD : D.rt = Q) : tRet (tCall (spF c f) dvs E ta) D σ H := by
  subst hD
  exact h H (Ex.refl H) _ fun H2 e2 => ⟨r, hf, o.mono e2⟩
theorem at_map {ns : List Int} {i : Nat} (h : i < ns.length) : atI (ns.map V.int) (i : Int) = some (.int (ns.getD i 0)) :=
  atI_nat (by rw [List.getElem?_map, List.getElem?_eq_getElem h, List.getD_eq_getElem?_getD, List.getElem?_eq_getElem h]; rfl)
end Rw
namespace Rw
open PySem PySem.Spec PyProof.Rows L2
/-- a text's signs beside a tuple's items: new pairs -/
def ItST (K : PySem.W.Frag) (z : Str) (b : Addr) : It where
  go := fun i H => ∃ (c : Nat) (ys : List V) (y : V), z.cps[i]? = some c ∧ SqT K H b ys ∧ ys[i]? = some y
  yld := fun i H v H' => ∃ (T : Addr) (c : Nat) (y : V), v = .ref T ∧ H T = none ∧ H' = upd H T (.tup [.str ⟨#[c]⟩, y]) ∧ z.cps[i]? = some c ∧ ∀ ys, SqT K H b ys → ys[i]? = some y
  stop := fun i H => ∃ ys : List V, SqT K H b ys ∧ i ≤ z.cps.size ∧ i ≤ ys.length ∧ (i = z.cps.size ∨ i = ys.length)
/-- where such a zip stands: its five cells -/
structure StST (z : Str) (tz : Tok) (b a0 a1 a2 a3 a4 : Addr) (i : Nat) (h : Heap) : Prop where
  zip : IsZip h a0 a1 a2 .none
  two : IsTupOf2 h a1 (.ref a3) (.ref a4)
  res : ∃ u v, IsTupOf2 h a2 u v
  txt : h.IsStrIter a3 (strIterType z) z tz i
  tup : h.IsTupleIter a4 b i
theorem ne_next {b N : Nat} (h : b < N) : b ≠ N + 1 := by omega
theorem iter_at {h h' : Heap} {a : Addr} {T : String} {z : Str} {t : Tok} {i : Nat} (x : h.IsStrIter a T z t i) (k : ∀ o, h.get? a = some o → h'.get? a = some o) : h'.IsStrIter a T z t i := by
  obtain ⟨o, e, c, d⟩ := x
  exact ⟨o, k o e, c, d⟩
theorem five_of {a0 a1 a2 a3 a4 x : Addr} (h : x ∈ [a0, a1, a2, a3, a4]) : x = a0 ∨ x = a1 ∨ x = a2 ∨ x = a3 ∨ x = a4 := by simpa using h
theorem StST.cells {z : Str} {tz : Tok} {b a0 a1 a2 a3 a4 : Addr} {i : Nat} {h : Heap} (S : StST z tz b a0 a1 a2 a3 a4 i h) : ∀ x ∈ [a0, a1, a2, a3, a4], ∃ o, h.get? x = some o ∧ ∀ v, o.data ≠ .cell v := fun x hx => by
  obtain ⟨u, v, r⟩ := S.res
  obtain ⟨o3, e3, _, d3⟩ := S.txt
  obtain ⟨o4, e4, _, d4⟩ := S.tup
  rcases five_of hx with rfl | rfl | rfl | rfl | rfl
  · exact ⟨_, S.zip, fun v q => by cases q⟩
  · exact ⟨_, S.two, fun v q => by cases q⟩
  · exact ⟨_, r, fun v q => by cases q⟩
  · exact ⟨o3, e3, fun v q => by rw [d3] at q; cases q⟩
  · exact ⟨o4, e4, fun v q => by rw [d4] at q; cases q⟩
theorem turn_st {P : Program} {w : World} {K : PySem.W.Frag} {elts : List Expr} {kk : Nat} {tp : Pos} {z : Str} {tz : Tok} {b N : Addr} (hb : b < N) :
    Turn P w K (.Tuple elts kk tp) (ItST K z b) [N + 4, N + 2, N + 3, N, N + 1] (N + 4) (StST z tz b (N + 4) (N + 2) (N + 3) N (N + 1)) where
  mem := List.mem_cons_self ..
  obj := fun i h S => S.cells
  keep := fun i h h' S k => by
    obtain ⟨u, v, r⟩ := S.res
    exact ⟨k _ (by simp) _ S.zip, k _ (by simp) _ S.two, ⟨u, v, k _ (by simp) _ r⟩, iter_at S.txt fun o e => k _ (by simp) o e, S.tup.at fun o e => k _ (by simp) o e⟩
  item := by
    rintro X rfl rfl rfl hc i pins s σ H E I hf S ⟨c, ys, y, hz, hy, hi⟩
    have apart := zip_sep2 (N := N) (fp1 := []) (fp2 := [b]) (fun x hx => by simp at hx) (fun x hx => by simp at hx; rw [hx]; exact hb)
    obtain ⟨us, rv, tupb, _⟩ := I.tuple hy
    obtain ⟨uy, huy, ry⟩ := rv.get hi
    obtain ⟨u, v, r⟩ := S.res
    have nb : b ≠ N + 1 := ne_next hb
    have h1 : i < z.cps.size := by
      cases Nat.lt_or_ge i z.cps.size with
      | inl q => exact q
      | inr q =>
        rw [Array.getElem?_eq_none q] at hz
        cases hz
    have h2 : i < us.toArray.size := by
      have q := (List.getElem?_eq_some_iff.mp huy).1
      simpa using q
    refine wpAny_pyNext_zipD2_item apart (Draws.text (by rw [show X.A.in1.handled = X.A.handled from rfl]; exact I.ok.hd hc) N z tz) (Draws.tuple (by rw [show X.A.in1.handled = X.A.handled from rfl]; exact I.ok.hd hc) (N + 1) b nb us.toArray) S.zip S.two r S.txt ⟨S.tup, tupb⟩ h1 h2 fun x1 x2 h' tk y1 y2 b1 b2 d1 d2 b5 b6 kp => ?_
    obtain ⟨c', tc, hc', rfl⟩ := y1
    rw [hz] at hc'
    obtain rfl : c = c' := Option.some.inj hc'
    have ex2 : uy = x2 := Option.some.inj (huy.symm.trans (by simpa using y2))
    subst ex2
    have kp5 : ∀ x o, x ∉ [N + 4, N + 2, N + 3, N, N + 1] → s.heap.get? x = some o → h'.get? x = some o := fun x o nx e => kp x o (fun q => nx (by simp [q])) (fun q => nx (by simp [q])) (fun q => nx (by simp [q])) (fun q => nx (by simp [q])) e
    have lt4 : N + 4 < s.heap.objs.size := Heap.lt_size S.zip
    refine ⟨_, rfl, wpAny_letOwnedTupleGo_zip (s := { s with heap := h', toks := tk }) b1 fun h2' z2 sb => ?_⟩
    have pr : h2'.get? s.heap.objs.size = some { cls := .type "tuple", data := .seq #[.str ⟨#[c]⟩ tc, uy] } := (sb.2 _ (Nat.ne_of_gt lt4)).trans b5
    have new : ObjOk X.prog X.w (upd H s.heap.objs.size (.tup [.str ⟨#[c]⟩, y])) h2' s.heap.objs.size (.tup [.str ⟨#[c]⟩, y]) :=
      ⟨by show 2 ≤ sizeLine; decide, [.str ⟨#[c]⟩ tc, uy], .cons ⟨tc, rfl⟩ (.cons ry .nil), ⟨_, pr, rfl, _, rfl⟩⟩
    have J := I.turnedNew (t' := tk) (ch := [N + 4, N + 2, N + 3, N, N + 1]) (h' := h2') (fun x o nx e => (sb.2 x (fun q => nx (by simp [q]))).trans (kp5 x o nx e)) hf (Nat.le_refl _) new
    refine ⟨.ref s.heap.objs.size, _, J, rfl, ⟨_, c, y, rfl, I.hok.fresh (Nat.le_refl _), rfl, hz, fun l hl => by rw [I.tuple_inj hl hy]; exact hi⟩, ⟨z2, ?_, ⟨.str ⟨#[c]⟩ tc, uy, ?_⟩, ?_, ?_⟩, fun x hx => ?_⟩
    · exact (sb.2 _ apart.TIz).trans (kp _ _ apart.TIz apart.TITO apart.TIi1 apart.TIi2 S.two)
    · exact (sb.2 _ apart.TOz).trans b2
    · exact iter_at d1 fun o e => (sb.2 _ apart.zi1.symm).trans e
    · exact d2.1.at fun o e => (sb.2 _ apart.zi2.symm).trans e
    · obtain ⟨o, eo, _⟩ := S.cells x hx
      rw [upd_ne (Nat.ne_of_lt (Heap.lt_size eo))]
      exact (hf x hx).1
  done := by
    rintro X rfl rfl rfl hc i pins s σ H E I hf S ⟨ys, hy, l1, l2, hend⟩
    have apart := zip_sep2 (N := N) (fp1 := []) (fp2 := [b]) (fun x hx => by simp at hx) (fun x hx => by simp at hx; rw [hx]; exact hb)
    obtain ⟨us, rv, tupb, _⟩ := I.tuple hy
    obtain ⟨u, v, r⟩ := S.res
    have nb : b ≠ N + 1 := ne_next hb
    have el : us.toArray.size = ys.length := by rw [List.size_toArray, rv.length]
    refine wpAny_pyNext_zipD2_end apart (Draws.text (by rw [show X.A.in1.handled = X.A.handled from rfl]; exact I.ok.hd hc) N z tz) (Draws.tuple (by rw [show X.A.in1.handled = X.A.handled from rfl]; exact I.ok.hd hc) (N + 1) b nb us.toArray) S.zip S.two r S.txt ⟨S.tup, tupb⟩ l1 (by rw [el]; exact l2) (by rw [el]; exact hend) fun h' tk kp => ⟨rfl, ?_⟩
    exact I.turnedL (t' := tk) (ch := [N + 4, N + 2, N + 3, N, N + 1]) (fun x o nx e => kp x o (fun q => nx (by simp [q])) (fun q => nx (by simp [q])) (fun q => nx (by simp [q])) (fun q => nx (by simp [q])) e) hf
  self := fun A i s Q E S q => wpAny_pyIter_zip S.zip q
/-- zip(text, tuple) -/
def iZipST (K : PySem.W.Frag) (ta : TA) : TI := fun σ H R => ta σ H fun vs H1 => ∃ (z : Str) (b : Addr) (ys : List V), vs = [.str z, .ref b] ∧ SqT K H1 b ys ∧ R (ItST K z b) H1
theorem pi_zipST {X : Cx} {e e2 : Expr} {ta : TA} {p pos tp : Pos} {elts : List Expr} {kk : Nat} (hm : X.mg "zip" = none) (ha : PA X [e, e2] ta) (hg : Gl X "zip" := by rfl)
    (stars : starEach [e, e2] X.env = (false, eval e X.env) :: starEach [e2] X.env := by rfl) (plain : (backTo pos (starEach [e2] X.env)).any (·.1) = false := by rfl) :
    PI X (.Tuple elts kk tp) (.Call (.Name "zip" p) [e, e2] [] pos) (iZipST X.K ta) := by
  constructor
  intro pins s σ H R I h
  refine Call_ (ld_blt I hg hm PyProof.Rows.boot_zip (PyProof.Rows.callWith_type1 (thn (ha.run pos pins s σ H _ I h) ?_) stars plain))
  rintro us s1 ⟨vs, H1, J, r, z, b, ys, rfl, hy, q⟩
  match us, r with
  | [u1, u2], .cons r1 (.cons r2 .nil) =>
    obtain ⟨tz, rfl⟩ := r1
    obtain rfl : u2 = Value.ref b := r2
    obtain ⟨its, rv, tupb, _⟩ := J.tuple hy
    have hb : b < s1.heap.objs.size := by
      obtain ⟨o, e, _⟩ := id tupb
      exact Heap.lt_size e
    refine zip_begins2 (begins_text z tz) (begins_tuple b its.toArray) trivial tupb fun h' g0 g1 g2 g3 g4 _ kp => wpAny_pyIter_zip g0 ?_
    refine ⟨s1.heap.objs.size + 4, _, _, _, H1, rfl, J.kept (t' := s1.toks) kp, turn_st (tz := tz) hb, ⟨g0, g1, ⟨_, _, g2⟩, ⟨_, g3, rfl, rfl⟩, ⟨_, g4, rfl, rfl⟩⟩, fun x hx => ?_, q⟩
    have le : s1.heap.objs.size ≤ x := by
      rcases five_of hx with q | q | q | q | q
      · rw [q]; exact Nat.le_add_right ..
      · rw [q]; exact Nat.le_add_right ..
      · rw [q]; exact Nat.le_add_right ..
      · rw [q]; exact Nat.le_refl _
      · rw [q]; exact Nat.le_add_right ..
    exact J.fpOk le (J.hok.fresh le)
/-- a loop over such a zip, of as many signs as items -/
theorem for_zipST {K : PySem.W.Frag} {z : Str} {b : Addr} {ys : List V} {g : TG} {tb : TS} {D : Ends} {σ : L2.St} {H : Hp} (hl : z.cps.size = ys.length) (Pv : Nat → L2.St → Hp → Prop) (h0 : Pv 0 σ H) (hq : ∀ i σ H, Pv i σ H → SqT K H b ys)
    (hs : ∀ (i : Nat) (c : Nat) (y : V) (T : Addr) (σ : L2.St) (H : Hp), z.cps[i]? = some c → ys[i]? = some y → Pv i σ H → H T = none → g (.ref T) σ (upd H T (.tup [.str ⟨#[c]⟩, y])) fun σ2 H2 => tb { D with nx := Pv (i + 1), ct := Pv (i + 1), bk := D.nx } σ2 H2) (hd : ∀ σ H, Pv ys.length σ H → D.nx σ H) :
    ∃ Wd : Nat → Nat → L2.St → Hp → Prop, (∃ m, Wd 0 m σ H) ∧ ∀ i m σ H, Wd i m σ H →
      ((ItST K z b).stop i H ∧ D.nx σ H) ∨ ((ItST K z b).go i H ∧ ∃ N : L2.St → Hp → Prop, (∀ σ' H', N σ' H' → ∃ m', m' < m ∧ Wd (i + 1) m' σ' H') ∧ ∀ v H', (ItST K z b).yld i H v H' → g v σ H' fun σ2 H2 => tb { D with nx := N, ct := N, bk := D.nx } σ2 H2) := by
  refine ⟨fun i m σ H => m + i = ys.length ∧ Pv i σ H, ⟨ys.length, rfl, h0⟩, ?_⟩
  rintro i m σ H ⟨em, p⟩
  have q := hq i σ H p
  cases m with
  | zero =>
    have e : i = ys.length := by omega
    subst e
    exact .inl ⟨⟨ys, q, by omega, Nat.le_refl _, .inr rfl⟩, hd σ H p⟩
  | succ m =>
    have lt : i < ys.length := by omega
    have ltz : i < z.cps.size := by omega
    refine .inr ⟨⟨z.cps[i], ys, ys[i], Array.getElem?_eq_getElem ltz, q, List.getElem?_eq_getElem lt⟩, Pv (i + 1), fun σ' H' p' => ⟨m, Nat.lt_succ_self m, by omega, p'⟩, ?_⟩
    rintro v H' ⟨T, c, y, rfl, hT, rfl, hc, hy⟩
    exact hs i c y T σ H hc (hy ys q) p hT
end Rw
namespace Rw
open PySem PySem.Spec PyProof.Rows L2 Evl SX
section
variable {K : PySem.W.Frag} {σ : L2.St} {H : Hp} {t1 t2 te tl : TE} {ta : TA} {D : Ends} {tu tz : TS}
theorem empty_cat (y : Str) : Str.empty ++ y = y := by
  have e : Str.empty = S [] := by decide +kernel
  rw [e, ← S_tl y, S_cat, List.nil_append]
/-- f'{n}{y}' -/
theorem ev_js2 {n : Int} {y : Str} (h1 : Ev t1 σ H (.int n)) (h2 : Ev t2 σ H (.str y)) (hn : n.natAbs.log2 < 1920) (hy : y.length ≤ 1000) (hz : (Str.ofString (toString n)).length ≤ 1000) :
    Ev (fun σ H Q => tJs [tFmt t1, tFmt t2] Str.empty σ H fun out H1 => Q (.str out) H1) σ H (.str (Str.ofString (toString n) ++ y)) := fun H1 e Q q =>
  h1 H1 e _ fun H2 e2 => .inr ⟨n, rfl, hn, _, rfl, by rw [empty_cat]; exact sz_of (Nat.le_trans hz (by decide)), h2 H2 (e.trans e2) _ fun H3 e3 => .inl ⟨y, rfl, sz_of (Nat.le_trans hy (by decide)), _, rfl, by
    rw [empty_cat, ← S_tl (Str.ofString (toString n)), ← S_tl y, S_cat, S_len, List.length_append, ← S_len, ← S_len, S_tl, S_tl]
    exact sz_of (by omega), by
    rw [empty_cat]
    exact q H3 (e2.trans e3)⟩⟩
/-- a loop over zip(text, tuple), the names at i and j -/
theorem q_forZ {z : Str} {b : Addr} {ys : List V} {i j : Nat} (h : EvA ta σ H [.str z, .ref b]) (hy : SqT K H b ys) (hl : z.cps.size = ys.length) (Pv : Nat → L2.St → Hp → Prop) (h0 : ∀ H1, Ex H H1 → Pv 0 σ H1)
    (hq : ∀ n σ' H', Pv n σ' H' → SqT K H' b ys)
    (hs : ∀ (n : Nat) (c : Nat) (y : V) (T : Addr) σ' H', z.cps[n]? = some c → ys[n]? = some y → Pv n σ' H' → H' T = none → tu { D with nx := Pv (n + 1), ct := Pv (n + 1), bk := tz D } ((σ'.set i (some (.str ⟨#[c]⟩))).set j (some y)) (upd H' T (.tup [.str ⟨#[c]⟩, y])))
    (hd : ∀ σ' H', Pv ys.length σ' H' → tz D σ' H') : tSeq (tFor (iZipST K ta) (gTup K 2 (gCons (gName i) (gCons (gName j) gNil))) tu) tz D σ H :=
  h H (Ex.refl H) _ fun H1 e => ⟨z, b, ys, rfl, ex_t e hy, for_zipST hl Pv (h0 H1 e) hq (fun n c y T σ' H' hc hy' hp hT =>
    ⟨T, _, rfl, SqT.of upd_same, rfl, _, _, rfl, _, _, rfl, rfl, hs n c y T σ' H' hc hy' hp hT⟩) hd⟩
/-- sep.join(list) -/
theorem ev_joinL {to : TE} {a : Str} {zs : List Str} {l : Addr} (ho : Ev to σ H (.str a)) (he : Ev te σ H (.ref l)) (hl : SqL K H l (zs.map V.str)) (hz : (zs.map (·.length)).sum + zs.length * a.length ≤ 16777216) :
    Ev (tM1 (fun x xs H Q => ∃ a p, ∃ ys : List Str, x = .str a ∧ xs = [.ref p] ∧ (SqL K H p (ys.map V.str) ∨ SqT K H p (ys.map V.str)) ∧ (ys.map (·.length)).sum + ys.length * a.length ≤ 16777216 ∧ Q (.str (Txt.join a ys)) H) to te) σ H (.str (Txt.join a zs)) := fun H1 e Q q =>
  ho H1 e _ fun H2 e2 => ⟨⟨a, rfl⟩, he H2 (e.trans e2) _ fun H3 e3 => ⟨a, l, zs, rfl, rfl, .inl (ex_l ((e.trans e2).trans e3) hl), hz, q H3 (e2.trans e3)⟩⟩
theorem s_joinL_flat (l : List (List Nat)) : TL.joinL [] l = l.flatten := by
  induction l with
  | nil => rfl
  | cons a r ih =>
    cases r with
    | nil => simp [TL.joinL]
    | cons b r =>
      simp only [TL.joinL, List.flatten_cons] at ih ⊢
      rw [ih]
      simp
end
end Rw
namespace Rw
open PySem PySem.Spec PyProof.Rows L2 Evl SX
section
variable {K : PySem.W.Frag} {σ : L2.St} {H : Hp} {te tl ta tb : TE} {t : TT} {j : Nat} {vs : List Nat} {xs ys : List V}
/-- all items of a list display, each made another -/
theorem el_mapNL (h : EvL tl σ H xs) (hz : xs.length ≤ 40000) (hw : ∀ x, wipe ((wipe σ vs).set j (some x)) vs = wipe σ vs) (hl : xs.length = ys.length)
    (he : ∀ (i : Nat) (x y : V) H1, Ex H H1 → xs[i]? = some x → ys[i]? = some y → Ev te ((wipe σ vs).set j (some x)) H1 y) :
    EvL (tLc (iList K tl) (gName j) tYes te vs) σ H ys := by
  have g := el_lcNL (K := K) (t := tYes) (te := te) (fun _ => true) (fun i => ys.getD i .non) h hz hw (fun _ _ _ _ _ => et_yes) fun i x H1 e hx _ => by
    have hi : i < ys.length := by
      have q := (List.getElem?_eq_some_iff.mp hx).1
      omega
    have ey : ys.getD i .non = ys[i] := by rw [List.getD_eq_getElem?_getD, List.getElem?_eq_getElem hi]; rfl
    rw [ey]
    exact he i x _ H1 e hx (List.getElem?_eq_getElem hi)
  rw [given_map hl fun i y hy => by rw [List.getD_eq_getElem?_getD, hy]; rfl] at g
  exact g
/-- a comprehension over the signs of a text -/
theorem el_lcStr {z : Str} (f : Nat → Bool) (v : Nat → V) (h : Ev tl σ H (.str z)) (hz : z.cps.size ≤ 40000) (hw : ∀ x, wipe ((wipe σ vs).set j (some x)) vs = wipe σ vs)
    (ht : ∀ (i c : Nat) H1, Ex H H1 → z.cps[i]? = some c → EvT t ((wipe σ vs).set j (some (.str ⟨#[c]⟩))) H1 (f i)) (he : ∀ (i c : Nat) H1, Ex H H1 → z.cps[i]? = some c → f i = true → Ev te ((wipe σ vs).set j (some (.str ⟨#[c]⟩))) H1 (v i)) :
    EvL (tLc (iStr tl) (gName j) t te vs) σ H (given z.cps.size f v) := fun H0 e Q q => h H0 e _ fun H1 e1 => ⟨z, rfl, fun Dl hD =>
  lc_it walk_str (Cw H1 f v Dl) ⟨hD, Ex.new hD, upd_same⟩ (fun _ _ _ _ => trivial) (fun i x Ha Hb hi p y => by
    obtain ⟨rfl, c, hc, rfl⟩ := y
    exact ⟨hw _, cw_turn p (by omega) (ht i c H1 (e.trans e1) hc) (fun hf => he i c H1 (e.trans e1) hc hf)⟩)
    (fun Hz pz => q Dl Hz (fresh_back e1 pz.1) (e1.trans pz.2.1) pz.2.2)⟩
theorem given_none {n : Nat} {v : Nat → V} : given n (fun _ => false) v = [] := by
  unfold given
  rw [List.filter_eq_nil_iff.mpr (fun a _ => by decide)]
  rfl
/-- two new lists of no items -/
theorem ev_noneNe (ha : EvL ta σ H []) : Ev (tOp (rNeD K) ta (tLst tNil)) σ H (.bl false) :=
  ev_opLL ha (el_lst ea_nil (by decide)) fun p q H1 h1 h2 e => fun H2 e2 Q k => ⟨.list [], .list [], .lst (SqL.of (e2 _ _ h1)) .nil, .lst (SqL.of (e2 _ _ h2)) .nil, rfl, rfl, k H2 (Ex.refl H2)⟩
theorem ev_noneEq (ha : EvL ta σ H []) : Ev (tOp (rEqD K) ta (tLst tNil)) σ H (.bl true) :=
  ev_opLL ha (el_lst ea_nil (by decide)) fun p q H1 h1 h2 e => fun H2 e2 Q k => ⟨.list [], .list [], .lst (SqL.of (e2 _ _ h1)) .nil, .lst (SqL.of (e2 _ _ h2)) .nil, rfl, rfl, k H2 (Ex.refl H2)⟩
theorem eqv_three (a b d : Int) : PyData.eqv (.tuple [.int a, .int b, .int d]) (.tuple [.int a, .int b, .int d]) = true := by
  simp [PyData.eqv, PyData.eqvAll]
/-- two new tuples of the same three ints -/
theorem ev_tupNe {a b d : Int} (ha : EvU ta σ H [.int a, .int b, .int d]) (hb : EvU tb σ H [.int a, .int b, .int d]) : Ev (tOp (rNeD K) ta tb) σ H (.bl false) :=
  ev_opUU ha hb fun p q H1 h1 h2 e => fun H2 e2 Q k => ⟨.tuple [.int a, .int b, .int d], .tuple [.int a, .int b, .int d], .tup (SqT.of (e2 _ _ h1)) (.cons (.int a) (.cons (.int b) (.cons (.int d) .nil))), .tup (SqT.of (e2 _ _ h2)) (.cons (.int a) (.cons (.int b) (.cons (.int d) .nil))), rfl, rfl, by rw [eqv_three]; exact k H2 (Ex.refl H2)⟩
end
end Rw
namespace Rw
open PySem PySem.Spec PyProof.Rows L2 Evl
/-! ### sum and min of a tuple of ints -/
section
variable {P : Program} {w : World} {A : Around} {E : Value → Shared → Prop} {s : Shared} {t : Addr} {items : Array Value} {ns : List Int}
theorem ints_at {items : Array Value} {ns : List Int} (hi : IntsAre items.toList ns) {i : Nat} {v : Value} (h : items[i]? = some v) : ∃ k, v = .int (ns.getD i 0) k := by
  have go : ∀ (us : List Value) (ns : List Int), IntsAre us ns → ∀ (i : Nat) (v : Value), us[i]? = some v → ∃ k, v = Value.int (ns.getD i 0) k := by
    intro us ns h
    induction h with
    | nil => intro i v e; simp at e
    | cons n t h ih =>
      intro i v e
      cases i with
      | zero => exact ⟨t, (Option.some.inj e).symm⟩
      | succ i => exact ih i v e
  exact go _ _ hi i v (by rw [Array.getElem?_toList]; exact h)
theorem iter_tup {Q : Value → Shared → Prop} (hl : s.heap.IsTuple t items)
    (h : ∀ sv : Shared, sv = { s with heap := s.heap.push { cls := .type "tuple_iterator", data := .fields #[.ref t, .int 0 0] } } → (sv.heap.IsTupleIter s.heap.objs.size t 0 ∧ sv.heap.IsTuple t items) → (∀ b ∈ [s.heap.objs.size, t], b < sv.heap.objs.size) → t ≠ s.heap.objs.size → Q (.ref s.heap.objs.size) sv) :
    wpAny (model P w) A (pyIter (.ref t)) Q E s := by
  have lt : t < s.heap.objs.size := let ⟨_, e, _⟩ := hl; Heap.lt_size e
  have there : (s.heap.push { cls := .type "tuple_iterator", data := .fields #[.ref t, .int 0 0] }).IsTuple t items := let ⟨o, e, k, n, d⟩ := hl; ⟨o, Heap.get?_push_of_some _ e, k, n, d⟩
  refine wpAny_pyIter_tuple hl (h _ rfl ⟨⟨_, Heap.get?_push_size _ rfl, rfl, rfl⟩, there⟩ (fun b hb => ?_) (Nat.ne_of_lt lt))
  have e : (s.heap.push { cls := .type "tuple_iterator", data := .fields #[.ref t, .int 0 0] }).objs.size = s.heap.objs.size + 1 := Heap.size_push _ _
  show b < (s.heap.push _).objs.size
  rw [e]
  simp only [List.mem_cons, List.not_mem_nil, or_false] at hb
  have lt' : (t : Nat) < s.heap.objs.size := lt
  rcases hb with z | z
  · rw [z]; exact Nat.lt_succ_self _
  · rw [z]; exact Nat.lt_succ_of_lt lt'
theorem kept_old {h' : Heap} {o1 : Obj} (hk : ∀ b o, b ∉ [s.heap.objs.size] → (s.heap.push o1).get? b = some o → h'.get? b = some o) : ∀ b o, s.heap.get? b = some o → h'.get? b = some o := fun b o e =>
  hk b o (fun z => by
    rw [List.mem_singleton] at z
    have q := Heap.lt_size e
    rw [z] at q
    exact absurd q (Nat.lt_irrefl _)) (Heap.get?_push_of_some _ e)
theorem sum_getD (ns : List Int) : preSum (fun i => ns.getD i 0) ns.length = ns.sum := by
  have go : ∀ j, j ≤ ns.length → preSum (fun i => ns.getD i 0) j = (ns.take j).sum := by
    intro j
    induction j with
    | zero => intro _; rfl
    | succ j ih =>
      intro h
      have hj : j < ns.length := by omega
      rw [preSum, ih (by omega), List.take_succ_eq_append_getElem hj, List.sum_append, List.getD_eq_getElem?_getD, List.getElem?_eq_getElem hj]
      simp
  rw [go _ (Nat.le_refl _), List.take_length]
theorem sum_tup {Q : Value → Shared → Prop} (hh : A.handled = none) (hl : s.heap.IsTuple t items) (hi : IntsAre items.toList ns) (hn : items.size = ns.length)
    (h : ∀ h' tk k, (∀ b o, s.heap.get? b = some o → h'.get? b = some o) → Q (.int ns.sum k) { s with heap := h', toks := tk }) : wpAny (model P w) A (call (.builtin "sum") [.ref t]) Q E s := by
  refine call_sum_walkG (iter_tup hl fun sv e st hfp hne => ?_)
  subst e
  refine ⟨_, _, _, _, _, _, fun i => ns.getD i 0, rfl, Walks.tuple (A := A.in1) hh _ t hne items, st, hfp, fun i v e => ints_at hi e, fun h' tk k hk => ?_⟩
  have g := h h' tk k (kept_old hk)
  rw [hn, sum_getD]
  exact g
theorem min_tup {Q : Value → Shared → Prop} (hh : A.handled = none) (hl : s.heap.IsTuple t items) (hi : IntsAre items.toList ns) (hn : items.size = ns.length) (hne0 : 0 < ns.length)
    (h : ∀ h' tk M k, (∀ b o, s.heap.get? b = some o → h'.get? b = some o) → M ∈ ns → (∀ a, a ∈ ns → M ≤ a) → Q (.int M k) { s with heap := h', toks := tk }) : wpAny (model P w) A (call (.builtin "min") [.ref t]) Q E s := by
  refine call_min_walk (iter_tup hl fun sv e st hfp hne => ?_)
  subst e
  refine ⟨_, _, _, _, _, _, _, rfl, Walks.tuple (A := A.in1) hh _ t hne items, st, hfp, by omega, CmpOf.ints_lt (fun i => ns.getD i 0) (fun i v e => ints_at hi e), fun v h' tk hP hk => ?_⟩
  obtain ⟨k, rfl⟩ := ints_at hi hP
  obtain ⟨h1, h2⟩ := argBest_lt (fun i => ns.getD i 0) (items.size - 1)
  refine h h' tk _ k (kept_old hk) ?_ fun a ha => ?_
  · have hlt : argBest (fun i j => decide (ns.getD i 0 < ns.getD j 0)) (items.size - 1) < ns.length := by omega
    rw [List.getD_eq_getElem?_getD, List.getElem?_eq_getElem hlt]
    exact List.getElem_mem hlt
  · obtain ⟨j, hj, rfl⟩ := List.getElem_of_mem ha
    have g := h2 j (by omega)
    have e : ns[j] = ns.getD j 0 := by rw [List.getD_eq_getElem?_getD, List.getElem?_eq_getElem hj]; rfl
    rw [e]
    exact g
end
section
variable {X : Cx}
def rSumT (K : PySem.W.Frag) : List V → Hp → VK → Prop := fun vs H Q => ∃ (a : Addr) (ns : List Int), vs = [V.ref a] ∧ SqT K H a (ns.map V.int) ∧ Q (.int ns.sum) H
def rMinT (K : PySem.W.Frag) : List V → Hp → VK → Prop := fun vs H Q => ∃ (a : Addr) (ns : List Int), vs = [V.ref a] ∧ SqT K H a (ns.map V.int) ∧ 0 < ns.length ∧ ∀ m, m ∈ ns → (∀ y, y ∈ ns → m ≤ y) → Q (.int m) H
theorem cr_sumT (hc : X.calm = true) : CallR X (.builtin "sum") (rSumT X.K) := by
  intro pins s σ H vs us Q I r h
  obtain ⟨a, ns, rfl, hs, q⟩ := h
  obtain ⟨its, rv, hl, _⟩ := I.tuple hs
  rw [Vals.ref1 r]
  exact sum_tup (I.ok.hd hc) hl rv.ints (by rw [List.size_toArray, ← rv.length, List.length_map]) fun h' tk k hk => ⟨.int _, H, I.kept hk, ⟨_, rfl⟩, q⟩
theorem cr_minT (hc : X.calm = true) : CallR X (.builtin "min") (rMinT X.K) := by
  intro pins s σ H vs us Q I r h
  obtain ⟨a, ns, rfl, hs, h0, q⟩ := h
  obtain ⟨its, rv, hl, _⟩ := I.tuple hs
  rw [Vals.ref1 r]
  exact min_tup (I.ok.hd hc) hl rv.ints (by rw [List.size_toArray, ← rv.length, List.length_map]) h0 fun h' tk M k hk h1 h2 => ⟨.int _, H, I.kept hk, ⟨_, rfl⟩, q M h1 h2⟩
end
end Rw
/-! The mathematics of calendars: years by a cycle, months, days' numbers. Nothing of a program in it. -/
namespace Cy
structure Ca where
  months : List Int
  lm : Int
  cycle : Int
  ly : List Int
  week : Int
  fw : Int
structure Ca.Ok (c : Ca) : Prop where
  some : c.months ≠ []
  pos : ∀ m ∈ c.months, 1 ≤ m
  lm0 : 0 ≤ c.lm
  lm1 : c.lm < (c.months.length : Int)
  cy : 1 ≤ c.cycle
  ly : ∀ y ∈ c.ly, 0 ≤ y ∧ y < c.cycle
  wk : 1 ≤ c.week
  fw0 : 0 ≤ c.fw
  fw1 : c.fw < c.week
namespace Ca
variable (c : Ca)
def long (y : Int) : Bool := decide (y % c.cycle ∈ c.ly)
def plain : Int := c.months.sum
def yearDays (y : Int) : Int := if c.long y = true then c.plain + 1 else c.plain
def startN : Nat → Int
  | 0 => 0
  | n + 1 => startN n + c.yearDays (n : Int)
def cyc : Int := c.startN c.cycle.toNat
def firstOf (y : Int) : Int := y / c.cycle * c.cyc + c.startN (y % c.cycle).toNat
def weekday (n : Int) : Int := (n + c.fw) % c.week
def md (y : Int) (m : Nat) : Int := if (m : Int) = c.lm ∧ c.long y = true then c.months.getD m 0 + 1 else c.months.getD m 0
/-- days of a year ahead of its month m -/
def ahead (y : Int) : Nat → Int
  | 0 => 0
  | m + 1 => ahead y m + c.md y m
variable {c}
theorem sum_pos : ∀ (l : List Int), (∀ m ∈ l, 1 ≤ m) → (l.length : Int) ≤ l.sum
  | [], _ => by simp
  | a :: l, h => by
    have g := sum_pos l fun m hm => h m (List.mem_cons_of_mem _ hm)
    have q := h a List.mem_cons_self
    rw [List.sum_cons, List.length_cons]
    omega
theorem plain_pos (k : c.Ok) : 1 ≤ c.plain := by
  have g := sum_pos c.months k.pos
  have n := List.length_pos_iff.mpr k.some
  unfold plain
  omega
theorem days_pos (k : c.Ok) (y : Int) : 1 ≤ c.yearDays y := by
  have g := plain_pos k
  unfold yearDays
  split <;> omega
theorem long_mod (y : Int) : c.long (y % c.cycle) = c.long y := by
  unfold long
  rw [Int.emod_emod_of_dvd y (Int.dvd_refl _)]
theorem long_add (y t : Int) : c.long (y + t * c.cycle) = c.long y := by
  unfold long
  rw [Int.add_mul_emod_self_right]
theorem days_mod (y : Int) : c.yearDays (y % c.cycle) = c.yearDays y := by
  unfold yearDays
  rw [long_mod]
theorem first_add (y t : Int) (k : c.Ok) : c.firstOf (y + t * c.cycle) = c.firstOf y + t * c.cyc := by
  unfold firstOf
  have h := k.cy
  rw [Int.add_mul_ediv_right _ _ (by omega), Int.add_mul_emod_self_right, Int.add_mul]
  omega
theorem first_succ (k : c.Ok) (y : Int) : c.firstOf (y + 1) = c.firstOf y + c.yearDays y := by
  have h := k.cy
  have r0 := Int.emod_nonneg y (show c.cycle ≠ 0 by omega)
  have r1 := Int.emod_lt_of_pos y (show 0 < c.cycle by omega)
  have e := Int.emod_add_mul_ediv y c.cycle
  have dm := days_mod (c := c) y
  unfold firstOf
  generalize hr : y % c.cycle = r at *
  generalize hq : y / c.cycle = q at *
  have hy : y = r + q * c.cycle := by rw [Int.mul_comm q]; omega
  by_cases l : r + 1 < c.cycle
  · have e1 : (y + 1) % c.cycle = r + 1 := by
      rw [hy, show r + q * c.cycle + 1 = (r + 1) + q * c.cycle by omega, Int.add_mul_emod_self_right, Int.emod_eq_of_lt (by omega) l]
    have e2 : (y + 1) / c.cycle = q := by
      rw [hy, show r + q * c.cycle + 1 = (r + 1) + q * c.cycle by omega, Int.add_mul_ediv_right _ _ (by omega), Int.ediv_eq_zero_of_lt (by omega) l]
      omega
    rw [e1, e2, show (r + 1).toNat = r.toNat + 1 by omega]
    show _ + (c.startN r.toNat + c.yearDays ((r.toNat : Nat) : Int)) = _
    rw [Int.toNat_of_nonneg r0, dm]
    omega
  · have er : r + 1 = c.cycle := by omega
    have e1 : (y + 1) % c.cycle = 0 := by
      rw [hy, show r + q * c.cycle + 1 = (r + 1) + q * c.cycle by omega, Int.add_mul_emod_self_right, er, Int.emod_self]
    have e2 : (y + 1) / c.cycle = q + 1 := by
      rw [hy, show r + q * c.cycle + 1 = (r + 1) + q * c.cycle by omega, Int.add_mul_ediv_right _ _ (by omega), er, Int.ediv_self (by omega)]
      omega
    rw [e1, e2, Int.add_mul]
    have ec : c.cyc = c.startN r.toNat + c.yearDays y := by
      unfold cyc
      rw [← er, show (r + 1).toNat = r.toNat + 1 by omega]
      show c.startN r.toNat + c.yearDays ((r.toNat : Nat) : Int) = _
      rw [Int.toNat_of_nonneg r0, dm]
    show q * c.cyc + 1 * c.cyc + 0 = _
    omega
theorem first_le (k : c.Ok) (y : Int) : ∀ n : Nat, c.firstOf y + (n : Int) ≤ c.firstOf (y + (n : Int))
  | 0 => by simp
  | n + 1 => by
    have g := first_le k y n
    have s := first_succ k (y + (n : Int))
    have d := days_pos k (y + (n : Int))
    rw [show y + ((n + 1 : Nat) : Int) = y + (n : Int) + 1 by omega]
    omega
theorem first_lt (k : c.Ok) {y z : Int} (h : y < z) : c.firstOf y < c.firstOf z := by
  have g := first_le k y (z - y).toNat
  rw [Int.toNat_of_nonneg (by omega), show y + (z - y) = z by omega] at g
  omega
/-- the one year of a day -/
theorem year_one (k : c.Ok) {n y z : Int} (h1 : c.firstOf y ≤ n) (h2 : n < c.firstOf (y + 1)) (g1 : c.firstOf z ≤ n) (g2 : n < c.firstOf (z + 1)) : y = z := by
  rcases Int.lt_trichotomy y z with h | h | h
  · have q : c.firstOf (y + 1) ≤ c.firstOf z := by
      rcases Int.lt_or_eq_of_le (show y + 1 ≤ z by omega) with e | e
      · exact Int.le_of_lt (first_lt k e)
      · rw [e]; exact Int.le_refl _
    omega
  · exact h
  · have q : c.firstOf (z + 1) ≤ c.firstOf y := by
      rcases Int.lt_or_eq_of_le (show z + 1 ≤ y by omega) with e | e
      · exact Int.le_of_lt (first_lt k e)
      · rw [e]; exact Int.le_refl _
    omega
theorem first_zero (k : c.Ok) : c.firstOf 0 = 0 := by
  unfold firstOf
  rw [Int.zero_ediv, Int.zero_emod, Int.zero_mul]
  rfl
theorem cyc_pos (k : c.Ok) : 1 ≤ c.cyc := by
  have h := k.cy
  have g := first_lt k (show (0 : Int) < 0 + 1 * c.cycle by omega)
  rw [first_add 0 1 k, first_zero k] at g
  omega
theorem first_small (k : c.Ok) {n : Nat} (h : (n : Int) < c.cycle) : c.firstOf (n : Int) = c.startN n := by
  unfold firstOf
  rw [Int.ediv_eq_zero_of_lt (by omega) h, Int.emod_eq_of_lt (by omega) h, Int.zero_mul, Int.zero_add, Int.toNat_natCast]
theorem start_first (k : c.Ok) {n : Nat} (h : (n : Int) ≤ c.cycle) : c.startN n = c.firstOf (n : Int) := by
  rcases Int.lt_or_eq_of_le h with e | e
  · exact (first_small k e).symm
  · have g := first_add 0 1 k
    rw [first_zero k, Int.zero_add, Int.one_mul, Int.zero_add, Int.one_mul] at g
    rw [e, g]
    unfold cyc
    rw [← e, Int.toNat_natCast]
/-- the year of a day, as the cycle's table tells it: p, how many of the table's starts are below the rest and one -/
theorem year_by (k : c.Ok) {n : Int} {p : Nat} (h1 : ∀ i : Nat, i < p → c.startN i < n % c.cyc + 1) (h2 : ∀ i : Nat, p ≤ i → (i : Int) ≤ c.cycle → n % c.cyc + 1 ≤ c.startN i) :
    c.firstOf (n / c.cyc * c.cycle + p - 1) ≤ n ∧ n < c.firstOf (n / c.cyc * c.cycle + p - 1 + 1) := by
  have cp := cyc_pos k
  have r0 := Int.emod_nonneg n (show c.cyc ≠ 0 by omega)
  have r1 := Int.emod_lt_of_pos n (show 0 < c.cyc by omega)
  have e := Int.emod_add_mul_ediv n c.cyc
  have p0 : 0 < p := by
    rcases Nat.eq_zero_or_pos p with z | z
    · have g := h2 0 (by omega) (by have := k.cy; omega)
      have : c.startN 0 = 0 := rfl
      omega
    · exact z
  have p1 : (p : Int) ≤ c.cycle := by
    rcases Int.lt_or_le c.cycle (p : Int) with z | z
    · have g := h1 c.cycle.toNat (by have := k.cy; omega)
      have : c.startN c.cycle.toNat = c.cyc := rfl
      omega
    · exact z
  have a1 := h1 (p - 1) (by omega)
  have a2 := h2 p (Nat.le_refl _) p1
  have b1 := start_first k (n := p - 1) (by omega)
  have b2 := start_first k (n := p) p1
  have f1 := first_add ((p - 1 : Nat) : Int) (n / c.cyc) k
  have f2 := first_add (p : Int) (n / c.cyc) k
  rw [show n / c.cyc * c.cycle + (p : Int) - 1 = ((p - 1 : Nat) : Int) + n / c.cyc * c.cycle by omega, f1, show ((p - 1 : Nat) : Int) + n / c.cyc * c.cycle + 1 = (p : Int) + n / c.cyc * c.cycle by omega, f2]
  rw [Int.mul_comm] at e
  omega
/-! ### months -/
theorem ahead_sum (y : Int) : ∀ m : Nat, m ≤ c.months.length → c.ahead y m = (c.months.take m).sum + if c.lm < (m : Int) ∧ 0 ≤ c.lm ∧ c.long y = true then 1 else 0
  | 0, _ => by
    have : ¬ (c.lm < ((0 : Nat) : Int) ∧ 0 ≤ c.lm ∧ c.long y = true) := by omega
    rw [if_neg this]
    rfl
  | m + 1, h => by
    have g := ahead_sum y m (by omega)
    have hm : m < c.months.length := by omega
    rw [show c.ahead y (m + 1) = c.ahead y m + c.md y m from rfl, g, List.take_succ_eq_append_getElem hm, List.sum_append]
    unfold md
    rw [show c.months.getD m 0 = c.months[m] by rw [List.getD_eq_getElem?_getD, List.getElem?_eq_getElem hm]; rfl]
    have e1 : [c.months[m]].sum = c.months[m] := by simp
    rw [e1]
    by_cases hl : c.long y = true
    · by_cases h0 : 0 ≤ c.lm
      · rcases Int.lt_trichotomy c.lm (m : Int) with q | q | q
        · rw [if_pos ⟨q, h0, hl⟩, if_neg (by omega), if_pos ⟨by omega, h0, hl⟩]
          omega
        · rw [if_neg (by omega), if_pos ⟨q.symm, hl⟩, if_pos ⟨by omega, h0, hl⟩]
          omega
        · rw [if_neg (by omega), if_neg (by omega), if_neg (by omega)]
          omega
      · rw [if_neg (by omega), if_neg (by omega), if_neg (by omega)]
        omega
    · rw [if_neg (fun z => hl z.2.2), if_neg (fun z => hl z.2), if_neg (fun z => hl z.2.2)]
      omega
theorem ahead_all (k : c.Ok) (y : Int) : c.ahead y c.months.length = c.yearDays y := by
  rw [ahead_sum y _ (Nat.le_refl _), List.take_length]
  unfold yearDays plain
  have h0 := k.lm0
  have h1 := k.lm1
  by_cases hl : c.long y = true
  · rw [if_pos ⟨h1, h0, hl⟩, if_pos hl]
  · rw [if_neg (fun z => hl z.2.2), if_neg hl]
    omega
theorem md_pos (k : c.Ok) (y : Int) {m : Nat} (h : m < c.months.length) : 1 ≤ c.md y m := by
  have g := k.pos c.months[m] (List.getElem_mem h)
  unfold md
  rw [show c.months.getD m 0 = c.months[m] by rw [List.getD_eq_getElem?_getD, List.getElem?_eq_getElem h]; rfl]
  split <;> omega
theorem ahead_mono (k : c.Ok) (y : Int) {m n : Nat} (h : m < n) (hn : n ≤ c.months.length) : c.ahead y m < c.ahead y n := by
  induction n with
  | zero => omega
  | succ n ih =>
    have g := md_pos k y (m := n) (by omega)
    rw [show c.ahead y (n + 1) = c.ahead y n + c.md y n from rfl]
    rcases Nat.lt_or_ge m n with q | q
    · have := ih q (by omega)
      omega
    · have e : m = n := by omega
      rw [e]
      omega
theorem month_one (k : c.Ok) {y r : Int} {m n : Nat} (hm : m < c.months.length) (hn : n < c.months.length) (a1 : c.ahead y m ≤ r) (a2 : r < c.ahead y (m + 1)) (b1 : c.ahead y n ≤ r) (b2 : r < c.ahead y (n + 1)) : m = n := by
  rcases Nat.lt_trichotomy m n with h | h | h
  · have q : c.ahead y (m + 1) ≤ c.ahead y n := by
      rcases Nat.lt_or_eq_of_le (show m + 1 ≤ n from h) with e | e
      · exact Int.le_of_lt (ahead_mono k y e (by omega))
      · rw [e]; exact Int.le_refl _
    omega
  · exact h
  · have q : c.ahead y (n + 1) ≤ c.ahead y m := by
      rcases Nat.lt_or_eq_of_le (show n + 1 ≤ m from h) with e | e
      · exact Int.le_of_lt (ahead_mono k y e (by omega))
      · rw [e]; exact Int.le_refl _
    omega
/-- what a day's date is -/
structure At (c : Ca) (n y : Int) (m : Nat) (d : Int) : Prop where
  m1 : m < c.months.length
  d0 : 0 ≤ d
  d1 : d < c.md y m
  num : n = c.firstOf y + c.ahead y m + d
theorem At.year {n y d : Int} {m : Nat} (k : c.Ok) (a : c.At n y m d) : c.firstOf y ≤ n ∧ n < c.firstOf (y + 1) := by
  have h0 : 0 ≤ c.ahead y m := by
    rcases Nat.eq_zero_or_pos m with z | z
    · rw [z]; exact Int.le_refl _
    · have := ahead_mono k y z (Nat.le_of_lt a.m1)
      have e : c.ahead y 0 = 0 := rfl
      omega
  have h1 : c.ahead y (m + 1) ≤ c.yearDays y := by
    rw [← ahead_all k y]
    rcases Nat.lt_or_eq_of_le (show m + 1 ≤ c.months.length from a.m1) with e | e
    · exact Int.le_of_lt (ahead_mono k y e (Nat.le_refl _))
    · rw [e]; exact Int.le_refl _
  have h2 : c.ahead y (m + 1) = c.ahead y m + c.md y m := rfl
  have s := first_succ k y
  have := a.num
  have := a.d0
  have := a.d1
  omega
theorem At.one {n y y' d d' : Int} {m m' : Nat} (k : c.Ok) (a : c.At n y m d) (b : c.At n y' m' d') : y = y' ∧ m = m' ∧ d = d' := by
  have e := year_one k (a.year k).1 (a.year k).2 (b.year k).1 (b.year k).2
  subst e
  have h2 : c.ahead y (m + 1) = c.ahead y m + c.md y m := rfl
  have h3 : c.ahead y (m' + 1) = c.ahead y m' + c.md y m' := rfl
  have := a.num
  have := b.num
  have := a.d0
  have := a.d1
  have := b.d0
  have := b.d1
  have e : m = m' := month_one k (y := y) (r := n - c.firstOf y) a.m1 b.m1 (by omega) (by omega) (by omega) (by omega)
  subst e
  exact ⟨rfl, rfl, by omega⟩
end Ca
end Cy
namespace Rw
open PySem PySem.Spec PyProof.Rows L2 Evl Cy
/-! ### objects, evaluated -/
section
variable {K : PySem.W.Frag} {σ : L2.St} {H : Hp} {to te td ty : TE} {a C dx : Addr} {fs : List (Str × V)} {f : Str} {v z : V}
theorem ev_fld (ho : Ev to σ H (.ref a)) (hi : H a = some (.ins C dx fs)) (hc : Cls K C) (hn : NoAttr K C f) (hl : fs.lookup f = some v) : Ev (tFld K to f) σ H v := fun H1 e Q q =>
  ho H1 e _ fun H2 e2 => ⟨a, C, dx, fs, v, rfl, (e.trans e2) _ _ hi, hc, hn, hl, q H2 e2⟩
theorem ev_din {d : Addr} {kvs : List (Key × V)} {k : Key} (hy : Ev ty σ H (kV k)) (hd : Ev td σ H (.ref d)) (h : H d = some (.dK kvs)) : Ev (tDIn ty td) σ H (.bl (valV kvs k).isSome) := fun H1 e Q q =>
  hy H1 e _ fun H2 e2 => hd H2 (e.trans e2) _ fun H3 e3 => ⟨d, _, rfl, DGet.k (((e.trans e2).trans e3) _ _ h), q H3 (e2.trans e3)⟩
end
/-! ### a calendar in the heap -/
def startsL (c : Ca) : List V := ((List.range (c.cycle.toNat + 1)).map fun i => V.int (c.startN i))
def calF (c : Ca) (tm ty dl ts : Addr) : List (Str × V) :=
  [("months", .ref tm), ("long_month", .int c.lm), ("cycle", .int c.cycle), ("long_years", .ref ty), ("week", .int c.week), ("first_weekday", .int c.fw), ("longs", .ref dl), ("plain_days", .int c.plain), ("starts", .ref ts)]
/-- a calendar's object at a; full: its table of starts is whole -/
def CalB (full : Bool) (K : PySem.W.Frag) (C : Addr) (H : Hp) (a : Addr) (c : Ca) : Prop := ∃ dx tm ty dl ts kvs st, H a = some (.ins C dx (calF c tm ty dl ts)) ∧ SqT K H tm (c.months.map V.int) ∧ SqT K H ty (c.ly.map V.int) ∧
  H dl = some (.dK kvs) ∧ (∀ i : Int, (valV kvs (.inl i)).isSome = decide (i ∈ c.ly)) ∧ SqL K H ts st ∧ (full = true → st = startsL c)
theorem CalB.ex {b : Bool} {K : PySem.W.Frag} {C : Addr} {H H' : Hp} {a : Addr} {c : Ca} (h : CalB b K C H a c) (e : Ex H H') : CalB b K C H' a c := by
  obtain ⟨dx, tm, ty, dl, ts, kvs, st, h1, h2, h3, h4, h5, h6, h7⟩ := h
  exact ⟨dx, tm, ty, dl, ts, kvs, st, e _ _ h1, ex_t e h2, ex_t e h3, e _ _ h4, h5, ex_l e h6, h7⟩
theorem CalB.weak {b : Bool} {K : PySem.W.Frag} {C : Addr} {H : Hp} {a : Addr} {c : Ca} (h : CalB b K C H a c) : CalB false K C H a c := by
  obtain ⟨dx, tm, ty, dl, ts, kvs, st, h1, h2, h3, h4, h5, h6, h7⟩ := h
  exact ⟨dx, tm, ty, dl, ts, kvs, st, h1, h2, h3, h4, h5, h6, fun z => nomatch z⟩
abbrev CalP := CalB true
/-- bounds within which all numbers of a calendar are small -/
structure Small (c : Ca) : Prop where
  ok : c.Ok
  cy : c.cycle < 100000
  len : c.months.length < 1000
  cyc : c.cyc < 1000000000
  wk : c.week < 1000000
/-- a promise about a calendar: what is answered is a plain function of it -/
def spB (b : Bool) (K : PySem.W.Frag) (C : Addr) (cl : Nat → Addr) (f : Ca → List V → Option Rs) : Sp := fun vs H Q E => ∃ a c ws r, vs = .ref a :: ws ∧ CalB b K C H a c ∧ Small c ∧ f c ws = some r ∧ Out cl H Q E r
abbrev spM := spB true
section
variable {K : PySem.W.Frag} {C : Addr} {cl : Nat → Addr} {f : Ca → List V → Option Rs} {σ : L2.St} {H : Hp} {to : TE} {ta : TA} {E : XK} {a : Addr} {c : Ca} {ws dvs : List V} {z : V} {xs : List V} {m : Str}
/-- calendar.m(..) -/
theorem mt_run {b : Bool} {r : Rs} {Q : VK} (ho : Ev to σ H (.ref a)) (ha : EvA ta σ H ws) (hc : CalB b K C H a c) (hs : Small c) (hm : ∀ tm ty dl ts, (calF c tm ty dl ts).lookup m = none) (hf : f c (ws ++ dvs) = some r) (H1 : Hp) (e : Ex H H1) (o : Out cl H1 Q E r) :
    tMeth C m (spB b K C cl f) dvs E to ta σ H1 Q := ho H1 e _ fun H2 e2 => by
  obtain ⟨dx, tm, ty, dl, ts, kvs, st, h1, hr⟩ := hc.ex (e.trans e2)
  refine ⟨a, dx, _, rfl, h1, hm _ _ _ _, ha H2 (e.trans e2) _ fun H3 e3 => ⟨a, c, ws ++ dvs, r, rfl, hc.ex ((e.trans e2).trans e3), hs, hf, o.mono (e2.trans e3)⟩⟩
theorem ev_M {b : Bool} (ho : Ev to σ H (.ref a)) (ha : EvA ta σ H ws) (hc : CalB b K C H a c) (hs : Small c) (hm : ∀ tm ty dl ts, (calF c tm ty dl ts).lookup m = none) (hf : f c (ws ++ dvs) = some (.ok z)) :
    Ev (tMeth C m (spB b K C cl f) dvs E to ta) σ H z := fun H1 e Q q => mt_run ho ha hc hs hm hf H1 e fun H2 e2 => q H2 e2
theorem eu_M {b : Bool} (ho : Ev to σ H (.ref a)) (ha : EvA ta σ H ws) (hc : CalB b K C H a c) (hs : Small c) (hm : ∀ tm ty dl ts, (calF c tm ty dl ts).lookup m = none) (hf : f c (ws ++ dvs) = some (.tup xs)) :
    EvU (tMeth C m (spB b K C cl f) dvs E to ta) σ H xs := fun H1 e Q q => mt_run ho ha hc hs hm hf H1 e fun p H2 hp e2 h2 => q p H2 hp e2 h2
/-- f(calendar, ..) -/
theorem ev_G {b : Bool} (ha : EvA ta σ H (.ref a :: ws)) (hc : CalB b K C H a c) (hs : Small c) (hf : f c (ws ++ dvs) = some (.ok z)) : Ev (tCall (spB b K C cl f) dvs E ta) σ H z := fun H1 e Q q =>
  ha H1 e _ fun H2 e2 => ⟨a, c, ws ++ dvs, _, rfl, hc.ex (e.trans e2), hs, hf, fun H3 e3 => q H3 (e2.trans e3)⟩
end
theorem ev_lenT {K : PySem.W.Frag} {σ : L2.St} {H : Hp} {ta : TE} {p : Addr} {xs : List V} (h : Ev ta σ H (.ref p)) (hs : SqT K H p xs) : Ev (tCB (fun xs H Q => ∃ p ys, xs = [.ref p] ∧ (SqL K H p ys ∨ SqT K H p ys) ∧ Q (.int ys.length) H) (tCons ta tNil)) σ H (.int (xs.length : Nat)) := fun H1 e Q q =>
  h H1 e _ fun H2 e2 => ⟨p, xs, rfl, .inr (ex_t (e.trans e2) hs), q H2 e2⟩
/-- divmod of ints is a new pair -/
theorem eu_divmod {σ : L2.St} {H : Hp} {ta tb : TE} {i j : Int} (ha : Ev ta σ H (.int i)) (hb : Ev tb σ H (.int j)) (hc : CDiv i j) :
    EvU (tCB (fun xs H Q => ∃ i j, xs = [.int i, .int j] ∧ CDiv i j ∧ ∀ p, H p = none → Q (.ref p) (upd H p (.tup [.int (i / j), .int (i % j)]))) (tCons ta (tCons tb tNil))) σ H [.int (i / j), .int (i % j)] := fun H1 e Q q =>
  ha H1 e _ fun H2 e2 => hb H2 (e.trans e2) _ fun H3 e3 => ⟨i, j, rfl, hc, fun p hp => q p _ (fresh_back (e2.trans e3) hp) ((e2.trans e3).trans (Ex.new hp)) upd_same⟩
/-- a, b = a new pair -/
theorem q_pair {K : PySem.W.Frag} {σ : L2.St} {H : Hp} {te : TE} {i j : Nat} {x y : V} {D : Ends} {tz : TS} (h : EvU te σ H [x, y]) (k : ∀ H1, Ex H H1 → tz D ((σ.set i (some x)).set j (some y)) H1) : tSeq (tAsg te (gTup K 2 (gCons (gName i) (gCons (gName j) gNil)))) tz D σ H :=
  h H (Ex.refl H) _ fun p H1 hp e h1 => ⟨p, [x, y], rfl, SqT.of h1, rfl, _, _, rfl, _, _, rfl, rfl, k H1 e⟩
end Rw
namespace Rw
open PySem PySem.Spec PyProof.Rows L2 Evl Cy
/-- a method that keeps a promise; it may raise -/
def Mt (P : Program) (w : World) (K : PySem.W.Frag) (mg : Str → Option Value) (base : Heap) (k : Nat) (C : Addr) (m : Str) (sp : Sp) (dvs : List V) : Prop :=
  ∃ (f : Addr) (d : FuncData) (names : List Str) (dv : List Value), Cls K C ∧ Meth K C m f ∧ FnOk P w K mg base (L2.CX P w) k f d names sp ∧ Binds K d names dv ∧ Vals dvs dv
section
variable {X : Cx} {k j : Nat} {C : Addr} {m : Str} {sp : Sp} {dvs : List V} {E : XK} {apos pos : Pos} {o e : Expr} {es : List Expr} {t : TA} {ta : TE}
theorem pe_mk {pl : Sem Bool} (c : Mt X.prog X.w X.K X.mg X.base k C m sp dvs) (room : Room j X.A) (le : k ≤ j) (out : Passes (L2.CX X.prog X.w) X E) (obj : PE X o ta) (args : PA X (e :: es) t)
    (stars : starEach (e :: es) X.env = (false, eval e X.env) :: starEach es X.env := by rfl) (nostar : (backTo pos (starEach es X.env)).any (·.1) = false := by rfl)
    (way : eval (.Call (.Attribute o m apos) (e :: es) [] pos) X.env = (do let u ← eval o X.env; standAt apos.atName; let (g, us) ← holding [u] (getMethod u m pl); callWith pos g us (backTo pos (starEach (e :: es) X.env)) (backToKw pos (keywordEach [] X.env))) := by rfl) :
    PE X (.Call (.Attribute o m apos) (e :: es) [] pos) (tMeth C m sp dvs E ta t) :=
  let ⟨_, _, _, _, cl, me, F, b, d⟩ := c
  pe_meth obj cl me F (room.mono le) b d out args stars nostar way
theorem pe_mk0 {pl : Sem Bool} (c : Mt X.prog X.w X.K X.mg X.base k C m sp dvs) (room : Room j X.A) (le : k ≤ j) (out : Passes (L2.CX X.prog X.w) X E) (obj : PE X o ta)
    (way : eval (.Call (.Attribute o m apos) [] [] pos) X.env = (do let u ← eval o X.env; standAt apos.atName; let (g, us) ← holding [u] (getMethod u m pl); callWith pos g us (backTo pos (starEach [] X.env)) (backToKw pos (keywordEach [] X.env))) := by rfl) :
    PE X (.Call (.Attribute o m apos) [] [] pos) (tMeth C m sp dvs E ta tNil) :=
  let ⟨_, _, _, _, cl, me, F, b, d⟩ := c
  pe_meth0 obj cl me F (room.mono le) b d out way
end
section
variable {c : Ca} {tm ty dl ts : Addr}
theorem calF_months : (calF c tm ty dl ts).lookup ("months" : Str) = some (V.ref tm) := rfl
theorem calF_lm : (calF c tm ty dl ts).lookup ("long_month" : Str) = some (V.int c.lm) := rfl
theorem calF_cycle : (calF c tm ty dl ts).lookup ("cycle" : Str) = some (V.int c.cycle) := rfl
theorem calF_ly : (calF c tm ty dl ts).lookup ("long_years" : Str) = some (V.ref ty) := rfl
theorem calF_week : (calF c tm ty dl ts).lookup ("week" : Str) = some (V.int c.week) := rfl
theorem calF_fw : (calF c tm ty dl ts).lookup ("first_weekday" : Str) = some (V.int c.fw) := rfl
theorem calF_longs : (calF c tm ty dl ts).lookup ("longs" : Str) = some (V.ref dl) := rfl
theorem calF_plain : (calF c tm ty dl ts).lookup ("plain_days" : Str) = some (V.int c.plain) := rfl
theorem calF_starts : (calF c tm ty dl ts).lookup ("starts" : Str) = some (V.ref ts) := rfl
end
structure CalT (K : PySem.W.Frag) (C : Addr) : Prop where
  cls : Cls K C
  months : NoAttr K C "months"
  lm : NoAttr K C "long_month"
  cycle : NoAttr K C "cycle"
  ly : NoAttr K C "long_years"
  week : NoAttr K C "week"
  fw : NoAttr K C "first_weekday"
  longs : NoAttr K C "longs"
  plain : NoAttr K C "plain_days"
  starts : NoAttr K C "starts"
/-! ### what the methods answer -/
theorem range_count (p : Nat → Bool) {k : Nat} : ∀ N : Nat, k ≤ N → (∀ i, i < k → p i = true) → (∀ i, k ≤ i → i < N → p i = false) → (List.range N).countP p = k
  | 0, h, _, _ => by
    have e : k = 0 := by omega
    rw [e]
    rfl
  | N + 1, h, h1, h2 => by
    rw [List.range_succ, List.countP_append]
    rcases Nat.lt_or_ge N k with q | q
    · have e : k = N + 1 := by omega
      have g := range_count p (k := N) N (Nat.le_refl _) (fun i hi => h1 i (by omega)) (fun i a b => by omega)
      rw [g, e]
      simp [h1 N q]
    · have g := range_count p (k := k) N q h1 (fun i a b => h2 i a (by omega))
      rw [g]
      simp [h2 N q (by omega)]
def yearOf (c : Ca) (n : Int) : Int := n / c.cyc * c.cycle + (((List.range (c.cycle.toNat + 1)).countP fun i => decide (c.startN i < n % c.cyc + 1) : Nat) : Int) - 1
def monthOf (c : Ca) (y r : Int) : Nat := (List.range c.months.length).countP fun m => decide (c.ahead y (m + 1) ≤ r)
theorem start_mono {c : Ca} (k : c.Ok) {i j : Nat} (h : i < j) (hj : (j : Int) ≤ c.cycle) : c.startN i < c.startN j := by
  rw [Ca.start_first k (n := i) (by omega), Ca.start_first k hj]
  exact Ca.first_lt k (by omega)
theorem year_count {c : Ca} (k : c.Ok) (b : Int) {p : Nat} (hp : p ≤ c.cycle.toNat + 1) (h1 : ∀ i : Nat, i < p → c.startN i < b) (h2 : ∀ i : Nat, p ≤ i → i < c.cycle.toNat + 1 → b ≤ c.startN i) :
    (List.range (c.cycle.toNat + 1)).countP (fun i => decide (c.startN i < b)) = p :=
  range_count _ _ hp (fun i hi => decide_eq_true (h1 i hi)) fun i a b' => decide_eq_false (by have := h2 i a b'; omega)
/-- where the table's starts pass a bound -/
theorem starts_cut {c : Ca} (k : c.Ok) (b : Int) : ∃ p : Nat, p ≤ c.cycle.toNat + 1 ∧ (∀ i : Nat, i < p → c.startN i < b) ∧ (∀ i : Nat, p ≤ i → i < c.cycle.toNat + 1 → b ≤ c.startN i) := by
  have hc := k.cy
  have go : ∀ N : Nat, N ≤ c.cycle.toNat + 1 → ∃ p : Nat, p ≤ N ∧ (∀ i : Nat, i < p → c.startN i < b) ∧ (∀ i : Nat, p ≤ i → i < N → b ≤ c.startN i) := by
    intro N
    induction N with
    | zero => intro _; exact ⟨0, Nat.le_refl _, fun i h => by omega, fun i _ h => by omega⟩
    | succ N ih =>
      intro hN
      obtain ⟨p, p0, p1, p2⟩ := ih (by omega)
      rcases Nat.lt_or_eq_of_le p0 with q | q
      · refine ⟨p, by omega, p1, fun i a e => ?_⟩
        rcases Nat.lt_or_eq_of_le (Nat.lt_succ_iff.mp e) with z | z
        · exact p2 i a z
        · have g := p2 p (Nat.le_refl _) q
          have l := start_mono k (i := p) (j := N) q (by omega)
          rw [z]
          omega
      · by_cases z : c.startN N < b
        · exact ⟨N + 1, Nat.le_refl _, fun i h => by
            rcases Nat.lt_or_eq_of_le (Nat.lt_succ_iff.mp h) with e | e
            · exact p1 i (by omega)
            · rw [e]; exact z, fun i a e => by omega⟩
        · exact ⟨p, by omega, p1, fun i a e => by
            have e2 : i = N := by omega
            rw [e2]
            omega⟩
  exact go _ (Nat.le_refl _)
theorem yearOf_spec {c : Ca} (k : c.Ok) (n : Int) : c.firstOf (yearOf c n) ≤ n ∧ n < c.firstOf (yearOf c n + 1) := by
  obtain ⟨p, p0, p1, p2⟩ := starts_cut k (n % c.cyc + 1)
  have e := year_count k (n % c.cyc + 1) p0 p1 p2
  have g := Ca.year_by k (n := n) (p := p) p1 (fun i a b => p2 i a (by omega))
  unfold yearOf
  rw [e]
  exact g
theorem month_count {c : Ca} (k : c.Ok) {y r : Int} {m : Nat} (hm : m < c.months.length) (h1 : c.ahead y m ≤ r) (h2 : r < c.ahead y (m + 1)) : monthOf c y r = m := by
  unfold monthOf
  refine range_count _ _ (by omega) (fun i hi => decide_eq_true ?_) fun i a b => decide_eq_false ?_
  · rcases Nat.lt_or_eq_of_le (show i + 1 ≤ m from hi) with e | e
    · have := Ca.ahead_mono k y e (by omega)
      omega
    · rw [e]; exact h1
  · rcases Nat.lt_or_eq_of_le a with e | e
    · have := Ca.ahead_mono k y (show m + 1 < i + 1 by omega) (by omega)
      omega
    · rw [← e]
      omega
theorem month_there {c : Ca} (k : c.Ok) {y r : Int} (h0 : 0 ≤ r) (h1 : r < c.yearDays y) : ∃ m : Nat, m < c.months.length ∧ c.ahead y m ≤ r ∧ r < c.ahead y (m + 1) := by
  rw [← Ca.ahead_all k y] at h1
  have go : ∀ N : Nat, r < c.ahead y N → N ≤ c.months.length → ∃ m : Nat, m < c.months.length ∧ c.ahead y m ≤ r ∧ r < c.ahead y (m + 1) := by
    intro N
    induction N with
    | zero =>
      intro h _
      have e : c.ahead y 0 = 0 := rfl
      omega
    | succ N ih =>
      intro h hN
      by_cases q : r < c.ahead y N
      · exact ih q (by omega)
      · exact ⟨N, by omega, by omega, h⟩
  exact go _ h1 (Nat.le_refl _)
def dateM (c : Ca) (n : Int) : Nat := monthOf c (yearOf c n) (n - c.firstOf (yearOf c n))
def dateD (c : Ca) (n : Int) : Int := n - c.firstOf (yearOf c n) - c.ahead (yearOf c n) (dateM c n)
theorem date_at {c : Ca} (k : c.Ok) (n : Int) : c.At n (yearOf c n) (dateM c n) (dateD c n) := by
  obtain ⟨y0, y1⟩ := yearOf_spec k n
  have s := Ca.first_succ k (yearOf c n)
  obtain ⟨m, m0, m1, m2⟩ := month_there k (y := yearOf c n) (r := n - c.firstOf (yearOf c n)) (by omega) (by omega)
  have e := month_count k m0 m1 m2
  have e2 : c.ahead (yearOf c n) (m + 1) = c.ahead (yearOf c n) m + c.md (yearOf c n) m := rfl
  unfold dateD dateM
  rw [e]
  exact ⟨m0, by omega, by omega, by omega⟩
def fCycleDays (c : Ca) : List V → Option Rs
  | [] => some (.ok (.int c.cyc))
  | _ => none
def fIsLong (c : Ca) : List V → Option Rs
  | [.int y] => some (.ok (.bl (c.long y)))
  | _ => none
def fYearDays (c : Ca) : List V → Option Rs
  | [.int y] => some (.ok (.int (c.yearDays y)))
  | _ => none
def fMonthDays (c : Ca) : List V → Option Rs
  | [.int y, .int m] => some (if 0 ≤ m ∧ m < (c.months.length : Int) then .ok (.int (c.md y m.toNat)) else .err 1)
  | _ => none
def fFirstOf (c : Ca) : List V → Option Rs
  | [.int y] => some (.ok (.int (c.firstOf y)))
  | _ => none
def fYearOf (c : Ca) : List V → Option Rs
  | [.int n] => some (.ok (.int (yearOf c n)))
  | _ => none
def fDate (c : Ca) : List V → Option Rs
  | [.int n] => some (.tup [.int (yearOf c n), .int (dateM c n : Nat), .int (dateD c n)])
  | _ => none
def fWeekday (c : Ca) : List V → Option Rs
  | [.int n] => some (.ok (.int (c.weekday n)))
  | _ => none
end Rw
namespace Rw
open PySem PySem.Spec PyProof.Rows L2 Evl Cy
/-! ### an object in the making -/
section
variable {K : PySem.W.Frag} {σ : L2.St} {H : Hp} {to tv ta te tl : TE} {a C dx p : Addr} {fs : List (Str × V)} {f : Str} {y : V} {xs ys : List V} {D : Ends} {tz : TS}
theorem sqT_b {H' : Hp} (e : ExB a H H') (ha : H a = some (.ins C dx fs)) (h : SqT K H p xs) : SqT K H' p xs := by
  rcases h with (h | ⟨o, h⟩) | h
  · exact .inl (.inl (e _ _ (fun z => by rw [z, ha] at h; cases h) h))
  · exact .inl (.inr ⟨o, e _ _ (fun z => by rw [z, ha] at h; cases h) h⟩)
  · exact .inr h
theorem sqL_b {H' : Hp} (e : ExB a H H') (ha : H a = some (.ins C dx fs)) (h : SqL K H p xs) : SqL K H' p xs := by
  rcases h with (h | ⟨o, h⟩) | h
  · exact .inl (.inl (e _ _ (fun z => by rw [z, ha] at h; cases h) h))
  · exact .inl (.inr ⟨o, e _ _ (fun z => by rw [z, ha] at h; cases h) h⟩)
  · exact .inr h
theorem yes_if {A B : Prop} (h : A) : if true = true then A else B := (if_pos rfl).symm ▸ h
theorem sqT_u {t : Addr} {l : List V} {o : HO} (h : SqT K H p xs) (hl : H t = some (.lst l)) : SqT K (upd H t o) p xs := by
  rcases h with (h | ⟨q, h⟩) | h
  · exact .inl (.inl (by rw [upd_ne (fun z => by rw [z, hl] at h; cases h)]; exact h))
  · exact .inl (.inr ⟨q, by rw [upd_ne (fun z => by rw [z, hl] at h; cases h)]; exact h⟩)
  · exact .inr h
/-- an expression whose value, in the heap then, is so -/
def EvX (te : TE) (σ : L2.St) (H : Hp) (R : V → Hp → Prop) : Prop := ∀ H1, Ex H H1 → ∀ Q : VK, (∀ y H2, Ex H1 H2 → R y H2 → Q y H2) → te σ H1 Q
theorem q_fldB (hv : Ev tv σ H y) (ho : Ev to σ H (.ref a)) (hi : H a = some (.ins C dx fs)) (c : Cls K C) (n : NoAttr K C f) (hl : fs.length < 1000) (k : ∀ G, ExB a H G → G a = some (.ins C dx (putF f y fs)) → tz D σ G) : tSeq (sFld K to tv f) tz D σ H :=
  hv H (Ex.refl H) _ fun H1 e1 => ho H1 e1 _ fun H2 e2 => ⟨a, C, dx, fs, rfl, e2 _ _ (e1 _ _ hi), c, n, hl, k _ (ExB.of (e1.trans e2)).upd upd_same⟩
theorem q_fldX {R : V → Hp → Prop} (hv : EvX tv σ H R) (ho : Ev to σ H (.ref a)) (hi : H a = some (.ins C dx fs)) (c : Cls K C) (n : NoAttr K C f) (hl : fs.length < 1000)
    (st : ∀ y H1 H2, R y H1 → H1 a = some (.ins C dx fs) → ExB a H1 H2 → R y H2) (k : ∀ y G, ExB a H G → G a = some (.ins C dx (putF f y fs)) → R y G → tz D σ G) : tSeq (sFld K to tv f) tz D σ H :=
  hv H (Ex.refl H) _ fun y H1 e1 r => ho H1 e1 _ fun H2 e2 => ⟨a, C, dx, fs, rfl, e2 _ _ (e1 _ _ hi), c, n, hl, k y _ (ExB.of (e1.trans e2)).upd upd_same (st y H1 _ r (e1 _ _ hi) (ExB.of e2).upd)⟩
def SqA (K : PySem.W.Frag) (H : Hp) (p : Addr) (xs : List V) : Prop := SqL K H p xs ∨ SqT K H p xs
theorem SqA.ex {H H' : Hp} (h : SqA K H p xs) (e : Ex H H') : SqA K H' p xs := h.elim (fun h => .inl (ex_l e h)) fun h => .inr (ex_t e h)
theorem SqA.b {H' : Hp} (e : ExB a H H') (ha : H a = some (.ins C dx fs)) (h : SqA K H p xs) : SqA K H' p xs := h.elim (fun h => .inl (sqL_b e ha h)) fun h => .inr (sqT_b e ha h)
/-- tuple(xs): a new one, or the same -/
theorem ev_tupOf (h : Ev ta σ H (.ref p)) (hs : SqA K H p xs) :
    EvX (tCB (fun xs H Q => ∃ p ys, xs = [.ref p] ∧ ((SqL K H p ys ∧ ∀ l, H l = none → Q (.ref l) (upd H l (.tup ys))) ∨ (SqT K H p ys ∧ Q (.ref p) H))) (tCons ta tNil)) σ H (fun y H2 => ∃ q, y = .ref q ∧ SqT K H2 q xs) := fun H1 e Q k =>
  h H1 e _ fun H2 e2 => by
    refine ⟨p, xs, rfl, ?_⟩
    rcases hs.ex (e.trans e2) with g | g
    · exact .inl ⟨g, fun l hl => k _ _ (e2.trans (Ex.new hl)) ⟨l, rfl, SqT.of upd_same⟩⟩
    · exact .inr ⟨g, k _ _ e2 ⟨p, rfl, g⟩⟩
theorem dp_ints : ∀ ns : List Int, DpAll K H (ns.map V.int) (ns.map PyData.int)
  | [] => .nil
  | n :: r => .cons (.int n) (dp_ints r)
theorem lay_ints : ∀ ns : List Int, PyData.canLayAll0 (ns.map PyData.int) = true
  | [] => rfl
  | n :: r => by
    rw [List.map_cons, PyData.canLayAll0, lay_ints r]
    rfl
theorem depth_ints : ∀ ns : List Int, PyData.depthAll (ns.map PyData.int) = 0
  | [] => rfl
  | n :: r => by
    rw [List.map_cons, PyData.depthAll, depth_ints r]
    rfl
theorem shaped_ints (ns : List Int) : SeqAt.shaped (.tuple (ns.map PyData.int)) = true := by
  unfold SeqAt.shaped
  rw [PyData.canLay0, lay_ints, PyData.depth, depth_ints]
  rfl
/-- a tuple of ints, not empty, is not () -/
theorem ev_noTup {ns : List Int} (h : Ev ta σ H (.ref p)) (hs : SqT K H p (ns.map V.int)) (hn : ns ≠ []) : Ev (tOp (rEqD K) ta (tTup tNil)) σ H (.bl false) :=
  ev_opU h (eu_tup ea_nil (by decide)) fun q H1 h1 e => fun H2 e2 Q k => ⟨.tuple (ns.map .int), .tuple [], .tup (ex_t (e.trans e2) hs) (dp_ints ns), .tup (SqT.of (e2 _ _ h1)) .nil, shaped_ints ns, rfl, by
    cases ns with
    | nil => exact absurd rfl hn
    | cons n r => exact k H2 (Ex.refl H2)⟩
theorem et_min {ns : List Int} {b : Int} (h : Ev ta σ H (.ref p)) (hs : SqT K H p (ns.map V.int)) (hn : ns ≠ []) (hb : ∀ m ∈ ns, b ≤ m) : EvT (tTest (tOp (rI0 fun i j => .bl (decide (i < j))) (tCB (rMinT K) (tCons ta tNil)) (tC (.int b)))) σ H false := fun H1 e Q q =>
  h H1 e _ fun H2 e2 => ⟨p, ns, rfl, ex_t (e.trans e2) hs, List.length_pos_iff.mpr hn, fun m hm _ => ⟨m, b, rfl, rfl, false, congrArg V.bl (decide_eq_false (by have := hb m hm; omega)), q H2 e2⟩⟩
theorem ev_sumT {ns : List Int} (h : Ev ta σ H (.ref p)) (hs : SqT K H p (ns.map V.int)) : Ev (tCB (rSumT K) (tCons ta tNil)) σ H (.int ns.sum) := fun H1 e Q q =>
  h H1 e _ fun H2 e2 => ⟨p, ns, rfl, ex_t (e.trans e2) hs, q H2 e2⟩
theorem ev_newL (h : EvL te σ H xs) : EvX te σ H (fun y H2 => ∃ q, y = .ref q ∧ H2 q = some (.lst xs) ∧ H q = none) := fun H1 e Q k => h H1 e _ fun q H2 hq e2 h2 => k _ _ e2 ⟨q, rfl, h2, fresh_back e hq⟩
/-- all items of a tuple that stands, each made another -/
theorem el_mapT {j : Nat} {vs : List Nat} (h : Ev tl σ H (.ref p)) (hx : SqT K H p xs) (hz : xs.length ≤ 40000) (hw : ∀ x, wipe ((wipe σ vs).set j (some x)) vs = wipe σ vs) (hl : xs.length = ys.length)
    (he : ∀ (i : Nat) (x y : V) H1, Ex H H1 → xs[i]? = some x → ys[i]? = some y → Ev te ((wipe σ vs).set j (some x)) H1 y) : EvL (tLc (iTup K tl) (gName j) tYes te vs) σ H ys := fun H0 e Q q => h H0 e _ fun H1 e1 => by
  have ey : given xs.length (fun _ => true) (fun i => ys.getD i .non) = ys := given_map hl fun i y hy => by rw [List.getD_eq_getElem?_getD, hy]; rfl
  refine ⟨p, rfl, ⟨xs, ex_t (e.trans e1) hx⟩, fun Dl hD => lc_tup (xs := xs) (Cw H1 (fun _ => true) (fun i => ys.getD i .non) Dl) ⟨hD, Ex.new hD, upd_same⟩ (fun i H' _ c => ex_t ((e.trans e1).trans c.2.1) hx) (fun i x H' hi c => ?_) (fun H' c => ?_)⟩
  · have hi2 := (List.getElem?_eq_some_iff.mp hi).1
    refine ⟨hw x, cw_turn c (by omega) et_yes fun _ => ?_⟩
    have hiy : i < ys.length := by omega
    have eg : ys.getD i .non = ys[i] := by rw [List.getD_eq_getElem?_getD, List.getElem?_eq_getElem hiy]; rfl
    rw [eg]
    exact he i x _ H1 (e.trans e1) hi (List.getElem?_eq_getElem hiy)
  · have g := c.2.2
    rw [ey] at g
    exact q Dl H' (fresh_back e1 c.1) (e1.trans c.2.1) g
/-- {n: True for n in a tuple of ints} -/
theorem ev_dictTrue {ns : List Int} {j : Nat} {vs : List Nat} (h : Ev tl σ H (.ref p)) (hs : SqT K H p (ns.map V.int)) (hz : ns.length ≤ 100000) (hw : ∀ x, wipe ((wipe σ vs).set j (some x)) vs = wipe σ vs) (hj : ∀ x, ((wipe σ vs).set j (some x))[j]? = some (some x)) :
    EvX (tDc (iTup K tl) (gName j) tYes (tVar j) (tC (.bl true)) vs) σ H (fun y H2 => ∃ d kvs, y = .ref d ∧ H2 d = some (.dK kvs) ∧ ∀ i : Int, (valV kvs (.inl i)).isSome = decide (i ∈ ns)) := fun H0 e Q k => h H0 e _ fun H1 e1 =>
  ⟨p, rfl, ⟨_, ex_t (e.trans e1) hs⟩, fun Dd hD => dc_tup (xs := ns.map V.int) (fun i H' => Ex H1 H' ∧ ∃ kvs : List (Key × V), H' Dd = some (.dK kvs) ∧ kvs.length ≤ i ∧ ∀ q : Int, (valV kvs (.inl q)).isSome = decide (q ∈ ns.take i))
    ⟨Ex.new hD, [], upd_same, Nat.le_refl _, fun q => by simp [valV]⟩ (fun i H' _ c => ex_t ((e.trans e1).trans c.1) hs) (fun i x H' hi c => by
      obtain ⟨eH, kvs, g1, g2, g3⟩ := c
      have hlt := (List.getElem?_eq_some_iff.mp hi).1
      rw [List.length_map] at hlt
      rw [List.getElem?_map, List.getElem?_eq_getElem hlt] at hi
      obtain rfl : V.int ns[i] = x := Option.some.inj hi
      refine ⟨hw _, ?_⟩
      simp only [tYes, ↓reduceIte]
      refine ⟨_, hj _, kvs, .inl ns[i], rfl, g1, sz_lt (by omega), Ex.mut eH hD, _, upd_same, Nat.le_trans (length_putK _ _ _) (by omega), fun q => ?_⟩
      rw [valV_put, List.take_succ_eq_append_getElem hlt]
      by_cases z : (Sum.inl q : Key) = Sum.inl ns[i]
      · rw [if_pos z]
        injection z with z
        rw [z]
        exact (decide_eq_true (List.mem_append_right _ List.mem_cons_self)).symm
      · rw [if_neg z, g3 q]
        have z2 : ¬ q = ns[i] := fun y => z (by rw [y])
        exact decide_eq_decide.mpr ⟨fun h => List.mem_append_left _ h, fun h => (List.mem_append.mp h).elim id fun h => absurd (List.mem_singleton.mp h) z2⟩) (fun H' c => by
      obtain ⟨eH, kvs, g1, g2, g3⟩ := c
      rw [List.length_map, List.take_length] at g3
      exact k _ _ (e1.trans eH) ⟨Dd, kvs, rfl, g1, g3⟩)⟩
end
end Rw
namespace Rw
open PySem PySem.Spec PyProof.Rows L2 Evl Cy
/-- a class whose making keeps a promise; it may raise -/
def Nw (P : Program) (w : World) (K : PySem.W.Frag) (mg : Str → Option Value) (base : Heap) (k : Nat) (x : Str) (C : Addr) (sp : Sp) (dvs : List V) : Prop :=
  ∃ (f : Addr) (d : FuncData) (names : List Str) (dv : List Value), Mk K C f ∧ mg x = some (.ref C) ∧ FnOk P w K mg base (L2.CX P w) k f d names sp ∧ Binds K d names dv ∧ Vals dvs dv
section
variable {X : Cx} {k j : Nat} {x : Str} {C : Addr} {sp : Sp} {dvs : List V} {E : XK} {p pos : Pos} {e : Expr} {es : List Expr} {t : TA}
theorem pe_nw (c : Nw X.prog X.w X.K X.mg X.base k x C sp dvs) (room : Room j X.A) (le : k + 1 ≤ j) (out : Passes (L2.CX X.prog X.w) X E) (args : PA X (e :: es) t) (gl : Gl X x := by rfl)
    (plain : (x == ("__debug__" : Str)) = false := by decide) (stars : starEach (e :: es) X.env = (false, eval e X.env) :: starEach es X.env := by rfl) (nostar : (backTo pos (starEach es X.env)).any (·.1) = false := by rfl) :
    PE X (.Call (.Name x p) (e :: es) [] pos) (tMake C sp dvs E t) :=
  let ⟨_, _, _, _, M, at_, F, b, d⟩ := c
  pe_make M F (room.mono le) gl at_ b d out args plain stars nostar
end
/-! ### what a heap keeps while dice are rolled -/
def Rel (d : Addr) (H H' : Hp) : Prop := ExB d H H' ∧ ∃ a b c, H' d = some (.lst [.int a, .int b, .int c])
section
variable {d p : Addr} {H H1 H2 : Hp} {o : HO}
theorem Rel.ex (r : Rel d H H1) (e : Ex H1 H2) : Rel d H H2 := ⟨r.1.ex e, let ⟨a, b, c, h⟩ := r.2; ⟨a, b, c, e _ _ h⟩⟩
theorem Rel.ne (r : Rel d H H1) (h : H1 p = none) : p ≠ d := fun z => by
  obtain ⟨a, b, c, g⟩ := r.2
  rw [← z, h] at g
  cases g
theorem Rel.back (r : Rel d H H1) (h : H1 p = none) : H p = none := by
  cases e : H p with
  | none => rfl
  | some o =>
    have g := r.1 p o (r.ne h) e
    rw [h] at g
    cases g
/-- an object of ours is written -/
theorem Rel.mut (r : Rel d H H1) (h : H p = none) (n : p ≠ d) : Rel d H (upd H1 p o) :=
  ⟨fun b u hb e => by rw [upd_ne (fun z => by rw [z, h] at e; cases e)]; exact r.1 b u hb e, let ⟨a, b, c, g⟩ := r.2; ⟨a, b, c, by rw [upd_ne (Ne.symm n)]; exact g⟩⟩
theorem Rel.trans (r : Rel d H H1) (s : Rel d H1 H2) : Rel d H H2 := ⟨r.1.trans s.1, s.2⟩
theorem rd_rollR {σ : L2.St} {i : Nat} {m : Int} {Q : VK} {tm : TE} (r : Rel d H H1) (hσ : σ[i]? = some (some (.ref d))) (hm : Ev tm σ H1 (.int m)) (h0 : 0 < m) (h1 : m < 1000000) (cont : ∀ v H2, 0 ≤ v → v < m → Rel d H H2 → Rel d H1 H2 → Q (.int v) H2) (sp : Sp)
    (hsp : ∀ (H : Hp) (Q : VK) (a b c : Int), H d = some (.lst [.int a, .int b, .int c]) → (∀ (v a' b' c' : Int) H', 0 ≤ v → v < m → ExB d H H' → H' d = some (.lst [.int a', .int b', .int c']) → Q (.int v) H') → sp [.ref d, .int m] H Q E0) :
    tCall sp [] E0 (tCons (tVar i) (tCons tm tNil)) σ H1 Q := by
  have hv : EvA (tCons (tVar i) (tCons tm tNil)) σ H1 [.ref d, .int m] := ea_cons (ev_var hσ) (ea_cons hm ea_nil)
  refine hv H1 (Ex.refl H1) _ fun H2 e2 => ?_
  obtain ⟨a, b, c, g⟩ := r.2
  refine hsp H2 _ a b c (e2 _ _ g) fun v a' b' c' H' v0 v1 eB hd => ?_
  have s : Rel d H1 H' := ⟨(ExB.of e2).trans eB, _, _, _, hd⟩
  exact cont v H' v0 v1 (r.trans s) s
end
/-! ### small calendars -/
theorem start_le {c : Ca} (hp : 0 ≤ c.plain) : ∀ n : Nat, c.startN n ≤ (n : Int) * (c.plain + 1)
  | 0 => by show (0 : Int) ≤ _; omega
  | n + 1 => by
    have g := start_le hp n
    have s : c.startN (n + 1) = c.startN n + c.yearDays (n : Int) := rfl
    have y : c.yearDays (n : Int) ≤ c.plain + 1 := by
      unfold Ca.yearDays
      split <;> omega
    rw [s, show ((n + 1 : Nat) : Int) = (n : Int) + 1 by omega, Int.add_mul]
    omega
theorem sum_top (b : Int) : ∀ l : List Int, (∀ m ∈ l, m ≤ b) → l.sum ≤ (l.length : Int) * b
  | [], _ => by simp
  | a :: l, h => by
    have g := sum_top b l fun m hm => h m (List.mem_cons_of_mem _ hm)
    have q := h a List.mem_cons_self
    rw [List.sum_cons, List.length_cons, show ((l.length + 1 : Nat) : Int) = (l.length : Int) + 1 by omega, Int.add_mul]
    omega
structure Tiny (c : Ca) : Prop where
  len : c.months.length ≤ 3
  mon : ∀ m ∈ c.months, 2 ≤ m ∧ m ≤ 5
  cy : c.cycle ≤ 3
  wk : c.week ≤ 4
  ly : c.ly.Pairwise (· < ·)
theorem Tiny.small {c : Ca} (k : c.Ok) (t : Tiny c) : Small c := by
  have p1 := Ca.plain_pos k
  have p2 : c.plain ≤ 15 := by
    have g := sum_top 5 c.months fun m hm => (t.mon m hm).2
    have l := t.len
    unfold Ca.plain
    omega
  have cy := k.cy
  have l := t.len
  refine ⟨k, by have := t.cy; omega, by omega, ?_, by have := t.wk; omega⟩
  have g := start_le (c := c) (by omega) c.cycle.toNat
  have tc := t.cy
  have e : c.cyc = c.startN c.cycle.toNat := rfl
  rw [e]
  have h3 : c.cycle.toNat = 1 ∨ c.cycle.toNat = 2 ∨ c.cycle.toNat = 3 := by omega
  rcases h3 with z | z | z <;> rw [z] at g ⊢ <;> omega
end Rw
namespace Rw
open PySem PySem.Spec PyProof.Rows L2 Evl Cy
/-! ### enumerate(tuple) -/
theorem enum_new1 {x : Value} {cell : Obj} {At : Heap → Prop} (B : Begins x cell At) :
    Meets (Builtin.«enumerate.__new__» ⟨[.type "enumerate", x], []⟩) (fun _ R s => At s.heap ∧ R (.ok (.ret (.ref (s.heap.push cell).objs.size)))
      { s with heap := (s.heap.push cell).push { cls := .type "enumerate", data := .fields #[.none, .bool false, .ref s.heap.objs.size, rawInt 0, .none, .none] } }) :=
  .of_wp fun P w A R s ask => by
    obtain ⟨h0, gs, dr, tk, sys⟩ := s
    obtain ⟨at0, ask⟩ := ask
    have same := sub_enumerate
    have begins : ∀ {A' : Around} {E' : Value → Shared → Prop} {Q' : Value → Shared → Prop}, Q' (.ref h0.objs.size) ⟨h0.push cell, gs, dr, tk, sys⟩ → wpAny (model P w) A' (pyIter x) Q' E' ⟨h0, gs, dr, tk, sys⟩ := fun q => B.iter P w _ _ ⟨h0, gs, dr, tk, sys⟩ _ at0 q
    wp_walk using begins
    refine wpAny_stack_any fun _ => wpAny_pure ?_
    split
    · rename_i t _ _ _ _ _
      cases (t == Value.type "enumerate") <;> (wp_walk using begins; exact ⟨_, rfl, ask⟩)
    · wp_walk using begins
      exact ⟨_, rfl, ask⟩
theorem call_enum1 {P : Program} {w : World} {A : Around} {E : Value → Shared → Prop} {s : Shared} {x : Value} {cell : Obj} {At : Heap → Prop} {Q : Value → Shared → Prop} (B : Begins x cell At) (at0 : At s.heap)
    (k : ∀ g, IsEnum g (s.heap.objs.size + 1) s.heap.objs.size 0 .none → g.get? s.heap.objs.size = some cell → (∀ b o, s.heap.get? b = some o → g.get? b = some o) → Q (.ref (s.heap.objs.size + 1)) { s with heap := g }) :
    wpAny (model P w) A (call (.type "enumerate") [x]) Q E s := by
  refine callType_new F.called_enumerate (by decide) (F.typeCall_enumerate_1 _) (F.newCall_enumerate_1 _) (fun obj => F.args_object_init_2 obj _) F.entry_enumerate_new (enum_new1 B) ⟨at0, ?_⟩
  have size1 : (s.heap.push cell).objs.size = s.heap.objs.size + 1 := Heap.size_push ..
  show _ ∧ _
  rw [size1]
  have made : IsEnum ((s.heap.push cell).push { cls := .type "enumerate", data := .fields #[.none, .bool false, .ref s.heap.objs.size, rawInt 0, .none, .none] }) (s.heap.objs.size + 1) s.heap.objs.size 0 .none := by
    have g := Heap.get?_push_size (s.heap.push cell) (o := { cls := .type "enumerate", data := .fields #[.none, .bool false, .ref s.heap.objs.size, rawInt 0, .none, .none] }) rfl
    rw [size1] at g
    exact g
  exact ⟨⟨_, made, rfl⟩, k _ made (Heap.get?_push_of_some _ (Heap.get?_push_size _ B.free)) fun b o e => Heap.get?_push_of_some _ (Heap.get?_push_of_some _ e)⟩
def ItEn (K : PySem.W.Frag) (b : Addr) : It where
  go := fun i H => ∃ (ys : List V) (y : V), SqT K H b ys ∧ ys[i]? = some y
  yld := fun i H v H' => ∃ (T : Addr) (y : V), v = .ref T ∧ H T = none ∧ H' = upd H T (.tup [.int (i : Nat), y]) ∧ ∀ ys, SqT K H b ys → ys[i]? = some y
  stop := fun i H => ∃ ys : List V, SqT K H b ys ∧ i = ys.length
/-- where it stands: its two cells -/
structure StEn (b N : Addr) (i : Nat) (h : Heap) : Prop where
  en : ∃ old, IsEnum h (N + 1) N ((i : Nat) : Int) old
  tup : h.IsTupleIter N b i
theorem two_of {N x : Addr} (h : x ∈ [N + 1, N]) : x = N + 1 ∨ x = N := by simpa using h
theorem turn_en {P : Program} {w : World} {K : PySem.W.Frag} {elts : List Expr} {kk : Nat} {tp : Pos} {b N : Addr} (hb : b < N) :
    Turn P w K (.Tuple elts kk tp) (ItEn K b) [N + 1, N] (N + 1) (StEn b N) where
  mem := List.mem_cons_self ..
  obj := fun i h S x hx => by
    obtain ⟨old, e⟩ := S.en
    obtain ⟨o, eo, _, d⟩ := S.tup
    rcases two_of hx with rfl | rfl
    · exact ⟨_, e, fun v q => by cases q⟩
    · exact ⟨o, eo, fun v q => by rw [d] at q; cases q⟩
  keep := fun i h h' S k => ⟨let ⟨old, e⟩ := S.en; ⟨old, k _ (by simp) _ e⟩, S.tup.at fun o e => k _ (by simp) o e⟩
  item := by
    rintro X rfl rfl rfl hc i pins s σ H E I hf S ⟨ys, y, hy, hi⟩
    obtain ⟨us, rv, tupb, _⟩ := I.tuple hy
    obtain ⟨uy, huy, ry⟩ := rv.get hi
    obtain ⟨old, e⟩ := S.en
    have nb : b ≠ N := Nat.ne_of_lt hb
    have h2 : i < us.toArray.size := by simpa using (List.getElem?_eq_some_iff.mp huy).1
    have lt1 : N + 1 < s.heap.objs.size := Heap.lt_size e
    refine wpAny_pyNext_enum_itemD (Draws.tuple (by rw [show X.A.in1.handled = X.A.handled from rfl]; exact I.ok.hd hc) N b nb us.toArray) e ⟨S.tup, tupb⟩ h2 (Nat.succ_ne_self N) (by
      intro z
      simp only [List.mem_cons, List.not_mem_nil, or_false] at z
      rcases z with z | z
      · exact Nat.succ_ne_self N z
      · rw [← z] at hb
        exact absurd (Nat.lt_of_succ_lt hb) (Nat.lt_irrefl _)) fun x2 h' tk hx ho hs hT hsz hk => ?_
    have ex2 : uy = x2 := Option.some.inj (huy.symm.trans (by simpa using hx))
    subst ex2
    refine ⟨_, rfl, wpAny_letOwnedTupleGo_enum (s := { s with heap := h', toks := tk + 1 }) ho fun h2' e2 sb => ?_⟩
    have pr : h2'.get? s.heap.objs.size = some { cls := .type "tuple", data := .seq #[.int i tk, uy] } := (sb.2 _ (Nat.ne_of_gt lt1)).trans hT
    have new : ObjOk X.prog X.w (upd H s.heap.objs.size (.tup [.int (i : Nat), y])) h2' s.heap.objs.size (.tup [.int (i : Nat), y]) :=
      ⟨by show 2 ≤ sizeLine; decide, [.int i tk, uy], .cons ⟨tk, rfl⟩ (.cons ry .nil), ⟨_, pr, rfl, _, rfl⟩⟩
    have J := I.turnedNew (t' := tk + 1) (ch := [N + 1, N]) (h' := h2') (fun x o nx q => (sb.2 x (fun z => nx (by simp [z]))).trans (hk x o (fun z => nx (by simp [z])) (fun z => nx (by simp [z])) q)) hf (Nat.le_refl _) new
    refine ⟨.ref s.heap.objs.size, _, J, rfl, ⟨_, y, rfl, I.hok.fresh (Nat.le_refl _), rfl, fun l hl => by rw [I.tuple_inj hl hy]; exact hi⟩, ⟨⟨_, by rw [show ((i + 1 : Nat) : Int) = (i : Int) + 1 by omega]; exact e2⟩, hs.1.at fun o q => (sb.2 N (Nat.ne_of_lt (Nat.lt_succ_self N))).trans q⟩, fun x hx => ?_⟩
    have lt : x < s.heap.objs.size := by
      rcases two_of hx with rfl | rfl
      · exact lt1
      · exact Nat.lt_of_succ_lt lt1
    rw [upd_ne (Nat.ne_of_lt lt)]
    exact (hf x hx).1
  done := by
    rintro X rfl rfl rfl hc i pins s σ H E I hf S ⟨ys, hy, hend⟩
    obtain ⟨us, rv, tupb, _⟩ := I.tuple hy
    obtain ⟨old, e⟩ := S.en
    have nb : b ≠ N := Nat.ne_of_lt hb
    have el : us.toArray.size = i := by rw [List.size_toArray, ← rv.length, hend]
    obtain ⟨f0, f1, f2, f3, f4, f5⟩ := hf N (by simp)
    exact wpAny_pyNext_enum_endD (Draws.tuple (by rw [show X.A.in1.handled = X.A.handled from rfl]; exact I.ok.hd hc) N b nb us.toArray) e (by rw [el]; exact ⟨S.tup, tupb⟩) fun h' eb => ⟨rfl, I.turned (t' := s.toks) (fun x o hx q => eb x o hx q) f0 f1 f3 f4 f5⟩
  self := fun A i s Q E S q => let ⟨_, e⟩ := S.en; wpAny_pyIter_enum e q
def iEnumT (K : PySem.W.Frag) (ta : TA) : TI := fun σ H R => ta σ H fun vs H1 => ∃ (b : Addr) (ys : List V), vs = [.ref b] ∧ SqT K H1 b ys ∧ R (ItEn K b) H1
theorem pi_enumT {X : Cx} {e : Expr} {ta : TA} {p pos tp : Pos} {elts : List Expr} {kk : Nat} (hm : X.mg "enumerate" = none) (ha : PA X [e] ta) (hg : Gl X "enumerate" := by rfl) (stars : starEach [e] X.env = [(false, eval e X.env)] := by rfl) :
    PI X (.Tuple elts kk tp) (.Call (.Name "enumerate" p) [e] [] pos) (iEnumT X.K ta) := by
  constructor
  intro pins s σ H R I h
  refine Call_ (ld_blt I hg hm boot_enumerate (PyProof.Rows.callWith_type1 (thn (ha.run pos pins s σ H _ I h) ?_) stars rfl))
  rintro us s1 ⟨vs, H1, J, r, b, ys, rfl, hy, q⟩
  match us, r with
  | [u], .cons r1 .nil =>
    obtain rfl : u = Value.ref b := r1
    obtain ⟨its, rv, tupb, _⟩ := J.tuple hy
    have hb : b < s1.heap.objs.size := by
      obtain ⟨o, e, _⟩ := id tupb
      exact Heap.lt_size e
    refine call_enum1 (begins_tuple b its.toArray) tupb fun g g1 g2 kp => wpAny_pyIter_enum g1 ?_
    refine ⟨s1.heap.objs.size + 1, _, _, _, H1, rfl, J.kept (t' := s1.toks) kp, turn_en hb, ⟨⟨_, g1⟩, ⟨_, g2, rfl, rfl⟩⟩, fun x hx => ?_, q⟩
    have le : s1.heap.objs.size ≤ x := by
      rcases two_of hx with z | z
      · rw [z]; exact Nat.le_add_right ..
      · rw [z]; exact Nat.le_refl _
    exact J.fpOk le (J.hok.fresh le)
end Rw
namespace Rw
open PySem PySem.Spec PyProof.Rows L2 Evl Cy
section
variable {K : PySem.W.Frag} {σ : L2.St} {H : Hp} {tl te : TE} {p : Addr} {xs ys : List V}
theorem walk_en : Walk (ItEn K p) xs.length (fun H => SqT K H p xs) (fun i H v H' => ∃ T y, v = .ref T ∧ H T = none ∧ H' = upd H T (.tup [.int (i : Nat), y]) ∧ xs[i]? = some y) :=
  ⟨fun i _ hi q => ⟨xs, xs[i], q, List.getElem?_eq_getElem hi⟩, fun _ q => ⟨xs, q, rfl⟩, fun i _ x _ _ q y => let ⟨T, z, e1, e2, e3, e4⟩ := y; ⟨T, z, e1, e2, e3, e4 xs q⟩⟩
/-- [.. for i, x in enumerate(a tuple)] -/
theorem el_enT {i j : Nat} {vs : List Nat} (h : Ev tl σ H (.ref p)) (hx : SqT K H p xs) (hz : xs.length ≤ 40000) (hw : ∀ x y, wipe (((wipe σ vs).set i (some x)).set j (some y)) vs = wipe σ vs) (hl : xs.length = ys.length)
    (he : ∀ (n : Nat) (x y : V) H1, Ex H H1 → xs[n]? = some x → ys[n]? = some y → Ev te (((wipe σ vs).set i (some (.int (n : Nat)))).set j (some x)) H1 y) :
    EvL (tLc (iEnumT K (tCons tl tNil)) (gTup K 2 (gCons (gName i) (gCons (gName j) gNil))) tYes te vs) σ H ys := fun H0 e Q q => h H0 e _ fun H1 e1 => by
  have ey : given xs.length (fun _ => true) (fun n => ys.getD n .non) = ys := given_map hl fun n y hy => by rw [List.getD_eq_getElem?_getD, hy]; rfl
  refine ⟨p, xs, rfl, ex_t (e.trans e1) hx, fun Dl hD => lc_it (walk_en (xs := xs)) (Cw H1 (fun _ => true) (fun n => ys.getD n .non) Dl) ⟨hD, Ex.new hD, upd_same⟩ (fun n H' _ c => ex_t ((e.trans e1).trans c.2.1) hx) (fun n x Ha Hb hn c y => ?_) (fun H' c => ?_)⟩
  · obtain ⟨T, y, rfl, hT, rfl, hy⟩ := y
    have c2 : Cw H1 (fun _ => true) (fun n => ys.getD n .non) Dl n (upd Ha T (.tup [.int (n : Nat), y])) := ⟨c.1, c.2.1.trans (Ex.new hT), (Ex.new hT) _ _ c.2.2⟩
    refine ⟨T, _, rfl, SqT.of upd_same, rfl, _, _, rfl, _, _, rfl, rfl, hw _ _, cw_turn c2 (by omega) et_yes fun _ => ?_⟩
    have hny : n < ys.length := by omega
    have eg : ys.getD n .non = ys[n] := by rw [List.getD_eq_getElem?_getD, List.getElem?_eq_getElem hny]; rfl
    rw [eg]
    exact he n y _ H1 (e.trans e1) hy (List.getElem?_eq_getElem hny)
  · have g := c.2.2
    rw [ey] at g
    exact q Dl H' (fresh_back e1 c.1) (e1.trans c.2.1) g
theorem ev_sumL {ta : TE} {ns : List Int} (h : Ev ta σ H (.ref p)) (hs : SqL K H p (ns.map V.int)) : Ev (tCB (rSum K) (tCons ta tNil)) σ H (.int ns.sum) := fun H1 e Q q =>
  h H1 e _ fun H2 e2 => ⟨p, ns, rfl, ex_l (e.trans e2) hs, q H2 e2⟩
theorem inV_ints (y : Int) (ns : List Int) : inV (.int y) (ns.map V.int) = decide (y ∈ ns) := by
  unfold inV
  rw [Bool.eq_iff_iff, List.any_eq_true, decide_eq_true_eq]
  constructor
  · rintro ⟨v, hv, e⟩
    obtain ⟨n, hn, rfl⟩ := List.mem_map.mp hv
    have z : n = y := by simpa [eqV] using e
    rw [← z]
    exact hn
  · intro h
    exact ⟨.int y, List.mem_map.mpr ⟨y, h, rfl⟩, by simp [eqV]⟩
theorem flat_ints (ns : List Int) : (ns.map V.int).all flatV = true := by
  rw [List.all_map, List.all_eq_true]
  intro n _
  rfl
end
section
variable {X : Cx} {e : Expr} {f : Str} {pos : Pos} {ta : TE}
theorem pe_fldK {K : PySem.W.Frag} (he : PE X e ta) (hb : attributeBase e f X.env (eval e X.env) = eval e X.env) (h : X.K = K := by rfl) : PE X (.Attribute e f pos) (tFld K ta f) := by
  subst h
  exact pe_fld he hb
theorem op_inK {K : PySem.W.Frag} (h : X.K = K := by rfl) : OpR X (compareOp .In) (rIn K false) := by
  subst h
  exact op_in_seq
end
end Rw
namespace Rw
open PySem PySem.Spec PyProof.Rows L2 Evl Cy
/-- o.f as one of several targets -/
def gFld (K : PySem.W.Frag) (to : TE) (f : Str) : TG := fun v σ H Q => to σ H fun x H1 => ∃ a C dx fs, x = .ref a ∧ H1 a = some (.ins C dx fs) ∧ Cls K C ∧ NoAttr K C f ∧ fs.length < 1000 ∧ Q σ (upd H1 a (.ins C dx (putF f v fs)))
theorem pg_fldT {X : Cx} {o : Expr} {f : Str} {pos : Pos} {to : TE} (ho : PE X o to) : PG X (.Attribute o f pos) (gFld X.K to f) := by
  refine ⟨fun pins s σ H v u Q I r h => ?_⟩
  rw [assign_Attribute]
  refine wpAny_bind (wpAny_holding (thn (ho.run pins s σ H _ I h) fun ov s1 ⟨x, H1, I1, r1, a, C, dx, fs, ex, ea, cl, na, le, q⟩ => ?_))
  subst ex
  obtain rfl : ov = Value.ref a := r1
  refine wpAny_bind (wpAny_standAt (wpAny_bind (wpAny_holding (setattr_ok I1 ea cl na le r fun s2 I2 => ?_))))
  exact wpAny_release ⟨σ, _, I2, q⟩
theorem s_fldB {K : PySem.W.Frag} {σ : L2.St} {H : Hp} {to tv : TE} {a C dx : Addr} {fs : List (Str × V)} {f : Str} {y : V} {D : Ends} (hv : Ev tv σ H y) (ho : Ev to σ H (.ref a)) (hi : H a = some (.ins C dx fs)) (c : Cls K C) (n : NoAttr K C f) (hl : fs.length < 1000) (k : ∀ G, ExB a H G → G a = some (.ins C dx (putF f y fs)) → D.nx σ G) : sFld K to tv f D σ H :=
  hv H (Ex.refl H) _ fun H1 e1 => ho H1 e1 _ fun H2 e2 => ⟨a, C, dx, fs, rfl, e2 _ _ (e1 _ _ hi), c, n, hl, k _ (ExB.of (e1.trans e2)).upd upd_same⟩
theorem s_retMake {σ : L2.St} {H : Hp} {ta : TA} {C : Addr} {sp : Sp} {dvs vs : List V} {E : XK} {D : Ends} (h : EvA ta σ H vs)
    (k : ∀ H1, Ex H H1 → ∀ x dx, H1 x = none → H1 dx = none → dx ≠ x → sp (.ref x :: (vs ++ dvs)) (upd (upd H1 dx (.own x)) x (.ins C dx [])) (fun v H2 => v = .non ∧ D.rt (.ref x) H2) E) : tRet (tMake C sp dvs E ta) D σ H :=
  h H (Ex.refl H) _ fun H1 e1 => k H1 e1
end Rw
namespace Rw
open PySem PySem.Spec PyProof.Rows L2 Evl Cy
/-! ### a range that a name holds -/
def iRngV (te : TE) : TI := fun σ H R => te σ H fun v H1 => ∃ a lo hi, v = .ref a ∧ H1 a = some (.rng lo hi) ∧ (-(2 ^ 62) ≤ lo ∧ lo < 2 ^ 62 ∧ -(2 ^ 62) ≤ hi ∧ hi < 2 ^ 62) ∧ R (Itr lo (hi - lo).toNat) H1
theorem pi_rngV {X : Cx} {tg e : Expr} {te : TE} (he : PE X e te) : PI X tg e (iRngV te) := by
  refine ⟨fun pins s σ H R I h => ?_⟩
  refine thn (he.run pins s σ H _ I h) fun v s1 ⟨y, H1, I1, r1, a, lo, hi, e, ho, b, q⟩ => ?_
  subst e
  obtain rfl : v = Value.ref a := r1
  obtain ⟨t, u, z, at_⟩ := I1.hok a _ ho
  refine wpAny_pyIter_range (show IsRange s1.heap a lo hi 1 t u z from at_) (small_one b.1 b.2.1 b.2.2.1 b.2.2.2) ?_
  refine ⟨s1.heap.objs.size, [s1.heap.objs.size], _, _, H1, rfl, I1.kept (t' := s1.toks) fun b o e => Heap.get?_push_of_some _ e, turn_range _ lo (hi - lo).toNat, ?_, fun b hb => ?_, q⟩
  · have e1 : lo + ((0 : Nat) : Int) * 1 = lo := by simp
    have e2 : (((hi - lo).toNat : Nat) : Int) - ((0 : Nat) : Int) = Builtin.Range.rangeSize lo hi 1 := by
      rw [rangeSize_one]
      split <;> omega
    show IsRangeIter _ _ (lo + ((0 : Nat) : Int) * 1) ((((hi - lo).toNat : Nat) : Int) - ((0 : Nat) : Int)) 1
    rw [e1, e2]
    exact Heap.get?_push_size _ rfl
  · obtain rfl : b = s1.heap.objs.size := by simpa using hb
    exact I1.fpOk (Nat.le_refl _) (I1.hok.fresh (Nat.le_refl _))
theorem ev_rng {σ : L2.St} {H : Hp} {ta : TA} {lo hi : Int} (h : EvA ta σ H [.int lo, .int hi]) :
    EvX (tCB (fun vs H Q => ∃ i j, vs = [V.int i, V.int j] ∧ ∀ p, H p = none → Q (.ref p) (upd H p (.rng i j))) ta) σ H (fun y H2 => ∃ q, y = .ref q ∧ H2 q = some (.rng lo hi)) := fun H1 e Q k =>
  h H1 e _ fun H2 e2 => ⟨lo, hi, rfl, fun p hp => k _ _ (e2.trans (Ex.new hp)) ⟨p, rfl, upd_same⟩⟩
section
variable {K : PySem.W.Frag} {σ : L2.St} {H : Hp} {te tl : TE} {t : TT}
/-- a comprehension over such a range -/
theorem el_lcRng {a : Addr} {lo hi : Int} {j : Nat} {vs : List Nat} (f : Nat → Bool) (v : Nat → V) (h : Ev tl σ H (.ref a)) (hx : H a = some (.rng lo hi)) (hb : -(2 ^ 62) ≤ lo ∧ lo < 2 ^ 62 ∧ -(2 ^ 62) ≤ hi ∧ hi < 2 ^ 62) (hz : (hi - lo).toNat ≤ 40000) (hw : ∀ x, wipe ((wipe σ vs).set j (some x)) vs = wipe σ vs)
    (ht : ∀ (i : Nat) H1, Ex H H1 → i < (hi - lo).toNat → EvT t ((wipe σ vs).set j (some (.int (lo + i)))) H1 (f i)) (he : ∀ (i : Nat) H1, Ex H H1 → i < (hi - lo).toNat → f i = true → Ev te ((wipe σ vs).set j (some (.int (lo + i)))) H1 (v i)) :
    EvL (tLc (iRngV tl) (gName j) t te vs) σ H (given (hi - lo).toNat f v) := fun H0 e Q q => h H0 e _ fun H1 e1 => ⟨a, lo, hi, rfl, (e.trans e1) _ _ hx, hb, fun Dl hD =>
  lc_range (lo := lo) (n := (hi - lo).toNat) (Cw H1 f v Dl) ⟨hD, Ex.new hD, upd_same⟩ (fun i Hi hi' c => ⟨hw _, cw_turn c (by omega) (ht i H1 (e.trans e1) hi') (fun hf => he i H1 (e.trans e1) hi' hf)⟩)
    (fun Hz c => q Dl Hz (fresh_back e1 c.1) (e1.trans c.2.1) c.2.2)⟩
end
end Rw
namespace Rw
open PySem.W
open PySem PySem.Spec PyProof.Rows L2 Evl Cy
/-! ### max(a list of ints, default=an int) -/
theorem hold_ints {h : Heap} : ∀ {us : List Value} {ns : List Int}, IntsAre us ns → HoldAll h us ns
  | _, _, .nil => HoldAll.nil
  | _, _, .cons n t r => HoldAll.cons ⟨_, .int n t⟩ (hold_ints r)
/-- the greatest of ints, d of none -/
def maxD (d : Int) : List Int → Int
  | [] => d
  | y :: ys => maxOf y ys
def rMaxD (K : PySem.W.Frag) : List V → List V → Hp → VK → Prop := fun vs zs H Q => ∃ (a : Addr) (ns : List Int) (d : Int), vs = [V.ref a] ∧ zs = [V.int d] ∧ SqL K H a (ns.map V.int) ∧ Q (.int (maxD d ns)) H
theorem cr_maxD {X : Cx} (hc : X.calm = true) (hu : X.A.units + 64 < cLine) : CallRK X (.builtin "max") ["default"] (rMaxD X.K) := by
  intro pins s σ H vs zs us ws Q I r rz h
  obtain ⟨a, ns, d, rfl, rfl, hs, q⟩ := h
  obtain ⟨its, rv, hl, _⟩ := I.list hs
  rw [Vals.ref1 r]
  obtain ⟨t, rfl⟩ : ∃ t, ws = [Value.int d t] := by
    cases rz with
    | cons z zs =>
      cases zs
      obtain ⟨t, rfl⟩ := z
      exact ⟨t, rfl⟩
  refine max_list_datum_default (α := Int) (I.ok.hd hc) hl.isList (hold_ints rv.ints) (Nat.lt_of_le_of_lt (Nat.add_le_add_left (show 1 + 0 ≤ 64 by decide) _) hu) (fun e h' tk hk => ?_) fun y ys i v h' tk e hi hv hk => ?_
  · subst e
    exact ⟨.int d, H, I.kept hk, ⟨_, rfl⟩, q⟩
  · subst e
    obtain ⟨as, hr⟩ := hv
    obtain ⟨t2, rfl⟩ : ∃ t2, v = Value.int (maxOf y ys) t2 := by
      have hr : Reads h' v (.int (maxOf y ys)) as := hr
      cases hr
      exact ⟨_, rfl⟩
    exact ⟨.int (maxOf y ys), H, I.kept hk, ⟨_, rfl⟩, q⟩
theorem maxOf_facts : ∀ (ys : List Int) (y : Int), y ≤ maxOf y ys ∧ (∀ z ∈ ys, z ≤ maxOf y ys) ∧ (maxOf y ys = y ∨ maxOf y ys ∈ ys)
  | [], y => ⟨Int.le_refl _, fun z h => (by cases h), .inl rfl⟩
  | a :: r, y => by
    have e : maxOf y (a :: r) = maxOf (if DatumOrd.lt y a = true then a else y) r := rfl
    have l : DatumOrd.lt y a = decide (y < a) := rfl
    obtain ⟨h1, h2, h3⟩ := maxOf_facts r (if DatumOrd.lt y a = true then a else y)
    rw [e]
    rw [l] at h1 h2 h3 ⊢
    by_cases q : y < a
    · rw [decide_eq_true q, if_pos rfl] at h1 h2 h3 ⊢
      refine ⟨by omega, fun z hz => ?_, ?_⟩
      · rcases List.mem_cons.mp hz with rfl | hz
        · exact h1
        · exact h2 z hz
      · rcases h3 with h3 | h3
        · exact .inr (by rw [h3]; exact List.mem_cons_self)
        · exact .inr (List.mem_cons_of_mem _ h3)
    · rw [decide_eq_false q, if_neg Bool.false_ne_true] at h1 h2 h3 ⊢
      refine ⟨h1, fun z hz => ?_, ?_⟩
      · rcases List.mem_cons.mp hz with rfl | hz
        · omega
        · exact h2 z hz
      · rcases h3 with h3 | h3
        · exact .inl h3
        · exact .inr (List.mem_cons_of_mem _ h3)
theorem ev_maxD {K : PySem.W.Frag} {σ : L2.St} {H : Hp} {te td : TE} {ns : List Int} {d : Int} (h : EvL te σ H (ns.map V.int)) (hd : ∀ H1, Ex H H1 → Ev td σ H1 (.int d)) : Ev (tCKw (rMaxD K) (tCons te tNil) (tCons td tNil)) σ H (.int (maxD d ns)) := fun H1 e Q q =>
  h H1 e _ fun p H2 hp e2 h2 => hd H2 (e.trans e2) H2 (Ex.refl H2) _ fun H3 e3 => ⟨p, ns, d, rfl, rfl, SqL.of (e3 _ _ h2), q H3 (e2.trans e3)⟩
theorem q_asgX {σ : L2.St} {H : Hp} {te : TE} {i : Nat} {R : V → Hp → Prop} {D : Ends} {tz : TS} (h : EvX te σ H R) (k : ∀ y H1, Ex H H1 → R y H1 → tz D (σ.set i (some y)) H1) : tSeq (tAsg te (gName i)) tz D σ H := h H (Ex.refl H) _ fun y H1 e r => k y H1 e r
theorem given_true {n : Nat} {v : Nat → V} : Evl.given n (fun _ => true) v = (List.range n).map v := by
  unfold Evl.given
  rw [List.filter_eq_self.mpr fun a _ => rfl]
/-- tuple(a new list) -/
theorem eu_tupNew {K : PySem.W.Frag} {σ : L2.St} {H : Hp} {te : TE} {xs : List V} (h : EvL te σ H xs) :
    EvU (tCB (fun xs H Q => ∃ p ys, xs = [.ref p] ∧ ((SqL K H p ys ∧ ∀ l, H l = none → Q (.ref l) (upd H l (.tup ys))) ∨ (SqT K H p ys ∧ Q (.ref p) H))) (tCons te tNil)) σ H xs := fun H1 e Q q =>
  h H1 e _ fun p H2 hp e2 h2 => ⟨p, xs, rfl, .inl ⟨SqL.of h2, fun l hl => q l _ (fresh_back e2 hl) (e2.trans (Ex.new hl)) upd_same⟩⟩
end Rw
namespace Rw
open PySem PySem.Spec PyProof.Rows L2 Evl
local macro_rules | `(tactic| walk_at "sq") => `(tactic| first | assumption | exact SqL.of (by assumption) | exact SqT.of (by assumption))
local macro_rules | `(tactic| walk_at "at") => `(tactic| first | exact atI_nat (j := 0) rfl | exact atI_nat (j := 1) rfl | exact atI_nat (j := 2) rfl | exact atI_nat (j := 3) rfl)
local macro_rules | `(tactic| walk_at "rv") => `(tactic| first
  | with_reducible exact rv_I0
  | ((with_reducible refine' rv_I ?k1); (case k1 => first | (show (0 : Int) < _; omega) | exact ⟨by omega, by omega⟩ | exact .inr ⟨by omega, by omega⟩ | exact .inl ⟨by omega, by omega⟩ | exact ⟨by decide, by decide, by decide⟩))
  | ((with_reducible refine' rv_eq ?k1); (case k1 => exact rfl))
  | ((with_reducible refine' rv_ne ?k1); (case k1 => exact rfl))
  | (refine' rv_ixL ?k1 ?k2; (case k1 => walk_at "sq"); (case k2 => walk_at "at"))
  | (refine' rv_ixT ?k1 ?k2; (case k1 => walk_at "sq"); (case k2 => walk_at "at")))
local macro_rules | `(tactic| walk_at "rc") => `(tactic| first | exact rc_int1 | exact rc_int1b | exact rc_abs)
local macro_rules | `(tactic| walk_at "ea") => `(tactic| first
  | with_reducible exact ea_nil
  | ((with_reducible refine' ea_cons ?k1 ?k2); (case k1 => walk_at "ev"); (case k2 => walk_at "ea")))
local macro_rules | `(tactic| walk_at "ev") => `(tactic| first
  | with_reducible exact ev_c
  | ((with_reducible refine' ev_var ?k1); (case k1 => exact rfl))
  | ((with_reducible refine' ev_op ?k1 ?k2 ?k3); (case k1 => walk_at "ev"); (case k2 => walk_at "ev"); (case k3 => walk_at "rv"))
  | ((with_reducible refine' et_chain ?k1 ?k2 ?k3 ?k4 ?k5); (case k1 => walk_at "ev"); (case k2 => walk_at "ev"); (case k3 => (intro _; walk_at "ev")); (case k4 => walk_at "rv"); (case k5 => (intro _; walk_at "rv")))
  | ((with_reducible refine' ev_cb ?k1 ?k2); (case k1 => walk_at "ea"); (case k2 => walk_at "rc")))
local macro_rules | `(tactic| walk_at "et") => `(tactic| first
  | ((with_reducible refine' et_test ?k1); (case k1 => walk_at "ev"))
  | ((with_reducible refine' et_B ?k1); (case k1 => walk_at "ev"))
  | ((with_reducible refine' et_and ?k1 ?k2); (case k1 => walk_at "et"); (case k2 => (intro _; walk_at "et")))
  | ((with_reducible refine' et_or ?k1 ?k2); (case k1 => walk_at "et"); (case k2 => (intro _; walk_at "et")))
  | ((with_reducible refine' et_not ?k1); (case k1 => walk_at "et")))
def topS (i : Nat) : Stmt := PySem.Challenge.pw_recurwright_k18_numbers_that_come_again.main.body.getD i (.Pass ⟨0, 0, 0, 0⟩)
abbrev sDice : Stmt := topS 32
abbrev sRoll : Stmt := topS 33
theorem scDice : FnScope ["cell"] ["cell"] (defScope sDice) := ⟨rfl, rfl, rfl, by decide +kernel, rfl, by decide +kernel, by decide +kernel⟩
theorem scRoll : FnScope ["dice", "many", "found"] ["dice", "many"] (defScope sRoll) := ⟨rfl, rfl, rfl, by decide +kernel, rfl, by decide +kernel, by decide +kernel⟩
/-- the text's own names of built-ins -/
structure Blt (mg : Str → Option Value) : Prop where
  int : mg "int" = none
  abs : mg "abs" = none
section
variable {P : Program} {w : World} {K : PySem.W.Frag} {mg : Str → Option Value} {base : Heap}
def spDice : Sp := fun vs H Q _ => ∃ n : Int, vs = [.int n] ∧ ∀ p a b c H', H p = none → Ex H H' → H' p = some (.lst [.int a, .int b, .int c]) → Q (.ref p) H'
theorem ok_dice {f : Addr} {fd : FuncData} (F : Fun K "_law_dice" "_law_dice" sDice f fd) (B : Blt mg) : FnOk P w K mg base (L2.CX P w) 1 f fd ["cell"] spDice := by
  refine F.okX scDice (fun vs H Q E h => ?_) (fun cdv A outer s H vs Q E hr h => ?_)
  · obtain ⟨n, rfl, _⟩ := h
    rfl
  · obtain ⟨n, rfl, q⟩ := h
    refine ⟨_, pss_cons (ps_if (pt_chain op_lt op_lt (pe_op op_sub pe_int pe_int) (pv 0) pe_int)
        (pss_one (ps_ret (pe_lst (pa_cons (pe_callB call_abs (by rfl) B.abs (by decide +kernel) (pa_cons (pv 0) pa_nil)) (pa_cons pe_int (pa_cons pe_int pa_nil)))))) pss_nil)
      (pss_one (ps_ret (pe_lst (pa_cons (pv 0) (pa_cons (pe_op op_add pe_int (pe_op op_mod (pe_callTy call_int1 (by rfl) B.int (by decide +kernel) (pa_cons (pv 0) pa_nil)) pe_int))
        (pa_cons (pe_callTy call_int1 (by rfl) B.int (by decide +kernel) (pa_cons (pe_cmpR op_ge (pv 0) (pe_op op_pow pe_int pe_int) (nomark _)) pa_nil)) pa_nil)))))), ?_⟩
    refine q_when (by walk_at "et") (fun hb H1 e1 => ?_) (fun hb H1 e1 => ?_)
    · exact s_retL (el_lst (by walk_at "ea") (by show 3 ≤ 100000; decide)) fun p H2 hp e2 h2 => q p _ _ _ H2 (fresh_back e1 hp) (e1.trans e2) h2
    · exact s_retL (el_lst (by walk_at "ea") (by show 3 ≤ 100000; decide)) fun p H2 hp e2 h2 => q p _ _ _ H2 (fresh_back e1 hp) (e1.trans e2) h2
def spRoll : Sp := fun vs H Q _ => ∃ (d : Addr) (a b c m : Int), vs = [.ref d, .int m] ∧ H d = some (.lst [.int a, .int b, .int c]) ∧ 0 < m ∧ m < 1000000 ∧
  ∀ (v a' b' c' : Int) H', 0 ≤ v → v < m → ExB d H H' → H' d = some (.lst [.int a', .int b', .int c']) → Q (.int v) H'
theorem ok_roll {f : Addr} {fd : FuncData} (F : Fun K "_law_roll" "_law_roll" sRoll f fd) (B : Blt mg) : FnOk P w K mg base (L2.CX P w) 1 f fd ["dice", "many"] spRoll := by
  refine F.okX scRoll (fun vs H Q E h => ?_) (fun cdv A outer s H vs Q E hr h => ?_)
  · obtain ⟨d, a, b, c, m, rfl, _⟩ := h
    rfl
  · obtain ⟨d, a, b, c, m, rfl, hd, h0, h1, q⟩ := h
    refine ⟨_, pss_cons (ps_if (PW.pt (pw_or (pt_cmpR op_eq (pe_ix ix_list (pv 0) pe_int (fun _ _ => rfl)) pe_int (nomark _)) (pw_or1 (PW.pt (pw_and (pt_cmpR op_eq (pe_ix ix_list (pv 0) pe_int (fun _ _ => rfl)) pe_int (nomark _)) (pw_and1 (pt_cmpR op_gt (pe_ix ix_list (pv 0) pe_int (fun _ _ => rfl)) pe_int (nomark _))))))))
        (pss_cons (ps_set (i := 2) scRoll.nd rfl (.inl rfl) (pe_op op_mod (pe_callTy call_int1 (by rfl) B.int (by decide +kernel) (pa_cons (pe_ix ix_list (pv 0) pe_int (fun _ _ => rfl)) pa_nil)) (pv 1)))
        (pss_cons (ps_asg (pe_op op_fdiv (pe_ix ix_list (pv 0) pe_int (fun _ _ => rfl)) (pv 1)) (pg_sub (pv 0) pe_int set_list))
        (pss_one (ps_ret (pv 2))))) pss_nil)
      (pss_cons (ps_asg pe_int (pg_sub (pv 0) pe_int set_list))
      (pss_cons (ps_asg (pe_op op_mod (pe_callTy call_int1 (by rfl) B.int (by decide +kernel) (pa_cons (pe_op op_add (pe_op op_add (pe_op op_mul (pe_ix ix_list (pv 0) pe_int (fun _ _ => rfl)) pe_int) (pe_op op_mul (pe_ix ix_list (pv 0) pe_int (fun _ _ => rfl)) pe_int)) pe_int) pa_nil)) pe_int) (pg_sub (pv 0) pe_int set_list))
      (pss_cons (ps_asg (pe_op op_add (pe_ix ix_list (pv 0) pe_int (fun _ _ => rfl)) pe_int) (pg_sub (pv 0) pe_int set_list))
      (pss_one (ps_ret (pe_op op_mod (pe_callTy call_int1 (by rfl) B.int (by decide +kernel) (pa_cons (pe_op op_add (pe_op op_fdiv (pe_ix ix_list (pv 0) pe_int (fun _ _ => rfl)) pe_int) (pe_ix ix_list (pv 0) pe_int (fun _ _ => rfl))) pa_nil)) (pv 1))))))), ?_⟩
    refine q_when (by walk_at "et") (fun hb H1 e1 => ?_) (fun hb H1 e1 => ?_)
    · have hd1 := e1 d _ hd
      refine q_asg (by walk_at "ev") fun H2 e2 => ?_
      have hd2 := e2 d _ hd1
      refine q_setL (j := 0) hd2 (by walk_at "ev") (by walk_at "ev") (by exact ev_c) (by show 0 < 3; decide) fun H3 e3 => ?_
      refine s_ret (by walk_at "ev") fun H4 e4 => ?_
      exact q _ _ _ _ H4 (Int.emod_nonneg _ (by omega)) (Int.emod_lt_of_pos _ h0) (((ExB.of ((e1.trans e2).trans e3)).upd).ex e4) (e4 d _ upd_same)
    · have hd1 := e1 d _ hd
      refine q_setL (j := 2) hd1 (by walk_at "ev") (by walk_at "ev") (by exact ev_c) (by show 2 < 3; decide) fun H2 e2 => ?_
      have hd2 : upd H2 d (.lst [.int a, .int b, .int 0]) d = some _ := upd_same
      refine q_setL (xs := [.int a, .int b, .int 0]) (j := 0) hd2 (by walk_at "ev") (by walk_at "ev") (by exact ev_c) (by show 0 < 3; decide) fun H3 e3 => ?_
      have b1 : ExB d H (upd H2 d (.lst [.int a, .int b, .int 0])) := (ExB.of (e1.trans e2)).upd
      generalize hz : (a * 48271 + b * 69621 + 11) % 2147483647 = z
      have hd3 : upd H3 d (.lst [.int z, .int b, .int 0]) d = some _ := upd_same
      refine q_setL (xs := [.int z, .int b, .int 0]) (j := 1) hd3 (by walk_at "ev") (by walk_at "ev") (by exact ev_c) (by show 1 < 3; decide) fun H4 e4 => ?_
      have b2 : ExB d H (upd H3 d (.lst [.int z, .int b, .int 0])) := (b1.ex e3).upd
      have hd4 : upd H4 d (.lst [.int z, .int (b + 1), .int 0]) d = some _ := upd_same
      have b3 : ExB d H (upd H4 d (.lst [.int z, .int (b + 1), .int 0])) := (b2.ex e4).upd
      refine s_ret (v := .int ((z / 7 + z) % m)) (by walk_at "ev") fun H5 e5 => ?_
      exact q _ _ _ _ H5 (Int.emod_nonneg _ (by omega)) (Int.emod_lt_of_pos _ h0) (b3.ex e5) (e5 d _ hd4)
end
abbrev sTold : Stmt := topS 35
theorem scTold : FnScope ["what"] ["what"] (defScope sTold) := ⟨rfl, rfl, rfl, by decide +kernel, rfl, by decide +kernel, by decide +kernel⟩
section
variable {P : Program} {w : World} {K : PySem.W.Frag} {mg : Str → Option Value} {base : Heap}
theorem ok_told {f : Addr} {fd : FuncData} {c : Nat → Addr} {k : Nat} (F : Fun K "_law_told" "_law_told" sTold f fd) (B : Exs K mg c) : FnOk P w K mg base (L2.CX P w) (k + 2) f fd ["what"] (spTold P w K mg base c k) := by
  refine F.okX scTold (fun vs H Q E h => ?_) (fun cdv A outer s H vs Q E hr h => ?_)
  · obtain ⟨f, c', q, params, body, scope, tb, rfl, _⟩ := h
    rfl
  · obtain ⟨f, c', q, params, body, scope, tb, rfl, hf, hc, L, hb, hl, ht⟩ := h
    refine ⟨_, pss_one (ps_try_many (tb := fun W D σ H => ∃ (f c' : Addr) (q : Str) (params : Arguments) (body : Expr) (scope : Scope) (tb : XK → Hp → VK → Prop), σ[0]? = some (some (.ref f)) ∧ H f = some (LamO f q params body scope c') ∧ H c' = some (LamX.CodeO c' q) ∧ Lam0 scope ∧
          (∀ (pm cv ctv : Value), bindArgs (PySem.W.kla_fn "<lambda>" q params body scope [] pm cv ctv) ⟨[], []⟩ = pure []) ∧ LamRun P w K mg base k q scope body f c' tb ∧ ∃ E' : XK, (∀ cls d σ' H', E' cls d H' → W cls d σ' H') ∧ tb E' H D.rt) rfl rfl takes_none5
        (fun W pn xe tk _ => ⟨fun pins s' σ H' D I h' => ?_⟩)
        (HdsOk.cons ⟨rfl, by decide, .inl (B.e 0 (by decide)).g⟩ (fun _ _ _ _ _ _ _ => pss_one (ps_ret pe_str)) (HdsOk.cons ⟨rfl, by decide, .inl (B.e 1 (by decide)).g⟩ (fun _ _ _ _ _ _ _ => pss_one (ps_ret pe_str)) (HdsOk.cons ⟨rfl, by decide, .inl (B.e 2 (by decide)).g⟩ (fun _ _ _ _ _ _ _ => pss_one (ps_ret pe_str)) (HdsOk.cons ⟨rfl, by decide, .inl (B.e 3 (by decide)).g⟩ (fun _ _ _ _ _ _ _ => pss_one (ps_ret pe_str)) (HdsOk.cons ⟨rfl, by decide, .inl (B.e 4 (by decide)).g⟩ (fun _ _ _ _ _ _ _ => pss_one (ps_ret pe_str)) (HdsOk.cons ⟨rfl, by decide, .inl (B.e 5 (by decide)).g⟩ (fun _ _ _ _ _ _ _ => pss_one (ps_ret pe_str)) (HdsOk.cons ⟨rfl, by decide, .inl (B.e 6 (by decide)).g⟩ (fun _ _ _ _ _ _ _ => pss_one (ps_ret pe_str)) (HdsOk.cons ⟨rfl, by decide, .inl (B.e 7 (by decide)).g⟩ (fun _ _ _ _ _ _ _ => pss_one (ps_ret pe_str)) (HdsOk.cons ⟨rfl, by decide, .inl (B.e 8 (by decide)).g⟩ (fun _ _ _ _ _ _ _ => pss_one (ps_ret pe_str)) (HdsOk.cons ⟨rfl, by decide, .inl (B.e 9 (by decide)).g⟩ (fun _ _ _ _ _ _ _ => pss_one (ps_ret pe_str)) (HdsOk.cons ⟨rfl, by decide, .inl (B.e 10 (by decide)).g⟩ (fun _ _ _ _ _ _ _ => pss_one (ps_ret pe_str)) (HdsOk.nil))))))))))))), ?_⟩
    · obtain ⟨f, c', q, params, body, scope, tb, h1, h2, h3, h4, h5, h6, E', hE, h7⟩ := h'
      exact (pss_one (ps_ret (pe_actO (E := E') (i := 0) (k := k) tk hE hr rfl (.inl rfl)))).run pins s' σ H' D I ⟨f, c', q, params, body, scope, tb, h1, h2, h3, h4, h5, h6, h7⟩
    · refine ⟨f, c', q, params, body, scope, tb, rfl, hf, hc, L, hb, hl, ETold c Q, fun cls d σ' H' hE => ?_, ht⟩
      obtain ⟨i, hi, rfl, q⟩ := hE
      exact ⟨decide (i = 0), B.m i 0 hi (by omega), fun hb _ _ => (by obtain rfl : i = 0 := of_decide_eq_true hb; exact q), fun hb0 => (by have n0 := of_decide_eq_false hb0; exact ⟨decide (i = 1), B.m i 1 hi (by omega), fun hb _ _ => (by obtain rfl : i = 1 := of_decide_eq_true hb; exact q), fun hb1 => (by have n1 := of_decide_eq_false hb1; exact ⟨decide (i = 2), B.m i 2 hi (by omega), fun hb _ _ => (by obtain rfl : i = 2 := of_decide_eq_true hb; exact q), fun hb2 => (by have n2 := of_decide_eq_false hb2; exact ⟨decide (i = 3), B.m i 3 hi (by omega), fun hb _ _ => (by obtain rfl : i = 3 := of_decide_eq_true hb; exact q), fun hb3 => (by have n3 := of_decide_eq_false hb3; exact ⟨decide (i = 4), B.m i 4 hi (by omega), fun hb _ _ => (by obtain rfl : i = 4 := of_decide_eq_true hb; exact q), fun hb4 => (by have n4 := of_decide_eq_false hb4; exact ⟨decide (i = 5), B.m i 5 hi (by omega), fun hb _ _ => (by obtain rfl : i = 5 := of_decide_eq_true hb; exact q), fun hb5 => (by have n5 := of_decide_eq_false hb5; exact ⟨decide (i = 6), B.m i 6 hi (by omega), fun hb _ _ => (by obtain rfl : i = 6 := of_decide_eq_true hb; exact q), fun hb6 => (by have n6 := of_decide_eq_false hb6; exact ⟨decide (i = 7), B.m i 7 hi (by omega), fun hb _ _ => (by obtain rfl : i = 7 := of_decide_eq_true hb; exact q), fun hb7 => (by have n7 := of_decide_eq_false hb7; exact ⟨decide (i = 8), B.m i 8 hi (by omega), fun hb _ _ => (by obtain rfl : i = 8 := of_decide_eq_true hb; exact q), fun hb8 => (by have n8 := of_decide_eq_false hb8; exact ⟨decide (i = 9), B.m i 9 hi (by omega), fun hb _ _ => (by obtain rfl : i = 9 := of_decide_eq_true hb; exact q), fun hb9 => (by have n9 := of_decide_eq_false hb9; exact ⟨decide (i = 10), B.m i 10 hi (by omega), fun hb _ _ => (by obtain rfl : i = 10 := of_decide_eq_true hb; exact q), fun hb10 => (by have n10 := of_decide_eq_false hb10; exact (by omega : False).elim)⟩)⟩)⟩)⟩)⟩)⟩)⟩)⟩)⟩)⟩)⟩
end
end Rw
namespace Rw
open PySem PySem.Spec PyProof.Rows L2 Evl
/-- a lambda with its captured cells, as a tracked object -/
def LamC (f : Addr) (q : Str) (params : Arguments) (body : Expr) (scope : Scope) (cells : List (Str × Addr)) (cc : Addr) : HO :=
  .ext fun h => ∃ pm tv, h.get? f = some (PySem.W.kla_obj "<lambda>" q params body scope cells pm cc tv)
section
variable {X : Cx} {pins : List (Addr × Obj)} {σ : L2.St} {H : Hp} {s : Shared}
/-- x(), in a def that the lambda's maker called: Z is that def's context, entered at s -/
theorem pe_actC {CXg : CXT} {Eg : XK} {Ng : List Str} {qg : Str} {sg : Scope} {g f cc : Addr} {cdg : Value} {params : Arguments} {body : Expr} {scope : Scope} {k i : Nat} {a : Str} {pn : List (Addr × Obj)} {xe : Value → Shared → Prop} {W : WX} {E : XK} {tb : TE} {p1 p2 : Pos}
    (I : Inv X pins σ H s) (L : LamX.LamS X.env.scope scope) (binds : ∀ (pm cv ctv : Value), bindArgs (PySem.W.kla_fn "<lambda>" (X.env.qual ++ "<lambda>") params body scope (cloFrom X.env.cells scope.names []) pm cv ctv) ⟨[], []⟩ = pure [])
    (takes : Takes ((cxOf CXg X.prog X.w X.K X.mg X.base Ng qg sg g cdg X.A X.stack s H Eg).tr pn xe) W) (hW : ∀ cls d σ' H', E cls d H' → W cls d σ' H') (room : Room (k + 1) (X.A.deeper (envOfC qg sg s.heap.objs.size g cdg)))
    (runs : ∀ (A : Around) (outer : List Env) (s : Shared) (H : Hp), Room k (A.deeper (LamX.lamEnv X scope s.heap.objs.size f cc)) → PE (LamX.lamCx X A outer s H E scope f cc) body tb)
    (hN : Ng[i]? = some a) (hv : Vis sg a) (hd : (a == ("__debug__" : Str)) = false := by decide) (hcd : (a == ("__classdict__" : Str)) = false := by decide) :
    PE ((cxOf CXg X.prog X.w X.K X.mg X.base Ng qg sg g cdg X.A X.stack s H Eg).tr pn xe) (.Call (.Name a p1) [] [] p2)
      (fun σZ HZ Q => σZ[i]? = some (some (.ref f)) ∧ HZ f = some (LamC f (X.env.qual ++ "<lambda>") params body scope (cloFrom X.env.cells scope.names []) cc) ∧ HZ cc = some (LamX.CodeO cc (X.env.qual ++ "<lambda>")) ∧ tb σ HZ Q) := by
  refine ⟨fun pz tz uz Hz Q Iz ask => ?_⟩
  obtain ⟨isf, atf, atc, ask⟩ := ask
  refine wpAny_Call_Name_kw (thn ((pe_var (pos := p1) (i := i) hN hv hd hcd).run pz tz uz Hz (fun v H1 => v = .ref f ∧ H1 = Hz) Iz ⟨.ref f, isf, rfl, rfl⟩) fun u sv ⟨v, H1, J1, rel, ends⟩ => ?_)
  obtain ⟨rfl, eqH⟩ := ends
  rw [eqH] at J1
  obtain rfl : u = Value.ref f := rel
  obtain ⟨⟨pm, tv, objf⟩, _, _⟩ := J1.hok f _ atf
  refine PySem.W.callWith_F0 ⟨_, _, _, _, objf⟩ ?_
  obtain ⟨⟨oc, vs, t, objc, datac, qualc⟩, _, _⟩ := J1.hok cc _ atc
  have ran : codeAny (model X.prog X.w) (X.A.deeper (envOfC qg sg s.heap.objs.size g cdg)) (.call (.ref f) ⟨[], []⟩) (CR (L2.CX X.prog X.w) (envOfC qg sg s.heap.objs.size g cdg :: X.stack) X.prog X.w Hz sv Q E) sv := by
    refine PySem.W.kla_callFunE room.depth objf rfl L.co L.gen rfl ⟨cc, oc, vs, t, rfl, objc, datac, qualc⟩ ?_
    rw [binds]
    refine wpAny_pure (wpAny_newFunctionEnv (fun y hy => (L.own y hy).2) (fun y hy => absurd hy (by simp)) (fun hN newNs steps => ⟨J1.nolimit.fresh _ steps, ?_⟩) L.kind)
    show codeAny _ _ (.expr body (LamX.lamEnv X scope sv.heap.objs.size f cc)) _ _
    have stays : ∀ b o, sv.heap.get? b = some o → hN.get? b = some o := fun b o e => steps.extBut b o (Nat.ne_of_lt (Heap.lt_size e)) (Heap.get?_push_of_some _ e)
    have Jv : Inv (LamX.lamCx X (X.A.deeper (envOfC qg sg s.heap.objs.size g cdg)) (envOfC qg sg s.heap.objs.size g cdg :: X.stack) sv Hz E scope f cc) [] σ Hz { sv with heap := hN, toks := sv.toks + ([] : List (Str × Value)).length } :=
      LamX.lam_start2 I L J1.env0 room.hd J1.base newNs stays
    refine PySem.W.kla_codeExpr (wpAny_mono ((runs _ _ sv Hz (room.deeper _)).run [] _ _ Hz Q Jv ask) (fun v s' got => ?_) fun e s' got => got)
    obtain ⟨wv, Hv, Kv, rv, q⟩ := got
    exact ⟨wv, Hv, Kv.os, Kv.bare, Kv.base, Kv.hok, rv, q⟩
  refine wpAny_call (codeAny_mono ran fun r s' got => ?_)
  cases r with
  | error e => exact (passes_call takes hW) pz uz Hz sv e s' J1 got
  | ok fl =>
    cases fl with
    | ret u => exact J1.after got
    | next => exact False.elim got
    | brk => exact False.elim got
    | cont => exact False.elim got
end
/-- _law_told(e), e a lambda of this very def, kept with its cells -/
def tToldC (X : Cx) (c : Nat → Addr) (k : Nat) (ta : TA) : TE := fun σ H Q => ta σ H fun vs H1 => ∃ (f cc : Addr) (params : Arguments) (body : Expr) (scope : Scope) (t : XK → TE), vs = [.ref f] ∧ H1 f = some (LamC f (X.env.qual ++ "<lambda>") params body scope (cloFrom X.env.cells scope.names []) cc) ∧ H1 cc = some (LamX.CodeO cc (X.env.qual ++ "<lambda>")) ∧ LamX.LamS X.env.scope scope ∧
  (∀ (pm cv ctv : Value), bindArgs (PySem.W.kla_fn "<lambda>" (X.env.qual ++ "<lambda>") params body scope (cloFrom X.env.cells scope.names []) pm cv ctv) ⟨[], []⟩ = pure []) ∧
  (∀ (A : Around) (outer : List Env) (s : Shared) (H : Hp) (E : XK), Room k (A.deeper (LamX.lamEnv X scope s.heap.objs.size f cc)) → PE (LamX.lamCx X A outer s H E scope f cc) body (t E)) ∧ t (ETold c Q) σ H1 Q
theorem pe_toldC {X : Cx} {c : Nat → Addr} {k : Nat} {g : Addr} {oc kV dc pm cdv ct : Value} {od an : Option Addr} {osl : Array (Option Value)} {p pos : Pos} {e : Expr} {ta : TA} (B : Exs X.K X.mg c) (hm : X.mg "_law_told" = some (.ref g)) (kp : PySem.W.keepIn X.K (.ref g) = true)
    (lk : X.K.lookup g = some ⟨oc, od, .func (PySem.W.fnOf "_law_told" "_law_told" (defArgs sTold) (defBody sTold) (defScope sTold) .none kV dc pm an cdv ct), osl⟩) (hcg : PySem.W.codeIn X.K cdv "_law_told" = true) (b : Binds X.K (PySem.W.fnOf "_law_told" "_law_told" (defArgs sTold) (defBody sTold) (defScope sTold) .none kV dc pm an cdv ct) ["what"] [])
    (room : Room (k + 2) X.A) (ha : PA X [e] ta) (hg : Gl X "_law_told" := by rfl) (he : starEach [e] X.env = (false, eval e X.env) :: starEach [] X.env := by rfl) (hpl : (backTo pos (starEach [] X.env)).any (·.1) = false := by rfl) :
    PE X (.Call (.Name "_law_told" p) [e] [] pos) (tToldC X c k ta) := by
  refine ⟨fun pins s σ H Q I h => ?_⟩
  refine wpAny_Call_Name_kw (ld_glob I hg hm ?_ (by decide))
  refine PySem.W.callWith_K (h₀ := X.base) I.ok.mod.kin kp (thn (ha.run pos pins s σ H _ I h) fun us s1 ⟨vs, H1, I1, r, q⟩ => ⟨I1.kIn, ?_⟩) he hpl
  obtain ⟨f, cc, params, body, scope, t, rfl, atf, atc, L, binds, runs, q⟩ := q
  obtain rfl : us = [Value.ref f] := Vals.ref1 r
  have ran : codeAny (model X.prog X.w) X.A (.call (.ref g) ⟨[.ref f], []⟩) (CR (L2.CX X.prog X.w) X.stack X.prog X.w H1 s1 Q E0) s1 := by
    refine LamX.run_ofS (N := ["what"]) (ps := ["what"]) (us := [.ref f]) (vs := [.ref f]) lk hcg scTold room I1.env0 (b s1 [.ref f] I1.kIn rfl) (.cons rfl .nil) rfl fun room' => ?_
    refine ⟨_, pss_one (ps_try_many (tb := fun W D σZ HZ => ∃ E' : XK, (∀ cls d σ' H', E' cls d H' → W cls d σ' H') ∧ σZ[0]? = some (some (.ref f)) ∧ HZ f = some (LamC f (X.env.qual ++ "<lambda>") params body scope (cloFrom X.env.cells scope.names []) cc) ∧ HZ cc = some (LamX.CodeO cc (X.env.qual ++ "<lambda>")) ∧ t E' σ HZ D.rt) rfl rfl takes_none5
        (fun W pn xe tk _ => ⟨fun pz s' uz Hz D Iz h' => ?_⟩)
        (HdsOk.cons ⟨rfl, by decide, .inl (B.e 0 (by decide)).g⟩ (fun _ _ _ _ _ _ _ => pss_one (ps_ret pe_str)) (HdsOk.cons ⟨rfl, by decide, .inl (B.e 1 (by decide)).g⟩ (fun _ _ _ _ _ _ _ => pss_one (ps_ret pe_str)) (HdsOk.cons ⟨rfl, by decide, .inl (B.e 2 (by decide)).g⟩ (fun _ _ _ _ _ _ _ => pss_one (ps_ret pe_str)) (HdsOk.cons ⟨rfl, by decide, .inl (B.e 3 (by decide)).g⟩ (fun _ _ _ _ _ _ _ => pss_one (ps_ret pe_str)) (HdsOk.cons ⟨rfl, by decide, .inl (B.e 4 (by decide)).g⟩ (fun _ _ _ _ _ _ _ => pss_one (ps_ret pe_str)) (HdsOk.cons ⟨rfl, by decide, .inl (B.e 5 (by decide)).g⟩ (fun _ _ _ _ _ _ _ => pss_one (ps_ret pe_str)) (HdsOk.cons ⟨rfl, by decide, .inl (B.e 6 (by decide)).g⟩ (fun _ _ _ _ _ _ _ => pss_one (ps_ret pe_str)) (HdsOk.cons ⟨rfl, by decide, .inl (B.e 7 (by decide)).g⟩ (fun _ _ _ _ _ _ _ => pss_one (ps_ret pe_str)) (HdsOk.cons ⟨rfl, by decide, .inl (B.e 8 (by decide)).g⟩ (fun _ _ _ _ _ _ _ => pss_one (ps_ret pe_str)) (HdsOk.cons ⟨rfl, by decide, .inl (B.e 9 (by decide)).g⟩ (fun _ _ _ _ _ _ _ => pss_one (ps_ret pe_str)) (HdsOk.cons ⟨rfl, by decide, .inl (B.e 10 (by decide)).g⟩ (fun _ _ _ _ _ _ _ => pss_one (ps_ret pe_str)) (HdsOk.nil))))))))))))), ?_⟩
    · obtain ⟨E', hE, g1, g2, g3, g4⟩ := h'
      exact (pss_one (ps_ret (pe_actC (E := E') (i := 0) (k := k) I1 L binds tk hE room' (fun A outer s H hr2 => runs A outer s H E' hr2) rfl (.inl rfl)))).run pz s' uz Hz D Iz ⟨g1, g2, g3, g4⟩
    · refine ⟨ETold c Q, fun cls d σ' H' hE => ?_, rfl, atf, atc, q⟩
      obtain ⟨i, hi, rfl, q⟩ := hE
      exact ⟨decide (i = 0), B.m i 0 hi (by omega), fun hb _ _ => (by obtain rfl : i = 0 := of_decide_eq_true hb; exact q), fun hb0 => (by have n0 := of_decide_eq_false hb0; exact ⟨decide (i = 1), B.m i 1 hi (by omega), fun hb _ _ => (by obtain rfl : i = 1 := of_decide_eq_true hb; exact q), fun hb1 => (by have n1 := of_decide_eq_false hb1; exact ⟨decide (i = 2), B.m i 2 hi (by omega), fun hb _ _ => (by obtain rfl : i = 2 := of_decide_eq_true hb; exact q), fun hb2 => (by have n2 := of_decide_eq_false hb2; exact ⟨decide (i = 3), B.m i 3 hi (by omega), fun hb _ _ => (by obtain rfl : i = 3 := of_decide_eq_true hb; exact q), fun hb3 => (by have n3 := of_decide_eq_false hb3; exact ⟨decide (i = 4), B.m i 4 hi (by omega), fun hb _ _ => (by obtain rfl : i = 4 := of_decide_eq_true hb; exact q), fun hb4 => (by have n4 := of_decide_eq_false hb4; exact ⟨decide (i = 5), B.m i 5 hi (by omega), fun hb _ _ => (by obtain rfl : i = 5 := of_decide_eq_true hb; exact q), fun hb5 => (by have n5 := of_decide_eq_false hb5; exact ⟨decide (i = 6), B.m i 6 hi (by omega), fun hb _ _ => (by obtain rfl : i = 6 := of_decide_eq_true hb; exact q), fun hb6 => (by have n6 := of_decide_eq_false hb6; exact ⟨decide (i = 7), B.m i 7 hi (by omega), fun hb _ _ => (by obtain rfl : i = 7 := of_decide_eq_true hb; exact q), fun hb7 => (by have n7 := of_decide_eq_false hb7; exact ⟨decide (i = 8), B.m i 8 hi (by omega), fun hb _ _ => (by obtain rfl : i = 8 := of_decide_eq_true hb; exact q), fun hb8 => (by have n8 := of_decide_eq_false hb8; exact ⟨decide (i = 9), B.m i 9 hi (by omega), fun hb _ _ => (by obtain rfl : i = 9 := of_decide_eq_true hb; exact q), fun hb9 => (by have n9 := of_decide_eq_false hb9; exact ⟨decide (i = 10), B.m i 10 hi (by omega), fun hb _ _ => (by obtain rfl : i = 10 := of_decide_eq_true hb; exact q), fun hb10 => (by have n10 := of_decide_eq_false hb10; exact (by omega : False).elim)⟩)⟩)⟩)⟩)⟩)⟩)⟩)⟩)⟩)⟩)⟩
  refine wpAny_call (codeAny_mono ran fun r s2 got => ?_)
  cases r with
  | error e => exact passL pins σ H1 s1 e s2 I1 got
  | ok fl =>
    cases fl with
    | ret u => exact I1.after got
    | next => exact False.elim got
    | brk => exact False.elim got
    | cont => exact False.elim got
end Rw
namespace Rw
open PySem PySem.Spec PyProof.Rows L2 Evl Cy
/-! ### kinds of values: what stands for what -/
structure Ty (α : Type) where
  r : Hp → V → α → Prop
  up : ∀ {H H' : Hp} {v : V} {x : α}, Ex H H' → r H v x → r H' v x
inductive All2 {α β : Type} (R : α → β → Prop) : List α → List β → Prop
  | nil : All2 R [] []
  | cons {a b l m} : R a b → All2 R l m → All2 R (a :: l) (b :: m)
namespace All2
variable {α β : Type} {R S : α → β → Prop} {l : List α} {m : List β}
theorem imp (h : All2 R l m) (k : ∀ a b, R a b → S a b) : All2 S l m := by
  induction h with
  | nil => exact .nil
  | cons r _ ih => exact .cons (k _ _ r) ih
theorem len (h : All2 R l m) : l.length = m.length := by
  induction h with
  | nil => rfl
  | cons _ _ ih => rw [List.length_cons, List.length_cons, ih]
theorem app {l' : List α} {m' : List β} (h : All2 R l m) (k : All2 R l' m') : All2 R (l ++ l') (m ++ m') := by
  induction h with
  | nil => exact k
  | cons r _ ih => exact .cons r ih
theorem one {a : α} {b : β} (h : R a b) : All2 R [a] [b] := .cons h .nil
theorem at_ (h : All2 R l m) : ∀ {i : Nat} {a : α}, l[i]? = some a → ∃ b, m[i]? = some b ∧ R a b := by
  induction h with
  | nil => intro i a e; simp at e
  | cons r _ ih =>
    intro i a e
    cases i with
    | zero => exact ⟨_, rfl, by simp at e; rw [← e]; exact r⟩
    | succ i => exact ih (by simpa using e)
theorem at2 (h : All2 R l m) : ∀ {i : Nat} {b : β}, m[i]? = some b → ∃ a, l[i]? = some a ∧ R a b := by
  induction h with
  | nil => intro i a e; simp at e
  | cons r _ ih =>
    intro i a e
    cases i with
    | zero => exact ⟨_, rfl, by simp at e; rw [← e]; exact r⟩
    | succ i => exact ih (by simpa using e)
end All2
def kI : Ty Int := ⟨fun _ v x => v = .int x, fun _ h => h⟩
def kB : Ty Bool := ⟨fun _ v x => v = .bl x, fun _ h => h⟩
def kS : Ty Str := ⟨fun _ v x => v = .str x, fun _ h => h⟩
def kN : Ty Unit := ⟨fun _ v _ => v = .non, fun _ h => h⟩
/-- a pointer to what may change -/
def kPtr (d : Addr) : Ty Unit := ⟨fun _ v _ => v = .ref d, fun _ h => h⟩
/-- None, or what stands for a value (and is not None) -/
def kO {α : Type} (t : Ty α) : Ty (Option α) := ⟨fun H v x => match x with | none => v = .non | some y => t.r H v y ∧ v ≠ .non, fun {H H' v x} e h => by
  cases x with
  | none => exact h
  | some y => exact ⟨t.up e h.1, h.2⟩⟩
section
variable (K : PySem.W.Frag) {α β γ δ ε ζ : Type}
theorem all2_up (t : Ty α) {H H' : Hp} (e : Ex H H') {vs : List V} {xs : List α} (h : All2 (t.r H) vs xs) : All2 (t.r H') vs xs := h.imp fun _ _ => t.up e
def kL (t : Ty α) : Ty (List α) := ⟨fun H v xs => ∃ p vs, v = .ref p ∧ SqL K H p vs ∧ All2 (t.r H) vs xs, fun e ⟨p, vs, a, b, c⟩ => ⟨p, vs, a, ex_l e b, all2_up t e c⟩⟩
def kT (t : Ty α) : Ty (List α) := ⟨fun H v xs => ∃ p vs, v = .ref p ∧ SqT K H p vs ∧ All2 (t.r H) vs xs, fun e ⟨p, vs, a, b, c⟩ => ⟨p, vs, a, ex_t e b, all2_up t e c⟩⟩
def k2 (a : Ty α) (b : Ty β) : Ty (α × β) := ⟨fun H v x => ∃ p u w, v = .ref p ∧ SqT K H p [u, w] ∧ a.r H u x.1 ∧ b.r H w x.2, fun e ⟨p, u, w, h1, h2, h3, h4⟩ => ⟨p, u, w, h1, ex_t e h2, a.up e h3, b.up e h4⟩⟩
def k3 (a : Ty α) (b : Ty β) (c : Ty γ) : Ty (α × β × γ) := ⟨fun H v x => ∃ p u1 u2 u3, v = .ref p ∧ SqT K H p [u1, u2, u3] ∧ a.r H u1 x.1 ∧ b.r H u2 x.2.1 ∧ c.r H u3 x.2.2, fun e ⟨p, u1, u2, u3, h1, h2, h3, h4, h5⟩ => ⟨p, u1, u2, u3, h1, ex_t e h2, a.up e h3, b.up e h4, c.up e h5⟩⟩
end
/-! ### the heap but for what may change -/
def del (M : List Addr) (H : Hp) : Hp := fun a => if a ∈ M then none else H a
section
variable {M A : List Addr} {H H' H1 H2 : Hp} {a d p : Addr} {o : HO}
theorem del_some : del M H a = some o ↔ a ∉ M ∧ H a = some o := by
  unfold del
  by_cases h : a ∈ M
  · simp [h]
  · simp [h]
theorem ex_del (e : Ex H H') : Ex (del M H) (del M H') := fun a o h => del_some.mpr ⟨(del_some.mp h).1, e _ _ (del_some.mp h).2⟩
theorem del_le : Ex (del M H) H := fun a o h => (del_some.mp h).2
/-- less is kept, more may change -/
theorem ex_sub (s : ∀ a ∈ A, a ∈ M) (e : Ex (del A H) (del A H')) : Ex (del M H) (del M H') := fun a o h => by
  obtain ⟨n, h⟩ := del_some.mp h
  exact del_some.mpr ⟨n, (del_some.mp (e a o (del_some.mpr ⟨fun z => n (s a z), h⟩))).2⟩
theorem ex_of {H H' : Hp} (e : Ex H H') : Ex (del A H) (del A H') := ex_del e
/-- something new becomes changeable -/
theorem del_new (h : H p = none) : Ex (del M H) (del (p :: M) H) := fun a o e => by
  obtain ⟨n, e⟩ := del_some.mp e
  refine del_some.mpr ⟨fun z => ?_, e⟩
  rcases List.mem_cons.mp z with z | z
  · rw [z, h] at e; cases e
  · exact n z
theorem del_free : Ex (del (p :: M) H) (del M H) := fun a o e => by
  obtain ⟨n, e⟩ := del_some.mp e
  exact del_some.mpr ⟨fun z => n (List.mem_cons_of_mem _ z), e⟩
theorem del_upd (h : d ∈ M) : del M (upd H d o) = del M H := by
  funext a
  unfold del
  by_cases k : a ∈ M
  · rw [if_pos k, if_pos k]
  · rw [if_neg k, if_neg k]
    exact upd_ne fun z => k (by rw [z]; exact h)
theorem del_nil : del [] H = H := rfl
end
/-! ### what may change, and what it is -/
structure Cell where
  a : Addr
  α : Type
  r : Hp → HO → α → Prop
  up : ∀ {H H' : Hp} {o : HO} {x : α}, Ex H H' → r H o x → r H' o x
  x : α
abbrev ads (S : List Cell) : List Addr := S.map (·.a)
structure Holds (M : List Addr) (S : List Cell) (H : Hp) : Prop where
  at_ : ∀ c ∈ S, c.a ∈ M ∧ ∃ o, H c.a = some o ∧ c.r (del M H) o c.x
  one : (ads S).Nodup
  live : ∀ m ∈ M, H m ≠ none
/-- three numbers: dice | a list in the making -/
def cDice (d : Addr) (x : Int × Int × Int) : Cell := ⟨d, Int × Int × Int, fun _ o x => o = .lst [.int x.1, .int x.2.1, .int x.2.2], fun _ h => h, x⟩
def cL {α : Type} (d : Addr) (t : Ty α) (x : List α) : Cell := ⟨d, List α, fun H o x => ∃ vs, o = .lst vs ∧ All2 (t.r H) vs x, fun e ⟨vs, a, b⟩ => ⟨vs, a, all2_up t e b⟩, x⟩
section
variable {M : List Addr} {S S' : List Cell} {H H' H1 H2 : Hp} {a d p : Addr} {o : HO}
theorem Holds.sub (w : Holds M S H) : ∀ a ∈ ads S, a ∈ M := fun a h => by
  obtain ⟨c, hc, e⟩ := List.mem_map.mp h
  rw [← e]
  exact (w.at_ c hc).1
theorem Holds.grow (w : Holds M S H) (e : Ex (del (ads S) H) (del (ads S) H')) : Ex (del M H) (del M H') := ex_sub w.sub e
theorem Holds.ex (w : Holds M S H) (e : Ex H H') : Holds M S H' :=
  ⟨fun c hc => let ⟨h1, o, h2, h3⟩ := w.at_ c hc; ⟨h1, o, e _ _ h2, c.up (ex_del e) h3⟩, w.one, fun m hm => by
    cases h : H m with
    | none => exact absurd h (w.live m hm)
    | some o => rw [e m o h]; exact fun z => nomatch z⟩
/-- a cell is written -/
theorem Holds.put {k : Nat} {c c' : Cell} (w : Holds M S H) (hk : S[k]? = some c) (ha : c'.a = c.a) (hr : c'.r (del M H) o c'.x) : Holds M (S.set k c') (upd H c.a o) := by
  have lt : k < S.length := (List.getElem?_eq_some_iff.mp hk).1
  have hm : c.a ∈ M := (w.at_ c (List.mem_of_getElem? hk)).1
  have e : ads (S.set k c') = ads S := by
    unfold ads
    rw [List.map_set]
    apply List.ext_getElem? fun i => ?_
    rw [List.getElem?_set]
    by_cases h : k = i
    · subst h
      rw [if_pos rfl, List.length_map, if_pos lt, List.getElem?_map, hk, ha]
      rfl
    · rw [if_neg h]
  refine ⟨fun x hx => ?_, by rw [e]; exact w.one, fun m hm => by
    unfold upd
    split
    · exact fun z => nomatch z
    · exact w.live m hm⟩
  rw [del_upd hm]
  obtain ⟨i, hi⟩ := List.mem_iff_getElem?.mp hx
  rw [List.getElem?_set] at hi
  by_cases h : k = i
  · subst h
    rw [if_pos rfl, if_pos lt] at hi
    obtain rfl := Option.some.inj hi
    exact ⟨by rw [ha]; exact hm, o, by rw [ha]; exact upd_same, hr⟩
  · rw [if_neg h] at hi
    obtain ⟨h1, u, h2, h3⟩ := w.at_ x (List.mem_of_getElem? hi)
    refine ⟨h1, u, ?_, h3⟩
    rw [upd_ne ?_]
    · exact h2
    · intro z
      have g1 : (ads S)[i]? = some x.a := by unfold ads; rw [List.getElem?_map, hi]; rfl
      have g2 : (ads S)[k]? = some c.a := by unfold ads; rw [List.getElem?_map, hk]; rfl
      rw [z] at g1
      have li : i < (ads S).length := (List.getElem?_eq_some_iff.mp g1).1
      have q := (List.getElem?_inj li w.one).mp (g1.trans g2.symm)
      exact h q.symm
theorem ads_set {k : Nat} {c c' : Cell} (hk : S[k]? = some c) (ha : c'.a = c.a) : ads (S.set k c') = ads S := by
  have lt : k < S.length := (List.getElem?_eq_some_iff.mp hk).1
  unfold ads
  rw [List.map_set]
  apply List.ext_getElem? fun i => ?_
  rw [List.getElem?_set]
  by_cases h : k = i
  · subst h
    rw [if_pos rfl, List.length_map, if_pos lt, List.getElem?_map, hk, ha]
    rfl
  · rw [if_neg h]
/-- something new that may change -/
theorem Holds.new {c : Cell} (w : Holds M S H) (hn : H c.a = none) (e : Ex H H') (hc : H' c.a = some o) (hr : c.r (del (c.a :: M) H') o c.x) : Holds (c.a :: M) (c :: S) H' := by
  have w' := w.ex e
  have nm : c.a ∉ M := fun z => w.live _ z hn
  refine ⟨fun x hx => ?_, ?_, fun m hm => ?_⟩
  · rcases List.mem_cons.mp hx with z | z
    · rw [z]
      exact ⟨List.mem_cons_self, o, hc, hr⟩
    · obtain ⟨h1, u, h2, h3⟩ := w.at_ x z
      exact ⟨List.mem_cons_of_mem _ h1, u, e _ _ h2, x.up ((del_new hn).trans (ex_del e)) h3⟩
  · show (c.a :: ads S).Nodup
    exact List.nodup_cons.mpr ⟨fun z => nm (w.sub _ z), w.one⟩
  · rcases List.mem_cons.mp hm with z | z
    · rw [z, hc]
      exact fun z => nomatch z
    · exact w'.live m z
/-- it changes no more -/
theorem Holds.drop {c : Cell} (w : Holds (c.a :: M) (c :: S) H) (hn : c.a ∉ M) : Holds M S H := by
  refine ⟨fun x hx => ?_, (List.nodup_cons.mp w.one).2, fun m hm => w.live m (List.mem_cons_of_mem _ hm)⟩
  obtain ⟨h1, u, h2, h3⟩ := w.at_ x (List.mem_cons_of_mem _ hx)
  refine ⟨?_, u, h2, x.up del_free h3⟩
  rcases List.mem_cons.mp h1 with z | z
  · exact absurd (List.mem_map.mpr ⟨x, hx, z⟩) (List.nodup_cons.mp w.one).1
  · exact z
end
end Rw
namespace Rw
open PySem PySem.Spec PyProof.Rows L2 Evl Cy
/-- an answer, or an error's kind -/
inductive Re (α : Type) where
  | ok (x : α)
  | er (k : Nat)
def Re.bind {α β : Type} (r : Re α) (f : α → Re β) : Re β := match r with | .ok x => f x | .er k => .er k
/-- what an expression comes to: from any heap that has I beside what may change (M, told by S) -/
structure Em {α : Type} (E : XK) (cl : Nat → Addr) (M : List Addr) (te : TE) (σ : L2.St) (I : Hp) (S : List Cell) (t : Ty α) (r : Re α) (S' : List Cell) : Prop where
  ad : ads S' = ads S
  run : ∀ H1, Ex I (del M H1) → Holds M S H1 → ∀ Q : VK, (∀ x v H2, r = .ok x → Ex (del (ads S) H1) (del (ads S) H2) → Holds M S' H2 → t.r (del M H2) v x → Q v H2) →
    (∀ k H2, r = .er k → Ex (del (ads S) H1) (del (ads S) H2) → Holds M S' H2 → E (.ref (cl k)) none H2) → te σ H1 Q
structure Et (E : XK) (cl : Nat → Addr) (M : List Addr) (tt : TT) (σ : L2.St) (I : Hp) (S : List Cell) (r : Re Bool) (S' : List Cell) : Prop where
  ad : ads S' = ads S
  run : ∀ H1, Ex I (del M H1) → Holds M S H1 → ∀ Q : Bool → Hp → Prop, (∀ b H2, r = .ok b → Ex (del (ads S) H1) (del (ads S) H2) → Holds M S' H2 → Q b H2) →
    (∀ k H2, r = .er k → Ex (del (ads S) H1) (del (ads S) H2) → Holds M S' H2 → E (.ref (cl k)) none H2) → tt σ H1 Q
structure Ea {α : Type} (E : XK) (cl : Nat → Addr) (M : List Addr) (ta : TA) (σ : L2.St) (I : Hp) (S : List Cell) (A : Hp → List V → α → Prop) (r : Re α) (S' : List Cell) : Prop where
  ad : ads S' = ads S
  run : ∀ H1, Ex I (del M H1) → Holds M S H1 → ∀ Q : List V → Hp → Prop, (∀ x vs H2, r = .ok x → Ex (del (ads S) H1) (del (ads S) H2) → Holds M S' H2 → A (del M H2) vs x → Q vs H2) →
    (∀ k H2, r = .er k → Ex (del (ads S) H1) (del (ads S) H2) → Holds M S' H2 → E (.ref (cl k)) none H2) → ta σ H1 Q
abbrev AR (α : Type) := Hp → List V → α → Prop
def a0 : AR Unit := fun _ vs _ => vs = []
def aC {α β : Type} (t : Ty α) (A : AR β) : AR (α × β) := fun H vs a => ∃ v r, vs = v :: r ∧ t.r H v a.1 ∧ A H r a.2
/-- an operation on values -/
def Op2 {α β γ : Type} (r : R2) (q1 : Ty α) (x : α) (q2 : Ty β) (y : β) (q3 : Ty γ) (z : γ) : Prop :=
  ∀ (M : List Addr) (u w : V) (H : Hp), (∀ m ∈ M, H m ≠ none) → q1.r (del M H) u x → q2.r (del M H) w y → ∀ Q : VK, (∀ v H', Ex H H' → q3.r (del M H') v z → Q v H') → r u w H Q
def Op1 {α γ : Type} (r : V → Hp → VK → Prop) (q1 : Ty α) (x : α) (q3 : Ty γ) (z : γ) : Prop :=
  ∀ (M : List Addr) (u : V) (H : Hp), (∀ m ∈ M, H m ≠ none) → q1.r (del M H) u x → ∀ Q : VK, (∀ v H', Ex H H' → q3.r (del M H') v z → Q v H') → r u H Q
def OpN {α γ : Type} (r : List V → Hp → VK → Prop) (A : AR α) (x : α) (q3 : Ty γ) (z : γ) : Prop :=
  ∀ (M : List Addr) (us : List V) (H : Hp), (∀ m ∈ M, H m ≠ none) → A (del M H) us x → ∀ Q : VK, (∀ v H', Ex H H' → q3.r (del M H') v z → Q v H') → r us H Q
section
variable {α β γ δ : Type} {E : XK} {cl : Nat → Addr} {M : List Addr} {σ : L2.St} {I I' H H' : Hp} {S S' S1 S2 S3 : List Cell} {te ta tb tc to : TE} {tt tu : TT} {tr : TA} {t : Ty α} {u : Ty β} {w : Ty γ} {x : α} {y : β} {z : γ} {v : V}
theorem ads_tr (a : ads S1 = ads S) (e1 : Ex (del (ads S) H) (del (ads S) H')) {H2 : Hp} (e2 : Ex (del (ads S1) H') (del (ads S1) H2)) : Ex (del (ads S) H) (del (ads S) H2) := by
  rw [a] at e2
  exact e1.trans e2
theorem Em.mono (h : Em E cl M te σ I S t (.ok x) S') (e : Ex I I') : Em E cl M te σ I' S t (.ok x) S' := ⟨h.ad, fun H1 a => h.run H1 (e.trans a)⟩
theorem em_eq {x' : α} (h : Em E cl M te σ I S t (.ok x) S') (e : x = x') : Em E cl M te σ I S t (.ok x') S' := by
  rw [← e]
  exact h
theorem et_eq {b b' : Bool} (h : Et E cl M tt σ I S (.ok b) S') (e : b = b') : Et E cl M tt σ I S (.ok b') S' := by
  rw [← e]
  exact h
/-- another kind of the same value -/
theorem em_ty {t' : Ty β} {x' : β} (h : Em E cl M te σ I S t (.ok x) S') (k : ∀ H v, t.r H v x → t'.r H v x') : Em E cl M te σ I S t' (.ok x') S' :=
  ⟨h.ad, fun H1 a b Q q _ => h.run H1 a b Q (fun x2 v H2 e f g r => q _ v H2 rfl f g (by cases e; exact k _ _ r)) (fun k H2 e => nomatch e)⟩
/-- nothing is raised: from a plain evaluation -/
theorem em_mk (a : ads S' = ads S) (h : ∀ H1, Ex I (del M H1) → Holds M S H1 → ∀ Q : VK, (∀ v H2, Ex (del (ads S) H1) (del (ads S) H2) → Holds M S' H2 → t.r (del M H2) v x → Q v H2) → te σ H1 Q) : Em E cl M te σ I S t (.ok x) S' :=
  ⟨a, fun H1 i w Q q _ => h H1 i w Q fun v H2 e w' r => q x v H2 rfl e w' r⟩
theorem em_of (h : Em E cl M te σ I S t (.ok x) S') (H1 : Hp) (i : Ex I (del M H1)) (w : Holds M S H1) (Q : VK) (q : ∀ v H2, Ex (del (ads S) H1) (del (ads S) H2) → Holds M S' H2 → t.r (del M H2) v x → Q v H2) : te σ H1 Q :=
  h.run H1 i w Q (fun x2 v H2 e f g r => q v H2 f g (by cases e; exact r)) (fun k H2 e => nomatch e)
theorem et_of {b : Bool} (h : Et E cl M tt σ I S (.ok b) S') (H1 : Hp) (i : Ex I (del M H1)) (w : Holds M S H1) (Q : Bool → Hp → Prop) (q : ∀ H2, Ex (del (ads S) H1) (del (ads S) H2) → Holds M S' H2 → Q b H2) : tt σ H1 Q :=
  h.run H1 i w Q (fun x2 H2 e f g => by cases e; exact q H2 f g) (fun k H2 e => nomatch e)
theorem ea_of {A : AR α} (h : Ea E cl M tr σ I S A (.ok x) S') (H1 : Hp) (i : Ex I (del M H1)) (w : Holds M S H1) (Q : List V → Hp → Prop) (q : ∀ vs H2, Ex (del (ads S) H1) (del (ads S) H2) → Holds M S' H2 → A (del M H2) vs x → Q vs H2) : tr σ H1 Q :=
  h.run H1 i w Q (fun x2 v H2 e f g r => q v H2 f g (by cases e; exact r)) (fun k H2 e => nomatch e)
theorem et_mk {b : Bool} (a : ads S' = ads S) (h : ∀ H1, Ex I (del M H1) → Holds M S H1 → ∀ Q : Bool → Hp → Prop, (∀ H2, Ex (del (ads S) H1) (del (ads S) H2) → Holds M S' H2 → Q b H2) → tt σ H1 Q) : Et E cl M tt σ I S (.ok b) S' :=
  ⟨a, fun H1 i w Q q _ => h H1 i w Q fun H2 e w' => q b H2 rfl e w'⟩
theorem em_var {i : Nat} (h : σ[i]? = some (some v)) (r : t.r I v x) : Em E cl M (tVar i) σ I S t (.ok x) S :=
  em_mk rfl fun H1 i w Q q => ⟨v, h, q v H1 (Ex.refl _) w (t.up i r)⟩
theorem em_c (r : t.r I v x) : Em E cl M (tC v) σ I S t (.ok x) S :=
  em_mk rfl fun H1 i w Q q => q v H1 (Ex.refl _) w (t.up i r)
theorem em_int {i : Int} : Em E cl M (tC (.int i)) σ I S kI (.ok i) S := em_c rfl
theorem em_bl {b : Bool} : Em E cl M (tC (.bl b)) σ I S kB (.ok b) S := em_c rfl
theorem em_str {s : Str} : Em E cl M (tC (.str s)) σ I S kS (.ok s) S := em_c rfl
theorem em_op {r : R2} (ha : Em E cl M ta σ I S t (.ok x) S1) (hb : Em E cl M tb σ I S1 u (.ok y) S2) (ho : Op2 r t x u y w z) : Em E cl M (tOp r ta tb) σ I S w (.ok z) S2 :=
  em_mk (hb.ad.trans ha.ad) fun H1 i w Q q => em_of ha H1 i w _ fun v1 H2 e1 w1 r1 => em_of hb H2 (i.trans (w.grow e1)) w1 _ fun v2 H3 e2 w2 r2 =>
    ho M v1 v2 H3 w2.live (t.up (w1.grow e2) r1) r2 Q fun v H4 e3 r3 => q v H4 ((ads_tr ha.ad e1 e2).trans (ex_del e3)) (w2.ex e3) r3
theorem em_un {r : V → Hp → VK → Prop} (ha : Em E cl M ta σ I S t (.ok x) S1) (ho : Op1 r t x w z) : Em E cl M (tUn r ta) σ I S w (.ok z) S1 :=
  em_mk ha.ad fun H1 i w Q q => em_of ha H1 i w _ fun v1 H2 e1 w1 r1 => ho M v1 H2 w1.live r1 Q fun v H4 e3 r3 => q v H4 (e1.trans (ex_del e3)) (w1.ex e3) r3
/-- a < b < c, nothing changed by the last -/
theorem em_chain {r r' : R2} {b b' : Bool} (ha : Em E cl M ta σ I S t (.ok x) S1) (hb : Em E cl M tb σ I S1 u (.ok y) S2) (hc : b = true → Em E cl M tc σ I S2 w (.ok z) S2) (ho : Op2 r t x u y kB b) (ho' : Op2 r' u y w z kB b') : Em E cl M (tChain r r' ta tb tc) σ I S kB (.ok (b && b')) S2 :=
  em_mk (hb.ad.trans ha.ad) fun H1 i w Q q => em_of ha H1 i w _ fun v1 H2 e1 w1 r1 => em_of hb H2 (i.trans (w.grow e1)) w1 _ fun v2 H3 e2 w2 r2 =>
    ho M v1 v2 H3 w2.live (t.up (w1.grow e2) r1) r2 _ fun v H4 e3 r3 => by
      have e13 := (ads_tr ha.ad e1 e2).trans (ex_del e3)
      refine ⟨b, r3, ?_⟩
      cases b with
      | true =>
        rw [if_pos rfl]
        refine em_of (hc rfl) H4 (i.trans (w.grow e13)) (w2.ex e3) _ fun v4 H5 e4 w4 r4 => ?_
        have a2 : ads S2 = ads S := hb.ad.trans ha.ad
        have w3 := w2.ex e3
        refine ho' M v2 v4 H5 w4.live (u.up ((ex_del e3).trans (w3.grow e4)) r2) r4 Q fun v5 H6 e5 r5 => q v5 H6 ((ads_tr a2 e13 e4).trans (ex_del e5)) (w4.ex e5) ?_
        rw [Bool.true_and]
        exact r5
      | false =>
        rw [if_neg Bool.false_ne_true]
        exact q _ H4 e13 (w2.ex e3) rfl
/-- tests -/
theorem gt_test {b : Bool} (h : Em E cl M te σ I S kB (.ok b) S') : Et E cl M (tTest te) σ I S (.ok b) S' := et_mk h.ad fun H1 i w Q q => em_of h H1 i w _ fun v H2 e w' r => ⟨b, r, q H2 e w'⟩
theorem gt_B {b : Bool} (h : Em E cl M te σ I S kB (.ok b) S') : Et E cl M (L2.tB te) σ I S (.ok b) S' := et_mk h.ad fun H1 i w Q q => em_of h H1 i w _ fun v H2 e w' r => ⟨b, r, q H2 e w'⟩
theorem gt_yes : Et E cl M tYes σ I S (.ok true) S := et_mk rfl fun H1 i w Q q => q H1 (Ex.refl _) w
theorem gt_not {b : Bool} (h : Et E cl M tt σ I S (.ok b) S') : Et E cl M (tNot tt) σ I S (.ok (!b)) S' := et_mk h.ad fun H1 i w Q q => et_of h H1 i w _ fun H2 e w' => q H2 e w'
theorem gt_and {a b : Bool} (h : Et E cl M tt σ I S (.ok a) S1) (k : a = true → Et E cl M tu σ I S1 (.ok b) S1) : Et E cl M (tAnd tt tu) σ I S (.ok (a && b)) S1 := et_mk h.ad fun H1 i w Q q => et_of h H1 i w _ fun H2 e w' => by
  cases a with
  | true =>
    rw [if_pos rfl]
    exact et_of (k rfl) H2 (i.trans (w.grow e)) w' _ fun H3 e2 w2 => q H3 (ads_tr h.ad e e2) w2
  | false =>
    rw [if_neg Bool.false_ne_true]
    exact q H2 e w'
theorem gt_or {a b : Bool} (h : Et E cl M tt σ I S (.ok a) S1) (k : a = false → Et E cl M tu σ I S1 (.ok b) S1) : Et E cl M (tOr tt tu) σ I S (.ok (a || b)) S1 := et_mk h.ad fun H1 i w Q q => et_of h H1 i w _ fun H2 e w' => by
  cases a with
  | true =>
    rw [if_pos rfl]
    exact q H2 e w'
  | false =>
    rw [if_neg Bool.false_ne_true]
    exact et_of (k rfl) H2 (i.trans (w.grow e)) w' _ fun H3 e2 w2 => q H3 (ads_tr h.ad e e2) w2
theorem em_andV {a b : Bool} (h : Em E cl M ta σ I S kB (.ok a) S1) (k : a = true → Em E cl M tb σ I S1 kB (.ok b) S1) : Em E cl M (tAndV ta tb) σ I S kB (.ok (a && b)) S1 := em_mk h.ad fun H1 i w Q q => em_of h H1 i w _ fun v H2 e w' r => by
  refine ⟨a, r, ?_⟩
  cases a with
  | true =>
    rw [if_pos rfl]
    exact em_of (k rfl) H2 (i.trans (w.grow e)) w' _ fun v2 H3 e2 w2 r2 => q v2 H3 (ads_tr h.ad e e2) w2 r2
  | false =>
    rw [if_neg Bool.false_ne_true]
    exact q _ H2 e w' rfl
theorem em_orV {a b : Bool} (h : Em E cl M ta σ I S kB (.ok a) S1) (k : a = false → Em E cl M tb σ I S1 kB (.ok b) S1) : Em E cl M (tOrV ta tb) σ I S kB (.ok (a || b)) S1 := em_mk h.ad fun H1 i w Q q => em_of h H1 i w _ fun v H2 e w' r => by
  refine ⟨a, r, ?_⟩
  cases a with
  | true =>
    rw [if_pos rfl]
    exact q _ H2 e w' rfl
  | false =>
    rw [if_neg Bool.false_ne_true]
    exact em_of (k rfl) H2 (i.trans (w.grow e)) w' _ fun v2 H3 e2 w2 r2 => q v2 H3 (ads_tr h.ad e e2) w2 r2
theorem em_notV {a : Bool} (h : Em E cl M ta σ I S kB (.ok a) S1) : Em E cl M (tNotV ta) σ I S kB (.ok (!a)) S1 := em_mk h.ad fun H1 i w Q q => em_of h H1 i w _ fun v H2 e w' r => ⟨a, r, q _ H2 e w' rfl⟩
theorem em_if {b : Bool} {x' : α} (h : Et E cl M tt σ I S (.ok b) S1) (h1 : b = true → Em E cl M ta σ I S1 t (.ok x) S1) (h2 : b = false → Em E cl M tb σ I S1 t (.ok x') S1) : Em E cl M (tIf tt ta tb) σ I S t (.ok (cond b x x')) S1 := em_mk h.ad fun H1 i w Q q => et_of h H1 i w _ fun H2 e w' => by
  cases b with
  | true =>
    rw [if_pos rfl]
    exact em_of (h1 rfl) H2 (i.trans (w.grow e)) w' _ fun v2 H3 e2 w2 r2 => q v2 H3 (ads_tr h.ad e e2) w2 r2
  | false =>
    rw [if_neg Bool.false_ne_true]
    exact em_of (h2 rfl) H2 (i.trans (w.grow e)) w' _ fun v2 H3 e2 w2 r2 => q v2 H3 (ads_tr h.ad e e2) w2 r2
/-- arguments, displays -/
theorem em_nil : Ea E cl M tNil σ I S a0 (.ok ()) S := ⟨rfl, fun H1 i w Q q _ => q () [] H1 rfl (Ex.refl _) w rfl⟩
theorem em_cons {A : AR β} (h : Em E cl M te σ I S t (.ok x) S1) (k : Ea E cl M tr σ I S1 A (.ok y) S2) : Ea E cl M (tCons te tr) σ I S (aC t A) (.ok (x, y)) S2 :=
  ⟨k.ad.trans h.ad, fun H1 i w Q q _ => em_of h H1 i w _ fun v H2 e w1 r => ea_of k H2 (i.trans (w.grow e)) w1 _ fun vs H3 e2 w2 r2 => q (x, y) (v :: vs) H3 rfl (ads_tr h.ad e e2) w2 ⟨v, vs, rfl, t.up (w1.grow e2) r, r2⟩⟩
variable (K : PySem.W.Frag)
theorem fresh_not {M : List Addr} {H : Hp} {p : Addr} (l : ∀ m ∈ M, H m ≠ none) (h : H p = none) : p ∉ M := fun z => l p z h
theorem del_at {M : List Addr} {H : Hp} {p : Addr} {o : HO} (n : p ∉ M) (h : H p = some o) : del M H p = some o := del_some.mpr ⟨n, h⟩
theorem em_t2 (h : Ea E cl M tr σ I S (aC t (aC u a0)) (.ok (x, y, ())) S') : Em E cl M (tTup tr) σ I S (k2 K t u) (.ok (x, y)) S' :=
  em_mk h.ad fun H1 i w Q q => ea_of h H1 i w _ fun vs H2 e w1 r => by
    obtain ⟨v1, r1, rfl, g1, v2, r2, rfl, g2, rfl⟩ := r
    refine ⟨by show 2 ≤ sizeLine; decide, fun p hp => q _ _ (e.trans (ex_del (Ex.new hp))) (w1.ex (Ex.new hp)) ⟨p, v1, v2, rfl, st_of (del_at (fresh_not w1.live hp) upd_same), t.up (ex_del (Ex.new hp)) g1, u.up (ex_del (Ex.new hp)) g2⟩⟩
theorem em_t3 (h : Ea E cl M tr σ I S (aC t (aC u (aC w a0))) (.ok (x, y, z, ())) S') : Em E cl M (tTup tr) σ I S (k3 K t u w) (.ok (x, y, z)) S' :=
  em_mk h.ad fun H1 i w0 Q q => ea_of h H1 i w0 _ fun vs H2 e w1 r => by
    obtain ⟨v1, r1, rfl, g1, v2, r2, rfl, g2, v3, r3, rfl, g3, rfl⟩ := r
    refine ⟨by show 3 ≤ sizeLine; decide, fun p hp => q _ _ (e.trans (ex_del (Ex.new hp))) (w1.ex (Ex.new hp)) ⟨p, v1, v2, v3, rfl, st_of (del_at (fresh_not w1.live hp) upd_same), t.up (ex_del (Ex.new hp)) g1, u.up (ex_del (Ex.new hp)) g2, w.up (ex_del (Ex.new hp)) g3⟩⟩
/-- all of one kind -/
def aL (t : Ty α) : AR (List α) := fun H vs xs => All2 (t.r H) vs xs
theorem em_nilL : Ea E cl M tNil σ I S (aL t) (.ok []) S := ⟨rfl, fun H1 i w Q q _ => q _ [] H1 rfl (Ex.refl _) w .nil⟩
theorem em_consL {xs : List α} (h : Em E cl M te σ I S t (.ok x) S1) (k : Ea E cl M tr σ I S1 (aL t) (.ok xs) S2) : Ea E cl M (tCons te tr) σ I S (aL t) (.ok (x :: xs)) S2 :=
  ⟨k.ad.trans h.ad, fun H1 i w Q q _ => em_of h H1 i w _ fun v H2 e w1 r => ea_of k H2 (i.trans (w.grow e)) w1 _ fun vs H3 e2 w2 r2 => q _ (v :: vs) H3 rfl (ads_tr h.ad e e2) w2 (.cons (t.up (w1.grow e2) r) r2)⟩
theorem em_lst {xs : List α} (h : Ea E cl M tr σ I S (aL t) (.ok xs) S') (hl : xs.length ≤ 100000) : Em E cl M (tLst tr) σ I S (kL K t) (.ok xs) S' :=
  em_mk h.ad fun H1 i w Q q => ea_of h H1 i w _ fun vs H2 e w1 r => ⟨sz_of (by rw [r.len]; exact hl), fun p hp => q _ _ (e.trans (ex_del (Ex.new hp))) (w1.ex (Ex.new hp)) ⟨p, vs, rfl, sq_of (del_at (fresh_not w1.live hp) upd_same), all2_up t (ex_del (Ex.new hp)) r⟩⟩
theorem em_tupL {xs : List α} (h : Ea E cl M tr σ I S (aL t) (.ok xs) S') (hl : xs.length ≤ 100000) : Em E cl M (tTup tr) σ I S (kT K t) (.ok xs) S' :=
  em_mk h.ad fun H1 i w Q q => ea_of h H1 i w _ fun vs H2 e w1 r => ⟨sz_of (by rw [r.len]; exact hl), fun p hp => q _ _ (e.trans (ex_del (Ex.new hp))) (w1.ex (Ex.new hp)) ⟨p, vs, rfl, st_of (del_at (fresh_not w1.live hp) upd_same), all2_up t (ex_del (Ex.new hp)) r⟩⟩
variable {K}
theorem em_cb {A : AR α} {r : List V → Hp → VK → Prop} (h : Ea E cl M tr σ I S A (.ok x) S') (ho : OpN r A x w z) : Em E cl M (tCB r tr) σ I S w (.ok z) S' :=
  em_mk h.ad fun H1 i w Q q => ea_of h H1 i w _ fun vs H2 e w1 r => ho M vs H2 w1.live r Q fun v H3 e3 r3 => q v H3 (e.trans (ex_del e3)) (w1.ex e3) r3
end
/-! ### operations -/
section
variable {K : PySem.W.Frag} {α β γ : Type} {i j : Int} {b c : Bool} {s s' : Str} {t : Ty α} {u : Ty β}
theorem o_I {g : Int → Int → Int} : Op2 (rI0 fun i j => .int (g i j)) kI i kI j kI (g i j) := fun M u w H l a b Q q => ⟨i, j, a, b, q _ H (Ex.refl H) rfl⟩
theorem o_IB {g : Int → Int → Bool} : Op2 (rI0 fun i j => .bl (g i j)) kI i kI j kB (g i j) := fun M u w H l a b Q q => ⟨i, j, a, b, q _ H (Ex.refl H) rfl⟩
theorem o_IC {C : Int → Int → Prop} {g : Int → Int → Int} (h : C i j) : Op2 (rI C fun i j => .int (g i j)) kI i kI j kI (g i j) := fun M u w H l a b Q q => ⟨i, j, a, b, h, q _ H (Ex.refl H) rfl⟩
theorem o_eqI : Op2 rEq kI i kI j kB (decide (i = j)) := fun M u w H l a b Q q => by
  cases a; cases b
  exact ⟨rfl, q _ H (Ex.refl H) (by show V.bl _ = V.bl _; congr 1; simp)⟩
theorem o_neI : Op2 rNe kI i kI j kB (!decide (i = j)) := fun M u w H l a b Q q => by
  cases a; cases b
  exact ⟨rfl, q _ H (Ex.refl H) (by show V.bl _ = V.bl _; congr 1; simp)⟩
theorem o_eqS : Op2 rEq kS s kS s' kB (decide (s = s')) := fun M u w H l a b Q q => by
  cases a; cases b
  exact ⟨rfl, q _ H (Ex.refl H) (by show V.bl _ = V.bl _; congr 1; simp)⟩
theorem o_neS : Op2 rNe kS s kS s' kB (!decide (s = s')) := fun M u w H l a b Q q => by
  cases a; cases b
  exact ⟨rfl, q _ H (Ex.refl H) (by show V.bl _ = V.bl _; congr 1; simp)⟩
theorem o_eqB : Op2 rEq kB b kB c kB (decide (b = c)) := fun M u w H l a b Q q => by
  cases a; cases b
  exact ⟨rfl, q _ H (Ex.refl H) (by show V.bl _ = V.bl _; congr 1; simp)⟩
theorem o_neB : Op2 rNe kB b kB c kB (!decide (b = c)) := fun M u w H l a b Q q => by
  cases a; cases b
  exact ⟨rfl, q _ H (Ex.refl H) (by show V.bl _ = V.bl _; congr 1; simp)⟩
theorem o_ixL {xs : List α} {n : Nat} {x : α} (h : xs[n]? = some x) (hi : i = (n : Int)) : Op2 (rIxL K) (kL K t) xs kI i t x := fun M u w H l a b Q q => by
  obtain ⟨p, vs, rfl, hp, ha⟩ := a
  obtain rfl : w = .int i := b
  obtain ⟨v, hv, hr⟩ := ha.at2 h
  exact ⟨p, vs, i, v, rfl, rfl, ex_l del_le hp, by rw [hi]; exact atI_nat hv, q v H (Ex.refl H) hr⟩
theorem o_ixT {xs : List α} {n : Nat} {x : α} (h : xs[n]? = some x) (hi : i = (n : Int)) : Op2 (rIxT K) (kT K t) xs kI i t x := fun M u w H l a b Q q => by
  obtain ⟨p, vs, rfl, hp, ha⟩ := a
  obtain rfl : w = .int i := b
  obtain ⟨v, hv, hr⟩ := ha.at2 h
  exact ⟨p, vs, i, v, rfl, rfl, ex_t del_le hp, by rw [hi]; exact atI_nat hv, q v H (Ex.refl H) hr⟩
theorem o_ix20 {x : α × β} : Op2 (rIxT K) (k2 K t u) x kI 0 t x.1 := fun M v w H l a b Q q => by
  obtain ⟨p, v1, v2, rfl, hp, h1, h2⟩ := a
  obtain rfl : w = .int 0 := b
  exact ⟨p, _, 0, v1, rfl, rfl, ex_t del_le hp, rfl, q _ H (Ex.refl H) h1⟩
theorem o_ix21 {x : α × β} : Op2 (rIxT K) (k2 K t u) x kI 1 u x.2 := fun M v w H l a b Q q => by
  obtain ⟨p, v1, v2, rfl, hp, h1, h2⟩ := a
  obtain rfl : w = .int 1 := b
  exact ⟨p, _, 1, v2, rfl, rfl, ex_t del_le hp, rfl, q _ H (Ex.refl H) h2⟩
theorem o_ix30 {w : Ty γ} {x : α × β × γ} : Op2 (rIxT K) (k3 K t u w) x kI 0 t x.1 := fun M v w H l a b Q q => by
  obtain ⟨p, v1, v2, v3, rfl, hp, h1, h2, h3⟩ := a
  obtain rfl : w = .int 0 := b
  exact ⟨p, _, 0, v1, rfl, rfl, ex_t del_le hp, rfl, q _ H (Ex.refl H) h1⟩
theorem o_ix31 {w : Ty γ} {x : α × β × γ} : Op2 (rIxT K) (k3 K t u w) x kI 1 u x.2.1 := fun M v w H l a b Q q => by
  obtain ⟨p, v1, v2, v3, rfl, hp, h1, h2, h3⟩ := a
  obtain rfl : w = .int 1 := b
  exact ⟨p, _, 1, v2, rfl, rfl, ex_t del_le hp, rfl, q _ H (Ex.refl H) h2⟩
theorem o_ix32 {w : Ty γ} {x : α × β × γ} : Op2 (rIxT K) (k3 K t u w) x kI 2 w x.2.2 := fun M v w H l a b Q q => by
  obtain ⟨p, v1, v2, v3, rfl, hp, h1, h2, h3⟩ := a
  obtain rfl : w = .int 2 := b
  exact ⟨p, _, 2, v3, rfl, rfl, ex_t del_le hp, rfl, q _ H (Ex.refl H) h3⟩
end
end Rw
namespace Rw
open PySem PySem.Spec PyProof.Rows L2 Evl Cy
/-! ### walks -/
def rng (lo hi : Int) : List Int := (List.range (hi - lo).toNat).map fun (k : Nat) => lo + (k : Int)
theorem rng_len {lo hi : Int} : (rng lo hi).length = (hi - lo).toNat := by unfold rng; rw [List.length_map, List.length_range]
theorem rng_at {lo hi x : Int} {i : Nat} (h : (rng lo hi)[i]? = some x) : x = lo + (i : Int) ∧ i < (hi - lo).toNat := by
  have l := (List.getElem?_eq_some_iff.mp h).1
  rw [rng_len] at l
  unfold rng at h
  rw [List.getElem?_map, List.getElem?_range l] at h
  exact ⟨(Option.some.inj h).symm, l⟩
theorem rng_mem {lo hi x : Int} : x ∈ rng lo hi ↔ lo ≤ x ∧ x < hi := by
  unfold rng
  rw [List.mem_map]
  constructor
  · rintro ⟨k, hk, rfl⟩
    rw [List.mem_range] at hk
    omega
  · intro h
    exact ⟨(x - lo).toNat, by rw [List.mem_range]; omega, by omega⟩
structure Ei {α : Type} (E : XK) (cl : Nat → Addr) (M : List Addr) (wi : TI) (σ : L2.St) (I : Hp) (S : List Cell) (t : Ty α) (xs : List α) (S' : List Cell) : Prop where
  ad : ads S' = ads S
  run : ∀ H1, Ex I (del M H1) → Holds M S H1 → ∀ R : It → Hp → Prop, (∀ J H2 G Y, Ex (del (ads S) H1) (del (ads S) H2) → Holds M S' H2 → Walk J xs.length G Y → (∀ H', Ex (del M H2) (del M H') → G H') →
    (∀ i H v H' x, xs[i]? = some x → Ex (del M H2) (del M H) → Y i H v H' → Ex H H' ∧ ∀ M', (∀ m ∈ M', H m ≠ none) → Ex (del M H2) (del M' H) → t.r (del M' H') v x) → R J H2) → wi σ H1 R
def Eg {α : Type} (g : TG) (t : Ty α) (σ : L2.St) (B : Hp → α → L2.St → Prop) : Prop := ∀ v H x I, t.r I v x → Ex I H → ∀ k : L2.St → Hp → Prop, (∀ σ', B I x σ' → k σ' H) → g v σ H k
section
variable {K : PySem.W.Frag} {α β γ δ R τ : Type} {E : XK} {cl : Nat → Addr} {M : List Addr} {σ : L2.St} {I I' H H' : Hp} {S S' S1 S2 S3 : List Cell} {te ta tb tc to : TE} {tt : TT} {tr : TA} {t : Ty α} {u : Ty β} {w' : Ty γ} {x : α} {y : β} {v : V} {xs : List α}
theorem ei_L (h : Em E cl M te σ I S (kL K t) (.ok xs) S') : Ei E cl M (iList K te) σ I S t xs S' :=
  ⟨h.ad, fun H1 i w R q => em_of h H1 i w _ fun v H2 e w1 r => by
    obtain ⟨p, vs, rfl, hp, ha⟩ := r
    refine ⟨p, rfl, ⟨vs, ex_l del_le hp⟩, q _ H2 (fun H => SqL K H p vs) _ e w1 (by rw [← ha.len]; exact walk_list) (fun H' e2 => ex_l (e2.trans del_le) hp) ?_⟩
    intro i H v H' x hx e2 y
    obtain ⟨rfl, hv⟩ := y
    obtain ⟨v', hv', r⟩ := ha.at2 hx
    rw [hv] at hv'
    obtain rfl := Option.some.inj hv'
    exact ⟨Ex.refl _, fun M' l e3 => t.up e3 r⟩⟩
theorem ei_T (h : Em E cl M te σ I S (kT K t) (.ok xs) S') : Ei E cl M (iTup K te) σ I S t xs S' :=
  ⟨h.ad, fun H1 i w R q => em_of h H1 i w _ fun v H2 e w1 r => by
    obtain ⟨p, vs, rfl, hp, ha⟩ := r
    refine ⟨p, rfl, ⟨vs, ex_t del_le hp⟩, q _ H2 (fun H => SqT K H p vs) _ e w1 (by rw [← ha.len]; exact walk_tup) (fun H' e2 => ex_t (e2.trans del_le) hp) ?_⟩
    intro i H v H' x hx e2 y
    obtain ⟨rfl, hv⟩ := y
    obtain ⟨v', hv', r⟩ := ha.at2 hx
    rw [hv] at hv'
    obtain rfl := Option.some.inj hv'
    exact ⟨Ex.refl _, fun M' l e3 => t.up e3 r⟩⟩
theorem ei_R1 {n : Int} (h : Ea E cl M tr σ I S (aC kI a0) (.ok (n, ())) S') (b : -(2 ^ 62) ≤ n ∧ n < 2 ^ 62) : Ei E cl M (iRng1 tr) σ I S kI (rng 0 n) S' :=
  ⟨h.ad, fun H1 i w R q => ea_of h H1 i w _ fun vs H2 e w1 r => by
    obtain ⟨v, rs, rfl, rfl, rfl⟩ := r
    refine ⟨n, rfl, b.1, b.2, q _ H2 (fun _ => True) _ e w1 (by rw [rng_len, show n - 0 = n by omega]; exact walk_range) (fun _ _ => trivial) ?_⟩
    intro i H v H' x hx e2 y
    obtain ⟨rfl, rfl⟩ := y
    exact ⟨Ex.refl _, fun M' l e3 => by rw [(rng_at hx).1]; rfl⟩⟩
theorem ei_R2 {lo n : Int} (h : Ea E cl M tr σ I S (aC kI (aC kI a0)) (.ok (lo, n, ())) S') (b : -(2 ^ 62) ≤ lo ∧ lo < 2 ^ 62 ∧ -(2 ^ 62) ≤ n ∧ n < 2 ^ 62) : Ei E cl M (iRng2 tr) σ I S kI (rng lo n) S' :=
  ⟨h.ad, fun H1 i w R q => ea_of h H1 i w _ fun vs H2 e w1 r => by
    obtain ⟨v, rs, rfl, rfl, v2, rs2, rfl, rfl, rfl⟩ := r
    refine ⟨lo, n, rfl, b, q _ H2 (fun _ => True) _ e w1 (by rw [rng_len]; exact walk_range) (fun _ _ => trivial) ?_⟩
    intro i H v H' x hx e2 y
    obtain ⟨rfl, rfl⟩ := y
    exact ⟨Ex.refl _, fun M' l e3 => by rw [(rng_at hx).1]; rfl⟩⟩
/-! ### targets -/
theorem eg_name {j : Nat} : Eg (gName j) t σ (fun I x σ' => ∃ v, t.r I v x ∧ σ' = σ.set j (some v)) := fun v H x I r e k q => q _ ⟨v, r, rfl⟩
theorem eg_2 {i j : Nat} : Eg (gTup K 2 (gCons (gName i) (gCons (gName j) gNil))) (k2 K t u) σ (fun I x σ' => ∃ v w, t.r I v x.1 ∧ u.r I w x.2 ∧ σ' = (σ.set i (some v)).set j (some w)) := fun v H x I r e k q => by
  obtain ⟨p, v1, v2, rfl, hp, h1, h2⟩ := r
  exact ⟨p, _, rfl, ex_t e hp, rfl, v1, [v2], rfl, v2, [], rfl, rfl, q _ ⟨v1, v2, h1, h2, rfl⟩⟩
theorem eg_3 {i j l : Nat} : Eg (gTup K 3 (gCons (gName i) (gCons (gName j) (gCons (gName l) gNil)))) (k3 K t u w') σ (fun I x σ' => ∃ v1 v2 v3, t.r I v1 x.1 ∧ u.r I v2 x.2.1 ∧ w'.r I v3 x.2.2 ∧ σ' = ((σ.set i (some v1)).set j (some v2)).set l (some v3)) := fun v H x I r e k q => by
  obtain ⟨p, v1, v2, v3, rfl, hp, h1, h2, h3⟩ := r
  exact ⟨p, _, rfl, ex_t e hp, rfl, v1, [v2, v3], rfl, v2, [v3], rfl, v3, [], rfl, rfl, q _ ⟨v1, v2, v3, h1, h2, h3, rfl⟩⟩
/-! ### comprehensions -/
theorem all2_new (t : Ty α) {D : Addr} {H : Hp} {vs : List V} (h : H D = none) (a : All2 (t.r (del M H)) vs xs) : All2 (t.r (del (D :: M) H)) vs xs := all2_up t (del_new h) a
theorem ex_lone {D : Addr} {H2 H' : Hp} {o : HO} (hD : H2 D = none) (e : Ex (del (D :: M) (upd H2 D o)) (del (D :: M) H')) : Ex (del M H2) (del (D :: M) H') := fun a u h => by
  obtain ⟨n, h⟩ := del_some.mp h
  have nd : a ≠ D := fun z => by rw [z, hD] at h; cases h
  exact e a u (del_some.mpr ⟨fun z => by rcases List.mem_cons.mp z with z | z; exact nd z; exact n z, by rw [upd_ne nd]; exact h⟩)
theorem del_le2 {D : Addr} {H : Hp} : Ex (del (D :: M) H) (del M H) := del_free
/-- the tests and the elements may change what may change: s told by Sx -/
def runE {β τ : Type} (ct : α → τ → Bool × τ) (f : α → τ → β × τ) : List α → τ → List β × τ
  | [], s => ([], s)
  | x :: xs, s => if (ct x s).1 = true then ((f x (ct x s).2).1 :: (runE ct f xs (f x (ct x s).2).2).1, (runE ct f xs (f x (ct x s).2).2).2) else runE ct f xs (ct x s).2
theorem runE_app {ct : α → τ → Bool × τ} {f : α → τ → β × τ} : ∀ (xs : List α) (x : α) (s : τ), runE ct f (xs ++ [x]) s =
    (if (ct x (runE ct f xs s).2).1 = true then ((runE ct f xs s).1 ++ [(f x (ct x (runE ct f xs s).2).2).1], (f x (ct x (runE ct f xs s).2).2).2) else ((runE ct f xs s).1, (ct x (runE ct f xs s).2).2))
  | [], x, s => by
    show runE ct f [x] s = _
    simp only [runE, List.nil_append]
    rfl
  | a :: xs, x, s => by
    simp only [List.cons_append, runE]
    by_cases h : (ct a s).1 = true
    · simp only [if_pos h]
      rw [runE_app xs x]
      split <;> rfl
    · simp only [if_neg h]
      exact runE_app xs x _
theorem em_lcE {wi : TI} {g : TG} {vs : List Nat} {B : Hp → α → L2.St → Prop} {ct : α → τ → Bool × τ} {f : α → τ → β × τ} {Sx : τ → List Cell} {s0 : τ} (hi : Ei E cl M wi σ I S t xs (Sx s0)) (hz : xs.length ≤ 100000 - 1) (hS : ∀ s, ads (Sx s) = ads (Sx s0))
    (hg : Eg g t (wipe σ vs) B) (hw : ∀ I x σ', B I x σ' → wipe σ' vs = wipe σ vs)
    (ht : ∀ D acc I' x s σ', Ex I I' → x ∈ xs → B I' x σ' → Et E cl (D :: M) tt σ' I' (cL D u acc :: Sx s) (.ok (ct x s).1) (cL D u acc :: Sx (ct x s).2))
    (he : ∀ D acc I' x s σ', Ex I I' → x ∈ xs → (ct x s).1 = true → B I' x σ' → Em E cl (D :: M) te σ' I' (cL D u acc :: Sx (ct x s).2) u (.ok (f x (ct x s).2).1) (cL D u acc :: Sx (f x (ct x s).2).2)) :
    Em E cl M (tLc wi g tt te vs) σ I S (kL K u) (.ok (runE ct f xs s0).1) (Sx (runE ct f xs s0).2) := by
  refine em_mk ((hS _).trans hi.ad) fun H0 i0 w0 Q q => hi.run H0 i0 w0 _ fun J H2 G Y e2 w2 wk gG gY D hD => ?_
  let acc : Nat → List β := fun i => (runE ct f (xs.take i) s0).1
  let st : Nat → τ := fun i => (runE ct f (xs.take i) s0).2
  let Pv : Nat → Hp → Prop := fun i H' => Holds (D :: M) (cL D u (acc i) :: Sx (st i)) H' ∧ Ex (del (D :: ads (Sx s0)) (upd H2 D (.lst []))) (del (D :: ads (Sx s0)) H')
  have dM : D ∉ M := fresh_not w2.live hD
  have toM : ∀ {i H'}, Pv i H' → Ex (del M H2) (del (D :: M) H') := fun {i H'} p => by
    refine ex_lone (o := .lst []) hD (ex_sub (A := D :: ads (Sx s0)) (fun a h => ?_) p.2)
    rcases List.mem_cons.mp h with z | z
    · rw [z]; exact List.mem_cons_self
    · exact List.mem_cons_of_mem _ (w2.sub a z)
  have stop : ∀ i, i < xs.length → ∃ x, xs[i]? = some x := fun i hi => ⟨xs[i], by simp [hi]⟩
  have accLen : ∀ i, (acc i).length ≤ i := by
    intro i
    have : ∀ (l : List α) (s : τ), (runE ct f l s).1.length ≤ l.length := by
      intro l
      induction l with
      | nil => intro s; exact Nat.le_refl _
      | cons a l ih =>
        intro s
        simp only [runE]
        split
        · simp only [List.length_cons]
          exact Nat.succ_le_succ (ih _)
        · exact Nat.le_succ_of_le (ih _)
    exact Nat.le_trans (this _ _) (by rw [List.length_take]; omega)
  refine lc_it wk Pv ⟨?_, Ex.refl _⟩ (fun i H' hi p => gG H' ((toM p).trans del_le2)) (fun i v H Hy hi p y => ?_) (fun H' p => ?_)
  · have e0 : acc 0 = [] := by show (runE ct f (xs.take 0) s0).1 = []; rw [List.take_zero]; rfl
    have e1 : st 0 = s0 := by show (runE ct f (xs.take 0) s0).2 = s0; rw [List.take_zero]; rfl
    show Holds (D :: M) (cL D u (acc 0) :: Sx (st 0)) _
    rw [e0, e1]
    exact w2.new (c := cL D u []) hD (Ex.new hD) upd_same ⟨[], rfl, .nil⟩
  · obtain ⟨x, hx⟩ := stop i hi
    have xm : x ∈ xs := List.mem_of_getElem? hx
    obtain ⟨eH, rv⟩ := gY i H v Hy x hx ((toM p).trans del_le2) y
    have rx := rv (D :: M) p.1.live (toM p)
    have wy := p.1.ex eH
    have i1 : Ex I (del (D :: M) Hy) := ((i0.trans (w0.grow e2)).trans (toM p)).trans (ex_del eH)
    refine hg v Hy x _ rx del_le _ fun σ' b => ⟨hw _ x σ' b, ?_⟩
    have tk : xs.take (i + 1) = xs.take i ++ [x] := by rw [List.take_add_one, hx]; rfl
    have nx : runE ct f (xs.take (i + 1)) s0 = (if (ct x (st i)).1 = true then (acc i ++ [(f x (ct x (st i)).2).1], (f x (ct x (st i)).2).2) else (acc i, (ct x (st i)).2)) := by rw [tk, runE_app]
    have fr : Ex (del (D :: ads (Sx s0)) (upd H2 D (.lst []))) (del (D :: ads (Sx s0)) Hy) := p.2.trans (ex_del eH)
    have same : ∀ s, ads (cL D u (acc i) :: Sx s) = D :: ads (Sx s0) := fun s => by show D :: ads (Sx s) = _; rw [hS s]
    refine et_of (ht D (acc i) _ x (st i) σ' i1 xm b) Hy (Ex.refl _) wy _ fun H3 e3 w3 => ?_
    rw [same] at e3
    cases hc : (ct x (st i)).1 with
    | true =>
      rw [if_pos rfl]
      have i3 : Ex (del (D :: M) Hy) (del (D :: M) H3) := wy.grow (by rw [same]; exact e3)
      refine em_of (he D (acc i) _ x _ σ' i1 xm hc b) H3 i3 w3 _ fun vy H4 e4 w4 r4 => ?_
      rw [same] at e4
      obtain ⟨_, o4, h4, ys, rfl, a4⟩ := w4.at_ _ List.mem_cons_self
      refine ⟨ys, h4, ?_, ?_, ?_⟩
      · rw [All2.len a4]
        exact sz_lt (by have := accLen i; show (acc i).length < _; omega)
      · have a1 : acc (i + 1) = acc i ++ [(f x (ct x (st i)).2).1] := by show (runE ct f (xs.take (i + 1)) s0).1 = _; rw [nx]; simp [hc]
        have s1 : st (i + 1) = (f x (ct x (st i)).2).2 := by show (runE ct f (xs.take (i + 1)) s0).2 = _; rw [nx]; simp [hc]
        show Holds (D :: M) (cL D u (acc (i + 1)) :: Sx (st (i + 1))) _
        rw [a1, s1]
        exact w4.put (k := 0) (c := cL D u (acc i)) (c' := cL D u (acc i ++ [(f x (ct x (st i)).2).1])) rfl rfl ⟨_, rfl, a4.app (.one r4)⟩
      · rw [show del (D :: ads (Sx s0)) (upd H4 D (.lst (ys ++ [vy]))) = del (D :: ads (Sx s0)) H4 from del_upd List.mem_cons_self]
        exact (fr.trans e3).trans e4
    | false =>
      rw [if_neg Bool.false_ne_true]
      refine ⟨?_, fr.trans e3⟩
      have a1 : acc (i + 1) = acc i := by show (runE ct f (xs.take (i + 1)) s0).1 = _; rw [nx]; simp [hc]
      have s1 : st (i + 1) = (ct x (st i)).2 := by show (runE ct f (xs.take (i + 1)) s0).2 = _; rw [nx]; simp [hc]
      rw [a1, s1]
      exact w3
  · have al : acc xs.length = (runE ct f xs s0).1 := by show (runE ct f (xs.take xs.length) s0).1 = _; rw [List.take_length]
    have sl : st xs.length = (runE ct f xs s0).2 := by show (runE ct f (xs.take xs.length) s0).2 = _; rw [List.take_length]
    obtain ⟨pw, pe⟩ := p
    rw [al, sl] at pw
    obtain ⟨_, o4, h4, ys, rfl, a4⟩ := pw.at_ _ List.mem_cons_self
    refine q _ H' ?_ (pw.drop (c := cL D u _) dM) ⟨D, ys, rfl, sq_of (del_at dM h4), all2_up u del_le2 a4⟩
    rw [← hi.ad]
    rw [← hi.ad] at e2
    exact e2.trans ((ex_lone (M := ads (Sx s0)) hD pe).trans del_le2)
/-- nothing changed by them -/
theorem runE_pure {c : α → Bool} {f : α → β} : ∀ (xs : List α) (s : τ), runE (fun x s => (c x, s)) (fun x s => (f x, s)) xs s = ((xs.filter c).map f, s)
  | [], s => rfl
  | x :: xs, s => by
    simp only [runE]
    rw [runE_pure xs s]
    cases h : c x
    · simp [List.filter_cons, h]
    · simp [List.filter_cons, h]
theorem em_lc {wi : TI} {g : TG} {vs : List Nat} {B : Hp → α → L2.St → Prop} (c : α → Bool) (f : α → β) (hi : Ei E cl M wi σ I S t xs S1) (hz : xs.length ≤ 100000 - 1) (hg : Eg g t (wipe σ vs) B) (hw : ∀ I x σ', B I x σ' → wipe σ' vs = wipe σ vs)
    (ht : ∀ M' S' I' x σ', Ex I I' → x ∈ xs → B I' x σ' → Et E cl M' tt σ' I' S' (.ok (c x)) S') (he : ∀ M' S' I' x σ', Ex I I' → x ∈ xs → c x = true → B I' x σ' → Em E cl M' te σ' I' S' u (.ok (f x)) S') :
    Em E cl M (tLc wi g tt te vs) σ I S (kL K u) (.ok ((xs.filter c).map f)) S1 := by
  have h := em_lcE (K := K) (u := u) (te := te) (tt := tt) (ct := fun x (s : Unit) => (c x, s)) (f := fun x (s : Unit) => (f x, s)) (Sx := fun _ => S1) (s0 := ()) hi hz (fun _ => rfl) hg hw (fun D acc I' x s σ' a b d => ht _ _ I' x σ' a b d) (fun D acc I' x s σ' a b d z => he _ _ I' x σ' a b d z)
  rw [runE_pure] at h
  exact h
end
end Rw
namespace Rw
open PySem PySem.Spec PyProof.Rows L2 Evl Cy
/-! ### a mirror's words -/
/-- a value, then the rest -/
def lt {α R : Type} (x : α) (k : α → R) : R := k x
/-- a value or an error, then the rest -/
def lr {α β : Type} (r : Re α) (k : α → Re β) : Re β := match r with | .ok x => k x | .er e => .er e
/-- a part with what comes behind it -/
def jn {τ R : Type} (k : τ → R) (b : (τ → R) → R) : R := b k
/-- a for: the turn is told how to go on and how to stop -/
def forK {α τ R : Type} (b : α → τ → (τ → R) → (τ → R) → R) (k : τ → R) : List α → τ → R
  | [], s => k s
  | x :: xs, s => b x s (fun s' => forK b k xs s') k
/-- a while, so many turns at most -/
def whK {τ R : Type} (c : τ → Bool) (b : τ → (τ → R) → (τ → R) → R) (k : τ → R) : Nat → τ → R
  | 0, s => k s
  | n + 1, s => cond (c s) (b s (fun s' => whK c b k n s') k) (k s)
section
variable {K : PySem.W.Frag} {α β γ δ R τ : Type} {E : XK} {cl : Nat → Addr} {M : List Addr} {σ : L2.St} {I I' H H' : Hp} {S S' S1 S2 S3 : List Cell} {te ta tb tc to : TE} {tt : TT} {tr : TA} {t : Ty α} {u : Ty β} {x : α} {y : β} {v : V} {xs : List α} {P : R → Prop} {k : α → R} {D : Ends} {tz tu tw : TS} {g : TG}
/-- what is kept from H to H2 -/
structure Gr (M : List Addr) (S : List Cell) (H H2 : Hp) : Prop where
  fr : Ex (del (ads S) H) (del (ads S) H2)
  im : Ex (del M H) (del M H2)
theorem Gr.of (w : Holds M S H) (e : Ex (del (ads S) H) (del (ads S) H')) : Gr M S H H' := ⟨e, w.grow e⟩
theorem g_asg {i : Nat} (w : Holds M S H) (o : P (lt x k)) (h : Em E cl M te σ (del M H) S t (.ok x) S') (c : ∀ x' v H2, x' = x → P (k x') → Gr M S H H2 → Holds M S' H2 → t.r (del M H2) v x' → tz D (σ.set i (some v)) H2) : tSeq (tAsg te (gName i)) tz D σ H :=
  em_of h H (Ex.refl _) w _ fun v H2 e w2 r => c x v H2 rfl o (.of w e) w2 r
theorem g_asgL {i : Nat} (w : Holds M S H) (o : P (lt x k)) (h : Em E cl M te σ (del M H) S t (.ok x) S') (c : ∀ x' v H2, x' = x → P (k x') → Gr M S H H2 → Holds M S' H2 → t.r (del M H2) v x' → D.nx (σ.set i (some v)) H2) : tAsg te (gName i) D σ H :=
  em_of h H (Ex.refl _) w _ fun v H2 e w2 r => c x v H2 rfl o (.of w e) w2 r
/-- the same of any target -/
theorem g_asgG {B : Hp → α → L2.St → Prop} (w : Holds M S H) (hg : Eg g t σ B) (o : P (lt x k)) (h : Em E cl M te σ (del M H) S t (.ok x) S') (c : ∀ x' σ' H2, x' = x → P (k x') → Gr M S H H2 → Holds M S' H2 → B (del M H2) x' σ' → tz D σ' H2) : tSeq (tAsg te g) tz D σ H :=
  em_of h H (Ex.refl _) w _ fun v H2 e w2 r => hg v H2 x _ r del_le _ fun σ' b => c x σ' H2 rfl o (.of w e) w2 b
/-- an error may leave it -/
theorem g_asgX {i : Nat} {P : Re β → Prop} {k : α → Re β} {r : Re α} (w : Holds M S H) (o : P (lr r k)) (h : Em E cl M te σ (del M H) S t r S') (c : ∀ x' v H2, r = .ok x' → P (k x') → Gr M S H H2 → Holds M S' H2 → t.r (del M H2) v x' → tz D (σ.set i (some v)) H2)
    (c2 : ∀ e H2, r = .er e → P (.er e) → Gr M S H H2 → Holds M S' H2 → E (.ref (cl e)) none H2) : tSeq (tAsg te (gName i)) tz D σ H :=
  h.run H (Ex.refl _) w _ (fun x v H2 z e w2 r => c x v H2 z (by subst z; exact o) (.of w e) w2 r) fun e H2 z e2 w2 => c2 e H2 z (by subst z; exact o) (.of w e2) w2
theorem g_asgGX {B : Hp → α → L2.St → Prop} {P : Re β → Prop} {k : α → Re β} {r : Re α} (w : Holds M S H) (hg : Eg g t σ B) (o : P (lr r k)) (h : Em E cl M te σ (del M H) S t r S') (c : ∀ x' σ' H2, r = .ok x' → P (k x') → Gr M S H H2 → Holds M S' H2 → B (del M H2) x' σ' → tz D σ' H2)
    (c2 : ∀ e H2, r = .er e → P (.er e) → Gr M S H H2 → Holds M S' H2 → E (.ref (cl e)) none H2) : tSeq (tAsg te g) tz D σ H :=
  h.run H (Ex.refl _) w _ (fun x v H2 z e w2 r => hg v H2 x _ r del_le _ fun σ' b => c x σ' H2 z (by subst z; exact o) (.of w e) w2 b) fun e H2 z e2 w2 => c2 e H2 z (by subst z; exact o) (.of w e2) w2
/-- a, b = x, y -/
theorem g_par {i j : Nat} {kk : α → β → R} (w : Holds M S H) (o : P (lt x fun a => lt y fun b => kk a b)) (h : Ea E cl M tr σ (del M H) S (aC t (aC u a0)) (.ok (x, y, ())) S') (c : ∀ x' y' v1 v2 H2, x' = x → y' = y → P (kk x' y') → Gr M S H H2 → Holds M S' H2 → t.r (del M H2) v1 x' → u.r (del M H2) v2 y' → tz D ((σ.set i (some v1)).set j (some v2)) H2) : tSeq (tPar i j tr) tz D σ H :=
  ea_of h H (Ex.refl _) w _ fun vs H2 e w2 r => by
    obtain ⟨v1, r1, rfl, g1, v2, r2, rfl, g2, rfl⟩ := r
    exact ⟨v1, v2, rfl, c x y v1 v2 H2 rfl rfl o (.of w e) w2 g1 g2⟩
theorem g_if {A B : R} {b : Bool} (w : Holds M S H) (o : P (cond b A B)) (h : Et E cl M tt σ (del M H) S (.ok b) S') (c1 : b = true → P A → ∀ H2, Gr M S H H2 → Holds M S' H2 → tu { D with nx := tz D } σ H2) (c2 : b = false → P B → ∀ H2, Gr M S H H2 → Holds M S' H2 → tw { D with nx := tz D } σ H2) : tSeq (tIfS tt tu tw) tz D σ H :=
  et_of h H (Ex.refl _) w _ fun H2 e w2 => by
    cases b with
    | true => exact c1 rfl o H2 (.of w e) w2
    | false => exact c2 rfl o H2 (.of w e) w2
theorem g_ifL {A B : R} {b : Bool} (w : Holds M S H) (o : P (cond b A B)) (h : Et E cl M tt σ (del M H) S (.ok b) S') (c1 : b = true → P A → ∀ H2, Gr M S H H2 → Holds M S' H2 → tu D σ H2) (c2 : b = false → P B → ∀ H2, Gr M S H H2 → Holds M S' H2 → tw D σ H2) : tIfS tt tu tw D σ H :=
  et_of h H (Ex.refl _) w _ fun H2 e w2 => by
    cases b with
    | true => exact c1 rfl o H2 (.of w e) w2
    | false => exact c2 rfl o H2 (.of w e) w2
theorem g_when {A B : R} {b : Bool} (w : Holds M S H) (o : P (cond b A B)) (h : Et E cl M tt σ (del M H) S (.ok b) S') (c1 : b = true → P A → ∀ H2, Gr M S H H2 → Holds M S' H2 → tu { D with nx := tz D } σ H2) (c2 : b = false → P B → ∀ H2, Gr M S H H2 → Holds M S' H2 → tz D σ H2) : tSeq (tIfS tt tu tNext) tz D σ H := g_if w o h c1 c2
/-- the same, what follows being shown once -/
theorem g_join {τ : Type} {kk : τ → R} {b : (τ → R) → R} {ts : TS} (Rel : τ → L2.St → Hp → Prop) (o : P (jn kk b)) (c1 : P (b kk) → ts { D with nx := fun σ' H' => ∃ s, P (kk s) ∧ Rel s σ' H' } σ H) (c2 : ∀ s σ' H', P (kk s) → Rel s σ' H' → tz D σ' H') : tCut ts tz D σ H :=
  ⟨fun σ' H' => ∃ s, P (kk s) ∧ Rel s σ' H', c1 o, fun σ' H' ⟨s, p, r⟩ => c2 s σ' H' p r⟩
theorem g_ret (w : Holds M S H) (h : Em E cl M te σ (del M H) S t (.ok x) S') (c : ∀ v H2, Gr M S H H2 → Holds M S' H2 → t.r (del M H2) v x → D.rt v H2) : tRet te D σ H :=
  em_of h H (Ex.refl _) w _ fun v H2 e w2 r => c v H2 (.of w e) w2 r
theorem g_retX {r : Re α} (w : Holds M S H) (h : Em E cl M te σ (del M H) S t r S') (c : ∀ x v H2, r = .ok x → Gr M S H H2 → Holds M S' H2 → t.r (del M H2) v x → D.rt v H2) (c2 : ∀ e H2, r = .er e → Gr M S H H2 → Holds M S' H2 → E (.ref (cl e)) none H2) : tRet te D σ H :=
  h.run H (Ex.refl _) w _ (fun x v H2 z e w2 r => c x v H2 z (.of w e) w2 r) fun e H2 z e2 w2 => c2 e H2 z (.of w e2) w2
theorem g_drop (w : Holds M S H) (o : P (lt x k)) (h : Em E cl M te σ (del M H) S t (.ok x) S') (c : ∀ x' H2, x' = x → P (k x') → Gr M S H H2 → Holds M S' H2 → tz D σ H2) : tSeq (tDrop te) tz D σ H :=
  em_of h H (Ex.refl _) w _ fun v H2 e w2 r => c x H2 rfl o (.of w e) w2
theorem Gr.trans (a : Gr M S H H') {H2 : Hp} (s : ads S' = ads S) (b : Gr M S' H' H2) : Gr M S H H2 := ⟨ads_tr s a.fr b.fr, a.im.trans b.im⟩
theorem Gr.then (a : Gr M S H H') {H2 : Hp} (b : Gr M S' H' H2) (s : ads S' = ads S) : Gr M S H H2 := a.trans s b
theorem Gr.cast (g : Gr M S H H') (e : ads S = ads S') : Gr M S' H H' := ⟨by rw [← e]; exact g.fr, g.im⟩
theorem Gr.refl : Gr M S H H := ⟨Ex.refl _, Ex.refl _⟩
/-! loops -/
theorem g_for {wi : TI} {b : α → τ → (τ → R) → (τ → R) → R} {kn : τ → R} {s0 : τ} {B : L2.St → Hp → α → L2.St → Prop} {Sx : τ → List Cell} (Rv : Hp → List α → τ → L2.St → Prop) (w : Holds M S H) (o : P (forK b kn xs s0)) (hi : Ei E cl M wi σ (del M H) S t xs (Sx s0)) (hS : ∀ s, ads (Sx s) = ads (Sx s0)) (hg : ∀ σ', Eg g t σ' (B σ'))
    (h0 : ∀ H2, Gr M S H H2 → Rv (del M H2) xs s0 σ)
    (hd : ∀ s σ' H', Gr M S H H' → Holds M (Sx s) H' → Rv (del M H') [] s σ' → P (kn s) → tz D σ' H')
    (hs : (∀ s σ' H', Gr M S H H' → Holds M (Sx s) H' → Rv (del M H') [] s σ' → P (kn s) → tz D σ' H') → ∀ x s σ' σ2 I' H3 rest, x ∈ xs → Gr M S H H3 → Holds M (Sx s) H3 → Ex I' (del M H3) → Rv I' (x :: rest) s σ' → B σ' (del M H3) x σ2 → P (b x s (fun s' => forK b kn rest s') kn) →
      ∀ Nx : L2.St → Hp → Prop, (∀ s' σ4 H4, P (forK b kn rest s') → Gr M S H3 H4 → Holds M (Sx s') H4 → Rv (del M H4) rest s' σ4 → Nx σ4 H4) → tu { D with nx := Nx, ct := Nx, bk := tz D } σ2 H3) : tSeq (tFor wi g tu) tz D σ H := by
  have a1 : ∀ s, ads (Sx s) = ads S := fun s => (hS s).trans hi.ad
  refine hi.run H (Ex.refl _) w _ fun J H2 G Y e2 w2 wk gG gY => ?_
  have g2 : Gr M S H H2 := .of w e2
  refine for_it wk (fun i σ' H' => ∃ s', P (forK b kn (xs.drop i) s') ∧ Gr M S H2 H' ∧ Holds M (Sx s') H' ∧ Rv (del M H') (xs.drop i) s' σ') ⟨s0, o, Gr.refl, w2, h0 H2 g2⟩ (fun i σ' H' hi' p => ?_) (fun i v σ' H' H3 hi' p y => ?_) (fun σ' H' p => ?_)
  · obtain ⟨s', _, e, w', _⟩ := p
    exact gG H' e.im
  · obtain ⟨s', o', e, w', r⟩ := p
    have hx : xs[i]? = some xs[i] := by simp [hi']
    obtain ⟨eH, rv⟩ := gY i H' v H3 _ hx e.im y
    have w3 := w'.ex eH
    refine hg σ' v H3 _ _ (rv M w'.live e.im) del_le _ fun σ2 b2 => ?_
    have e3 : Gr M S H' H3 := ⟨ex_del eH, ex_del eH⟩
    have g3 : Gr M S H H3 := (g2.trans rfl e).trans rfl e3
    have dr : xs.drop i = xs[i] :: xs.drop (i + 1) := by rw [List.drop_eq_getElem_cons hi']
    have ot : P (b xs[i] s' (fun s' => forK b kn (xs.drop (i + 1)) s') kn) := by
      rw [dr] at o'
      exact o'
    exact hs hd xs[i] s' σ' σ2 (del M H') H3 (xs.drop (i + 1)) (List.getElem_mem hi') g3 w3 (ex_del eH) (by rw [← dr]; exact r) b2 ot _ fun s4 σ4 H4 o4 g4 w4 r4 => ⟨s4, o4, (e.trans rfl e3).trans rfl g4, w4, r4⟩
  · obtain ⟨s', o', e, w', r⟩ := p
    rw [List.drop_length] at o' r
    exact hd s' σ' H' (g2.trans rfl e) w' r o'
theorem g_while {c : τ → Bool} {b : τ → (τ → R) → (τ → R) → R} {kn : τ → R} {n : Nat} {s0 : τ} {Sx : τ → List Cell} (Ok : Nat → τ → Prop) (Rv : Hp → τ → L2.St → Prop) (w : Holds M (Sx s0) H) (o : P (whK c b kn n s0)) (hS : ∀ s, ads (Sx s) = ads (Sx s0)) (ok0 : Ok n s0) (okz : ∀ s, Ok 0 s → c s = false) (h0 : Rv (del M H) s0 σ)
    (ht : ∀ n s σ' H', Ok n s → Gr M (Sx s0) H H' → Holds M (Sx s) H' → Rv (del M H') s σ' → Et E cl M tt σ' (del M H') (Sx s) (.ok (c s)) (Sx s))
    (hd : ∀ n s σ' I' H', Ok n s → c s = false → Gr M (Sx s0) H H' → Holds M (Sx s) H' → Ex I' (del M H') → Rv I' s σ' → P (kn s) → tz D σ' H')
    (hs : (∀ n s σ' I' H', Ok n s → c s = false → Gr M (Sx s0) H H' → Holds M (Sx s) H' → Ex I' (del M H') → Rv I' s σ' → P (kn s) → tz D σ' H') → ∀ n s σ' I' H', Ok (n + 1) s → c s = true → Gr M (Sx s0) H H' → Holds M (Sx s) H' → Ex I' (del M H') → Rv I' s σ' → P (b s (fun s' => whK c b kn n s') kn) →
      ∀ Nx : L2.St → Hp → Prop, (∀ s' σ4 H4, Ok n s' → P (whK c b kn n s') → Gr M (Sx s0) H' H4 → Holds M (Sx s') H4 → Rv (del M H4) s' σ4 → Nx σ4 H4) → tu { D with nx := Nx, ct := Nx, bk := tz D } σ' H') : tSeq (tWhile tt tu) tz D σ H := by
  refine ⟨fun m σ' H' => ∃ s, Ok m s ∧ P (whK c b kn m s) ∧ Gr M (Sx s0) H H' ∧ Holds M (Sx s) H' ∧ Rv (del M H') s σ', ⟨n, s0, ok0, o, Gr.refl, w, h0⟩, ?_⟩
  rintro m σ' H' ⟨s, k, o', g', w', r⟩
  refine et_of (ht m s σ' H' k g' w' r) H' (Ex.refl _) w' _ fun H2 e2 w2 => ?_
  have e2' : Gr M (Sx s0) H' H2 := ⟨by rw [hS s] at e2; exact e2, w'.grow e2⟩
  have g2 : Gr M (Sx s0) H H2 := g'.trans rfl e2'
  cases hc : c s with
  | true =>
    rw [if_pos rfl]
    cases m with
    | zero => rw [okz s k] at hc; cases hc
    | succ m =>
      have o2 : P (b s (fun s' => whK c b kn m s') kn) := by
        have : P (cond (c s) (b s (fun s' => whK c b kn m s') kn) (kn s)) := o'
        rw [hc] at this
        exact this
      exact ⟨fun σ4 H4 => ∃ s, Ok m s ∧ P (whK c b kn m s) ∧ Gr M (Sx s0) H H4 ∧ Holds M (Sx s) H4 ∧ Rv (del M H4) s σ4, fun σ4 H4 z => ⟨m, Nat.lt_succ_self m, z⟩,
        hs hd m s σ' (del M H') H2 k hc g2 w2 e2'.im r o2 _ fun s4 σ4 H4 k4 o4 g4 w4 r4 => ⟨s4, k4, o4, g2.trans rfl g4, w4, r4⟩⟩
  | false =>
    rw [if_neg Bool.false_ne_true]
    refine hd m s σ' (del M H') H2 k hc g2 w2 e2'.im r ?_
    cases m with
    | zero => exact o'
    | succ m =>
      have : P (cond (c s) (b s (fun s' => whK c b kn m s') kn) (kn s)) := o'
      rw [hc] at this
      exact this
/-! what may change from here on: a list in the making -/
theorem Gr.lone {p : Addr} {c : Cell} (hp : H c.a = none) (a : Gr M S H H') {H2 : Hp} (hp' : H' c.a = none) (b : Gr (c.a :: M) (c :: S) H' H2) : Gr M S H H2 := by
  have f : ∀ A : List Addr, Ex (del A H') (del (c.a :: A) H') := fun A => del_new hp'
  exact ⟨a.fr.trans ((f _).trans (b.fr.trans del_free)), a.im.trans ((f _).trans (b.im.trans del_free))⟩
theorem g_new {i : Nat} (K : PySem.W.Frag) (t : Ty α) (w : Holds M S H) (c : ∀ p H2, H p = none → Gr M S H H2 → Holds (p :: M) (cL p t [] :: S) H2 → Ex (del M H) (del (p :: M) H2) → tz D (σ.set i (some (.ref p))) H2) : tSeq (tAsg (tLst tNil) (gName i)) tz D σ H := by
  refine ⟨by show 0 ≤ sizeLine; decide, fun p hp => ?_⟩
  have e : Ex H (upd H p (.lst [])) := Ex.new hp
  exact c p _ hp ⟨ex_del e, ex_del e⟩ (w.new (c := cL p t []) hp e upd_same ⟨[], rfl, .nil⟩) ((del_new hp).trans (ex_del e))
/-- p.append(x), p the n-th of what may change -/
theorem g_app {n : Nat} {p : Addr} {acc0 acc : List α} {k : List α → R} (w : Holds M S H) (o : P (lt (acc ++ [x]) k)) (ha : Em E cl M ta σ (del M H) S (kPtr p) (.ok ()) S) (h : Em E cl M te σ (del M H) S t (.ok x) S') (hk0 : S[n]? = some (cL p t acc0)) (hk : S'[n]? = some (cL p t acc)) (hz : acc.length < 100000)
    (c : ∀ acc' H2, acc' = acc ++ [x] → P (k acc') → Gr M S H H2 → Holds M (S'.set n (cL p t acc')) H2 → tz D σ H2) : tSeq (tDrop (tBM K "list" rAppend ta (tCons te tNil))) tz D σ H := by
  refine em_of ha H (Ex.refl _) w _ fun v H1 e1 w1 r1 => ?_
  obtain rfl : v = .ref p := r1
  obtain ⟨_, o1, h1, vs1, rfl, _⟩ := w1.at_ _ (List.mem_of_getElem? hk0)
  refine ⟨Or.inl ⟨rfl, vs1, sq_of h1⟩, em_of h H1 (w.grow e1) w1 _ fun v2 H2 e2 w2 r2 => ?_⟩
  obtain ⟨pM, o2, h2, vs2, rfl, a2⟩ := w2.at_ _ (List.mem_of_getElem? hk)
  have pM : p ∈ M := pM
  have pS : p ∈ ads S := by rw [← h.ad]; exact List.mem_map.mpr ⟨_, List.mem_of_getElem? hk, rfl⟩
  refine ⟨p, vs2, v2, rfl, rfl, h2, sz_lt (by rw [a2.len]; exact hz), ?_⟩
  refine c _ _ rfl o ⟨?_, ?_⟩ (w2.put hk rfl ⟨_, rfl, a2.app (.one r2)⟩)
  · rw [del_upd pS]
    exact e1.trans e2
  · rw [del_upd pM]
    exact (w.grow e1).trans (w1.grow e2)
/-- p[i], p in the making -/
theorem em_cellAt {n : Nat} {p : Addr} {acc0 acc : List α} {i : Int} {x : α} (ha : Em E cl M ta σ I S (kPtr p) (.ok ()) S) (hb : Em E cl M tb σ I S kI (.ok i) S1) (hk : S1[n]? = some (cL p t acc)) (hi : atI acc i = some x) : Em E cl M (tOp (rIxL K) ta tb) σ I S t (.ok x) S1 :=
  em_mk hb.ad fun H1 i1 w Q q => em_of ha H1 i1 w _ fun v H2 e w2 r => em_of hb H2 (i1.trans (w.grow e)) w2 _ fun v2 H3 e3 w3 r3 => by
    obtain rfl : v = .ref p := r
    obtain rfl : v2 = .int i := r3
    obtain ⟨_, o2, h2, vs2, rfl, a2⟩ := w3.at_ _ (List.mem_of_getElem? hk)
    obtain ⟨j, hj, hx⟩ : ∃ j, ixN acc.length i = some j ∧ acc[j]? = some x := by
      unfold atI at hi
      cases hj : ixN acc.length i with
      | none => rw [hj] at hi; cases hi
      | some j => rw [hj] at hi; exact ⟨j, rfl, hi⟩
    obtain ⟨u, hu, ru⟩ := a2.at2 hx
    refine ⟨p, vs2, i, u, rfl, rfl, sq_of h2, ?_, q u H3 (e.trans e3) w3 ru⟩
    unfold atI
    rw [a2.len]
    show (ixN acc.length i).bind _ = _
    rw [hj]
    exact hu
theorem em_cellLen {n : Nat} {p : Addr} {acc : List α} (ha : Em E cl M ta σ I S (kPtr p) (.ok ()) S) (hk : S[n]? = some (cL p t acc)) : Em E cl M (tCB (rLenS K) (tCons ta tNil)) σ I S kI (.ok (acc.length : Int)) S :=
  em_mk rfl fun H1 i1 w Q q => em_of ha H1 i1 w _ fun v H2 e w2 r => by
    obtain rfl : v = .ref p := r
    obtain ⟨_, o2, h2, vs2, rfl, a2⟩ := w2.at_ _ (List.mem_of_getElem? hk)
    exact ⟨p, vs2, rfl, .inl (sq_of h2), q _ H2 e w2 (by rw [a2.len]; rfl)⟩
/-- p, in the making no more: a tuple, a list of the same -/
theorem em_cellTup {n : Nat} {p : Addr} {acc : List α} {r : List V → Hp → VK → Prop} (hr : ∀ H vs, SqL K H p vs → ∀ Q : VK, (∀ q, H q = none → Q (.ref q) (upd H q (.tup vs))) → r [.ref p] H Q) (ha : Em E cl M ta σ I S (kPtr p) (.ok ()) S) (hk : S[n]? = some (cL p t acc)) : Em E cl M (tCB r (tCons ta tNil)) σ I S (kT K t) (.ok acc) S :=
  em_mk rfl fun H1 i1 w Q q => em_of ha H1 i1 w _ fun v H2 e w2 r => by
    obtain rfl : v = .ref p := r
    obtain ⟨_, o2, h2, vs2, rfl, a2⟩ := w2.at_ _ (List.mem_of_getElem? hk)
    exact hr H2 vs2 (sq_of h2) _ fun p2 hp => q _ _ (e.trans (ex_del (Ex.new hp))) (w2.ex (Ex.new hp)) ⟨p2, vs2, rfl, st_of (del_at (fresh_not w2.live hp) upd_same), all2_up t (ex_del (Ex.new hp)) a2⟩
/-- it is given away: what was in the making stays as it is from now on -/
theorem cell_end {p : Addr} {acc : List α} (w : Holds (p :: M) (cL p t acc :: S) H) (n : p ∉ M) : (kL K t).r (del M H) (.ref p) acc := by
  obtain ⟨_, o2, h2, vs2, rfl, a2⟩ := w.at_ _ List.mem_cons_self
  exact ⟨p, vs2, rfl, sq_of (del_at n h2), all2_up t del_free a2⟩
end
/-! ### data that are compared -/
structure Dq (K : PySem.W.Frag) {α : Type} (t : Ty α) (d : Nat) where
  enc : α → PyData
  dp : ∀ {H v x}, t.r H v x → Dp K H v (enc x) ∧ (enc x).canLay0 = true
  dep : ∀ x, (enc x).depth ≤ d
  eq : ∀ x y, PyData.eqv (enc x) (enc y) = true ↔ x = y
/-- a text that may be compared in data -/
def kSo : Ty Str := ⟨fun _ v x => v = .str x ∧ PyData.canLay0 (.str x) = true, fun _ h => h⟩
theorem dp_upM {K : PySem.W.Frag} {H H' : Hp} (e : Ex H H') : ∀ (d : PyData) (v : V), Dp K H v d → Dp K H' v d := fun d v h => by
  refine Dp.rec (motive_1 := fun v d _ => Dp K H' v d) (motive_2 := fun vs ds _ => DpAll K H' vs ds) .non .bl .int .str (fun h _ ih => .lst (ex_l e h) ih) (fun h _ ih => .tup (ex_t e h) ih) .nil (fun _ _ i j => .cons i j) h
section
variable {K : PySem.W.Frag} {α β γ : Type} {t : Ty α} {u : Ty β} {w : Ty γ} {i j k : Nat}
def dI : Dq K kI 0 := ⟨.int, fun h => by cases h; exact ⟨.int _, rfl⟩, fun _ => Nat.le_refl _, fun x y => by simp [PyData.eqv]⟩
def dB : Dq K kB 0 := ⟨.bool, fun h => by cases h; exact ⟨.bl _, rfl⟩, fun _ => Nat.le_refl _, fun x y => by simp [PyData.eqv]⟩
def dS : Dq K kSo 0 := ⟨.str, fun h => by obtain ⟨rfl, h⟩ := h; exact ⟨.str _, h⟩, fun _ => Nat.le_refl _, fun x y => by simp [PyData.eqv]⟩
theorem dp_all (D : Dq K t i) {H : Hp} {vs : List V} {xs : List α} (h : All2 (t.r H) vs xs) : DpAll K H vs (xs.map D.enc) ∧ PyData.canLayAll0 (xs.map D.enc) = true := by
  induction h with
  | nil => exact ⟨.nil, rfl⟩
  | cons r _ ih => exact ⟨.cons (D.dp r).1 ih.1, by rw [List.map_cons, PyData.canLayAll0, (D.dp r).2, ih.2]; rfl⟩
theorem dep_all (D : Dq K t i) : ∀ xs : List α, PyData.depthAll (xs.map D.enc) ≤ i
  | [] => Nat.zero_le _
  | x :: xs => by rw [List.map_cons, PyData.depthAll]; exact Nat.max_le.mpr ⟨D.dep x, dep_all D xs⟩
theorem eq_all (D : Dq K t i) : ∀ xs ys : List α, PyData.eqvAll (xs.map D.enc) (ys.map D.enc) = true ↔ xs = ys
  | [], [] => by simp [PyData.eqvAll]
  | x :: xs, [] => by simp [PyData.eqvAll]
  | [], y :: ys => by simp [PyData.eqvAll]
  | x :: xs, y :: ys => by simp only [List.map_cons, PyData.eqvAll, Bool.and_eq_true, D.eq, eq_all D xs ys, List.cons.injEq]
def dL (D : Dq K t i) : Dq K (kL K t) (i + 1) := ⟨fun xs => .list (xs.map D.enc), fun ⟨p, vs, e, h, a⟩ => by subst e; exact ⟨.lst h (dp_all D a).1, by rw [PyData.canLay0]; exact (dp_all D a).2⟩, fun xs => by rw [PyData.depth]; have := dep_all D xs; omega, fun x y => by rw [PyData.eqv]; exact eq_all D x y⟩
def dT (D : Dq K t i) : Dq K (kT K t) (i + 1) := ⟨fun xs => .tuple (xs.map D.enc), fun ⟨p, vs, e, h, a⟩ => by subst e; exact ⟨.tup h (dp_all D a).1, by rw [PyData.canLay0]; exact (dp_all D a).2⟩, fun xs => by rw [PyData.depth]; have := dep_all D xs; omega, fun x y => by rw [PyData.eqv]; exact eq_all D x y⟩
def d2 (A : Dq K t i) (B : Dq K u j) : Dq K (k2 K t u) (max i j + 1) := ⟨fun x => .tuple [A.enc x.1, B.enc x.2], fun ⟨p, v1, v2, e, h, h1, h2⟩ => by subst e; exact ⟨.tup h (.cons (A.dp h1).1 (.cons (B.dp h2).1 .nil)), by simp [PyData.canLay0, PyData.canLayAll0, (A.dp h1).2, (B.dp h2).2]⟩,
  fun x => by simp only [PyData.depth, PyData.depthAll]; have := A.dep x.1; have := B.dep x.2; omega, fun x y => by simp [PyData.eqv, PyData.eqvAll, A.eq, B.eq, Prod.ext_iff]⟩
def d3 (A : Dq K t i) (B : Dq K u j) (C : Dq K w k) : Dq K (k3 K t u w) (max i (max j k) + 1) := ⟨fun x => .tuple [A.enc x.1, B.enc x.2.1, C.enc x.2.2], fun ⟨p, v1, v2, v3, e, h, h1, h2, h3⟩ => by subst e; exact ⟨.tup h (.cons (A.dp h1).1 (.cons (B.dp h2).1 (.cons (C.dp h3).1 .nil))), by simp [PyData.canLay0, PyData.canLayAll0, (A.dp h1).2, (B.dp h2).2, (C.dp h3).2]⟩,
  fun x => by simp only [PyData.depth, PyData.depthAll]; have := A.dep x.1; have := B.dep x.2.1; have := C.dep x.2.2; omega, fun x y => by simp [PyData.eqv, PyData.eqvAll, A.eq, B.eq, C.eq, Prod.ext_iff]⟩
theorem eqv_none_of {d : PyData} (h : d ≠ .none) : PyData.eqv .none d = false ∧ PyData.eqv d .none = false := by cases d <;> first | exact absurd rfl h | exact ⟨rfl, rfl⟩
def dO (A : Dq K t i) (hn : ∀ x, A.enc x ≠ .none) : Dq K (kO t) i := ⟨fun x => match x with | none => .none | some y => A.enc y, fun {H v x} h => by
    cases x with
    | none => cases h; exact ⟨.non, rfl⟩
    | some y => exact A.dp h.1, fun x => by cases x; exact Nat.zero_le _; exact A.dep _, fun x y => by
    cases x <;> cases y
    · exact ⟨fun _ => rfl, fun _ => rfl⟩
    · simp [(eqv_none_of (hn _)).1]
    · simp [(eqv_none_of (hn _)).2]
    · simp [A.eq]⟩
theorem shaped_of {d : PyData} (h : d.canLay0 = true) (l : d.depth ≤ 64) : SeqAt.shaped d = true := by
  unfold SeqAt.shaped
  rw [h]
  simpa using l
theorem o_eqD {x y : α} [Decidable (x = y)] (D : Dq K t i) (h : i ≤ 64) : Op2 (rEqD K) t x t y kB (decide (x = y)) := fun M v1 v2 H l a b Q q =>
  ⟨_, _, dp_upM del_le _ _ (D.dp a).1, dp_upM del_le _ _ (D.dp b).1, shaped_of (D.dp a).2 (Nat.le_trans (D.dep x) h), shaped_of (D.dp b).2 (Nat.le_trans (D.dep y) h), q _ H (Ex.refl _) (by
    show V.bl _ = V.bl _
    congr 1
    rw [Bool.eq_iff_iff, D.eq, decide_eq_true_iff])⟩
theorem o_neD {x y : α} [Decidable (x = y)] (D : Dq K t i) (h : i ≤ 64) : Op2 (rNeD K) t x t y kB (!decide (x = y)) := fun M v1 v2 H l a b Q q =>
  ⟨_, _, dp_upM del_le _ _ (D.dp a).1, dp_upM del_le _ _ (D.dp b).1, shaped_of (D.dp a).2 (Nat.le_trans (D.dep x) h), shaped_of (D.dp b).2 (Nat.le_trans (D.dep y) h), q _ H (Ex.refl _) (by
    show V.bl _ = V.bl _
    congr 2
    rw [Bool.eq_iff_iff, D.eq, decide_eq_true_iff])⟩
end
end Rw
namespace Rw
open PySem PySem.Spec PyProof.Rows L2 Evl Cy
/-! ### dice -/
abbrev Dice := Int × Int × Int
def roll (x : Dice) (m : Int) : Int × Dice :=
  if (decide (x.2.2 = 2) || (decide (x.2.2 = 1) && decide (0 < x.1))) = true then (x.1 % m, (x.1 / m, x.2.1, x.2.2))
  else (((x.1 * 48271 + x.2.1 * 69621 + 11) % 2147483647 / 7 + (x.1 * 48271 + x.2.1 * 69621 + 11) % 2147483647) % m, ((x.1 * 48271 + x.2.1 * 69621 + 11) % 2147483647, x.2.1 + 1, 0))
theorem roll_in (x : Dice) {m : Int} (h : 0 < m) : 0 ≤ (roll x m).1 ∧ (roll x m).1 < m := by
  unfold roll
  split
  · exact ⟨Int.emod_nonneg _ (by omega), Int.emod_lt_of_pos _ h⟩
  · exact ⟨Int.emod_nonneg _ (by omega), Int.emod_lt_of_pos _ h⟩
def spRollX : Sp := fun vs H Q _ => ∃ (d : Addr) (x : Dice) (m : Int), vs = [.ref d, .int m] ∧ H d = some (.lst [.int x.1, .int x.2.1, .int x.2.2]) ∧ 0 < m ∧ m < 1000000 ∧
  ∀ H', ExB d H H' → H' d = some (.lst [.int (roll x m).2.1, .int (roll x m).2.2.1, .int (roll x m).2.2.2]) → Q (.int (roll x m).1) H'
/-- a plain def's promise: it changes nothing -/
def spD {α β : Type} (A : AR α) (pre : α → Prop) (f : α → Re β) (t : Ty β) (cl : Nat → Addr) : Sp := fun vs H Q E => ∃ M a, (∀ m ∈ M, H m ≠ none) ∧ A (del M H) vs a ∧ pre a ∧
  (∀ y v H', f a = .ok y → Ex H H' → t.r (del M H') v y → Q v H') ∧ (∀ k H', f a = .er k → Ex H H' → E (.ref (cl k)) none H')
/-- a def's promise that rolls the dice that it is given first -/
def spR {α β : Type} (A : AR α) (pre : α → Prop) (f : α → Dice → β × Dice) (t : Ty β) : Sp := fun vs H Q _ => ∃ M d x ws a, vs = .ref d :: ws ∧ d ∈ M ∧ (∀ m ∈ M, H m ≠ none) ∧ M.Nodup ∧ H d = some (.lst [.int x.1, .int x.2.1, .int x.2.2]) ∧ A (del M H) ws a ∧ pre a ∧
  ∀ v H', Ex (del [d] H) (del [d] H') → H' d = some (.lst [.int (f a x).2.1, .int (f a x).2.2.1, .int (f a x).2.2.2]) → t.r (del M H') v (f a x).1 → Q v H'
section
variable {K : PySem.W.Frag} {α β γ δ R τ : Type} {E E' : XK} {cl : Nat → Addr} {M : List Addr} {σ : L2.St} {I I' H H' : Hp} {S S' S1 S2 S3 : List Cell} {te ta tb tc to : TE} {tt : TT} {tr : TA} {t : Ty α} {u : Ty β} {w' : Ty γ} {x : α} {y : β} {v : V} {xs : List α}
theorem em_call {A : AR α} {B : AR γ} {a : α} {a' : γ} {pre : α → Prop} {f : α → Re β} {dvs : List V} (ha : Ea E cl M tr σ I S B (.ok a') S1) (hA : ∀ H vs, B H vs a' → A H (vs ++ dvs) a) (hp : pre a) : Em E cl M (tCall (spD A pre f u cl) dvs E tr) σ I S u (f a) S1 :=
  ⟨ha.ad, fun H1 i w Q q qe => ea_of ha H1 i w _ fun vs H2 e w2 r => ⟨M, a, w2.live, hA _ _ r, hp, fun y v H3 ey e3 r3 => q y v H3 ey (e.trans (ex_del e3)) (w2.ex e3) r3, fun k H3 ek e3 => qe k H3 ek (e.trans (ex_del e3)) (w2.ex e3)⟩⟩
/-- where it raises nothing -/
theorem em_callP {A : AR α} {B : AR γ} {a : α} {a' : γ} {pre : α → Prop} {f : α → Re β} {dvs : List V} (ha : Ea E cl M tr σ I S B (.ok a') S1) (hA : ∀ H vs, B H vs a' → A H (vs ++ dvs) a) (hp : pre a) (hy : f a = .ok y) : Em E cl M (tCall (spD A pre f u cl) dvs E' tr) σ I S u (.ok y) S1 :=
  em_mk ha.ad fun H1 i w Q q => ea_of ha H1 i w _ fun vs H2 e w2 r => ⟨M, a, w2.live, hA _ _ r, hp, fun y' v H3 ey e3 r3 => q v H3 (e.trans (ex_del e3)) (w2.ex e3) (by rw [hy] at ey; cases ey; exact r3), fun k H3 ek e3 => by rw [hy] at ek; cases ek⟩
theorem args_id {A : AR α} {a : α} : ∀ (H : Hp) (vs : List V), A H vs a → A H (vs ++ []) a := fun H vs h => by rw [List.append_nil]; exact h
/-- an object of a class of the program's own -/
def Ob (t : Ty α) (C : Addr) (m : Str) : Prop := ∀ H v x, t.r H v x → ∃ a dx fs, v = .ref a ∧ H a = some (.ins C dx fs) ∧ fs.lookup m = none
theorem em_meth {C : Addr} {m : Str} {A : AR (α × β)} {B : AR γ} {b : β} {b' : γ} {pre : α × β → Prop} {f : α × β → Re δ} {u : Ty δ} {dvs : List V} (ho : Em E cl M to σ I S t (.ok x) S1) (ob : Ob t C m) (ha : Ea E cl M tr σ I S1 B (.ok b') S2) (hA : ∀ H v vs, t.r H v x → B H vs b' → A H (v :: (vs ++ dvs)) (x, b)) (hp : pre (x, b)) : Em E cl M (tMeth C m (spD A pre f u cl) dvs E to tr) σ I S u (f (x, b)) S2 :=
  ⟨ha.ad.trans ho.ad, fun H1 i w Q q qe => em_of ho H1 i w _ fun v H2 e w2 r => by
    obtain ⟨a, dx, fs, rfl, ha1, hl⟩ := ob _ _ _ r
    refine ⟨a, dx, fs, rfl, (del_some.mp ha1).2, hl, ea_of ha H2 (i.trans (w.grow e)) w2 _ fun vs H3 e3 w3 r3 => ⟨M, (x, b), w3.live, hA _ _ _ (t.up (w2.grow e3) r) r3, hp, fun y v H4 ey e4 r4 => q y v H4 ey ((ads_tr ho.ad e e3).trans (ex_del e4)) (w3.ex e4) r4, fun k H4 ek e4 => qe k H4 ek ((ads_tr ho.ad e e3).trans (ex_del e4)) (w3.ex e4)⟩⟩⟩
theorem em_methP {C : Addr} {m : Str} {A : AR (α × β)} {B : AR γ} {b : β} {b' : γ} {pre : α × β → Prop} {f : α × β → Re δ} {u : Ty δ} {dvs : List V} {y : δ} (ho : Em E cl M to σ I S t (.ok x) S1) (ob : Ob t C m) (ha : Ea E cl M tr σ I S1 B (.ok b') S2) (hA : ∀ H v vs, t.r H v x → B H vs b' → A H (v :: (vs ++ dvs)) (x, b)) (hp : pre (x, b)) (hy : f (x, b) = .ok y) : Em E cl M (tMeth C m (spD A pre f u cl) dvs E' to tr) σ I S u (.ok y) S2 :=
  em_mk (ha.ad.trans ho.ad) fun H1 i w Q q => em_of ho H1 i w _ fun v H2 e w2 r => by
    obtain ⟨a, dx, fs, rfl, ha1, hl⟩ := ob _ _ _ r
    refine ⟨a, dx, fs, rfl, (del_some.mp ha1).2, hl, ea_of ha H2 (i.trans (w.grow e)) w2 _ fun vs H3 e3 w3 r3 => ⟨M, (x, b), w3.live, hA _ _ _ (t.up (w2.grow e3) r) r3, hp, fun y v H4 ey e4 r4 => q v H4 ((ads_tr ho.ad e e3).trans (ex_del e4)) (w3.ex e4) (by rw [hy] at ey; cases ey; exact r4), fun k H4 ek e4 => by rw [hy] at ek; cases ek⟩⟩
theorem exb_del {d : Addr} : ExB d H H' ↔ Ex (del [d] H) (del [d] H') :=
  ⟨fun h a o e => del_some.mpr ⟨(del_some.mp e).1, h a o (fun z => (del_some.mp e).1 (by rw [z]; exact List.mem_singleton.mpr rfl)) (del_some.mp e).2⟩, fun h a o n e => (del_some.mp (h a o (del_some.mpr ⟨fun z => n (List.mem_singleton.mp z), e⟩))).2⟩
/-- the dice at n of what may change are rolled -/
theorem dice_put {n : Nat} {d : Addr} {z z' : Dice} (w : Holds M S H) (hk : S[n]? = some (cDice d z)) (e : ExB d H H') (hd : H' d = some (.lst [.int z'.1, .int z'.2.1, .int z'.2.2])) : Holds M (S.set n (cDice d z')) H' ∧ Ex (del (ads S) H) (del (ads S) H') := by
  have dS : d ∈ ads S := List.mem_map.mpr ⟨_, List.mem_of_getElem? hk, rfl⟩
  have dM : d ∈ M := w.sub d dS
  have ee : Ex (del (ads S) H) (del (ads S) H') := ex_sub (A := [d]) (fun a h => by rw [List.mem_singleton.mp h]; exact dS) (exb_del.mp e)
  refine ⟨?_, ee⟩
  have w1 : Holds M (S.set n (cDice d z')) (upd H d (.lst [.int z'.1, .int z'.2.1, .int z'.2.2])) := w.put hk rfl rfl
  refine w1.ex fun a o h => ?_
  by_cases ha : a = d
  · rw [ha] at h ⊢
    rw [upd_same] at h
    rw [hd]
    exact h
  · rw [upd_ne ha] at h
    exact e a o ha h
theorem em_roll {n : Nat} {d : Addr} {z : Dice} {m : Int} (h : Ea E cl M tr σ I S (aC (kPtr d) (aC kI a0)) (.ok ((), m, ())) S') (hk : S'[n]? = some (cDice d z)) (hm : 0 < m ∧ m < 1000000) : Em E cl M (tCall spRollX [] E' tr) σ I S kI (.ok (roll z m).1) (S'.set n (cDice d (roll z m).2)) :=
  em_mk ((ads_set (c' := cDice d (roll z m).2) hk rfl).trans h.ad) fun H1 i w Q q => ea_of h H1 i w _ fun vs H2 e w2 r => by
    obtain ⟨v1, r1, rfl, g1, v2, r2, rfl, g2, rfl⟩ := r
    obtain rfl : v1 = .ref d := g1
    obtain rfl : v2 = .int m := g2
    obtain ⟨_, o, h2, ro⟩ := w2.at_ _ (List.mem_of_getElem? hk)
    obtain rfl : o = .lst [.int z.1, .int z.2.1, .int z.2.2] := ro
    refine ⟨d, z, m, rfl, h2, hm.1, hm.2, fun H3 e3 h3 => ?_⟩
    obtain ⟨w3, x3⟩ := dice_put w2 hk e3 h3
    exact q _ H3 (ads_tr h.ad e x3) w3 rfl
theorem em_callR {n : Nat} {d : Addr} {z : Dice} {A : AR α} {B : AR γ} {a : α} {a' : γ} {pre : α → Prop} {f : α → Dice → β × Dice} {dvs : List V} (h : Ea E cl M tr σ I S (aC (kPtr d) B) (.ok ((), a')) S') (hA : ∀ H vs, B H vs a' → A H (vs ++ dvs) a) (hk : S'[n]? = some (cDice d z)) (hp : pre a) (mn : M.Nodup) : Em E cl M (tCall (spR A pre f u) dvs E' tr) σ I S u (.ok (f a z).1) (S'.set n (cDice d (f a z).2)) :=
  em_mk ((ads_set (c' := cDice d (f a z).2) hk rfl).trans h.ad) fun H1 i w Q q => ea_of h H1 i w _ fun vs H2 e w2 r => by
    obtain ⟨v1, r1, rfl, g1, g2⟩ := r
    obtain rfl : v1 = .ref d := g1
    obtain ⟨dM, o, h2, ro⟩ := w2.at_ _ (List.mem_of_getElem? hk)
    obtain rfl : o = .lst [.int z.1, .int z.2.1, .int z.2.2] := ro
    refine ⟨M, d, z, r1 ++ dvs, a, rfl, dM, w2.live, mn, h2, hA _ _ g2, hp, fun v H3 e3 h3 r3 => ?_⟩
    obtain ⟨w3, x3⟩ := dice_put w2 hk (exb_del.mpr e3) h3
    exact q _ H3 (ads_tr h.ad e x3) w3 r3
end
/-! ### calendars -/
def kCal (K : PySem.W.Frag) (C : Addr) : Ty Ca := ⟨fun H v c => ∃ a, v = .ref a ∧ CalP K C H a c ∧ Small c, fun e ⟨a, h1, h2, h3⟩ => ⟨a, h1, h2.ex e, h3⟩⟩
section
variable {K : PySem.W.Frag} {α β γ δ R τ : Type} {E E' : XK} {cl : Nat → Addr} {M : List Addr} {σ : L2.St} {I I' H H' : Hp} {S S' S1 S2 S3 : List Cell} {te ta tb tc to : TE} {tt : TT} {tr : TA} {t : Ty α} {u : Ty β} {C : Addr} {c : Ca} {y : β}
/-- what an old promise hands back, in a kind -/
def RsT (K : PySem.W.Frag) (r : Rs) (u : Ty β) (y : β) : Prop := match r with
  | .ok z => ∀ H, u.r H z y
  | .tup zs => ∀ H p, SqT K H p zs → u.r H (.ref p) y
  | .lst zs => ∀ H p, SqL K H p zs → u.r H (.ref p) y
  | _ => False
theorem em_oldG {f : Ca → List V → Option Rs} {r : Rs} {ws dvs : List V} {B : AR γ} {b : γ} (h : Ea E cl M tr σ I S (aC (kCal K C) B) (.ok (c, b)) S') (hB : ∀ H vs, B H vs b → vs = ws) (hf : f c (ws ++ dvs) = some r) (hr : RsT K r u y) : Em E cl M (tCall (spM K C cl f) dvs E' tr) σ I S u (.ok y) S' :=
  em_mk h.ad fun H1 i w Q q => ea_of h H1 i w _ fun vs H2 e w2 r2 => by
    obtain ⟨v, rs, rfl, ⟨a, rfl, hc, hs⟩, hb⟩ := r2
    obtain rfl := hB _ _ hb
    have hc2 : CalP K C H2 a c := hc.ex del_le
    refine ⟨a, c, rs ++ dvs, r, rfl, hc2, hs, hf, ?_⟩
    cases r with
    | ok z => exact fun H3 e3 => q z H3 (e.trans (ex_del e3)) (w2.ex e3) (hr _)
    | tup zs => exact fun p H3 hp e3 h3 => q _ H3 (e.trans (ex_del e3)) (w2.ex e3) (hr _ p (st_of (del_at (fresh_not w2.live hp) h3)))
    | lst zs => exact fun p H3 hp e3 h3 => q _ H3 (e.trans (ex_del e3)) (w2.ex e3) (hr _ p (sq_of (del_at (fresh_not w2.live hp) h3)))
    | err k => exact hr.elim
theorem em_oldM {m : Str} {f : Ca → List V → Option Rs} {r : Rs} {ws dvs : List V} {B : AR γ} {b : γ} (ho : Em E cl M to σ I S (kCal K C) (.ok c) S1) (h : Ea E cl M tr σ I S1 B (.ok b) S') (hB : ∀ H vs, B H vs b → vs = ws) (hm : ∀ tm ty dl ts, (calF c tm ty dl ts).lookup m = none) (hf : f c (ws ++ dvs) = some r) (hr : RsT K r u y) : Em E cl M (tMeth C m (spM K C cl f) dvs E' to tr) σ I S u (.ok y) S' :=
  em_mk (h.ad.trans ho.ad) fun H1 i w Q q => em_of ho H1 i w _ fun v H2 e w2 r2 => by
    obtain ⟨a, rfl, hc, hs⟩ := r2
    have hc2 : CalP K C H2 a c := hc.ex del_le
    obtain ⟨dx, tm, ty, dl, ts, kvs, st, h1, hrest⟩ := hc2
    refine ⟨a, dx, _, rfl, h1, hm _ _ _ _, ea_of h H2 (i.trans (w.grow e)) w2 _ fun vs H3 e3 w3 r3 => ?_⟩
    obtain rfl := hB _ _ r3
    have hc3 : CalP K C H3 a c := (hc.ex (w2.grow e3)).ex del_le
    refine ⟨a, c, vs ++ dvs, r, rfl, hc3, hs, hf, ?_⟩
    cases r with
    | ok z => exact fun H4 e4 => q z H4 ((ads_tr ho.ad e e3).trans (ex_del e4)) (w3.ex e4) (hr _)
    | tup zs => exact fun p H4 hp e4 h4 => q _ H4 ((ads_tr ho.ad e e3).trans (ex_del e4)) (w3.ex e4) (hr _ p (st_of (del_at (fresh_not w3.live hp) h4)))
    | lst zs => exact fun p H4 hp e4 h4 => q _ H4 ((ads_tr ho.ad e e3).trans (ex_del e4)) (w3.ex e4) (hr _ p (sq_of (del_at (fresh_not w3.live hp) h4)))
    | err k => exact hr.elim
end
end Rw
namespace Rw
open PySem PySem.Spec PyProof.Rows L2 Evl
section
variable {X : Cx} {pins : List (Addr × Obj)} {σ : L2.St} {H : Hp} {s : Shared}
/-- lambda: body -/
def tLamC (T : List (Addr × Str)) (P : Addr) (q : Str) (params : Arguments) (body : Expr) (scope : Scope) (cells : List (Str × Addr)) : TE := fun _ H Q => LamX.Tabs T H ∧
  ∀ f cc H1, H f = none → ExB P H H1 → LamX.Tabs T H1 → H1 f = some (LamC f q params body scope cells cc) → H1 cc = some (LamX.CodeO cc q) → Q (.ref f) H1
theorem pe_lamC {T : List (Addr × Str)} {c P : Addr} {params : Arguments} {body : Expr} {scope : Scope} {pos : Pos} (L : LamX.LamS X.env.scope scope) (TB : LamX.TabB X.base X.mg c P) (codeX : X.env.code = .ref c)
    (inT : (P, X.env.qual ++ "<lambda>") ∈ T) (oneT : ∀ p ∈ T, p.1 = P → p.2 = X.env.qual ++ "<lambda>") (nodef : defaultsOf params X.env = ([], [])) :
    PE X (.Lambda params body scope pos) (tLamC T P (X.env.qual ++ "<lambda>") params body scope (cloFrom X.env.cells scope.names [])) := by
  refine ⟨fun pins s σ H Q I h => ?_⟩
  obtain ⟨tabs0, h⟩ := h
  obtain ⟨trs, atP, okP, allP⟩ := tabs0 _ inT
  generalize hclo : cloFrom X.env.cells scope.names [] = CL at h ⊢
  have frees := L.has I.ok
  refine PySem.W.kla_eval nodef ?_
  have bltP : s.heap.BuiltinsAt X.mg P := TB.bm.keeps I.bk
  have heapP : s.heap.get? P = some { cls := .none, data := .fields trs } := I.hok P _ atP
  cases among : codeAmong pos trs.toList with
  | none =>
    refine PySem.W.kla_makeFunction (mg := X.mg) (c := c) (P := P) (ps := trs) (closure_ok frees) I.ok.glob (I.mod.glob.keeps I.bk) codeX (TB.code.keeps I.bk) heapP okP among TB.gP bltP fun cc tv hp tt kept ge0 lt0 rec0 tab0 => ?_
    rw [hclo]
    obtain ⟨c2, co, fs, t, f2, coAt, coData, coQual⟩ := rec0
    cases f2
    have ge1 : s.heap.objs.size ≤ hp.objs.size := Nat.le_trans ge0 (Nat.le_of_lt lt0)
    have newC : H cc = none := I.hok.fresh ge0
    have J1 := LamX.inv_table (t' := tt) (more := #[rawInt pos.line, rawInt pos.col, .ref cc]) (h' := hp) I atP kept tab0 ge0 ⟨co, fs, t, coAt, coData, coQual⟩
    have extH : ExB P H (upd (upd H P (.tbl (trs ++ #[rawInt pos.line, rawInt pos.col, .ref cc]))) cc (LamX.CodeO cc (X.env.qual ++ "<lambda>"))) := fun b o n e => by
      rw [upd_ne (ne_of_none e newC), upd_ne n]
      exact e
    have snocL : (trs ++ #[rawInt pos.line, rawInt pos.col, .ref cc]).toList = trs.toList ++ [rawInt pos.line, rawInt pos.col, .ref cc] := by simp
    have tabs1 : LamX.Tabs T (upd (upd H P (.tbl (trs ++ #[rawInt pos.line, rawInt pos.col, .ref cc]))) cc (LamX.CodeO cc (X.env.qual ++ "<lambda>"))) := fun p hp => by
      by_cases isP : p.1 = P
      · rw [oneT p hp isP, isP]
        refine ⟨_, by rw [upd_ne (ne_of_none atP newC), upd_same], by rw [snocL]; exact PySem.TriplesOk_snoc _ _ _ _ okP, fun pp cd find => ?_⟩
        rw [snocL] at find
        rcases LamX.among_app _ okP find with z | z
        · obtain ⟨c9, f1, f2⟩ := allP pp cd z
          exact ⟨c9, f1, extH _ _ (fun z => LamX.codeO_ne _ (Option.some.inj ((f2.symm.trans (by rw [z])).trans atP))) f2⟩
        · exact ⟨cc, z, upd_same⟩
      · obtain ⟨trs', t1, t2, t3⟩ := tabs0 p hp
        refine ⟨trs', by rw [upd_ne (ne_of_none t1 newC), upd_ne isP]; exact t1, t2, fun pp cd find => ?_⟩
        obtain ⟨c9, f1, f2⟩ := t3 pp cd find
        exact ⟨c9, f1, extH _ _ (fun z => LamX.codeO_ne _ (Option.some.inj ((f2.symm.trans (by rw [z])).trans atP))) f2⟩
    -- the function object
    have objF : (hp.push (PySem.W.kla_obj "<lambda>" (X.env.qual ++ "<lambda>") params body scope CL ((X.mg "__name__").getD .none) cc tv)).get? hp.objs.size = some (PySem.W.kla_obj "<lambda>" (X.env.qual ++ "<lambda>") params body scope CL ((X.mg "__name__").getD .none) cc tv) := Heap.get?_push_size _ rfl
    generalize eqH1 : (upd (upd H P (.tbl (trs ++ #[rawInt pos.line, rawInt pos.col, .ref cc]))) cc (LamX.CodeO cc (X.env.qual ++ "<lambda>"))) = H1 at J1 extH tabs1
    have newF : H1 hp.objs.size = none := J1.hok.fresh (Nat.le_refl _)
    have J2 := Inv.laid (a := hp.objs.size) (o := LamC hp.objs.size (X.env.qual ++ "<lambda>") params body scope CL cc) (t' := tt) (h' := hp.push (PySem.W.kla_obj "<lambda>" (X.env.qual ++ "<lambda>") params body scope CL ((X.mg "__name__").getD .none) cc tv)) J1 (fun b u e => Heap.get?_push_of_some _ e) (Nat.le_refl _)
      ⟨⟨_, _, objF⟩, ⟨_, objF⟩, fun h1 h2 ⟨pm, ct, e⟩ st => ⟨pm, ct, st _ e⟩⟩
    have extH2 : ExB P H (upd H1 hp.objs.size (LamC hp.objs.size (X.env.qual ++ "<lambda>") params body scope CL cc)) := fun b o n e => by
      rw [upd_ne (ne_of_none (extH b o n e) newF)]
      exact extH b o n e
    have atC : H1 cc = some (LamX.CodeO cc (X.env.qual ++ "<lambda>")) := by rw [← eqH1]; exact upd_same
    refine ⟨.ref hp.objs.size, _, J2, rfl, h hp.objs.size cc _ (I.hok.fresh ge1) extH2 (tabs1.ext fun b o e => by rw [upd_ne (ne_of_none e newF)]; exact e) upd_same ?_⟩
    rw [upd_ne (ne_of_none atC newF)]
    exact atC
  | some cd =>
    obtain ⟨cc, e, oldC⟩ := allP pos cd among
    subst e
    refine PySem.W.kla_makeFunctionHit (mg := X.mg) (c := c) (P := P) (ps := trs) (closure_ok frees) I.ok.glob (I.mod.glob.keeps I.bk) codeX (TB.code.keeps I.bk) heapP okP among bltP fun tv hp tt kept ge1 => ?_
    rw [hclo]
    have objF : (hp.push (PySem.W.kla_obj "<lambda>" (X.env.qual ++ "<lambda>") params body scope CL ((X.mg "__name__").getD .none) cc tv)).get? hp.objs.size = some (PySem.W.kla_obj "<lambda>" (X.env.qual ++ "<lambda>") params body scope CL ((X.mg "__name__").getD .none) cc tv) := Heap.get?_push_size _ rfl
    have newF : H hp.objs.size = none := I.hok.fresh ge1
    have J2 := Inv.laid (a := hp.objs.size) (o := LamC hp.objs.size (X.env.qual ++ "<lambda>") params body scope CL cc) (t' := tt) (h' := hp.push (PySem.W.kla_obj "<lambda>" (X.env.qual ++ "<lambda>") params body scope CL ((X.mg "__name__").getD .none) cc tv)) I (fun b u e => Heap.get?_push_of_some _ (kept b u e)) ge1
      ⟨⟨_, _, objF⟩, ⟨_, objF⟩, fun h1 h2 ⟨pm, ct, e⟩ st => ⟨pm, ct, st _ e⟩⟩
    have extH2 : ∀ b o, H b = some o → upd H hp.objs.size (LamC hp.objs.size (X.env.qual ++ "<lambda>") params body scope CL cc) b = some o := fun b o e => by
      rw [upd_ne (ne_of_none e newF)]
      exact e
    exact ⟨.ref hp.objs.size, _, J2, rfl, h hp.objs.size cc _ newF (ExB.of extH2) (tabs0.ext extH2) upd_same (extH2 _ _ oldC)⟩

end
/-! ### a comprehension whose block is told where it was entered -/
/-- from within the block back to the def around it -/
theorem out_of {X : Cx} {pins p2 : List (Addr × Obj)} {σ σ2 : L2.St} {H H2 : Hp} {s s2 : Shared} {scope : Scope} {ce : Env} {fp : List Addr} (I : Inv X pins σ H s) (ok : ∀ b ∈ fp, FpOk X pins H b) (J : Inv (X.blk s H scope ce fp) p2 σ2 H2 s2) : Inv X pins σ H2 s2 :=
  I.call' (ch := fp) J.os J.base J.hok J.bare fun b hb => let ⟨_, f1, _, f3, f4, f5⟩ := ok b hb; ⟨f3, f1, f4, f5⟩
def tLcK (wi : TI) (g : TG) (tt : L2.St → TT) (te : L2.St → TE) (vs : List Nat) : TE := fun σ H Q => tLc wi g (tt σ) (te σ) vs σ H Q
section
variable {X : Cx}
theorem pe_lcK {elt tg iter : Expr} {ifs : List Expr} {scope : Scope} {own : List (Str × Nat)} {pos : Pos} {wi : TI} {g : TG} {tt : L2.St → TT} {te : L2.St → TE} (hc : X.calm = true) (nd : X.N.Nodup) (hi : PI X tg iter wi) (ok : BlkOk X.N X.env.scope scope own)
    (hg : ∀ (s : Shared) (H : Hp) (C : Addr) (cl : List (Str × Addr)) (fp : List Addr), PG (X.blk s H scope (compEnvC scope cl C X.env) fp) tg g)
    (ht : ∀ (pins : List (Addr × Obj)) (σ : L2.St) (s : Shared) (H : Hp) (C : Addr) (cl : List (Str × Addr)) (fp : List Addr), Inv X pins σ H s → (∀ b ∈ fp, FpOk X pins H b) → PTs (X.blk s H scope (compEnvC scope cl C X.env) fp) ifs (tt σ))
    (he : ∀ (pins : List (Addr × Obj)) (σ : L2.St) (s : Shared) (H : Hp) (C : Addr) (cl : List (Str × Addr)) (fp : List Addr), Inv X pins σ H s → (∀ b ∈ fp, FpOk X pins H b) → PE (X.blk s H scope (compEnvC scope cl C X.env) fp) elt (te σ)) (hs : ∀ x, foldedSetIterable iter X.env x = pure x := by intro _; rfl) :
    PE X (.ListComp elt [⟨tg, iter, ifs, 0⟩] scope pos) (tLcK wi g tt te (own.map (·.2))) := by
  refine ⟨fun ps s0 σ H0 Q I0 want => ?_⟩
  rw [eval_ListComp]
  have caught : ∀ y ∈ scope.names, y.2 = .free → ∃ c, X.env.cells.lookup y.1 = some c := fun y hy e => (ok.free y hy e).elim (fun k => I0.ok.has _ (.inl k)) fun k => I0.ok.has _ (.inr k)
  refine wpAny_comprehension_free (use := none) rfl hs (closure_ok caught) ok.kind (fun y hy e => by rw [ok.uniq y hy, e]) (thn (hi.run ps s0 σ H0 _ I0 want) fun src s1 h1 => thn h1 fun itr s2 h2 => ?_)
  obtain ⟨it, fp, tn, J, Hi, rfl, Ii, T, at0, fi, more⟩ := h2
  refine wpAny_newObj_type (newEnv_comp ?_) (by show 0 ≤ sizeLine; decide)
  generalize eqD : s2.heap.objs.size = D
  have isnew : Hi D = none := Ii.hok.fresh (Nat.le_of_eq eqD)
  obtain ⟨W, ⟨m0, w0⟩, turn⟩ := more D isnew
  generalize eqs : ({ s2 with heap := s2.heap.push { cls := .type "list", data := .seq ([] : List Value).toArray } } : Shared) = sl
  have hl : sl.heap = s2.heap.push { cls := .type "list", data := .seq ([] : List Value).toArray } := by rw [← eqs]
  have Il : Inv X ps σ (upd Hi D (.lst [])) sl := by
    rw [← eqs]
    exact Ii.laid (t' := s2.toks) (fun b o e => Heap.get?_push_of_some _ e) (Nat.le_of_eq eqD) ⟨Nat.zero_le _, [], 0, .nil, by rw [← eqD]; exact Heap.get?_push_size _ rfl⟩
  have low : ∀ b ∈ fp, b < s2.heap.objs.size := fun b hb => let ⟨_, e, _⟩ := T.obj _ _ at0 b hb; Heap.lt_size e
  have fl : ∀ b ∈ fp, FpOk X ps (upd Hi D (.lst [])) b := fun b hb => ⟨by rw [upd_ne (by rw [← eqD]; exact Nat.ne_of_lt (low b hb))]; exact (fi b hb).1, (fi b hb).2⟩
  have atl : tn 0 sl.heap := T.keep _ _ _ at0 fun b _ o e => by rw [hl]; exact Heap.get?_push_of_some _ e
  have Ib := block_start Il ok nd fun b hb => ⟨fl b hb, by rw [hl, Heap.size_push]; exact Nat.lt_succ_of_lt (low b hb)⟩
  have pg := hg sl (upd Hi D (.lst [])) sl.heap.objs.size (cellsFrom (sl.heap.objs.size + 1) scope.names (cloFrom X.env.cells scope.names [])) fp
  have pt := ht ps σ sl (upd Hi D (.lst [])) sl.heap.objs.size (cellsFrom (sl.heap.objs.size + 1) scope.names (cloFrom X.env.cells scope.names [])) fp Il fl
  have pe := he ps σ sl (upd Hi D (.lst [])) sl.heap.objs.size (cellsFrom (sl.heap.objs.size + 1) scope.names (cloFrom X.env.cells scope.names [])) fp Il fl
  show codeAny _ _ (.compStart _ 0 (.ref it) (.ref D) (compEnvC scope (cellsFrom (sl.heap.objs.size + 1) scope.names (cloFrom X.env.cells scope.names [])) sl.heap.objs.size X.env)) (compPost (model X.prog X.w) X.A X.xe none (EP X ps σ Q) (.ref D) sl.heap.objs.size) _
  generalize eqce : compEnvC scope (cellsFrom (sl.heap.objs.size + 1) scope.names (cloFrom X.env.cells scope.names [])) sl.heap.objs.size X.env = ce at Ib pg pt pe ⊢
  have locs : ce.locals = sl.heap.objs.size := by rw [← eqce]; rfl
  generalize eqH : upd Hi D (.lst []) = Hl at Il Ib pg pt pe w0 fl
  generalize eqb : ({ sl with heap := pushCells (sl.heap.push { cls := .type "dict", data := .dict #[] }) scope.names } : Shared) = sb at Ib ⊢
  have atb : tn 0 sb.heap := T.keep _ _ _ atl fun b _ o e => by rw [← eqb]; exact pushCells_keeps _ _ _ _ (Heap.get?_push_of_some _ e)
  have still : ∀ {σ' : L2.St} {H' : Hp} {s' : Shared}, Inv (X.blk sl Hl scope ce fp) [] σ' H' s' → (∀ b ∈ fp, H' b = none) → ∀ b ∈ fp, FpOk (X.blk sl Hl scope ce fp) [] H' b := fun I' n b hb =>
    ⟨n b hb, (I'.ok.exf b hb).1, I'.ok.exfs b hb, .inl hb, fun x c e => (I'.ok.exf b hb).2 x c e, fun p hp => by simp at hp⟩
  refine codeAny_compStart_list ?go (T.self X.A 0 _ _ _ atb ?go)
  refine compLoop_any (fun n s' => ∃ i H', Inv (X.blk sl Hl scope ce fp) [] (wipe σ (own.map (·.2))) H' s' ∧ tn i s'.heap ∧ (∀ b ∈ fp, H' b = none) ∧ W i n H') (fun n s5 ⟨i, H5, I5, at5, n5, w5⟩ => ?_) m0 ⟨0, Hl, Ib, atb, fun b hb => (fl b hb).1, w0⟩
  rcases turn i n H5 w5 with ⟨stop, qq⟩ | ⟨go, Nx, falls, step⟩
  · refine thnF (T.done (X.blk sl Hl scope ce fp) rfl rfl rfl hc i [] s5 _ H5 (fun _ _ => False) I5 (still I5 n5) at5 stop) fun r s6 ⟨hr, I6⟩ => ?_
    subst hr
    have I7 : Inv X ps σ H5 s6 := out_of Il fl I6
    have nC : H5 sl.heap.objs.size = none := by rw [← locs]; exact I6.free
    obtain ⟨m, hn, _⟩ := I6.loc
    have hn : s6.heap.Ns ce.locals m := hn
    rw [locs] at hn
    refine ⟨m, hn, fun h'' sb' => ?_⟩
    obtain ⟨f0, f1, f2, f3, f4, f5⟩ : FpOk X ps H5 sl.heap.objs.size := Il.fpOk (Nat.le_refl _) nC
    exact ⟨.ref D, H5, I7.turned (t' := s6.toks) (fun b o hb e => (sb'.2 b hb).trans e) f0 f1 f3 f4 f5, rfl, qq⟩
  · refine thnF (T.item (X.blk sl Hl scope ce fp) rfl rfl rfl hc i [] s5 _ H5 (fun _ _ => False) I5 (still I5 n5) at5 go) fun r s6 ⟨u, hr, h6⟩ => ?_
    subst hr
    refine thnF h6 fun _ s7 ⟨x, H7, I7, r7, y7, at7, n7⟩ => ?_
    refine thnF (pg.run _ s7 _ H7 x u _ (I7.pinned (still I7 n7) (T.obj _ _ at7)) r7 (step x H7 y7)) fun _ s8 ⟨σ8, H8, I8, hw8, q8⟩ => ?_
    refine thnF (pt.run _ s8 σ8 H8 _ I8 q8) fun b s9 ⟨H9, I9, q9⟩ => ?_
    have fin : ∀ {s' : Shared} {H' : Hp}, Inv (X.blk sl Hl scope ce fp) ([] ++ pinsAt fp s7.heap) σ8 H' s' → Nx H' → ∃ m, m < n ∧ ∃ i H', Inv (X.blk sl Hl scope ce fp) [] (wipe σ (own.map (·.2))) H' s' ∧ tn i s'.heap ∧ (∀ b ∈ fp, H' b = none) ∧ W i m H' := fun {s' H'} I' nx => by
      obtain ⟨m', hm, w'⟩ := falls H' nx
      have pinned : ∀ b ∈ fp, ∀ o, s7.heap.get? b = some o → s'.heap.get? b = some o ∧ H' b = none := fun b hb o e => ⟨(I'.pin (b, o) (List.mem_append_right _ (List.mem_append_right _ (mem_pinsAt hb e)))).1, (I'.pin (b, o) (List.mem_append_right _ (List.mem_append_right _ (mem_pinsAt hb e)))).2.1⟩
      refine ⟨m', hm, i + 1, H', (I'.unpinned (pins := [])).weak (by rw [← hw8, wipe_length]) (fun j v e => (wipe_some (by rw [← hw8] at e; exact e)).1), T.keep _ _ _ at7 fun b hb o e => (pinned b hb o e).1, fun b hb => ?_, w'⟩
      obtain ⟨o, e, _⟩ := T.obj _ _ at7 b hb
      exact (pinned b hb o e).2
    cases b with
    | false => exact fin I9 (by simpa using q9)
    | true =>
      simp only [if_true] at q9 ⊢
      exact thnF (pe.run _ s9 σ8 H9 _ I9 q9) fun z s10 ⟨yv, H10, I10, r10, acc, hD10, hz10, nx⟩ => app_ok (X := X.blk sl Hl scope ce fp) I10 hD10 hz10 r10 fun s11 I11 => fin I11 nx
end
end Rw
namespace Rw
open PySem PySem.Spec PyProof.Rows L2 Evl
/-- _law_told(e) within a block, e a lambda of the def around it -/
def tToldB (X : Cx) (σ0 : L2.St) (c : Nat → Addr) (k : Nat) (ta : TA) : TE := fun σ H Q => ta σ H fun vs H1 => ∃ (f cc : Addr) (params : Arguments) (body : Expr) (scope : Scope) (t : XK → TE), vs = [.ref f] ∧ H1 f = some (LamC f (X.env.qual ++ "<lambda>") params body scope (cloFrom X.env.cells scope.names []) cc) ∧ H1 cc = some (LamX.CodeO cc (X.env.qual ++ "<lambda>")) ∧ LamX.LamS X.env.scope scope ∧
  (∀ (pm cv ctv : Value), bindArgs (PySem.W.kla_fn "<lambda>" (X.env.qual ++ "<lambda>") params body scope (cloFrom X.env.cells scope.names []) pm cv ctv) ⟨[], []⟩ = pure []) ∧
  (∀ (A : Around) (outer : List Env) (s : Shared) (H : Hp) (E : XK), Room k (A.deeper (LamX.lamEnv X scope s.heap.objs.size f cc)) → PE (LamX.lamCx X A outer s H E scope f cc) body (t E)) ∧ t (ETold c Q) σ0 H1 Q
theorem pe_toldB {X : Cx} {pins0 : List (Addr × Obj)} {σ0 : L2.St} {H0 : Hp} {s0 : Shared} {scopeB : Scope} {ceB : Env} {fp : List Addr} (I0 : Inv X pins0 σ0 H0 s0) (fpo : ∀ b ∈ fp, FpOk X pins0 H0 b) {c : Nat → Addr} {k : Nat} {g : Addr} {oc kV dc pm cdv ct : Value} {od an : Option Addr} {osl : Array (Option Value)} {p pos : Pos} {e : Expr} {ta : TA} (B : Exs X.K X.mg c) (hm : X.mg "_law_told" = some (.ref g)) (kp : PySem.W.keepIn X.K (.ref g) = true)
    (lk : X.K.lookup g = some ⟨oc, od, .func (PySem.W.fnOf "_law_told" "_law_told" (defArgs sTold) (defBody sTold) (defScope sTold) .none kV dc pm an cdv ct), osl⟩) (hcg : PySem.W.codeIn X.K cdv "_law_told" = true) (b : Binds X.K (PySem.W.fnOf "_law_told" "_law_told" (defArgs sTold) (defBody sTold) (defScope sTold) .none kV dc pm an cdv ct) ["what"] [])
    (room : Room (k + 2) X.A) (ha : PA (X.blk s0 H0 scopeB ceB fp) [e] ta) (hg : Gl (X.blk s0 H0 scopeB ceB fp) "_law_told" := by rfl) (he : starEach [e] ceB = (false, eval e ceB) :: starEach [] ceB := by rfl) (hpl : (backTo pos (starEach [] ceB)).any (·.1) = false := by rfl) :
    PE (X.blk s0 H0 scopeB ceB fp) (.Call (.Name "_law_told" p) [e] [] pos) (tToldB X σ0 c k ta) := by
  refine ⟨fun pins s σ H Q I h => ?_⟩
  refine wpAny_Call_Name_kw (ld_glob I hg hm ?_ (by decide))
  refine PySem.W.callWith_K (h₀ := X.base) I.ok.mod.kin kp (thn (ha.run pos pins s σ H _ I h) fun us s1 ⟨vs, H1, I1, r, q⟩ => ⟨I1.kIn, ?_⟩) he hpl
  obtain ⟨f, cc, params, body, scope, t, rfl, atf, atc, L, binds, runs, q⟩ := q
  have I1 : Inv (X.blk s0 H0 scopeB ceB fp) pins σ H1 s1 := I1
  have IX := out_of I0 fpo I1
  obtain rfl : us = [Value.ref f] := Vals.ref1 r
  have ran : codeAny (model X.prog X.w) X.A (.call (.ref g) ⟨[.ref f], []⟩) (CR (L2.CX X.prog X.w) X.stack X.prog X.w H1 s1 Q E0) s1 := by
    refine LamX.run_ofS (N := ["what"]) (ps := ["what"]) (us := [.ref f]) (vs := [.ref f]) lk hcg scTold room IX.env0 (b s1 [.ref f] IX.kIn rfl) (.cons rfl .nil) rfl fun room' => ?_
    refine ⟨_, pss_one (ps_try_many (tb := fun W D σZ HZ => ∃ E' : XK, (∀ cls d σ' H', E' cls d H' → W cls d σ' H') ∧ σZ[0]? = some (some (.ref f)) ∧ HZ f = some (LamC f (X.env.qual ++ "<lambda>") params body scope (cloFrom X.env.cells scope.names []) cc) ∧ HZ cc = some (LamX.CodeO cc (X.env.qual ++ "<lambda>")) ∧ t E' σ0 HZ D.rt) rfl rfl takes_none5
        (fun W pn xe tk _ => ⟨fun pz s' uz Hz D Iz h' => ?_⟩)
        (HdsOk.cons ⟨rfl, by decide, .inl (B.e 0 (by decide)).g⟩ (fun _ _ _ _ _ _ _ => pss_one (ps_ret pe_str)) (HdsOk.cons ⟨rfl, by decide, .inl (B.e 1 (by decide)).g⟩ (fun _ _ _ _ _ _ _ => pss_one (ps_ret pe_str)) (HdsOk.cons ⟨rfl, by decide, .inl (B.e 2 (by decide)).g⟩ (fun _ _ _ _ _ _ _ => pss_one (ps_ret pe_str)) (HdsOk.cons ⟨rfl, by decide, .inl (B.e 3 (by decide)).g⟩ (fun _ _ _ _ _ _ _ => pss_one (ps_ret pe_str)) (HdsOk.cons ⟨rfl, by decide, .inl (B.e 4 (by decide)).g⟩ (fun _ _ _ _ _ _ _ => pss_one (ps_ret pe_str)) (HdsOk.cons ⟨rfl, by decide, .inl (B.e 5 (by decide)).g⟩ (fun _ _ _ _ _ _ _ => pss_one (ps_ret pe_str)) (HdsOk.cons ⟨rfl, by decide, .inl (B.e 6 (by decide)).g⟩ (fun _ _ _ _ _ _ _ => pss_one (ps_ret pe_str)) (HdsOk.cons ⟨rfl, by decide, .inl (B.e 7 (by decide)).g⟩ (fun _ _ _ _ _ _ _ => pss_one (ps_ret pe_str)) (HdsOk.cons ⟨rfl, by decide, .inl (B.e 8 (by decide)).g⟩ (fun _ _ _ _ _ _ _ => pss_one (ps_ret pe_str)) (HdsOk.cons ⟨rfl, by decide, .inl (B.e 9 (by decide)).g⟩ (fun _ _ _ _ _ _ _ => pss_one (ps_ret pe_str)) (HdsOk.cons ⟨rfl, by decide, .inl (B.e 10 (by decide)).g⟩ (fun _ _ _ _ _ _ _ => pss_one (ps_ret pe_str)) (HdsOk.nil))))))))))))), ?_⟩
    · obtain ⟨E', hE, g1, g2, g3, g4⟩ := h'
      exact (pss_one (ps_ret (pe_actC (E := E') (i := 0) (k := k) IX L binds tk hE room' (fun A outer s H hr2 => runs A outer s H E' hr2) rfl (.inl rfl)))).run pz s' uz Hz D Iz ⟨g1, g2, g3, g4⟩
    · refine ⟨ETold c Q, fun cls d σ' H' hE => ?_, rfl, atf, atc, q⟩
      obtain ⟨i, hi, rfl, q⟩ := hE
      exact ⟨decide (i = 0), B.m i 0 hi (by omega), fun hb _ _ => (by obtain rfl : i = 0 := of_decide_eq_true hb; exact q), fun hb0 => (by have n0 := of_decide_eq_false hb0; exact ⟨decide (i = 1), B.m i 1 hi (by omega), fun hb _ _ => (by obtain rfl : i = 1 := of_decide_eq_true hb; exact q), fun hb1 => (by have n1 := of_decide_eq_false hb1; exact ⟨decide (i = 2), B.m i 2 hi (by omega), fun hb _ _ => (by obtain rfl : i = 2 := of_decide_eq_true hb; exact q), fun hb2 => (by have n2 := of_decide_eq_false hb2; exact ⟨decide (i = 3), B.m i 3 hi (by omega), fun hb _ _ => (by obtain rfl : i = 3 := of_decide_eq_true hb; exact q), fun hb3 => (by have n3 := of_decide_eq_false hb3; exact ⟨decide (i = 4), B.m i 4 hi (by omega), fun hb _ _ => (by obtain rfl : i = 4 := of_decide_eq_true hb; exact q), fun hb4 => (by have n4 := of_decide_eq_false hb4; exact ⟨decide (i = 5), B.m i 5 hi (by omega), fun hb _ _ => (by obtain rfl : i = 5 := of_decide_eq_true hb; exact q), fun hb5 => (by have n5 := of_decide_eq_false hb5; exact ⟨decide (i = 6), B.m i 6 hi (by omega), fun hb _ _ => (by obtain rfl : i = 6 := of_decide_eq_true hb; exact q), fun hb6 => (by have n6 := of_decide_eq_false hb6; exact ⟨decide (i = 7), B.m i 7 hi (by omega), fun hb _ _ => (by obtain rfl : i = 7 := of_decide_eq_true hb; exact q), fun hb7 => (by have n7 := of_decide_eq_false hb7; exact ⟨decide (i = 8), B.m i 8 hi (by omega), fun hb _ _ => (by obtain rfl : i = 8 := of_decide_eq_true hb; exact q), fun hb8 => (by have n8 := of_decide_eq_false hb8; exact ⟨decide (i = 9), B.m i 9 hi (by omega), fun hb _ _ => (by obtain rfl : i = 9 := of_decide_eq_true hb; exact q), fun hb9 => (by have n9 := of_decide_eq_false hb9; exact ⟨decide (i = 10), B.m i 10 hi (by omega), fun hb _ _ => (by obtain rfl : i = 10 := of_decide_eq_true hb; exact q), fun hb10 => (by have n10 := of_decide_eq_false hb10; exact (by omega : False).elim)⟩)⟩)⟩)⟩)⟩)⟩)⟩)⟩)⟩)⟩)⟩
  refine wpAny_call (codeAny_mono ran fun r s2 got => ?_)
  cases r with
  | error e => exact (passL (X := X.blk s0 H0 scopeB ceB fp)) pins σ H1 s1 e s2 I1 got
  | ok fl =>
    cases fl with
    | ret u => exact I1.after got
    | next => exact False.elim got
    | brk => exact False.elim got
    | cont => exact False.elim got
end Rw
namespace Rw
open PySem PySem.Spec PyProof.Rows L2 Evl Cy
section
variable {K : PySem.W.Frag} {α β γ δ R τ : Type} {E E' : XK} {cl : Nat → Addr} {M : List Addr} {σ : L2.St} {I I' H H' : Hp} {S S' S1 S2 S3 : List Cell} {te ta tb tc to : TE} {tt : TT} {tr : TA} {t : Ty α} {u : Ty β} {w' : Ty γ} {x : α} {y : β} {v : V} {xs : List α}
/-- one thing that may change is changed -/
theorem Holds.chg {n : Nat} {c c' : Cell} {o : HO} (w : Holds M S H) (hk : S[n]? = some c) (ha : c'.a = c.a) (e : ExB c.a H H') (hc : H' c.a = some o) (hr : c'.r (del M H') o c'.x) : Holds M (S.set n c') H' ∧ Ex (del (ads S) H) (del (ads S) H') := by
  have cS : c.a ∈ ads S := List.mem_map.mpr ⟨_, List.mem_of_getElem? hk, rfl⟩
  have cM : c.a ∈ M := w.sub _ cS
  have ee : Ex (del (ads S) H) (del (ads S) H') := ex_sub (A := [c.a]) (fun a h => by rw [List.mem_singleton.mp h]; exact cS) (exb_del.mp e)
  have em := w.grow ee
  have ea := ads_set hk ha
  refine ⟨⟨fun z hz => ?_, by rw [ea]; exact w.one, fun m hm => ?_⟩, ee⟩
  · obtain ⟨i, hi⟩ := List.mem_iff_getElem?.mp hz
    have lt : n < S.length := (List.getElem?_eq_some_iff.mp hk).1
    rw [List.getElem?_set] at hi
    by_cases h : n = i
    · subst h
      rw [if_pos rfl, if_pos lt] at hi
      obtain rfl := Option.some.inj hi
      exact ⟨by rw [ha]; exact cM, o, by rw [ha]; exact hc, hr⟩
    · rw [if_neg h] at hi
      obtain ⟨h1, u, h2, h3⟩ := w.at_ z (List.mem_of_getElem? hi)
      refine ⟨h1, u, e _ _ (fun q => ?_) h2, z.up em h3⟩
      have g1 : (ads S)[i]? = some z.a := by unfold ads; rw [List.getElem?_map, hi]; rfl
      have g2 : (ads S)[n]? = some c.a := by unfold ads; rw [List.getElem?_map, hk]; rfl
      rw [q] at g1
      have li : i < (ads S).length := (List.getElem?_eq_some_iff.mp g1).1
      exact h ((List.getElem?_inj li w.one).mp (g1.trans g2.symm)).symm
  · by_cases h : m = c.a
    · rw [h, hc]; exact fun z => nomatch z
    · cases g : H m with
      | none => exact absurd g (w.live m hm)
      | some o => rw [e m o h g]; exact fun z => nomatch z
theorem set_same {c : Cell} {n : Nat} (hk : S[n]? = some c) : S.set n c = S := by
  apply List.ext_getElem? fun i => ?_
  rw [List.getElem?_set]
  by_cases h : n = i
  · subst h
    rw [if_pos rfl, if_pos (List.getElem?_eq_some_iff.mp hk).1, hk]
  · rw [if_neg h]
/-! ### lambdas that are kept -/
/-- the table of a def's code, which lambdas fill -/
def cTab (P : Addr) (q : Str) : Cell := ⟨P, Unit, fun I o _ => ∃ ps : Array Value, o = .tbl ps ∧ TriplesOk ps.toList ∧ ∀ (pos : Pos) (cv : Value), codeAmong pos ps.toList = some cv → ∃ c, cv = .ref c ∧ I c = some (LamX.CodeO c q), fun e ⟨ps, a, b, c⟩ => ⟨ps, a, b, fun pos cv h => let ⟨z, g1, g2⟩ := c pos cv h; ⟨z, g1, e _ _ g2⟩⟩, ()⟩
/-- none of what may change is a code -/
def NoCode (M : List Addr) (S : List Cell) : Prop := (∀ m ∈ M, m ∈ ads S) ∧ ∀ c ∈ S, ∀ I o, c.r I o c.x → ∀ z q, o ≠ LamX.CodeO z q
theorem nc_nil : NoCode [] [] := ⟨fun _ h => h, fun c h => by cases h⟩
theorem nc_cons {c : Cell} (h : NoCode M S) (k : ∀ I o, c.r I o c.x → ∀ z q, o ≠ LamX.CodeO z q) : NoCode (c.a :: M) (c :: S) :=
  ⟨fun m hm => by rcases List.mem_cons.mp hm with z | z; exact List.mem_cons.mpr (.inl z); exact List.mem_cons_of_mem _ (h.1 m z), fun z hz => by rcases List.mem_cons.mp hz with e | e; rw [e]; exact k; exact h.2 z e⟩
theorem nc_dice {d : Addr} {z : Dice} : ∀ I o, (cDice d z).r I o (cDice d z).x → ∀ c q, o ≠ LamX.CodeO c q := fun I o h c q e => by
  obtain rfl : o = _ := h
  unfold LamX.CodeO at e
  cases e
theorem nc_tab {P : Addr} {p : Str} : ∀ I o, (cTab P p).r I o (cTab P p).x → ∀ c q, o ≠ LamX.CodeO c q := fun I o h c q e => by
  obtain ⟨ps, rfl, _⟩ := h
  exact LamX.codeO_ne _ e.symm
theorem nc_list {d : Addr} {z : List α} : ∀ I o, (cL d t z).r I o (cL d t z).x → ∀ c q, o ≠ LamX.CodeO c q := fun I o h c q e => by
  obtain ⟨vs, rfl, _⟩ := h
  unfold LamX.CodeO at e
  cases e
theorem em_lamC {n : Nat} {P : Addr} {q : Str} {params : Arguments} {body : Expr} {scope : Scope} {cells : List (Str × Addr)} (hk : S[n]? = some (cTab P q)) (nc : NoCode M S) (r : ∀ f cc I', Ex I I' → I' f = some (LamC f q params body scope cells cc) → I' cc = some (LamX.CodeO cc q) → t.r I' (.ref f) x) :
    Em E cl M (tLamC [(P, q)] P q params body scope cells) σ I S t (.ok x) S := by
  refine em_mk rfl fun H1 i w Q qq => ?_
  obtain ⟨PM, o, h1, ps, rfl, ok, all⟩ := w.at_ _ (List.mem_of_getElem? hk)
  refine ⟨fun p hp => ?_, fun f cc H2 fn e tabs hf hc => ?_⟩
  · obtain rfl := List.mem_singleton.mp hp
    exact ⟨ps, h1, ok, fun pos cv h => let ⟨z, g1, g2⟩ := all pos cv h; ⟨z, g1, (del_some.mp g2).2⟩⟩
  · obtain ⟨ps2, g1, g2, g3⟩ := tabs (P, q) (List.mem_singleton.mpr rfl)
    have kd : ∀ z p, H2 z = some (LamX.CodeO z p) → del M H2 z = some (LamX.CodeO z p) := fun z p h => by
      refine del_some.mpr ⟨fun zm => ?_, h⟩
      obtain ⟨c, hc, rfl⟩ := List.mem_map.mp (nc.1 z zm)
      obtain ⟨_, u, hu, ru⟩ := w.at_ c hc
      by_cases zP : c.a = P
      · rw [zP] at h
        rw [h] at g1
        exact LamX.codeO_ne _ (Option.some.inj g1)
      · rw [e _ _ zP hu] at h
        exact nc.2 c hc _ _ ru _ _ (Option.some.inj h)
    obtain ⟨w2, x2⟩ := w.chg (c' := cTab P q) hk rfl e g1 ⟨ps2, rfl, g2, fun pos cv h => let ⟨z, k1, k2⟩ := g3 pos cv h; ⟨z, k1, kd z q k2⟩⟩
    rw [set_same hk] at w2
    exact qq _ H2 x2 w2 (r f cc _ (i.trans (w.grow x2)) (del_at (fresh_not w.live fn) hf) (kd cc q hc))
/-- a lambda of the def X, which raises: what it is told as -/
def kTold (X : Cx) (cl : Nat → Addr) (k : Nat) (ag : L2.St → Prop) : Ty Str := ⟨fun I v z => ∃ (f cc : Addr) (params : Arguments) (body : Expr) (scope : Scope) (tb : XK → TE) (i : Nat), v = .ref f ∧ I f = some (LamC f (X.env.qual ++ "<lambda>") params body scope (cloFrom X.env.cells scope.names []) cc) ∧ I cc = some (LamX.CodeO cc (X.env.qual ++ "<lambda>")) ∧
    LamX.LamS X.env.scope scope ∧ (∀ (pm cv ctv : Value), bindArgs (PySem.W.kla_fn "<lambda>" (X.env.qual ++ "<lambda>") params body scope (cloFrom X.env.cells scope.names []) pm cv ctv) ⟨[], []⟩ = pure []) ∧
    (∀ (A : Around) (outer : List Env) (s : Shared) (H : Hp) (E : XK), Room k (A.deeper (LamX.lamEnv X scope s.heap.objs.size f cc)) → PE (LamX.lamCx X A outer s H E scope f cc) body (tb E)) ∧ i < 11 ∧ z = kindName i ∧
    ∀ E M S σ' I', Ex I I' → ag σ' → Em E cl M (tb E) σ' I' S kN (.er i) S,
  fun e ⟨f, cc, params, body, scope, tb, i, h1, h2, h3, h4, h5, h6, h7, h8, h9⟩ => ⟨f, cc, params, body, scope, tb, i, h1, e _ _ h2, e _ _ h3, h4, h5, h6, h7, h8, fun E M S σ' I' e2 => h9 E M S σ' I' (e.trans e2)⟩⟩
theorem em_er {t' : Ty β} {k : Nat} (h : Em E cl M te σ I S t (.er k) S') : Em E cl M te σ I S t' (.er k) S' := ⟨h.ad, fun H1 i w Q _ qe => h.run H1 i w Q (fun x v H2 e => nomatch e) fun k H2 e => qe k H2 (by cases e; rfl)⟩
theorem kind_ok : ∀ i, i < 11 → (PyData.str (kindName i)).canLay0 = true := by decide +kernel
theorem em_toldB {X : Cx} {k : Nat} {σ0 : L2.St} {ag : L2.St → Prop} {z : Str} (ha : Ea E' cl M tr σ I S (aC (kTold X cl k ag) a0) (.ok (z, ())) S') (hag : ag σ0) : Em E' cl M (tToldB X σ0 cl k tr) σ I S kS (.ok z) S' :=
  em_mk ha.ad fun H1 i w Q q => ea_of ha H1 i w _ fun vs H2 e w2 r => by
    obtain ⟨v, rs, rfl, ⟨f, cc, params, body, scope, tb, j, rfl, h2, h3, h4, h5, h6, h7, rfl, h9⟩, rfl⟩ := r
    exact ⟨f, cc, params, body, scope, tb, rfl, (del_some.mp h2).2, (del_some.mp h3).2, h4, h5, h6, (h9 (ETold cl Q) M S' σ0 (del M H2) (Ex.refl _) hag).run H2 (Ex.refl _) w2 Q (fun x v H3 z => nomatch z) fun k H3 ek e3 w3 => by cases ek; exact ⟨j, h7, rfl, q _ H3 (ads_tr ha.ad e e3) w3 rfl⟩⟩
theorem em_toldC {X : Cx} {k : Nat} {ag : L2.St → Prop} {z : Str} (ha : Ea E' cl M tr σ I S (aC (kTold X cl k ag) a0) (.ok (z, ())) S') (hag : ag σ) : Em E' cl M (tToldC X cl k tr) σ I S kS (.ok z) S' :=
  em_mk ha.ad fun H1 i w Q q => ea_of ha H1 i w _ fun vs H2 e w2 r => by
    obtain ⟨v, rs, rfl, ⟨f, cc, params, body, scope, tb, j, rfl, h2, h3, h4, h5, h6, h7, rfl, h9⟩, rfl⟩ := r
    exact ⟨f, cc, params, body, scope, tb, rfl, (del_some.mp h2).2, (del_some.mp h3).2, h4, h5, h6, (h9 (ETold cl Q) M S' σ (del M H2) (Ex.refl _) hag).run H2 (Ex.refl _) w2 Q (fun x v H3 z => nomatch z) fun k H3 ek e3 w3 => by cases ek; exact ⟨j, h7, rfl, q _ H3 (ads_tr ha.ad e e3) w3 rfl⟩⟩
/-! ### more operations -/
theorem filter_yes (l : List α) (f : α → β) : (l.filter fun _ => true).map f = l.map f := by rw [List.filter_eq_self.mpr fun _ _ => rfl]
theorem o_intI {i : Int} : OpN (fun xs H Q => (∃ i, xs = [V.int i] ∧ Q (V.int i) H) ∨ ∃ k, xs = [V.bl k] ∧ Q (V.int (if k = true then 1 else 0)) H) (aC kI a0) (i, ()) kI i := fun M us H l a Q q => by
  obtain ⟨v, r, rfl, rfl, rfl⟩ := a
  exact .inl ⟨i, rfl, q _ H (Ex.refl H) rfl⟩
theorem o_intB {b : Bool} : OpN (fun xs H Q => (∃ i, xs = [V.int i] ∧ Q (V.int i) H) ∨ ∃ k, xs = [V.bl k] ∧ Q (V.int (if k = true then 1 else 0)) H) (aC kB a0) (b, ()) kI (if b = true then 1 else 0) := fun M us H l a Q q => by
  obtain ⟨v, r, rfl, rfl, rfl⟩ := a
  exact .inr ⟨b, rfl, q _ H (Ex.refl H) rfl⟩
theorem o_abs {i : Int} : OpN (fun xs H Q => ∃ i, xs = [V.int i] ∧ Q (V.int (if i < 0 then -i else i)) H) (aC kI a0) (i, ()) kI (if i < 0 then -i else i) := fun M us H l a Q q => by
  obtain ⟨v, r, rfl, rfl, rfl⟩ := a
  exact ⟨i, rfl, q _ H (Ex.refl H) rfl⟩
theorem o_lenL : OpN (fun xs H Q => ∃ p ys, xs = [.ref p] ∧ (SqL K H p ys ∨ SqT K H p ys) ∧ Q (.int ys.length) H) (aC (kL K t) a0) (xs, ()) kI (xs.length : Int) := fun M us H l a Q q => by
  obtain ⟨v, r, rfl, ⟨p, vs, rfl, hp, ha⟩, rfl⟩ := a
  exact ⟨p, vs, rfl, .inl (ex_l del_le hp), q _ H (Ex.refl H) (by show V.int _ = V.int _; rw [ha.len])⟩
theorem o_lenT : OpN (fun xs H Q => ∃ p ys, xs = [.ref p] ∧ (SqL K H p ys ∨ SqT K H p ys) ∧ Q (.int ys.length) H) (aC (kT K t) a0) (xs, ()) kI (xs.length : Int) := fun M us H l a Q q => by
  obtain ⟨v, r, rfl, ⟨p, vs, rfl, hp, ha⟩, rfl⟩ := a
  exact ⟨p, vs, rfl, .inr (ex_t del_le hp), q _ H (Ex.refl H) (by show V.int _ = V.int _; rw [ha.len])⟩
theorem mk_list {H : Hp} {vs : List V} {Q : VK} (l : ∀ m ∈ M, H m ≠ none) (a : All2 (t.r (del M H)) vs xs) (q : ∀ v H', Ex H H' → (kL K t).r (del M H') v xs → Q v H') (p : Addr) (hp : H p = none) : Q (.ref p) (upd H p (.lst vs)) :=
  q _ _ (Ex.new hp) ⟨p, vs, rfl, sq_of (del_at (fresh_not l hp) upd_same), all2_up t (ex_del (Ex.new hp)) a⟩
theorem mk_tup {H : Hp} {vs : List V} {Q : VK} (l : ∀ m ∈ M, H m ≠ none) (a : All2 (t.r (del M H)) vs xs) (q : ∀ v H', Ex H H' → (kT K t).r (del M H') v xs → Q v H') (p : Addr) (hp : H p = none) : Q (.ref p) (upd H p (.tup vs)) :=
  q _ _ (Ex.new hp) ⟨p, vs, rfl, st_of (del_at (fresh_not l hp) upd_same), all2_up t (ex_del (Ex.new hp)) a⟩
theorem o_listL : OpN (fun xs H Q => ∃ p ys, xs = [.ref p] ∧ (SqL K H p ys ∨ SqT K H p ys) ∧ ∀ l, H l = none → Q (.ref l) (upd H l (.lst ys))) (aC (kL K t) a0) (xs, ()) (kL K t) xs := fun M us H l a Q q => by
  obtain ⟨v, r, rfl, ⟨p, vs, rfl, hp, ha⟩, rfl⟩ := a
  exact ⟨p, vs, rfl, .inl (ex_l del_le hp), mk_list l ha q⟩
theorem o_listT : OpN (fun xs H Q => ∃ p ys, xs = [.ref p] ∧ (SqL K H p ys ∨ SqT K H p ys) ∧ ∀ l, H l = none → Q (.ref l) (upd H l (.lst ys))) (aC (kT K t) a0) (xs, ()) (kL K t) xs := fun M us H l a Q q => by
  obtain ⟨v, r, rfl, ⟨p, vs, rfl, hp, ha⟩, rfl⟩ := a
  exact ⟨p, vs, rfl, .inr (ex_t del_le hp), mk_list l ha q⟩
theorem all_ints {H : Hp} {vs : List V} {ns : List Int} (a : All2 (kI.r H) vs ns) : vs = ns.map V.int := by
  induction a with
  | nil => rfl
  | cons r _ ih => rw [List.map_cons, ← ih, show _ = V.int _ from r]
theorem all_bools {H : Hp} {vs : List V} {ns : List Bool} (a : All2 (kB.r H) vs ns) : vs = ns.map V.bl := by
  induction a with
  | nil => rfl
  | cons r _ ih => rw [List.map_cons, ← ih, show _ = V.bl _ from r]
theorem o_sumL {ns : List Int} : OpN (rSum K) (aC (kL K kI) a0) (ns, ()) kI ns.sum := fun M us H l a Q q => by
  obtain ⟨v, r, rfl, ⟨p, vs, rfl, hp, ha⟩, rfl⟩ := a
  exact ⟨p, ns, rfl, ex_l del_le (by rw [← all_ints ha]; exact hp), q _ H (Ex.refl H) rfl⟩
theorem o_isN {x : Option α} : Op2 (fun x y H Q => y = .non ∧ Q (.bl (decide (x = .non))) H) (kO t) x kN () kB x.isNone := fun M u w H l a b Q q => by
  obtain rfl : w = .non := b
  refine ⟨rfl, q _ H (Ex.refl H) ?_⟩
  cases x with
  | none => rw [show u = .non from a]; rfl
  | some y => show V.bl _ = V.bl _; rw [decide_eq_false a.2]; rfl
theorem o_notN {x : Option α} : Op2 (fun x y H Q => y = .non ∧ Q (.bl (!decide (x = .non))) H) (kO t) x kN () kB x.isSome := fun M u w H l a b Q q => by
  obtain rfl : w = .non := b
  refine ⟨rfl, q _ H (Ex.refl H) ?_⟩
  cases x with
  | none => rw [show u = .non from a]; rfl
  | some y => show V.bl _ = V.bl _; rw [decide_eq_false a.2]; rfl
/-- None or a number against a number -/
theorem o_eqOI {x : Option Int} {j : Int} : Op2 rEq (kO kI) x kI j kB (decide (x = some j)) := fun M u w H l a b Q q => by
  obtain rfl : w = .int j := b
  cases x with
  | none =>
    obtain rfl : u = .non := a
    exact ⟨rfl, q _ H (Ex.refl H) (by show V.bl _ = V.bl _; congr 1)⟩
  | some y =>
    obtain rfl : u = .int y := a.1
    exact ⟨rfl, q _ H (Ex.refl H) (by show V.bl _ = V.bl _; congr 1; simp)⟩
theorem em_some (h : Em E cl M te σ I S t (.ok x) S') (nn : ∀ H v, t.r H v x → v ≠ .non) : Em E cl M te σ I S (kO t) (.ok (some x)) S' :=
  em_mk h.ad fun H1 i w Q q => em_of h H1 i w Q fun v H2 e w2 r => q v H2 e w2 ⟨r, nn _ _ r⟩
theorem nn_2 {a : Ty α} {b : Ty β} {x : α × β} : ∀ H v, (k2 K a b).r H v x → v ≠ .non := fun H v ⟨p, _, _, h, _⟩ z => by rw [h] at z; cases z
theorem nn_I {x : Int} : ∀ H v, kI.r H v x → v ≠ .non := fun H v h z => by rw [show v = .int x from h] at z; cases z
/-- x in (not in) a list of data -/
theorem o_inL {i : Nat} (D : Dq K t i) (h : i < 64) {x : α} {xs : List α} [Decidable (x ∈ xs)] : Op2 (rInD K) t x (kL K t) xs kB (decide (x ∈ xs)) := fun M v1 v2 H l a b Q q => by
  obtain ⟨p, vs, rfl, hp, ha⟩ := b
  have ha2 : All2 (t.r H) vs xs := all2_up t del_le ha
  have al := dp_all D ha2
  refine ⟨D.enc x, xs.map D.enc, dp_upM del_le _ _ (D.dp a).1, .lst (ex_l del_le hp) al.1, shaped_of (D.dp a).2 (Nat.le_trans (D.dep x) (by omega)), shaped_of (by rw [PyData.canLay0]; exact al.2) (by rw [PyData.depth]; have := dep_all D xs; omega), q _ H (Ex.refl H) ?_⟩
  show V.bl _ = V.bl _
  congr 1
  rw [Bool.eq_iff_iff, List.any_eq_true, decide_eq_true_iff]
  constructor
  · rintro ⟨z, hz, e⟩
    obtain ⟨y, hy, rfl⟩ := List.mem_map.mp hz
    rw [← (D.eq _ _).mp e]
    exact hy
  · intro h
    exact ⟨D.enc x, List.mem_map.mpr ⟨x, h, rfl⟩, (D.eq _ _).mpr rfl⟩
theorem o_niL {i : Nat} (D : Dq K t i) (h : i < 64) {x : α} {xs : List α} [Decidable (x ∈ xs)] : Op2 (rNotInD K) t x (kL K t) xs kB (!decide (x ∈ xs)) := fun M v1 v2 H l a b Q q => by
  obtain ⟨p, vs, rfl, hp, ha⟩ := b
  have ha2 : All2 (t.r H) vs xs := all2_up t del_le ha
  have al := dp_all D ha2
  refine ⟨D.enc x, xs.map D.enc, dp_upM del_le _ _ (D.dp a).1, .lst (ex_l del_le hp) al.1, shaped_of (D.dp a).2 (Nat.le_trans (D.dep x) (by omega)), shaped_of (by rw [PyData.canLay0]; exact al.2) (by rw [PyData.depth]; have := dep_all D xs; omega), q _ H (Ex.refl H) ?_⟩
  show V.bl _ = V.bl _
  congr 2
  rw [Bool.eq_iff_iff, List.any_eq_true, decide_eq_true_iff]
  constructor
  · rintro ⟨z, hz, e⟩
    obtain ⟨y, hy, rfl⟩ := List.mem_map.mp hz
    rw [← (D.eq _ _).mp e]
    exact hy
  · intro h
    exact ⟨D.enc x, List.mem_map.mpr ⟨x, h, rfl⟩, (D.eq _ _).mpr rfl⟩
/-! dicts that are only asked -/
/-- a dict of whole numbers to values, told by what is found -/
def kFn (t : Ty α) : Ty (Int → Option α) := ⟨fun H v f => ∃ p kvs, v = .ref p ∧ H p = some (.dK kvs) ∧ ∀ k : Int, (valV kvs (.inl k) = none ∧ f k = none) ∨ ∃ w y, valV kvs (.inl k) = some w ∧ f k = some y ∧ t.r H w y,
  fun e ⟨p, kvs, h1, h2, h3⟩ => ⟨p, kvs, h1, e _ _ h2, fun k => (h3 k).imp id fun ⟨w, y, a, b, c⟩ => ⟨w, y, a, b, t.up e c⟩⟩⟩
def dictOf (l : List (Int × α)) (k : Int) : Option α := (l.reverse.find? fun q => decide (q.1 = k)).map (·.2)
theorem dictOf_cons (l : List (Int × α)) (a : Int × α) (k : Int) : dictOf (a :: l) k = (dictOf l k).or (if a.1 = k then some a.2 else none) := by
  unfold dictOf
  rw [List.reverse_cons, List.find?_append, Option.map_or]
  congr 1
  by_cases h : a.1 = k
  · simp [h]
  · simp [h]
/-- keys and values answer to a function -/
def KeyFn (R : V → α → Prop) (kvs : List (Key × V)) (f : Int → Option α) : Prop := ∀ k : Int, (valV kvs (.inl k) = none ∧ f k = none) ∨ ∃ w y, valV kvs (.inl k) = some w ∧ f k = some y ∧ R w y
theorem keyFn_put {R : V → α → Prop} {kvs : List (Key × V)} {f : Int → Option α} {k : Int} {w : V} {y : α} (h : KeyFn R kvs f) (r : R w y) : KeyFn R (putK kvs (.inl k) w) (fun j => if j = k then some y else f j) := fun j => by
  rw [valV_put]
  by_cases e : j = k
  · rw [e, if_pos rfl]
    exact .inr ⟨w, y, rfl, by simp, r⟩
  · rw [if_neg (fun z => e (Sum.inl.inj z))]
    simp only [if_neg e]
    exact h j
theorem keyFn_merge {R : V → α → Prop} : ∀ (l : List (Int × α)) (kvs acc : List (Key × V)) (f : Int → Option α), All2 (fun (kv : Key × V) (x : Int × α) => kv.1 = .inl x.1 ∧ R kv.2 x.2) kvs l → KeyFn R acc f → KeyFn R (mergeK acc kvs) (fun k => (dictOf l k).or (f k))
  | [], kvs, acc, f, h, g => by
    cases h
    exact g
  | a :: l, kvs, acc, f, h, g => by
    cases h with
    | @cons kv _ m _ r h =>
      obtain ⟨k, w⟩ := kv
      obtain ⟨hk, hr⟩ := r
      have hk : k = .inl a.1 := hk
      subst hk
      have step := keyFn_merge l m (putK acc (.inl a.1) w) _ h (keyFn_put (k := a.1) g hr)
      intro k
      have s := step k
      simp only [dictOf_cons] at s ⊢
      have e : ((dictOf l k).or (if a.1 = k then some a.2 else none)).or (f k) = (dictOf l k).or (if k = a.1 then some a.2 else f k) := by
        rw [Option.or_assoc]
        congr 1
        by_cases z : a.1 = k
        · simp [z]
        · have z2 : ¬ k = a.1 := fun y => z y.symm
          simp [z, z2]
      simp only [e]
      exact s
theorem o_dictP {l : List (Int × α)} : OpN (fun xs H Q => ∃ (a : Addr) (ps : List Addr) (kvs : List (Key × V)), xs = [.ref a] ∧ SqL K H a (ps.map V.ref) ∧ Paired (fun p kv => SqT K H p [kV kv.1, kv.2]) ps kvs ∧ ∀ p, H p = none → Q (.ref p) (upd H p (.dK (mergeK [] kvs)))) (aC (kL K (k2 K kI t)) a0) (l, ()) (kFn t) (dictOf l) := fun M us H live a Q q => by
  obtain ⟨v, r, rfl, ⟨p, vs, rfl, hp, ha⟩, rfl⟩ := a
  have cut : ∀ (vs : List V) (l : List (Int × α)), All2 ((k2 K kI t).r (del M H)) vs l → ∃ ps kvs, vs = ps.map V.ref ∧ Paired (fun p (kv : Key × V) => SqT K H p [kV kv.1, kv.2]) ps kvs ∧ All2 (fun (kv : Key × V) (x : Int × α) => kv.1 = .inl x.1 ∧ t.r (del M H) kv.2 x.2) kvs l := by
    intro vs l h
    induction h with
    | nil => exact ⟨[], [], rfl, .nil, .nil⟩
    | cons r _ ih =>
      obtain ⟨p, u, w, rfl, hs, h1, h2⟩ := r
      obtain ⟨ps, kvs, rfl, b, c⟩ := ih
      obtain rfl : u = .int _ := h1
      exact ⟨p :: ps, (.inl _, w) :: kvs, rfl, .cons (ex_t del_le hs) b, .cons ⟨rfl, h2⟩ c⟩
  obtain ⟨ps, kvs, rfl, b, c⟩ := cut vs l ha
  refine ⟨p, ps, kvs, rfl, ex_l del_le hp, b, fun d hd => q _ _ (Ex.new hd) ⟨d, _, rfl, del_at (fresh_not live hd) upd_same, ?_⟩⟩
  have fin := keyFn_merge (R := t.r (del M H)) l kvs [] (fun _ => none) c fun k => .inl ⟨rfl, rfl⟩
  intro k
  have g := fin k
  simp only [Option.or_none] at g
  rcases g with h | ⟨w, y, h1, h2, h3⟩
  · exact .inl h
  · exact .inr ⟨w, y, h1, h2, t.up (ex_del (Ex.new hd)) h3⟩
theorem em_dget {f : Int → Option α} {k : Int} (ha : Em E cl M ta σ I S (kFn t) (.ok f) S1) (hb : Em E cl M tb σ I S1 kI (.ok k) S2) (h : f k = some x) : Em E cl M (tDGet ta tb) σ I S t (.ok x) S2 :=
  em_mk (hb.ad.trans ha.ad) fun H1 i w Q q => em_of ha H1 i w _ fun v1 H2 e1 w1 r1 => em_of hb H2 (i.trans (w.grow e1)) w1 _ fun v2 H3 e2 w2 r2 => by
    obtain ⟨p, kvs, rfl, hp, hk⟩ := (kFn t).up (w1.grow e2) r1
    obtain rfl : v2 = .int k := r2
    rcases hk k with ⟨_, z⟩ | ⟨w, y, g1, g2, g3⟩
    · rw [h] at z; cases z
    · rw [h] at g2
      obtain rfl := Option.some.inj g2
      exact ⟨p, w, rfl, by rw [← g1]; exact DGet.k (k := .inl k) (del_some.mp hp).2, q w H3 (ads_tr ha.ad e1 e2) w2 g3⟩
theorem em_dget1 {f : Int → Option α} {k : Int} (ha : Em E cl M ta σ I S (kFn t) (.ok f) S1) (hb : Em E cl M tb σ I S1 kI (.ok k) S2) (nn : ∀ H v x, t.r H v x → v ≠ .non) : Em E cl M (tDGet1 ta tb) σ I S (kO t) (.ok (f k)) S2 :=
  em_mk (hb.ad.trans ha.ad) fun H1 i w Q q => em_of ha H1 i w _ fun v1 H2 e1 w1 r1 => by
    obtain ⟨p, kvs, rfl, hp, hk⟩ := r1
    refine ⟨p, rfl, .inl ⟨kvs, .inl (del_some.mp hp).2⟩, em_of hb H2 (i.trans (w.grow e1)) w1 _ fun v2 H3 e2 w2 r2 => ?_⟩
    obtain rfl : v2 = .int k := r2
    have hp3 := (w1.grow e2) _ _ hp
    refine ⟨valV kvs (.inl k), DGet.k (k := .inl k) (del_some.mp hp3).2, ?_⟩
    rcases hk k with ⟨a, b⟩ | ⟨w, y, g1, g2, g3⟩
    · rw [a]
      exact q _ H3 (ads_tr ha.ad e1 e2) w2 (by rw [b]; rfl)
    · rw [g1]
      exact q w H3 (ads_tr ha.ad e1 e2) w2 (by rw [g2]; exact ⟨t.up (w1.grow e2) g3, nn _ _ _ g3⟩)
end
end Rw
namespace Rw
open PySem PySem.Spec PyProof.Rows L2 Evl
/-- the greatest of a dict's values: whole numbers, one at least -/
def tTopVal (td : TE) : TE := fun σ H Q => td σ H fun x H1 => ∃ (d : Addr) (kvs : List (Key × V)) (ns : List Int), x = V.ref d ∧ H1 d = some (.dK kvs) ∧ kvs.map (·.2) = ns.map V.int ∧ 0 < ns.length ∧ ∀ m, m ∈ ns → (∀ n ∈ ns, n ≤ m) → Q (.int m) H1
theorem val_nth {kvs : List (Key × V)} {ns : List Int} (e : kvs.map (·.2) = ns.map V.int) {i : Nat} {k : Key} {x : V} (h : kvs[i]? = some (k, x)) : x = .int (ns.getD i 0) := by
  have a : (kvs.map (·.2))[i]? = some x := by rw [List.getElem?_map, h]; rfl
  rw [e, List.getElem?_map] at a
  cases b : ns[i]? with
  | none => rw [b] at a; cases a
  | some n => rw [b] at a; rw [← Option.some.inj a, List.getD_eq_getElem?_getD, b]; rfl
theorem top_in {ns : List Int} (h : 0 < ns.length) : ns.getD (argBest (fun i j => decide (ns.getD i 0 > ns.getD j 0)) (ns.length - 1)) 0 ∈ ns ∧ ∀ n ∈ ns, n ≤ ns.getD (argBest (fun i j => decide (ns.getD i 0 > ns.getD j 0)) (ns.length - 1)) 0 := by
  obtain ⟨lo, all⟩ := argBest_gt (fun i => ns.getD i 0) (ns.length - 1)
  generalize argBest (fun i j => decide (ns.getD i 0 > ns.getD j 0)) (ns.length - 1) = b at lo all ⊢
  have get : ∀ i, i < ns.length → ns.getD i 0 ∈ ns := fun i hi => by rw [List.getD_eq_getElem?_getD, List.getElem?_eq_getElem hi]; exact List.getElem_mem hi
  refine ⟨get b (by omega), fun n hn => ?_⟩
  obtain ⟨i, hi, rfl⟩ := List.mem_iff_getElem.mp hn
  have g := all i (by omega)
  rw [show ns.getD i 0 = ns[i] by rw [List.getD_eq_getElem?_getD, List.getElem?_eq_getElem hi]; rfl] at g
  exact g
section
variable {X : Cx} {o : Expr} {p pos apos mpos : Pos} {td : TE}
theorem pe_topVal (hc : X.calm = true) (hm : X.mg "max" = none) (hd : PE X o td) (hg : Gl X "max" := by rfl) (hbase : attributeBase o "values" X.env (eval o X.env) = eval o X.env := by rfl) (hline : (apos.endLine == mpos.line) = true := by rfl)
    (hse : starEach [Expr.Call (.Attribute o "values" apos) [] [] mpos] X.env = [(false, eval (Expr.Call (.Attribute o "values" apos) [] [] mpos) X.env)] := by rfl) :
    PE X (.Call (.Name "max" p) [.Call (.Attribute o "values" apos) [] [] mpos] [] pos) (tTopVal td) := ⟨fun pins s σ H Q I want => by
  refine wpAny_Call_Name_kw (ld_blt I hg hm (u := .builtin "max") (by first | rfl | decide +kernel) ?_ (by decide +kernel) (by decide +kernel))
  rw [hse]
  refine PySem.callWith_builtin1 (wpAny_Call_method0_late hbase hline (thn (hd.run pins s σ H _ I want) fun v st ⟨x, G, J, rel, d, kvs, ns, ex, atd, vals, some1, q⟩ => ?_))
  subst ex
  obtain rfl : v = Value.ref d := rel
  obtain ⟨_, sys, rows, like, held⟩ := dk_of J.hok atd
  obtain ⟨ep, tab⟩ := held.dictAt
  have tab0 := tab
  obtain ⟨ob, _, obAt, obIs, _⟩ := tab0
  refine ⟨"dict", "dict.values", F.plainAttrs_dict, F.slot_dict_values, F.type_dict_values, ⟨ob, obAt, obIs.1⟩, fun b e => (by cases e; exact ⟨ob, obAt, obIs.2.1⟩), Calls.callWith_builtin rfl (PySem.evalArgs_none (call_meetsIn F.slot_dict_values ⟨ob, obAt, obIs.1⟩ F.entry_dict_values (F.args_dict_values_1 _) (meets_dict_values (mixKind X.prog X.w) d sys) ⟨⟨rows, held⟩, ?_⟩))⟩
  generalize vo : ({ cls := .type "dict_values", data := .fields #[.ref d] } : Obj) = view
  have up1 : ∀ b u, st.heap.get? b = some u → (st.heap.push view).get? b = some u := fun b u e => Heap.get?_push_of_some _ e
  have rows_len : rows.length = ns.length := by
    have a := congrArg List.length vals
    rw [List.length_map, List.length_map] at a
    rw [← KV.length like, a]
  have nums : ∀ (i : Nat) (u : Value), (∃ k, rows[i]? = some (k, u)) → ∃ t, u = Value.int (ns.getD i 0) t := fun i u ⟨k, hk⟩ => by
    obtain ⟨x, h1, h2⟩ := KV.at' like hk
    rw [val_nth vals h1] at h2
    exact h2
  have viewAt : (st.heap.push view).get? st.heap.objs.size = some view := Heap.get?_push_size _ (by rw [← vo]; rfl)
  have size1 : (st.heap.push view).objs.size = st.heap.objs.size + 1 := Heap.size_push _ _
  have below : d < st.heap.objs.size := Heap.lt_size obAt
  refine call_max_walk (wpAny_pyIter_values (v := st.heap.objs.size) (d := d) ⟨view, viewAt, by rw [← vo], by rw [← vo]⟩ (tab.keep up1) ?_)
  refine ⟨_, _, _, _, _, _, _, rfl, Walks.dictValues (knd := mixKind X.prog X.w) (A := X.A.in1) (I.ok.hd hc) (st.heap.push view).objs.size d (by rw [size1]; exact Nat.ne_of_lt (Nat.lt_succ_of_lt below)) rows ep, ⟨⟨_, Heap.get?_push_size _ rfl, rfl, rfl⟩, (tab.keep up1).keep fun b u e => Heap.get?_push_of_some _ e⟩, fun b hb => ?_, by omega, CmpOf.ints_gt (fun i => ns.getD i 0) nums, fun u h' tk isbest kept => ?_⟩
  · show b < ((st.heap.push view).push _).objs.size
    rw [Heap.size_push]
    rcases List.mem_cons.mp hb with z | z
    · rw [z]
      exact Nat.lt_succ_self _
    · rw [List.mem_singleton.mp z, size1]
      exact Nat.lt_succ_of_lt (Nat.lt_succ_of_lt below)
  · obtain ⟨t, rfl⟩ := nums _ u isbest
    obtain ⟨t1, t2⟩ := top_in some1
    rw [rows_len]
    refine ⟨.int _, G, J.kept (t' := tk) fun b u e => kept b u (fun z => ?_) (Heap.get?_push_of_some _ (up1 b u e)), ⟨t, rfl⟩, q _ t1 t2⟩
    have lo := Heap.lt_size e
    rw [List.mem_singleton.mp z, size1] at lo
    exact Nat.not_succ_lt_self lo⟩
end
end Rw
namespace Rw
/-- a for whose turns never end it badly -/
theorem forK_ok {α τ : Type} {b : α → τ → (τ → Bool) → (τ → Bool) → Bool} {k : τ → Bool} (Inv : List α → τ → Prop) (step : ∀ x rest s kn, Inv (x :: rest) s → (∀ s', Inv rest s' → kn s' = true) → b x s kn k = true) (fin : ∀ s, Inv [] s → k s = true) : ∀ (xs : List α) (s : τ), Inv xs s → forK b k xs s = true
  | [], s, h => fin s h
  | x :: xs, s, h => step x xs s _ h fun s' h' => forK_ok Inv step fin xs s' h'
/-- rising lists of the same numbers are one -/
theorem rise_ext : ∀ {l m : List Int}, l.Pairwise (· < ·) → m.Pairwise (· < ·) → (∀ x, x ∈ l ↔ x ∈ m) → l = m
  | [], [], _, _, _ => rfl
  | [], b :: m, _, _, h => by have := (h b).mpr List.mem_cons_self; cases this
  | a :: l, [], _, _, h => by have := (h a).mp List.mem_cons_self; cases this
  | a :: l, b :: m, hl, hm, h => by
    obtain ⟨l1, l2⟩ := List.pairwise_cons.mp hl
    obtain ⟨m1, m2⟩ := List.pairwise_cons.mp hm
    have e : a = b := by
      rcases List.mem_cons.mp ((h a).mp List.mem_cons_self) with z | z
      · exact z
      · rcases List.mem_cons.mp ((h b).mpr List.mem_cons_self) with y | y
        · exact y.symm
        · have := m1 a z; have := l1 b y; omega
    subst e
    rw [rise_ext l2 m2 fun x => ⟨fun hx => ?_, fun hx => ?_⟩]
    · rcases List.mem_cons.mp ((h x).mp (List.mem_cons_of_mem _ hx)) with z | z
      · have := l1 x hx; omega
      · exact z
    · rcases List.mem_cons.mp ((h x).mpr (List.mem_cons_of_mem _ hx)) with z | z
      · have := m1 x hx; omega
      · exact z
theorem rise_rng (lo hi : Int) : (rng lo hi).Pairwise (· < ·) := by
  unfold rng
  rw [List.pairwise_map]
  exact (List.pairwise_lt_range (n := (hi - lo).toNat)).imp fun h => by omega
theorem rise_filter {l : List Int} (h : l.Pairwise (· < ·)) (p : Int → Bool) : (l.filter p).Pairwise (· < ·) := h.sublist (List.filter_sublist)
/-- so many numbers from a on by steps -/
def steps (a w : Int) (k : Nat) : List Int := (List.range k).map fun i => a + ((i : Nat) : Int) * w
theorem steps_len {a w : Int} {k : Nat} : (steps a w k).length = k := by unfold steps; rw [List.length_map, List.length_range]
theorem steps_head {a w : Int} {k : Nat} (h : 0 < k) : (steps a w k).headD 0 = a := by
  cases k with
  | zero => omega
  | succ k =>
    unfold steps
    rw [List.range_succ_eq_map]
    simp
theorem steps_rise {a w : Int} {k : Nat} (h : 0 < w) : (steps a w k).Pairwise (· < ·) := by
  unfold steps
  rw [List.pairwise_map]
  refine (List.pairwise_lt_range (n := k)).imp fun {i j} q => ?_
  have : ((i : Nat) : Int) * w < ((j : Nat) : Int) * w := Int.mul_lt_mul_of_pos_right (by omega) h
  omega
theorem steps_mem {a w x : Int} {k : Nat} : x ∈ steps a w k ↔ ∃ i : Nat, i < k ∧ x = a + (i : Int) * w := by
  unfold steps
  rw [List.mem_map]
  constructor
  · rintro ⟨i, hi, rfl⟩
    exact ⟨i, List.mem_range.mp hi, rfl⟩
  · rintro ⟨i, hi, rfl⟩
    exact ⟨i, List.mem_range.mpr hi, rfl⟩
theorem filter_steps {lo hi a w : Int} {k : Nat} {p : Int → Bool} (hw : 0 < w) (h : ∀ x, (lo ≤ x ∧ x < hi ∧ p x = true) ↔ ∃ i : Nat, i < k ∧ x = a + (i : Int) * w) : (rng lo hi).filter p = steps a w k := by
  refine rise_ext (rise_filter (rise_rng _ _) _) (steps_rise hw) fun x => ?_
  rw [List.mem_filter, rng_mem, steps_mem, ← h]
  exact ⟨fun ⟨⟨a, b⟩, c⟩ => ⟨a, b, c⟩, fun ⟨a, b, c⟩ => ⟨⟨a, b⟩, c⟩⟩
end Rw
namespace Rw
open PySem PySem.Spec PyProof.Rows L2 Evl
local macro_rules | `(tactic| walk_at "sq") => `(tactic| first | assumption | exact SqL.of (by assumption) | exact SqT.of (by assumption))
local macro_rules | `(tactic| walk_at "at") => `(tactic| first | exact atI_nat (j := 0) rfl | exact atI_nat (j := 1) rfl | exact atI_nat (j := 2) rfl | exact atI_nat (j := 3) rfl)
local macro_rules | `(tactic| walk_at "rv") => `(tactic| first
  | with_reducible exact rv_I0
  | ((with_reducible refine' rv_I ?k1); (case k1 => first | (show (0 : Int) < _; omega) | exact ⟨by omega, by omega⟩ | exact .inr ⟨by omega, by omega⟩ | exact .inl ⟨by omega, by omega⟩ | exact ⟨by decide, by decide, by decide⟩))
  | ((with_reducible refine' rv_eq ?k1); (case k1 => exact rfl))
  | ((with_reducible refine' rv_ne ?k1); (case k1 => exact rfl))
  | (refine' rv_ixL ?k1 ?k2; (case k1 => walk_at "sq"); (case k2 => walk_at "at"))
  | (refine' rv_ixT ?k1 ?k2; (case k1 => walk_at "sq"); (case k2 => walk_at "at")))
local macro_rules | `(tactic| walk_at "rc") => `(tactic| first | exact rc_int1 | exact rc_int1b | exact rc_abs)
local macro_rules | `(tactic| walk_at "ea") => `(tactic| first
  | with_reducible exact ea_nil
  | ((with_reducible refine' ea_cons ?k1 ?k2); (case k1 => walk_at "ev"); (case k2 => walk_at "ea")))
local macro_rules | `(tactic| walk_at "ev") => `(tactic| first
  | with_reducible exact ev_c
  | ((with_reducible refine' ev_var ?k1); (case k1 => exact rfl))
  | ((with_reducible refine' ev_op ?k1 ?k2 ?k3); (case k1 => walk_at "ev"); (case k2 => walk_at "ev"); (case k3 => walk_at "rv"))
  | ((with_reducible refine' et_chain ?k1 ?k2 ?k3 ?k4 ?k5); (case k1 => walk_at "ev"); (case k2 => walk_at "ev"); (case k3 => (intro _; walk_at "ev")); (case k4 => walk_at "rv"); (case k5 => (intro _; walk_at "rv")))
  | ((with_reducible refine' ev_cb ?k1 ?k2); (case k1 => walk_at "ea"); (case k2 => walk_at "rc")))
local macro_rules | `(tactic| walk_at "et") => `(tactic| first
  | ((with_reducible refine' et_test ?k1); (case k1 => walk_at "ev"))
  | ((with_reducible refine' et_B ?k1); (case k1 => walk_at "ev"))
  | ((with_reducible refine' et_and ?k1 ?k2); (case k1 => walk_at "et"); (case k2 => (intro _; walk_at "et")))
  | ((with_reducible refine' et_or ?k1 ?k2); (case k1 => walk_at "et"); (case k2 => (intro _; walk_at "et")))
  | ((with_reducible refine' et_not ?k1); (case k1 => walk_at "et")))

abbrev sRounds : Stmt := topS 34
theorem scRounds : FnScope ["script", "most", "cells", "cell"] ["script", "most"] (defScope sRounds) := ⟨rfl, rfl, rfl, by decide +kernel, rfl, by decide +kernel, by decide +kernel⟩
theorem cut_take1 (xs : List V) : cutV xs none (some 1) = xs.take 1 := by
  unfold cutV
  have e : HT.sIx xs.length xs.length (some 1) = min 1 xs.length := HT.sIx_nat xs.length xs.length 1
  rw [HT.sIx_none, e]
  cases xs with
  | nil => rfl
  | cons x r =>
    rw [show min 1 (x :: r).length = 1 by rw [List.length_cons]; omega]
    rfl
section
variable {P : Program} {w : World} {K : PySem.W.Frag} {mg : Str → Option Value} {base : Heap}
def spRounds (K : PySem.W.Frag) : Sp := fun vs H Q _ => ∃ (s : Addr) (ns : List Int), vs = [.ref s, .int 1] ∧ SqL K H s (ns.map V.int) ∧
  ∀ r d a b c H', H r = none → H d = none → r ≠ d → Ex H H' → H' r = some (.lst [.ref d]) → H' d = some (.lst [.int a, .int b, .int c]) → Q (.ref r) H'
theorem ok_rounds {f : Addr} {fd : FuncData} (F : Fun K "_law_rounds" "_law_rounds" sRounds f fd) (cD : Cal P w K mg base 1 "_law_dice" spDice []) : FnOk P w K mg base (L2.CX P w) 2 f fd ["script", "most"] (spRounds K) := by
  refine F.okX scRounds (fun vs H Q E h => ?_) (fun cdv A outer s H vs Q E hr h => ?_)
  · obtain ⟨s, ns, rfl, _⟩ := h
    rfl
  · obtain ⟨sc, ns, rfl, hS, q⟩ := h
    refine ⟨_, pss_cons (ps_set (i := 2) scRounds.nd rfl (.inl rfl) (pe_slice sl_list (pv 0) po_none (po_some (pv 1))))
      (pss_cons (ps_if (pt_cmpR (op_eqD hr.units) (pv 2) (pe_lst pa_nil) (nomark _)) (pss_one (ps_set (i := 2) scRounds.nd rfl (.inl rfl) (pe_lst (pa_cons pe_int pa_nil)))) pss_nil)
      (pss_one (ps_ret (pe_lc (own := [("cell", 3)]) (g := gName 3) (tt := tYes) rfl scRounds.nd (pi_list (pv 2)) (blkOk_by (own := [("cell", 3)]) (N := ["script", "most", "cells", "cell"]) (sc := defScope sRounds) (by decide +kernel)) (fun _ _ _ _ _ => pg_name (i := 3) scRounds.nd rfl (Or.inl rfl)) (fun _ _ _ _ _ => pts_nil) (fun _ _ _ _ _ => pe_k cD hr (by decide) passL (pa_cons (pv 3) pa_nil)))))), ?_⟩
    -- the comprehension, over a list of one item
    have fin : ∀ (l2 : Addr) (x : Int) (H1 : Hp), Ex H H1 → H1 l2 = some (.lst [.int x]) → tRet (tLc (iList K (tVar 2)) (gName 3) tYes (tCall spDice [] E0 (tCons (tVar 3) tNil)) [3]) { nx := fun _ H' => Q .non H', rt := Q } [some (.ref sc), some (.int 1), some (.ref l2), none] H1 := fun l2 x H1 e1 hl => by
      refine ⟨.ref l2, rfl, l2, rfl, ⟨_, SqL.of hl⟩, fun Dl hD => lc_list (K := K) (a := l2) (xs := [.int x]) (fun i H' => (i = 0 ∧ H' = upd H1 Dl (.lst [])) ∨ (i = 1 ∧ ∃ d a b c, H1 d = none ∧ Dl ≠ d ∧ Ex H1 H' ∧ H' Dl = some (.lst [.ref d]) ∧ H' d = some (.lst [.int a, .int b, .int c])))
        (.inl ⟨rfl, rfl⟩) (fun i H' _ hP => ?_) (fun i y H' hy hP => ?_) fun H' hP => ?_⟩
      · have nl : l2 ≠ Dl := ne_of_none hl hD
        rcases hP with ⟨_, rfl⟩ | ⟨_, d, a, b, c, _, _, e, _⟩
        · exact SqL.of (by rw [upd_ne nl]; exact hl)
        · exact SqL.of (e _ _ hl)
      · have hi : i = 0 := by
          cases i with
          | zero => rfl
          | succ i => simp at hy
        subst hi
        obtain rfl : V.int x = y := Option.some.inj hy
        rcases hP with ⟨_, rfl⟩ | ⟨h, _⟩
        · refine ⟨rfl, .int x, rfl, x, rfl, fun p a b c H2 hp e2 h2 => ?_⟩
          have hDl : H2 Dl = some (.lst []) := e2 _ _ upd_same
          have npD : Dl ≠ p := ne_of_none (H := upd H1 Dl (.lst [])) upd_same hp
          have hp1 : H1 p = none := by rw [upd_ne npD.symm] at hp; exact hp
          refine ⟨[], hDl, by decide, .inr ⟨rfl, p, a, b, c, hp1, npD, fun z o hz => ?_, upd_same, by rw [upd_ne npD.symm]; exact h2⟩⟩
          rw [upd_ne (ne_of_none hz hD)]
          exact e2 _ _ (by rw [upd_ne (ne_of_none hz hD)]; exact hz)
        · cases h
      · rcases hP with ⟨h, _⟩ | ⟨_, d, a, b, c, hd, ne, e, g1, g2⟩
        · cases h
        · exact q Dl d a b c H' (fresh_back e1 hD) (fresh_back e1 hd) ne (e1.trans e) g1 g2
    refine q_asgL (xs := (ns.map V.int).take 1) (by
        have h := el_sl (K := K) (σ := [some (.ref sc), some (.int 1), none, none]) (H := H) (ev_var (i := 0) rfl) eo_none (eo_some (ev_var (i := 1) rfl)) hS
        rw [cut_take1] at h
        exact h) fun l H1 hl e1 h1 => ?_
    cases ns with
    | nil =>
      have h1 : H1 l = some (.lst []) := h1
      refine q_when (b := true) (fun H2 e2 Q2 q2 => ⟨.ref l, rfl, by decide, fun l2 hl2 => ⟨.list [], .list [], .lst (SqL.of (by rw [upd_ne (ne_of_none (e2 _ _ h1) hl2)]; exact e2 _ _ h1)) .nil, .lst (SqL.of upd_same) .nil, rfl, rfl, true, rfl, q2 _ (Ex.new hl2)⟩⟩) (fun _ H2 e2 => ?_) (fun z => nomatch z)
      refine s_asgL (el_lst (by walk_at "ea") (by show 1 ≤ 100000; decide)) fun l2 H3 hl2 e3 h3 => fin l2 0 H3 ((e1.trans e2).trans e3) h3
    | cons n r =>
      have h1 : H1 l = some (.lst [.int n]) := h1
      refine q_when (b := false) (fun H2 e2 Q2 q2 => ⟨.ref l, rfl, by decide, fun l2 hl2 => ⟨.list [.int n], .list [], .lst (SqL.of (by rw [upd_ne (ne_of_none (e2 _ _ h1) hl2)]; exact e2 _ _ h1)) (.cons (.int n) .nil), .lst (SqL.of upd_same) .nil, rfl, rfl, false, rfl, q2 _ (Ex.new hl2)⟩⟩) (fun z => nomatch z) (fun _ H2 e2 => ?_)
      exact fin l n H2 (e1.trans e2) (e2 _ _ h1)
end
end Rw
namespace Rw
open PySem PySem.Spec PyProof.Rows L2 Evl Cy
section
variable {K : PySem.W.Frag} {α β γ δ R τ : Type} {E E' : XK} {cl : Nat → Addr} {M : List Addr} {σ : L2.St} {I I' H H' : Hp} {S S' S1 S2 S3 : List Cell} {te ta tb tc to : TE} {tt : TT} {tr : TA} {t : Ty α} {u : Ty β} {w' : Ty γ} {x : α} {y : β} {v : V} {xs : List α} {C D : Addr}  {n : Int}
theorem hB1 {i : Int} : ∀ (H : Hp) (vs : List V), aC kI a0 H vs (i, ()) → vs = [.int i] := fun H vs ⟨v, r, e, h1, h2⟩ => by rw [e, show v = .int i from h1, show r = [] from h2]
theorem hB2 {i j : Int} : ∀ (H : Hp) (vs : List V), aC kI (aC kI a0) H vs (i, j, ()) → vs = [.int i, .int j] := fun H vs ⟨v, r, e, h1, h2⟩ => by rw [e, show v = .int i from h1, hB1 H r h2]
theorem hB3 {i j k : Int} : ∀ (H : Hp) (vs : List V), aC kI (aC kI (aC kI a0)) H vs (i, j, k, ()) → vs = [.int i, .int j, .int k] := fun H vs ⟨v, r, e, h1, h2⟩ => by rw [e, show v = .int i from h1, hB2 H r h2]
theorem hB0 : ∀ (H : Hp) (vs : List V), a0 H vs () → vs = [] := fun H vs h => h
theorem rsI {i : Int} : RsT K (.ok (.int i)) kI i := fun H => rfl
theorem rs3 {i j k : Int} : RsT K (.tup [.int i, .int j, .int k]) (k3 K kI kI kI) (i, j, k) := fun H p h => ⟨p, _, _, _, rfl, h, rfl, rfl, rfl⟩
/-- what may change are lists and tables alone -/
def LT (M : List Addr) (S : List Cell) : Prop := (∀ m ∈ M, m ∈ ads S) ∧ ∀ c ∈ S, ∀ I o, c.r I o c.x → (∃ l, o = .lst l) ∨ ∃ p, o = .tbl p
theorem lt_nil : LT [] [] := ⟨fun _ h => h, fun c h => by cases h⟩
theorem lt_cons {c : Cell} (h : LT M S) (k : ∀ I o, c.r I o c.x → (∃ l, o = .lst l) ∨ ∃ p, o = .tbl p) : LT (c.a :: M) (c :: S) :=
  ⟨fun m hm => by rcases List.mem_cons.mp hm with z | z; exact List.mem_cons.mpr (.inl z); exact List.mem_cons_of_mem _ (h.1 m z), fun z hz => by rcases List.mem_cons.mp hz with e | e; rw [e]; exact k; exact h.2 z e⟩
theorem lt_dice {d : Addr} {z : Dice} : ∀ I o, (cDice d z).r I o (cDice d z).x → (∃ l, o = .lst l) ∨ ∃ p, o = .tbl p := fun I o h => .inl ⟨_, h⟩
theorem lt_tab {P : Addr} {p : Str} : ∀ I o, (cTab P p).r I o (cTab P p).x → (∃ l, o = .lst l) ∨ ∃ p, o = .tbl p := fun I o ⟨ps, h, _⟩ => .inr ⟨ps, h⟩
theorem LT.not {w : Holds M S H} (h : LT M S) {a : Addr} {o : HO} (e : H a = some o) (n1 : ∀ l, o ≠ .lst l) (n2 : ∀ p, o ≠ .tbl p) : a ∉ M := fun z => by
  obtain ⟨c, hc, rfl⟩ := List.mem_map.mp (h.1 a z)
  obtain ⟨_, u, hu, ru⟩ := w.at_ c hc
  rw [e] at hu
  obtain rfl := Option.some.inj hu
  rcases h.2 c hc _ _ ru with ⟨l, q⟩ | ⟨p, q⟩
  · exact n1 l q
  · exact n2 p q
theorem LT.sqT {w : Holds M S H} (h : LT M S) {a : Addr} {vs : List V} (e : SqT K H a vs) : SqT K (del M H) a vs := by
  rcases e with (e | ⟨o, e⟩) | e
  · exact .inl (.inl (del_at (h.not (w := w) e (fun _ z => nomatch z) (fun _ z => nomatch z)) e))
  · exact .inl (.inr ⟨o, del_at (h.not (w := w) e (fun _ z => nomatch z) (fun _ z => nomatch z)) e⟩)
  · exact .inr e
end
/-! ### a dict of numbers in the making -/
def putN (l : List (Int × Int)) (k v : Int) : List (Int × Int) := if (l.any fun q => decide (q.1 = k)) = true then l.map (fun q => if q.1 = k then (q.1, v) else q) else l ++ [(k, v)]
def pairV (q : Int × Int) : Key × V := (.inl q.1, .int q.2)
theorem putK_pair (l : List (Int × Int)) (k v : Int) : putK (l.map pairV) (.inl k) (.int v) = (putN l k v).map pairV := by
  unfold putK putN
  have e : ((l.map pairV).any fun kv => decide (kv.1 = (.inl k : Key))) = (l.any fun q => decide (q.1 = k)) := by
    rw [List.any_map]
    congr 1
    funext q
    show decide ((Sum.inl q.1 : Key) = .inl k) = decide (q.1 = k)
    simp
  rw [e]
  split
  · rw [List.map_map, List.map_map]
    congr 1
    funext q
    show (if (Sum.inl q.1 : Key) = .inl k then ((Sum.inl q.1 : Key), V.int v) else pairV q) = pairV (if q.1 = k then (q.1, v) else q)
    by_cases h : q.1 = k
    · rw [if_pos (by rw [h]), if_pos h]
      rfl
    · rw [if_neg (fun z => h (Sum.inl.inj z)), if_neg h]
  · rw [List.map_append]
    rfl
theorem valV_pair (l : List (Int × Int)) (k : Int) : valV (l.map pairV) (.inl k) = (l.lookup k).map V.int := by
  induction l with
  | nil => rfl
  | cons q l ih =>
    rw [List.map_cons]
    by_cases h : q.1 = k
    · rw [valV_pos (by show (Sum.inl q.1 : Key) = _; rw [h]), List.lookup_cons]
      rw [show (k == q.1) = true by simp [h]]
      rfl
    · rw [valV_neg (by show ¬ (Sum.inl q.1 : Key) = .inl k; exact fun z => h (Sum.inl.inj z)), ih, List.lookup_cons]
      rw [show (k == q.1) = false by simp; exact fun z => h z.symm]
def cD (p : Addr) (l : List (Int × Int)) : Cell := ⟨p, List (Int × Int), fun _ o l => o = .dK (l.map pairV), fun _ h => h, l⟩
/-- the same, as it stays -/
def kDN : Ty (List (Int × Int)) := ⟨fun H v l => ∃ p, v = .ref p ∧ H p = some (.dK (l.map pairV)), fun e ⟨p, a, b⟩ => ⟨p, a, e _ _ b⟩⟩
section
variable {K : PySem.W.Frag} {α β γ δ R τ : Type} {E E' : XK} {cl : Nat → Addr} {M : List Addr} {σ : L2.St} {I I' H H' : Hp} {S S' S1 S2 S3 : List Cell} {te ta tb tc to : TE} {tt : TT} {tr : TA} {t : Ty α} {u : Ty β} {x : α} {y : β} {v : V} {xs : List α} {P : R → Prop} {D : Ends} {tz : TS} {p : Addr} {l : List (Int × Int)}
/-- a, b = {}, None: a in the making -/
theorem g_parD {i j : Nat} (w : Holds M S H) (c : ∀ p H2, H p = none → Gr M S H H2 → Holds (p :: M) (cD p [] :: S) H2 → Ex (del M H) (del (p :: M) H2) → tz D ((σ.set i (some (.ref p))).set j (some v)) H2) : tSeq (tPar i j (tCons tDNewK (tCons (tC v) tNil))) tz D σ H := fun p hp => by
  have e0 : Ex H (upd H p (.dK [])) := Ex.new hp
  exact ⟨_, v, rfl, c p _ hp ⟨ex_del e0, ex_del e0⟩ (w.new (c := cD p []) hp e0 upd_same rfl) ((del_new hp).trans (ex_del e0))⟩
/-- d[k] = e, d the n-th of what may change -/
theorem g_setD {n : Nat} {j v : Int} {k : List (Int × Int) → R} (w : Holds M S H) (o : P (lt (putN l j v) k)) (h : Em E cl M te σ (del M H) S kI (.ok v) S) (ha : Em E cl M ta σ (del M H) S (kPtr p) (.ok ()) S) (hb : Em E cl M tb σ (del M H) S kI (.ok j) S) (hk : S[n]? = some (cD p l)) (hz : l.length < 100000)
    (c : ∀ l' H2, l' = putN l j v → P (k l') → Gr M S H H2 → Holds M (S.set n (cD p l')) H2 → tz D σ H2) : tSeq (tAsg te (gSub ta tb rSetD)) tz D σ H :=
  em_of h H (Ex.refl _) w _ fun v1 H1 e1 w1 r1 => em_of ha H1 (w.grow e1) w1 _ fun v2 H2 e2 w2 r2 => em_of hb H2 ((w.grow e1).trans (w1.grow e2)) w2 _ fun v3 H3 e3 w3 r3 => by
    obtain rfl : v1 = .int v := r1
    obtain rfl : v2 = .ref p := r2
    obtain rfl : v3 = .int j := r3
    obtain ⟨pM, o3, h3, ro⟩ := w3.at_ _ (List.mem_of_getElem? hk)
    obtain rfl : o3 = .dK (l.map pairV) := ro
    have pS : p ∈ ads S := List.mem_map.mpr ⟨_, List.mem_of_getElem? hk, rfl⟩
    have pM : p ∈ M := pM
    refine ⟨p, _, rfl, DPut.k (k := .inl j) h3 (by rw [List.length_map]; exact sz_lt hz), ?_⟩
    rw [putK_pair]
    exact c _ _ rfl o ⟨by rw [del_upd pS]; exact (e1.trans e2).trans e3, by rw [del_upd pM]; exact ((w.grow e1).trans (w1.grow e2)).trans (w2.grow e3)⟩ (w3.put (c' := cD p (putN l j v)) hk rfl rfl)
theorem g_setDL {n : Nat} {j v : Int} {k : List (Int × Int) → R} (w : Holds M S H) (o : P (lt (putN l j v) k)) (h : Em E cl M te σ (del M H) S kI (.ok v) S) (ha : Em E cl M ta σ (del M H) S (kPtr p) (.ok ()) S) (hb : Em E cl M tb σ (del M H) S kI (.ok j) S) (hk : S[n]? = some (cD p l)) (hz : l.length < 100000)
    (c : ∀ l' H2, l' = putN l j v → P (k l') → Gr M S H H2 → Holds M (S.set n (cD p l')) H2 → D.nx σ H2) : tAsg te (gSub ta tb rSetD) D σ H :=
  g_setD (tz := fun _ σ H => D.nx σ H) (D := { D with nx := D.nx }) w o h ha hb hk hz c
/-- it stays as it is from now on -/
theorem cellD_end (w : Holds (p :: M) (cD p l :: S) H) (n : p ∉ M) : kDN.r (del M H) (.ref p) l := by
  obtain ⟨_, o, h, r⟩ := w.at_ _ List.mem_cons_self
  obtain rfl : o = .dK (l.map pairV) := r
  exact ⟨p, rfl, del_at n h⟩
theorem em_dgetN {k v : Int} (ha : Em E cl M ta σ I S kDN (.ok l) S1) (hb : Em E cl M tb σ I S1 kI (.ok k) S2) (h : l.lookup k = some v) : Em E cl M (tDGet ta tb) σ I S kI (.ok v) S2 :=
  em_mk (hb.ad.trans ha.ad) fun H1 i w Q q => em_of ha H1 i w _ fun v1 H2 e1 w1 r1 => em_of hb H2 (i.trans (w.grow e1)) w1 _ fun v2 H3 e2 w2 r2 => by
    obtain ⟨p, rfl, hp⟩ := kDN.up (w1.grow e2) r1
    obtain rfl : v2 = .int k := r2
    refine ⟨p, .int v, rfl, ?_, q _ H3 (ads_tr ha.ad e1 e2) w2 rfl⟩
    have g := DGet.k (k := (.inl k : Key)) (del_some.mp hp).2
    rw [valV_pair, h] at g
    exact g
def topOf (l : List Int) : Int := l.foldl max (l.headD 0)
theorem fold_max : ∀ (l : List Int) (a : Int), a ≤ l.foldl max a ∧ (∀ x ∈ l, x ≤ l.foldl max a) ∧ (l.foldl max a = a ∨ l.foldl max a ∈ l)
  | [], a => ⟨Int.le_refl _, fun x h => (by cases h), .inl rfl⟩
  | b :: l, a => by
    obtain ⟨h1, h2, h3⟩ := fold_max l (max a b)
    rw [List.foldl_cons]
    refine ⟨by omega, fun x hx => ?_, ?_⟩
    · rcases List.mem_cons.mp hx with z | z
      · rw [z]; omega
      · exact h2 x z
    · rcases h3 with z | z
      · rw [z]
        rcases Int.le_total a b with q | q
        · right; rw [Int.max_eq_right q]; exact List.mem_cons_self
        · left; exact Int.max_eq_left q
      · exact .inr (List.mem_cons_of_mem _ z)
theorem topOf_is {l : List Int} {m : Int} (h : m ∈ l) (k : ∀ n ∈ l, n ≤ m) : topOf l = m := by
  unfold topOf
  obtain ⟨h1, h2, h3⟩ := fold_max l (l.headD 0)
  have a := h2 m h
  have hd : l.headD 0 ∈ l := by cases l with
    | nil => cases h
    | cons a l => exact List.mem_cons_self
  have b : l.foldl max (l.headD 0) ≤ m := by
    rcases h3 with z | z
    · rw [z]; exact k _ hd
    · exact k _ z
  omega
theorem em_topVal (ha : Em E cl M ta σ I S kDN (.ok l) S1) (h : 0 < l.length) : Em E cl M (tTopVal ta) σ I S kI (.ok (topOf (l.map (·.2)))) S1 :=
  em_mk ha.ad fun H1 i w Q q => em_of ha H1 i w _ fun v1 H2 e1 w1 r1 => by
    obtain ⟨p, rfl, hp⟩ := r1
    refine ⟨p, l.map pairV, l.map (·.2), rfl, (del_some.mp hp).2, by rw [List.map_map, List.map_map]; rfl, by rw [List.length_map]; exact h, fun m hm k => ?_⟩
    rw [topOf_is hm k] at q
    exact q _ H2 e1 w1 rfl
theorem em_slP {a : Ty α} {b : Ty β} {c : Ty γ} {z : γ} (ha : Em E cl M ta σ I S (k3 K a b c) (.ok (x, y, z)) S') : Em E cl M (tSl (rSlT K) ta tNoPart (tPart (tC (.int 2)))) σ I S (k2 K a b) (.ok (x, y)) S' :=
  em_mk ha.ad fun H1 i w Q q => em_of ha H1 i w _ fun v1 H2 e1 w1 r1 => by
    obtain ⟨p, v1, v2, v3, rfl, hp, h1, h2, h3⟩ := r1
    refine ⟨2, rfl, p, _, rfl, ex_t del_le hp, fun z => absurd (show HT.sIx 3 3 (some 2) = 3 from z.2) (by decide), fun q2 hq => q _ _ (e1.trans (ex_del (Ex.new hq))) (w1.ex (Ex.new hq)) ⟨q2, v1, v2, rfl, st_of (del_at (fresh_not w1.live hq) upd_same), a.up (ex_del (Ex.new hq)) h1, b.up (ex_del (Ex.new hq)) h2⟩⟩
theorem g_par3 {a b e : Nat} {x1 : α} {x2 : β} {x3 : γ} {t3 : Ty γ} {k : α → β → γ → R} (w : Holds M S H) (o : P (lt x1 fun a => lt x2 fun b => lt x3 fun c => k a b c)) (h : Ea E cl M tr σ (del M H) S (aC t (aC u (aC t3 a0))) (.ok (x1, x2, x3, ())) S') (c : ∀ y1 y2 y3 v1 v2 v3 H2, y1 = x1 → y2 = x2 → y3 = x3 → P (k y1 y2 y3) → Gr M S H H2 → Holds M S' H2 → t.r (del M H2) v1 y1 → u.r (del M H2) v2 y2 → t3.r (del M H2) v3 y3 → tz D (((σ.set a (some v1)).set b (some v2)).set e (some v3)) H2) : tSeq (tPar3 a b e tr) tz D σ H :=
  ea_of h H (Ex.refl _) w _ fun vs H2 e w2 r => by
    obtain ⟨v1, r1, rfl, g1, v2, r2, rfl, g2, v3, r3, rfl, g3, rfl⟩ := r
    exact ⟨v1, v2, v3, rfl, c x1 x2 x3 v1 v2 v3 H2 rfl rfl rfl o (.of w e) w2 g1 g2 g3⟩
theorem g_tup3 {a b e : Nat} {x1 : α} {x2 : β} {x3 : γ} {t3 : Ty γ} {k : α → β → γ → R} (w : Holds M S H) (o : P (lt x1 fun a => lt x2 fun b => lt x3 fun c => k a b c)) (h : Ea E cl M tr σ (del M H) S (aC t (aC u (aC t3 a0))) (.ok (x1, x2, x3, ())) S') (c : ∀ y1 y2 y3 v1 v2 v3 H2, y1 = x1 → y2 = x2 → y3 = x3 → P (k y1 y2 y3) → Gr M S H H2 → Holds M S' H2 → t.r (del M H2) v1 y1 → u.r (del M H2) v2 y2 → t3.r (del M H2) v3 y3 → tz D (((σ.set a (some v1)).set b (some v2)).set e (some v3)) H2) : tSeq (tAsg (tTup tr) (gTup K 3 (gCons (gName a) (gCons (gName b) (gCons (gName e) gNil))))) tz D σ H :=
  ea_of h H (Ex.refl _) w _ fun vs H2 e w2 r => by
    obtain ⟨v1, r1, rfl, g1, v2, r2, rfl, g2, v3, r3, rfl, g3, rfl⟩ := r
    refine ⟨by show 3 ≤ sizeLine; decide, fun p hp => ⟨p, _, rfl, SqT.of upd_same, rfl, v1, _, rfl, v2, _, rfl, v3, _, rfl, rfl, ?_⟩⟩
    have e2 : Ex H2 (upd H2 p (.tup [v1, v2, v3])) := Ex.new hp
    exact c x1 x2 x3 v1 v2 v3 _ rfl rfl rfl o (.of w (e.trans (ex_del e2))) (w2.ex e2) (t.up (ex_del e2) g1) (u.up (ex_del e2) g2) (t3.up (ex_del e2) g3)
theorem g_tup2 {i j : Nat} {kk : α → β → R} (w : Holds M S H) (o : P (lt x fun a => lt y fun b => kk a b)) (h : Ea E cl M tr σ (del M H) S (aC t (aC u a0)) (.ok (x, y, ())) S') (c : ∀ x' y' v1 v2 H2, x' = x → y' = y → P (kk x' y') → Gr M S H H2 → Holds M S' H2 → t.r (del M H2) v1 x' → u.r (del M H2) v2 y' → tz D ((σ.set i (some v1)).set j (some v2)) H2) : tSeq (tAsg (tTup tr) (gTup K 2 (gCons (gName i) (gCons (gName j) gNil)))) tz D σ H :=
  ea_of h H (Ex.refl _) w _ fun vs H2 e w2 r => by
    obtain ⟨v1, r1, rfl, g1, v2, r2, rfl, g2, rfl⟩ := r
    refine ⟨by show 2 ≤ sizeLine; decide, fun p hp => ⟨p, _, rfl, SqT.of upd_same, rfl, v1, _, rfl, v2, _, rfl, rfl, ?_⟩⟩
    have e2 : Ex H2 (upd H2 p (.tup [v1, v2])) := Ex.new hp
    exact c x y v1 v2 _ rfl rfl o (.of w (e.trans (ex_del e2))) (w2.ex e2) (t.up (ex_del e2) g1) (u.up (ex_del e2) g2)
theorem g_tupD {i j : Nat} (w : Holds M S H) (c : ∀ p H2, H p = none → Gr M S H H2 → Holds (p :: M) (cD p [] :: S) H2 → Ex (del M H) (del (p :: M) H2) → tz D ((σ.set i (some (.ref p))).set j (some v)) H2) : tSeq (tAsg (tTup (tCons tDNewK (tCons (tC v) tNil))) (gTup K 2 (gCons (gName i) (gCons (gName j) gNil)))) tz D σ H := fun p hp => by
  have e0 : Ex H (upd H p (.dK [])) := Ex.new hp
  refine ⟨by show 2 ≤ sizeLine; decide, fun q hq => ⟨q, _, rfl, SqT.of upd_same, rfl, _, _, rfl, v, _, rfl, rfl, ?_⟩⟩
  have e1 : Ex (upd H p (.dK [])) (upd (upd H p (.dK [])) q (.tup [.ref p, v])) := Ex.new hq
  have e2 := e0.trans e1
  exact c p _ hp ⟨ex_del e2, ex_del e2⟩ (w.new (c := cD p []) hp e2 (e1 _ _ upd_same) rfl) ((del_new hp).trans (ex_del e2))
theorem opt_r {x : Option α} {d : α} {v : V} {I : Hp} (h : x.isSome = true) (r : (kO t).r I v x) : t.r I v (x.getD d) := by
  cases x with
  | none => cases h
  | some y => exact r.1
theorem head_at {l : List Int} (h : (!decide (l = [])) = true) : l[0]? = some (l.headD 0) := by
  cases l with
  | nil => simp at h
  | cons a l => rfl
end
theorem all_intsR {H : Hp} (ns : List Int) : All2 (kI.r H) (ns.map V.int) ns := by
  induction ns with
  | nil => exact .nil
  | cons n ns ih => exact .cons rfl ih
theorem _root_.L2.Room.u1 {k : Nat} {A : Around} (r : Room k A) : A.units + 1 < cLine := by have := r.un; omega
theorem _root_.L2.Room.u65 {k : Nat} {A : Around} (r : Room k A) : A.units + 65 < cLine := by have := r.un; omega
/-! ### bounds -/
theorem dictOf_fn {l : List Int} {f : Int → Int} {k : Int} (h : k ∈ l) : dictOf (l.map fun n => (n, f n)) k = some (f k) := by
  unfold dictOf
  cases e : (l.map fun n => (n, f n)).reverse.find? (fun q => decide (q.1 = k)) with
  | none =>
    rw [List.find?_eq_none] at e
    exact absurd (decide_eq_true rfl) (e (k, f k) (List.mem_reverse.mpr (List.mem_map.mpr ⟨k, h, rfl⟩)))
  | some q =>
    have a := List.find?_some e
    have b := List.mem_reverse.mp (List.mem_of_find?_eq_some e)
    obtain ⟨n, _, rfl⟩ := List.mem_map.mp b
    have a : n = k := of_decide_eq_true a
    rw [a]
    rfl
theorem dictOf_none {l : List Int} {f : Int → Int} {k : Int} (h : k ∉ l) : dictOf (l.map fun n => (n, f n)) k = none := by
  unfold dictOf
  rw [Option.map_eq_none_iff, List.find?_eq_none]
  intro q hq
  obtain ⟨n, hn, rfl⟩ := List.mem_map.mp (List.mem_reverse.mp hq)
  intro z
  have z : n = k := of_decide_eq_true z
  exact h (z ▸ hn)
theorem ix_tupK {X : Cx} {K : PySem.W.Frag} (h : X.K = K := by rfl) : IxR X (rIxT K) := by
  subst h
  exact ix_tup
/-- the loop over the one cell of the script, its dice and the table of lambdas -/
theorem q_dice {K : PySem.W.Frag} {a PT : Addr} {LQ : Str} {ns : List Int} {σ : L2.St} {H : Hp} {ta : TA} {D : Ends} {tu tz : TS} {j : Nat} (hv : EvA ta σ H [.ref a, .int 1]) (hS : SqL K H a (ns.map V.int)) (hT : H PT = some (.tbl #[])) (Sg : L2.St → Prop) (s0 : Sg σ)
    (hs : ∀ d z σ' H', Sg σ' → Holds [d, PT] [cDice d z, cTab PT LQ] H' → ∀ Nx : L2.St → Hp → Prop, (∀ z' σ2 H2, Sg σ2 → Gr [d, PT] [cDice d z, cTab PT LQ] H' H2 → Holds [d, PT] [cDice d z', cTab PT LQ] H2 → Nx σ2 H2) → tu { D with nx := Nx, ct := Nx, bk := tz D } (σ'.set j (some (.ref d))) H')
    (hd : ∀ M S σ' H', Sg σ' → Holds M S H' → tz D σ' H') :
    tSeq (tFor (iList K (tCall (spRounds K) [] E0 ta)) (gName j) tu) tz D σ H :=
  hv H (Ex.refl H) _ fun H1 e1 => ⟨a, ns, rfl, ex_l e1 hS, fun r d x y z H2 hr hd0 hne e2 h2 h3 => by
    have hP : H2 PT = some (.tbl #[]) := e2 _ _ (e1 _ _ hT)
    have dP : d ≠ PT := fun q => by rw [q, hP] at h3; cases h3
    have rP : r ≠ PT := fun q => by rw [q, hP] at h2; cases h2
    have w0 : Holds [d, PT] [cDice d (x, y, z), cTab PT LQ] H2 := by
      refine ⟨fun c hc => ?_, by simp [ads, cDice, cTab, dP], fun m hm => ?_⟩
      · rcases List.mem_cons.mp hc with q | q
        · rw [q]; exact ⟨List.mem_cons_self, _, h3, rfl⟩
        · rw [List.mem_singleton.mp q]
          refine ⟨by simp [cTab], _, hP, #[], rfl, by first | trivial | decide, fun pos cv z => ?_⟩
          cases z
      · rcases List.mem_cons.mp hm with q | q
        · rw [q, h3]; exact fun z => nomatch z
        · rw [List.mem_singleton.mp q, hP]; exact fun z => nomatch z
    have rM : r ∉ [d, PT] := by simp [hne, rP]
    have keep : ∀ H', Ex (del [d, PT] H2) (del [d, PT] H') → H' r = some (.lst [.ref d]) := fun H' e => (del_some.mp (e r _ (del_some.mpr ⟨rM, h2⟩))).2
    refine ⟨r, rfl, ⟨_, SqL.of h2⟩, for_list (xs := [.ref d]) (fun _ σ' H' => Sg σ' ∧ Ex (del [d, PT] H2) (del [d, PT] H') ∧ ∃ z, Holds [d, PT] [cDice d z, cTab PT LQ] H') ⟨s0, Ex.refl _, _, w0⟩ (fun i σ' H' _ p => SqL.of (keep H' p.2.1)) (fun i v σ' H' hi p => ?_) (fun σ' H' p => ?_)⟩
    · obtain rfl : v = .ref d := by
        cases i with
        | zero => exact (Option.some.inj hi).symm
        | succ i => simp at hi
      obtain ⟨p1, p2, z, p3⟩ := p
      exact hs d z σ' H' p1 p3 _ fun z' σ2 H3 g1 g2 g3 => ⟨g1, p2.trans g2.im, z', g3⟩
    · obtain ⟨p1, p2, z, p3⟩ := p
      exact hd _ _ σ' H' p1 p3⟩
theorem lookup_putN (l : List (Int × Int)) (k v j : Int) : (putN l k v).lookup j = if j = k then some v else l.lookup j := by
  have a := valV_pair (putN l k v) j
  rw [← putK_pair, valV_put, valV_pair] at a
  by_cases h : j = k
  · rw [if_pos (by rw [h])] at a
    rw [if_pos h]
    cases e : (putN l k v).lookup j with
    | none => rw [e] at a; cases a
    | some y => rw [e] at a; have a := Option.some.inj a; injection a with a; rw [a]
  · rw [if_neg (fun z => h (Sum.inl.inj z))] at a
    rw [if_neg h]
    cases e : (putN l k v).lookup j with
    | none => rw [e] at a; cases e2 : l.lookup j with
      | none => rfl
      | some y => rw [e2] at a; cases a
    | some y => rw [e] at a; cases e2 : l.lookup j with
      | none => rw [e2] at a; cases a
      | some z => rw [e2] at a; have a := Option.some.inj a; injection a with a; rw [a]
theorem len_putN (l : List (Int × Int)) (k v : Int) : (putN l k v).length ≤ l.length + 1 := by
  unfold putN
  split
  · rw [List.length_map]; omega
  · rw [List.length_append]; exact Nat.le_refl _
section
variable {K : PySem.W.Frag} {α : Type} {t : Ty α} {E : XK} {cl : Nat → Addr} {M : List Addr} {σ : L2.St} {I : Hp} {S : List Cell}
/-- a list against the bare one -/
theorem em_lcK {β : Type} {u : Ty β} {r : Re β} {S' : List Cell} {wi : TI} {g : TG} {tt : L2.St → TT} {te : L2.St → TE} {vs : List Nat} (h : Em E cl M (tLc wi g (tt σ) (te σ) vs) σ I S u r S') : Em E cl M (tLcK wi g tt te vs) σ I S u r S' := ⟨h.ad, h.run⟩
theorem some_r {v : V} {x : α} (r : t.r I v x) (nn : v ≠ .non) : (kO t).r I v (some x) := ⟨r, nn⟩
theorem none_r : (kO t).r I .non none := rfl
theorem em_noneL : Em E cl M (tLst tNil) σ I S (kL K t) (.ok []) S := em_lst K em_nilL (by simp)
theorem o_neNil : Op2 (rNeD K) (kL K t) ([] : List α) (kL K t) [] kB false := fun M v1 v2 H l a b Q q => by
  obtain ⟨p, vs, rfl, hp, ha⟩ := a
  obtain ⟨p2, vs2, rfl, hp2, ha2⟩ := b
  cases ha
  cases ha2
  exact ⟨.list [], .list [], .lst (ex_l del_le hp) .nil, .lst (ex_l del_le hp2) .nil, rfl, rfl, q _ H (Ex.refl H) rfl⟩
theorem told_r {X : Cx} {k i : Nat} {ag : L2.St → Prop} {params : Arguments} {body : Expr} {scope : Scope} {tb : XK → TE} (h4 : LamX.LamS X.env.scope scope) (h5 : ∀ (pm cv ctv : Value), bindArgs (PySem.W.kla_fn "<lambda>" (X.env.qual ++ "<lambda>") params body scope (cloFrom X.env.cells scope.names []) pm cv ctv) ⟨[], []⟩ = pure [])
    (h6 : ∀ (f cc : Addr) (A : Around) (outer : List Env) (s : Shared) (H : Hp) (E : XK), Room k (A.deeper (LamX.lamEnv X scope s.heap.objs.size f cc)) → PE (LamX.lamCx X A outer s H E scope f cc) body (tb E)) (hi : i < 11) (h9 : ∀ E M S σ' I', Ex I I' → ag σ' → Em E cl M (tb E) σ' I' S kN (.er i) S) :
    ∀ f cc I', Ex I I' → I' f = some (LamC f (X.env.qual ++ "<lambda>") params body scope (cloFrom X.env.cells scope.names []) cc) → I' cc = some (LamX.CodeO cc (X.env.qual ++ "<lambda>")) → (kTold X cl k ag).r I' (.ref f) (kindName i) := fun f cc I' e h2 h3 =>
  ⟨f, cc, params, body, scope, tb, i, rfl, h2, h3, h4, h5, h6 f cc, hi, rfl, fun E M S σ' I2 e2 => h9 E M S σ' I2 (e.trans e2)⟩
end
/-- where _law_told stands -/
def ToldF (K : PySem.W.Frag) (mg : Str → Option Value) : Prop := ∃ (g : Addr) (oc kV dc pm cdv ct : Value) (od an : Option Addr) (osl : Array (Option Value)), mg "_law_told" = some (.ref g) ∧ PySem.W.keepIn K (.ref g) = true ∧
  K.lookup g = some ⟨oc, od, .func (PySem.W.fnOf "_law_told" "_law_told" (defArgs sTold) (defBody sTold) (defScope sTold) .none kV dc pm an cdv ct), osl⟩ ∧ PySem.W.codeIn K cdv "_law_told" = true ∧ Binds K (PySem.W.fnOf "_law_told" "_law_told" (defArgs sTold) (defBody sTold) (defScope sTold) .none kV dc pm an cdv ct) ["what"] []
theorem Gr.back {M : List Addr} {S S1 : List Cell} {H H1 : Hp} {p : Addr} (w : Holds M S H) (g : Gr M S H H1) (w1 : Holds M S1 H1) (h : H1 p = none) : H p = none := by
  cases e : H p with
  | none => rfl
  | some o =>
    have pM : p ∉ M := fun z => w1.live p z h
    have := (del_some.mp (g.im p o (del_some.mpr ⟨pM, e⟩))).2
    rw [h] at this
    cases this
theorem Gr.lone2 {M : List Addr} {S : List Cell} {c : Cell} {H H1 H2 : Hp} (hp : H c.a = none) (a : Gr M S H H1) (b : Gr (c.a :: M) (c :: S) H1 H2) : Gr M S H H2 := by
  have go : ∀ A, Ex (del A H) (del A H1) → Ex (del (c.a :: A) H1) (del (c.a :: A) H2) → Ex (del A H) (del A H2) := fun A e f x o h => by
    obtain ⟨n, hx⟩ := del_some.mp h
    have n2 : x ∉ c.a :: A := fun z => by
      rcases List.mem_cons.mp z with z | z
      · rw [z, hp] at hx; cases hx
      · exact n z
    have g := (del_some.mp (e x o h)).2
    exact del_some.mpr ⟨n, (del_some.mp (f x o (del_some.mpr ⟨n2, g⟩))).2⟩
  exact ⟨go _ a.fr b.fr, go _ a.im b.im⟩
def Pt (b : Bool) : Prop := b = true
end Rw
namespace Rw
open PySem PySem.Spec PyProof.Rows L2 Evl
theorem meets_str_eq_ref (a : Str) (t : Tok) (x : Addr) : Meets (Builtin.«str.__eq__» ⟨[.str a t, .ref x], []⟩) (fun A R s => (∃ C dx, s.heap.get? x = some (PySem.W.instObj C dx)) ∧ R (.ok (.ret .notImplemented)) s) := by
  intro prog w A R s h
  obtain ⟨⟨C, dx, h1⟩, q⟩ := h
  obtain ⟨hp, g, d, tk, os⟩ := s
  unfold Builtin.«str.__eq__»
  wp_walk
  exact q
section
variable {M : Model} {prog : Program} {w : World} {A : Around} {E : Value → Shared → Prop} {s : Shared} {K : PySem.W.Frag} {x C dx : Addr} {ox : Obj} {od : Option Obj} {b : Str} {t : Tok}
theorem isSame_strR {R : Bool → Shared → Prop} (h : R false s) : wpAny M A (isSame (.ref x) (.str b t)) R E s := wpAny_of_eq (rfl : isSame (.ref x) (.str b t) = pure false) h
theorem entry_str {Q : Fin → Shared → Prop} (hq : Q (.done (.ret .notImplemented)) s) : wpAny M A (Builtin.«object.__eq__» ⟨[.ref x, .str b t], []⟩) Q E s := by
  unfold Builtin.«object.__eq__»
  repeat (first | with_reducible refine isSame_strR ?_ | wp_step)
  exact hq
theorem call_objEqS {Q : Value → Shared → Prop} (X : K.In s.heap) (I : PySem.W.InstAt s.heap x ox C od) (hm : PySem.W.mroIn K C (.type "object") = some true) (hq : Q .notImplemented s) :
    wpAny (model prog w) A (call (.builtin "object.__eq__") [.ref x, .str b t]) Q E s :=
  wpAny_call (codeAny_call_builtin F.cmp_object.eq.plain F.cmpEntry_eq (PySem.W.check_slot F.cmpKind_eq F.cmpSplit_eq (I.type.andThen (PySem.W.looks_mroIn X hm)) (F.cmpArgs_eq _ _) (entry_str hq)))
theorem sub_strC : PySem.W.subIn K (.type "str") (.ref C) = some false := by
  have e : fastBuiltinMro "str" = some [.type "str", .type "object"] := by decide +kernel
  show (fastBuiltinMro "str").map (·.contains (.ref C)) = some false
  rw [e]
  first
    | rfl
    | simp
theorem rc_strI (hu : A.units < cLine) (X : K.In s.heap) (I : PySem.W.InstAt s.heap x ox C od) (hx : s.heap.get? x = some (PySem.W.instObj C dx)) (hm : PySem.W.mroIn K C (.type "object") = some true) (hs : PySem.W.findIn K (.ref C) "__eq__" = some (some (.builtin "object.__eq__"))) :
    SeqAt.RcAt A s (.ref x) (.str b t) false := fun prog w E Q h => by
  have one : wpAny (model prog w) A (tryCompare (.ref x) "__eq__" (.str b t)) (fun r s' => r = none ∧ s' = s) E s := by
    unfold tryCompare
    exact wpAny_bind (HN.ifBound_objEq X I hs (call_objEqS X I hm (wpAny_pure ⟨rfl, rfl⟩)))
  have two : wpAny (model prog w) A (tryCompare (.str b t) "__eq__" (.ref x)) (fun r s' => r = none ∧ s' = s) E s :=
    wpAny_tryCompare_declines (typeIs_str s b t) F.slot_str_eq_refl (call_meets F.slot_str_eq_refl (typeIs_str s b t) F.entry_str_eq (F.args_str_eq_2 _ _) (meets_str_eq_ref b t x) ⟨⟨C, dx, hx⟩, rfl, rfl, rfl⟩)
  simp only [richCompare, cmpInfo_Eq, oneThing_ref]
  refine wpAny_holding (wpAny_bind (wpAny_cRoomFor hu ?_))
  refine wpAny_bind (I.type.here ?_)
  refine wpAny_bind (wpAny_typeOf (typeIs_str s b t) ?_)
  split
  · refine wpAny_bind ((PySem.W.looks_subIn X sub_strC).here ?_)
    simp only [Bool.false_eq_true, if_false, Bool.not_false, if_true]
    refine wpAny_bind (m := tryCompare (.ref x) _ (.str b t)) (wpAny_mono one (fun r s1 z => ?_) fun _ _ e => e)
    obtain ⟨z1, z2⟩ := z
    subst z1
    subst z2
    refine wpAny_bind (m := tryCompare (.str b t) _ (.ref x)) (wpAny_mono two (fun r s2 z => ?_) fun _ _ e => e)
    obtain ⟨z1, z2⟩ := z
    subst z1
    subst z2
    exact wpAny_bind (wpAny_rule (wpAny_bind (wpAny_of_eq (rfl : isSame (.ref x) (.str b t) = pure false) (wpAny_pure h))))
  · rename_i q
    exact absurd (by simp) q
end
/-- an instance without an __eq__ of its own -/
structure NoEq (K : PySem.W.Frag) (C : Addr) : Prop where
  mro : PySem.W.mroIn K C (.type "object") = some true
  find : PySem.W.findIn K (.ref C) "__eq__" = some (some (.builtin "object.__eq__"))
/-- a text, or such an instance, against a text -/
def rEqIS (K : PySem.W.Frag) : R2 := fun x y H Q => ∃ b : Str, y = .str b ∧ ((∃ a : Str, x = .str a ∧ Q (.bl (decide (a = b))) H) ∨ ∃ p C dx fs, x = .ref p ∧ H p = some (.ins C dx fs) ∧ NoEq K C ∧ Q (.bl false) H)
theorem op_eqIS {X : Cx} (hu : X.A.units < cLine) : OpR X (compareOp .Eq) (rEqIS X.K) := by
  intro pins s σ H x y v u Q I rx ry h
  obtain ⟨b, rfl, h⟩ := h
  rcases h with ⟨a, rfl, q⟩ | ⟨p, C, dx, fs, rfl, hp, ne, q⟩
  · refine op_eq pins s σ H _ _ v u Q I rx ry ⟨rfl, ?_⟩
    rw [show decide (V.str a = V.str b) = decide (a = b) by simp]
    exact q
  · obtain ⟨t, rfl⟩ := ry
    obtain rfl : v = Value.ref p := rx
    obtain ⟨mA, O, _⟩ := ins_get I.hok hp
    obtain ⟨od, J, _⟩ := O.look
    show wpAny _ _ (richCompare .Eq _ _) _ _ _
    exact rc_strI hu I.kIn J O.obj ne.mro ne.find _ _ _ _ ⟨.bl false, H, I, rfl, q⟩
end Rw
namespace Rw
open PySem PySem.Spec PyProof.Rows L2 Evl
section
variable {K : PySem.W.Frag} {α β γ δ R τ : Type} {E E' : XK} {cl : Nat → Addr} {M : List Addr} {σ : L2.St} {I I' H H' : Hp} {S S' S1 S2 S3 : List Cell} {te ta tb tc to : TE} {tt : TT} {tr : TA} {t : Ty α} {u : Ty β} {w' : Ty γ} {v : V}  {n : Int} 
theorem o_divmod {i j : Int} (h : CDiv i j) : OpN (fun xs H Q => ∃ i j, xs = [.int i, .int j] ∧ CDiv i j ∧ ∀ p, H p = none → Q (.ref p) (upd H p (.tup [.int (i / j), .int (i % j)]))) (aC kI (aC kI a0)) (i, j, ()) (k2 K kI kI) (i / j, i % j) := fun M us H l a Q q => by
  obtain rfl := hB2 _ _ a
  exact ⟨i, j, rfl, h, fun p hp => q _ _ (Ex.new hp) ⟨p, _, _, rfl, st_of (del_at (fresh_not l hp) upd_same), rfl, rfl⟩⟩
theorem o_min2 {i j : Int} : OpN (fun xs H Q => ∃ i j, xs = [V.int i, V.int j] ∧ Q (.int (if j < i then j else i)) H) (aC kI (aC kI a0)) (i, j, ()) kI (if j < i then j else i) := fun M us H l a Q q => by
  obtain rfl := hB2 _ _ a
  exact ⟨i, j, rfl, q _ H (Ex.refl H) rfl⟩
theorem o_max2 {i j : Int} : OpN (fun xs H Q => ∃ i j, xs = [V.int i, V.int j] ∧ Q (.int (if j > i then j else i)) H) (aC kI (aC kI a0)) (i, j, ()) kI (if j > i then j else i) := fun M us H l a Q q => by
  obtain rfl := hB2 _ _ a
  exact ⟨i, j, rfl, q _ H (Ex.refl H) rfl⟩
/-- a range that is kept -/
def kRng : Ty (Int × Int) := ⟨fun H v x => ∃ a, v = .ref a ∧ H a = some (.rng x.1 x.2), fun e ⟨a, h1, h2⟩ => ⟨a, h1, e _ _ h2⟩⟩
theorem o_range2 {i j : Int} : OpN (fun vs H Q => ∃ i j, vs = [V.int i, V.int j] ∧ ∀ p, H p = none → Q (.ref p) (upd H p (.rng i j))) (aC kI (aC kI a0)) (i, j, ()) kRng (i, j) := fun M us H l a Q q => by
  obtain rfl := hB2 _ _ a
  exact ⟨i, j, rfl, fun p hp => q _ _ (Ex.new hp) ⟨p, rfl, del_at (fresh_not l hp) upd_same⟩⟩
theorem ei_RV {lo n : Int} (h : Em E cl M te σ I S kRng (.ok (lo, n)) S') (b : -(2 ^ 62) ≤ lo ∧ lo < 2 ^ 62 ∧ -(2 ^ 62) ≤ n ∧ n < 2 ^ 62) : Ei E cl M (iRngV te) σ I S kI (rng lo n) S' :=
  ⟨h.ad, fun H1 i w R q => em_of h H1 i w _ fun v H2 e w2 r => by
    obtain ⟨a, rfl, ha⟩ := r
    refine ⟨a, lo, n, rfl, (del_some.mp ha).2, b, q _ H2 (fun _ => True) _ e w2 (by rw [rng_len]; exact walk_range) (fun _ _ => trivial) ?_⟩
    intro i H v H' x hx e2 y
    obtain ⟨rfl, rfl⟩ := y
    exact ⟨Ex.refl _, fun M' l e3 => by rw [(rng_at hx).1]; rfl⟩⟩
theorem o_ixLI {xs : List α} {x : α} {i : Int} (h : atI xs i = some x) : Op2 (rIxL K) (kL K t) xs kI i t x := fun M u w H l a b Q q => by
  obtain ⟨p, vs, rfl, hp, ha⟩ := a
  obtain rfl : w = .int i := b
  obtain ⟨j, hj, hx⟩ : ∃ j, ixN xs.length i = some j ∧ xs[j]? = some x := by
    unfold atI at h
    cases hj : ixN xs.length i with
    | none => rw [hj] at h; cases h
    | some j => rw [hj] at h; exact ⟨j, rfl, h⟩
  obtain ⟨v, hv, hr⟩ := ha.at2 hx
  refine ⟨p, vs, i, v, rfl, rfl, ex_l del_le hp, ?_, q v H (Ex.refl H) hr⟩
  unfold atI
  rw [ha.len]
  show (ixN xs.length i).bind _ = _
  rw [hj]
  exact hv
end
end Rw
namespace Rw
open PySem PySem.Spec PyProof.Rows L2 Evl
/-- built-ins of the text's own names -/
structure BD (mg : Str → Option Value) : Prop where
  len : mg "len" = none
  min : mg "min" = none
  max : mg "max" = none
  range : mg "range" = none
  divmod : mg "divmod" = none
  sum : mg "sum" = none
  int : mg "int" = none
  abs : mg "abs" = none
def Pr {β : Type} (z r : Re β) : Prop := z = r
section
variable {K : PySem.W.Frag} {α β γ δ R τ : Type} {E E' : XK} {cl : Nat → Addr} {M : List Addr} {σ : L2.St} {I I' H H' : Hp} {S S' S1 S2 S3 : List Cell} {te ta tb tc to : TE} {tt : TT} {tr : TA} {t : Ty α} {u : Ty β} {w' : Ty γ} {v : V}  {n : Int} {x : α} {y : β}
theorem fMd_ok {y m : Int} (h : 0 ≤ m ∧ m < (c.months.length : Int)) : fMonthDays c ([.int y, .int m] ++ []) = some (.ok (.int (c.md y m.toNat))) := by
  show some (if _ then _ else _) = _
  rw [if_pos h]
/-- the last argument may raise -/
theorem em_consR {r : Re γ} {w : Ty γ} {ta tb : TE} (h : Em E cl M ta σ I S t (.ok x) S1) (k : Em E cl M tb σ I S1 w r S2) : Ea E cl M (tCons ta (tCons tb tNil)) σ I S (aC t (aC w a0)) (r.bind fun y => .ok (x, y, ())) S2 :=
  ⟨k.ad.trans h.ad, fun H1 i w Q q qe => em_of h H1 i w _ fun v H2 e w1 r1 => k.run H2 (i.trans (w.grow e)) w1 _ (fun y v2 H3 ey e2 w2 r2 => q (x, y, ()) [v, v2] H3 (by rw [ey]; rfl) (ads_tr h.ad e e2) w2 ⟨v, _, rfl, t.up (w1.grow e2) r1, v2, _, rfl, r2, rfl⟩)
    (fun j H3 ej e2 w2 => qe j H3 (by rw [ej]; rfl) (ads_tr h.ad e e2) w2)⟩
theorem em_chainR {r r' : R2} {b : Bool} {rz : Re γ} {b' : γ → Bool} {w : Ty γ} (ha : Em E cl M ta σ I S t (.ok x) S1) (hb : Em E cl M tb σ I S1 u (.ok y) S2) (hc : b = true → Em E cl M tc σ I S2 w rz S2) (ho : Op2 r t x u y kB b) (ho' : ∀ z, rz = .ok z → Op2 r' u y w z kB (b' z)) : Em E cl M (tChain r r' ta tb tc) σ I S kB (cond b (rz.bind fun z => .ok (b' z)) (.ok false)) S2 :=
  ⟨hb.ad.trans ha.ad, fun H1 i w Q q qe => em_of ha H1 i w _ fun v1 H2 e1 w1 r1 => em_of hb H2 (i.trans (w.grow e1)) w1 _ fun v2 H3 e2 w2 r2 =>
    ho M v1 v2 H3 w2.live (t.up (w1.grow e2) r1) r2 _ fun v H4 e3 r3 => by
      have e13 := (ads_tr ha.ad e1 e2).trans (ex_del e3)
      refine ⟨b, r3, ?_⟩
      cases b with
      | true =>
        rw [if_pos rfl]
        have a2 : ads S2 = ads S := hb.ad.trans ha.ad
        have w3 := w2.ex e3
        refine (hc rfl).run H4 (i.trans (w.grow e13)) (w2.ex e3) _ (fun z v4 H5 ez e4 w4 r4 => ?_) (fun k H5 ek e4 w4 => qe k H5 (by rw [ek]; rfl) (ads_tr a2 e13 e4) w4)
        exact ho' z ez M v2 v4 H5 w4.live (u.up ((ex_del e3).trans (w3.grow e4)) r2) r4 Q fun v5 H6 e5 r5 => q (b' z) v5 H6 (by rw [ez]; rfl) ((ads_tr a2 e13 e4).trans (ex_del e5)) (w4.ex e5) r5
      | false =>
        rw [if_neg Bool.false_ne_true]
        exact q false _ H4 rfl e13 (w2.ex e3) rfl⟩
theorem gt_testR {r : Re Bool} (h : Em E cl M te σ I S kB r S') : Et E cl M (tTest te) σ I S r S' := ⟨h.ad, fun H1 i w Q q qe => h.run H1 i w _ (fun b v H2 eb e w' r => ⟨b, r, q b H2 eb e w'⟩) qe⟩
theorem gt_notR {r : Re Bool} (h : Et E cl M tt σ I S r S') : Et E cl M (tNot tt) σ I S (r.bind fun b => .ok (!b)) S' := ⟨h.ad, fun H1 i w Q q qe => h.run H1 i w _ (fun b H2 eb e w' => q (!b) H2 (by rw [eb]; rfl) e w') (fun k H2 ek e w' => qe k H2 (by rw [ek]; rfl) e w')⟩
/-- a test that may raise, of a def that may -/
theorem g_ifX {P : Re β → Prop} {A B : Re β} {r : Re Bool} {tu tw tz : TS} {D : Ends} (w : Holds M S H) (o : P (lr r fun b => cond b A B)) (h : Et E cl M tt σ (del M H) S r S') (c1 : r = .ok true → P A → ∀ H2, Gr M S H H2 → Holds M S' H2 → tu { D with nx := tz D } σ H2) (c2 : r = .ok false → P B → ∀ H2, Gr M S H H2 → Holds M S' H2 → tw { D with nx := tz D } σ H2)
    (c3 : ∀ k H2, r = .er k → P (.er k) → Gr M S H H2 → Holds M S' H2 → E (.ref (cl k)) none H2) : tSeq (tIfS tt tu tw) tz D σ H :=
  h.run H (Ex.refl _) w _ (fun b H2 eb e w2 => by
    subst eb
    cases b with
    | true => exact c1 rfl o H2 (.of w e) w2
    | false => exact c2 rfl o H2 (.of w e) w2) fun k H2 ek e w2 => c3 k H2 ek (by subst ek; exact o) (.of w e) w2
/-- x += e -/
theorem g_aug {i : Nat} {P : R → Prop} {k : Int → R} {a b z : Int} {tip : TIp} {tz : TS} {D : Ends} (w : Holds M S H) (o : P (lt z k)) (hσ : σ[i]? = some (some (.int a))) (h : Em E cl M te σ (del M H) S kI (.ok b) S') (ht : ∀ H Q, Q (.int z) H → tip (.int a) (.int b) H Q) (c : ∀ x' H2, x' = z → P (k x') → Gr M S H H2 → Holds M S' H2 → tz D (σ.set i (some (.int x'))) H2) : tSeq (tAug i te tip) tz D σ H :=
  ⟨_, hσ, em_of h H (Ex.refl _) w _ fun v H2 e w2 r => by
    obtain rfl : v = .int b := r
    exact ht H2 _ (c z H2 rfl o (.of w e) w2)⟩
theorem g_augL {i : Nat} {P : R → Prop} {k : Int → R} {a b z : Int} {tip : TIp} {D : Ends} (w : Holds M S H) (o : P (lt z k)) (hσ : σ[i]? = some (some (.int a))) (h : Em E cl M te σ (del M H) S kI (.ok b) S') (ht : ∀ H Q, Q (.int z) H → tip (.int a) (.int b) H Q) (c : ∀ x' H2, x' = z → P (k x') → Gr M S H H2 → Holds M S' H2 → D.nx (σ.set i (some (.int x'))) H2) : tAug i te tip D σ H :=
  ⟨_, hσ, em_of h H (Ex.refl _) w _ fun v H2 e w2 r => by
    obtain rfl : v = .int b := r
    exact ht H2 _ (c z H2 rfl o (.of w e) w2)⟩
theorem hold0 {H : Hp} {M : List Addr} (l : ∀ m ∈ M, H m ≠ none) : Holds M [] H := ⟨fun c hc => (by cases hc), List.nodup_nil, l⟩
end
end Rw
namespace Rw
open PySem PySem.Spec PyProof.Rows L2 Evl
section
variable {K : PySem.W.Frag} {α β γ δ R τ : Type} {E E' : XK} {cl : Nat → Addr} {M : List Addr} {σ : L2.St} {I I' H H' : Hp} {S S' S1 S2 S3 : List Cell} {te ta tb tc to : TE} {tt : TT} {tr : TA} {t : Ty α} {u : Ty β} {w' : Ty γ} {v : V}  {n : Int} {x : α} {y : β}
theorem args_m {A : AR β} {b : β} : ∀ (H : Hp) (v : V) (vs : List V), t.r H v x → A H vs b → aC t A H (v :: (vs ++ [])) (x, b) := fun H v vs r h => ⟨v, vs ++ [], rfl, r, by rw [List.append_nil]; exact h⟩
theorem at_in {xs : List Int} {i : Int} (h : 0 - (xs.length : Int) ≤ i ∧ i < (xs.length : Int)) : atI xs i = some ((atI xs i).getD 0) := by
  have k : ∀ j : Nat, j < xs.length → (some j).bind (fun j => xs[j]?) = some (((some j).bind fun j => xs[j]?).getD 0) := fun j hj => by
    show xs[j]? = some (xs[j]?.getD 0)
    rw [List.getElem?_eq_getElem hj]
    rfl
  unfold atI ixN
  by_cases h0 : 0 ≤ i
  · rw [if_pos h0, if_pos h.2]
    exact k _ (by omega)
  · rw [if_neg h0, if_pos (by omega)]
    exact k _ (by omega)
end
end Rw
namespace Rw
open PySem PySem.Spec PyProof.Rows L2 Evl
/-- an answer, or the word of what was raised -/
def kRe {α : Type} (u : Ty α) : Ty (Re α) := ⟨fun H v r => match r with | .ok y => u.r H v y | .er i => v = .str (kindName i) ∧ i < 11, fun {H H' v r} e h => by
  cases r with
  | ok y => exact u.up e h
  | er i => exact h⟩
/-- a lambda that is told -/
def kLam {α : Type} (X : Cx) (cl : Nat → Addr) (k : Nat) (ag : L2.St → Prop) (u : Ty α) : Ty (Re α) := ⟨fun I v z => ∃ (f cc : Addr) (params : Arguments) (body : Expr) (scope : Scope) (tb : XK → TE), v = .ref f ∧ I f = some (LamC f (X.env.qual ++ "<lambda>") params body scope (cloFrom X.env.cells scope.names []) cc) ∧ I cc = some (LamX.CodeO cc (X.env.qual ++ "<lambda>")) ∧
    LamX.LamS X.env.scope scope ∧ (∀ (pm cv ctv : Value), bindArgs (PySem.W.kla_fn "<lambda>" (X.env.qual ++ "<lambda>") params body scope (cloFrom X.env.cells scope.names []) pm cv ctv) ⟨[], []⟩ = pure []) ∧
    (∀ (A : Around) (outer : List Env) (s : Shared) (H : Hp) (E : XK), Room k (A.deeper (LamX.lamEnv X scope s.heap.objs.size f cc)) → PE (LamX.lamCx X A outer s H E scope f cc) body (tb E)) ∧ (∀ i, z = .er i → i < 11) ∧
    ∀ E M S σ' I', Ex I I' → ag σ' → Em E cl M (tb E) σ' I' S u z S,
  fun e ⟨f, cc, params, body, scope, tb, h1, h2, h3, h4, h5, h6, h7, h9⟩ => ⟨f, cc, params, body, scope, tb, h1, e _ _ h2, e _ _ h3, h4, h5, h6, h7, fun E M S σ' I' e2 => h9 E M S σ' I' (e.trans e2)⟩⟩
theorem lam_r {α : Type} {u : Ty α} {z : Re α} {I : Hp} {cl : Nat → Addr} {X : Cx} {k : Nat} {ag : L2.St → Prop} {params : Arguments} {body : Expr} {scope : Scope} {tb : XK → TE} (h4 : LamX.LamS X.env.scope scope) (h5 : ∀ (pm cv ctv : Value), bindArgs (PySem.W.kla_fn "<lambda>" (X.env.qual ++ "<lambda>") params body scope (cloFrom X.env.cells scope.names []) pm cv ctv) ⟨[], []⟩ = pure [])
    (h6 : ∀ (f cc : Addr) (A : Around) (outer : List Env) (s : Shared) (H : Hp) (E : XK), Room k (A.deeper (LamX.lamEnv X scope s.heap.objs.size f cc)) → PE (LamX.lamCx X A outer s H E scope f cc) body (tb E)) (hi : ∀ i, z = .er i → i < 11) (h9 : ∀ E M S σ' I', Ex I I' → ag σ' → Em E cl M (tb E) σ' I' S u z S) :
    ∀ f cc I', Ex I I' → I' f = some (LamC f (X.env.qual ++ "<lambda>") params body scope (cloFrom X.env.cells scope.names []) cc) → I' cc = some (LamX.CodeO cc (X.env.qual ++ "<lambda>")) → (kLam X cl k ag u).r I' (.ref f) z := fun f cc I' e h2 h3 =>
  ⟨f, cc, params, body, scope, tb, rfl, h2, h3, h4, h5, h6 f cc, hi, fun E M S σ' I2 e2 => h9 E M S σ' I2 (e.trans e2)⟩
section
variable {K : PySem.W.Frag} {α β γ δ R τ : Type} {E E' : XK} {cl : Nat → Addr} {M : List Addr} {σ : L2.St} {I I' H H' : Hp} {S S' S1 S2 S3 : List Cell} {te ta tb tc to : TE} {tt : TT} {tr : TA} {t : Ty α} {u : Ty β} {w' : Ty γ} {v : V}  {n : Int} {x : α} {y : β}
theorem em_toldR {X : Cx} {k : Nat} {ag : L2.St → Prop} {z : Re β} (ha : Ea E' cl M tr σ I S (aC (kLam X cl k ag u) a0) (.ok (z, ())) S') (hag : ag σ) : Em E' cl M (tToldC X cl k tr) σ I S (kRe u) (.ok z) S' :=
  em_mk ha.ad fun H1 i w Q q => ea_of ha H1 i w _ fun vs H2 e w2 r => by
    obtain ⟨v, rs, rfl, ⟨f, cc, params, body, scope, tb, rfl, h2, h3, h4, h5, h6, h7, h9⟩, rfl⟩ := r
    exact ⟨f, cc, params, body, scope, tb, rfl, (del_some.mp h2).2, (del_some.mp h3).2, h4, h5, h6, (h9 (ETold cl Q) M S' σ (del M H2) (Ex.refl _) hag).run H2 (Ex.refl _) w2 Q (fun y v H3 ez e3 w3 r3 => q v H3 (ads_tr ha.ad e e3) w3 (by subst ez; exact r3)) fun k H3 ek e3 w3 => ⟨k, h7 k ek, rfl, q _ H3 (ads_tr ha.ad e e3) w3 (by subst ek; exact ⟨rfl, h7 _ rfl⟩)⟩⟩
theorem re_ok {z : Re β} {y : β} (e : z = .ok y) (r : (kRe u).r I v z) : u.r I v y := by subst e; exact r
theorem re_er {z : Re β} {i : Nat} (e : z = .er i) (r : (kRe u).r I v z) : v = .str (kindName i) := by subst e; exact r.1
theorem em_reS {z : Re β} {i : Nat} (e : z = .er i) (h : Em E cl M te σ I S (kRe u) (.ok z) S') : Em E cl M te σ I S kSo (.ok (kindName i)) S' :=
  em_mk h.ad fun H1 i1 w Q q => em_of h H1 i1 w _ fun v H2 e2 w2 r => q v H2 e2 w2 (by subst e; exact ⟨r.1, kind_ok _ r.2⟩)
theorem em_reS0 {z : Re β} {i : Nat} (e : z = .er i) (h : Em E cl M te σ I S (kRe u) (.ok z) S') : Em E cl M te σ I S kS (.ok (kindName i)) S' :=
  em_mk h.ad fun H1 i1 w Q q => em_of h H1 i1 w _ fun v H2 e2 w2 r => q v H2 e2 w2 (by subst e; exact r.1)
theorem rng_get {f i : Int} (h : 0 ≤ i ∧ i < f) : (rng 0 f)[i.toNat]? = some i := by
  unfold rng
  rw [List.getElem?_map, List.getElem?_range (by omega)]
  show some ((0 : Int) + ((i.toNat : Nat) : Int)) = some i
  congr 1
  omega
instance reDec {α : Type} [DecidableEq α] : DecidableEq (Re α) := fun a b => match a, b with
  | .ok x, .ok y => if h : x = y then isTrue (by rw [h]) else isFalse (fun e => h (by cases e; rfl))
  | .er i, .er j => if h : i = j then isTrue (by rw [h]) else isFalse (fun e => h (by cases e; rfl))
  | .ok _, .er _ => isFalse (fun e => nomatch e)
  | .er _, .ok _ => isFalse (fun e => nomatch e)
/-- numbers or the word 'day' compared -/
theorem o_neRe {a b : Re Int} (ha : ∀ i, a = .er i → i = 1) (hb : ∀ i, b = .er i → i = 1) : Op2 rNe (kRe kI) a (kRe kI) b kB (!decide (a = b)) := fun M v1 v2 H l r1 r2 Q q => by
  cases a with
  | ok i =>
    obtain rfl : v1 = .int i := r1
    cases b with
    | ok j =>
      obtain rfl : v2 = .int j := r2
      exact ⟨rfl, q _ H (Ex.refl H) (by show V.bl _ = V.bl _; congr 1 <;> simp)⟩
    | er j =>
      obtain ⟨rfl, _⟩ := r2
      exact ⟨rfl, q _ H (Ex.refl H) (by show V.bl _ = V.bl _; congr 1 <;> simp)⟩
  | er i =>
    obtain rfl := ha i rfl
    obtain ⟨rfl, _⟩ := r1
    cases b with
    | ok j =>
      obtain rfl : v2 = .int j := r2
      exact ⟨rfl, q _ H (Ex.refl H) (by show V.bl _ = V.bl _; congr 1 <;> simp)⟩
    | er j =>
      obtain rfl := hb j rfl
      obtain ⟨rfl, _⟩ := r2
      exact ⟨rfl, q _ H (Ex.refl H) (by show V.bl _ = V.bl _; congr 1 <;> simp)⟩
theorem em_ok {t : Ty α} (h : Em E cl M te σ I S t (.ok x) S') : Em E cl M te σ I S (kRe t) (.ok (.ok x)) S' := em_ty h fun _ _ r => r
theorem em_day : Em E cl M (tC (.str "day")) σ I S (kRe (α := α) t) (.ok (.er 1)) S := em_c ⟨rfl, by decide⟩
/-- lists as they were just made -/
def kX (t : Ty α) : Ty (List α) := ⟨fun H v xs => ∃ p vs, v = .ref p ∧ H p = some (.lst vs) ∧ All2 (t.r H) vs xs, fun e ⟨p, vs, a, b, c⟩ => ⟨p, vs, a, e _ _ b, all2_up t e c⟩⟩
theorem em_lstX {xs : List α} (h : Ea E cl M tr σ I S (aL t) (.ok xs) S') (hl : xs.length ≤ 100000) : Em E cl M (tLst tr) σ I S (kX t) (.ok xs) S' :=
  em_mk h.ad fun H1 i w Q q => ea_of h H1 i w _ fun vs H2 e w1 r => ⟨sz_of (by rw [r.len]; exact hl), fun p hp => q _ _ (e.trans (ex_del (Ex.new hp))) (w1.ex (Ex.new hp)) ⟨p, vs, rfl, del_at (fresh_not w1.live hp) upd_same, all2_up t (ex_del (Ex.new hp)) r⟩⟩
theorem o_catX {xs ys : List α} (hl : xs.length + ys.length ≤ 100000) : Op2 rCat (kX t) xs (kX t) ys (kL K t) (xs ++ ys) := fun M u w H l a b Q q => by
  obtain ⟨p, vs, rfl, hp, ha⟩ := a
  obtain ⟨p2, ws, rfl, hp2, hb⟩ := b
  exact ⟨p, p2, vs, ws, rfl, rfl, (del_some.mp hp).2, (del_some.mp hp2).2, sz_of (by rw [ha.len, hb.len]; exact hl), fun q2 hq => q _ _ (Ex.new hq) ⟨q2, _, rfl, sq_of (del_at (fresh_not l hq) upd_same), all2_up t (ex_del (Ex.new hq)) (ha.app hb)⟩⟩
end
end Rw
namespace Rw
open PySem PySem.Spec PyProof.Rows L2 Evl
theorem cond_er {α : Type} {b : Bool} {i k : Nat} {r : Re α} (h : cond b (.er k) r = .er i) (hk : k < 11) (hr : r = .er i → i < 11) : i < 11 := by
  cases b with
  | true => cases h; exact hk
  | false => exact hr h
theorem rng_app {a b d : Int} (h1 : a ≤ b) (h2 : b ≤ d) : rng a d = rng a b ++ rng b d := by
  unfold rng
  rw [show (d - a).toNat = (b - a).toNat + (d - b).toNat by omega, List.range_add, List.map_append, List.map_map]
  congr 1
  apply List.map_congr_left
  intro k _
  show a + ((((b - a).toNat + k : Nat)) : Int) = b + (k : Int)
  omega
theorem filter_cut {a b lo hi : Int} {p q : Int → Bool} (h1 : a ≤ lo) (h2 : lo ≤ hi) (h3 : hi ≤ b) (hp : ∀ x, a ≤ x → x < b → p x = (decide (lo ≤ x ∧ x < hi) && q x)) : (rng a b).filter p = (rng lo hi).filter q := by
  rw [rng_app h1 (Int.le_trans h2 h3), rng_app h2 h3, List.filter_append, List.filter_append]
  have e1 : (rng a lo).filter p = [] := by
    rw [List.filter_eq_nil_iff]
    intro x hx
    rw [rng_mem] at hx
    rw [hp x hx.1 (by omega), decide_eq_false (by omega)]
    simp
  have e3 : (rng hi b).filter p = [] := by
    rw [List.filter_eq_nil_iff]
    intro x hx
    rw [rng_mem] at hx
    rw [hp x (by omega) hx.2, decide_eq_false (by omega)]
    simp
  have e2 : (rng lo hi).filter p = (rng lo hi).filter q := by
    apply List.filter_congr
    intro x hx
    rw [rng_mem] at hx
    rw [hp x (by omega) (by omega), decide_eq_true ⟨hx.1, hx.2⟩, Bool.true_and]
  rw [e1, e2, e3, List.nil_append, List.append_nil]
theorem nrm {tz : TS} {D : Ends} {σ σ' : L2.St} {H : Hp} (h : σ = σ') (k : tz D σ' H) : tz D σ H := by rw [h]; exact k
/-- what follows is shown once -/
theorem g_ifR {tt : TT} {tu tw tz : TS} {D : Ends} {σ : L2.St} {H : Hp} (Rel : L2.St → Hp → Prop) (hr : ∀ σ' H', Rel σ' H' → tz D σ' H') (hb : (∀ σ' H', Rel σ' H' → tz D σ' H') → tSeq (tIfS tt tu tw) tz D σ H) : tSeq (tIfS tt tu tw) tz D σ H := hb hr
theorem call_len_seqK {X : Cx} {K : PySem.W.Frag} (h : X.K = K := by rfl) : CallR X (.builtin "len") (fun xs H Q => ∃ p ys, xs = [.ref p] ∧ (SqL K H p ys ∨ SqT K H p ys) ∧ Q (.int ys.length) H) := by
  subst h
  exact call_len_seq
theorem o_ixLG {K : PySem.W.Frag} {α : Type} {t : Ty α} {xs : List α} {i : Int} {z : α} (h : 0 ≤ i ∧ i < (xs.length : Int)) : Op2 (rIxL K) (kL K t) xs kI i t (xs.getD i.toNat z) :=
  o_ixL (n := i.toNat) (by rw [List.getD_eq_getElem?_getD, List.getElem?_eq_getElem (show i.toNat < xs.length by omega)]; rfl) (by omega)
end Rw
namespace Rw
open PySem PySem.Spec PyProof.Rows L2 Evl
/-! ### objects of the program's own classes, by their fields -/
def kOb {β : Type} (C : Addr) (R : Hp → List (Str × V) → β → Prop) (up : ∀ {H H' : Hp} {fs : List (Str × V)} {b : β}, Ex H H' → R H fs b → R H' fs b) : Ty β :=
  ⟨fun H v b => ∃ x dx fs, v = .ref x ∧ H x = some (.ins C dx fs) ∧ R H fs b, fun e ⟨x, dx, fs, a, b, c⟩ => ⟨x, dx, fs, a, e _ _ b, up e c⟩⟩
/-- an object in the making, or one that changes: its fields as they stand -/
def cIns (x D dx : Addr) (fs : List (Str × V)) : Cell := ⟨x, List (Str × V), fun _ o l => o = .ins D dx l, fun _ h => h, fs⟩
def UpA {α : Type} (A : AR α) : Prop := ∀ {H H' : Hp} {vs : List V} {a : α}, Ex H H' → A H vs a → A H' vs a
theorem up_a0 : UpA a0 := fun _ h => h
theorem up_aC {α β : Type} {t : Ty α} {A : AR β} (u : UpA A) : UpA (aC t A) := fun e ⟨v, r, h1, h2, h3⟩ => ⟨v, r, h1, t.up e h2, u e h3⟩
/-- __init__ of a class whose objects change no more: its arguments, what it asks, what it makes -/
def spIni {α β : Type} (C : Addr) (A : AR α) (pre : α → Prop) (f : α → Re β) (R : Hp → List (Str × V) → β → Prop) (cl : Nat → Addr) : Sp := fun vs H Q E => ∃ M x dx ws a, vs = .ref x :: ws ∧ x ∈ M ∧ (∀ m ∈ M, H m ≠ none) ∧ H x = some (.ins C dx []) ∧ A (del M H) ws a ∧ pre a ∧
  (∀ b fs H', f a = .ok b → H' x = some (.ins C dx fs) → Ex (del [x] H) (del [x] H') → R (del M H') fs b → Q .non H') ∧ (∀ k H', f a = .er k → Ex (del [x] H) (del [x] H') → E (.ref (cl k)) none H')
theorem putF_le {f : Str} {v : V} {n : Nat} : ∀ {fs : List (Str × V)}, fs.length ≤ n → (putF f v fs).length ≤ n + 1
  | [], _ => by show 1 ≤ _; omega
  | (g, y) :: r, h => by
    unfold putF
    split
    · exact Nat.le_succ_of_le h
    · cases n with
      | zero => simp at h
      | succ n => exact Nat.succ_le_succ (putF_le (by simpa using h))
section
variable {K : PySem.W.Frag} {α β γ δ R τ : Type} {E E' : XK} {cl : Nat → Addr} {M : List Addr} {σ : L2.St} {I I' H H' : Hp} {S S' S1 S2 S3 : List Cell} {te ta tb tc to tv : TE} {tt : TT} {tr : TA} {t : Ty α} {u : Ty β} {C x dx : Addr} {fs : List (Str × V)} {nm : Str} {v : V} {D : Ends} {tz : TS}
theorem em_mkOb {α' : Type} {A : AR α'} {B : AR γ} {a : α'} {b' : γ} {pre : α' → Prop} {f : α' → Re β} {Rr : Hp → List (Str × V) → β → Prop} {up : ∀ {H H' : Hp} {fs : List (Str × V)} {b : β}, Ex H H' → Rr H fs b → Rr H' fs b} {dvs : List V}
    (h : Ea E' cl M tr σ I S B (.ok b') S') (hA : ∀ H vs, B H vs b' → A H (vs ++ dvs) a) (uA : UpA A) (hp : pre a) : Em E' cl M (tMake C (spIni C A pre f Rr cl) dvs E' tr) σ I S (kOb C Rr up) (f a) S' :=
  ⟨h.ad, fun H1 i w Q q qe => ea_of h H1 i w _ fun vs H2 e2 w2 r2 => by
    refine fun x dx nx nd ne => ?_
    have eN : Ex H2 (upd (upd H2 dx (.own x)) x (.ins C dx [])) := (Ex.new nd).trans (Ex.new (by rw [upd_ne (Ne.symm ne)]; exact nx))
    have xM : x ∉ M := fun z => w2.live _ z nx
    have e3 : ∀ H', Ex (del [x] (upd (upd H2 dx (.own x)) x (.ins C dx []))) (del [x] H') → Ex H2 H' := fun H' eB b o e => by
      have hb : b ≠ x := fun z => by rw [z, nx] at e; cases e
      exact (del_some.mp (eB b o (del_some.mpr ⟨by simp [hb], eN _ _ e⟩))).2
    refine ⟨x :: M, x, dx, vs ++ dvs, a, rfl, List.mem_cons_self, fun m hm => ?_, upd_same, uA ((del_new nx).trans (ex_del eN)) (hA _ _ r2), hp, fun b fs H' hf hx eB hR => ⟨rfl, ?_⟩, fun k H' hf eB => ?_⟩
    · rcases List.mem_cons.mp hm with z | z
      · rw [z, upd_same]; exact fun z => nomatch z
      · cases h2 : H2 m with
        | none => exact absurd h2 (w2.live m z)
        | some o => rw [eN m o h2]; exact fun z => nomatch z
    · exact q b _ H' hf (e2.trans (ex_del (e3 H' eB))) (w2.ex (e3 H' eB)) ⟨x, dx, fs, rfl, del_at xM hx, up del_free hR⟩
    · exact qe k H' hf (e2.trans (ex_del (e3 H' eB))) (w2.ex (e3 H' eB))⟩
theorem em_mkObP {α' : Type} {A : AR α'} {B : AR γ} {a : α'} {b' : γ} {y : β} {pre : α' → Prop} {f : α' → Re β} {Rr : Hp → List (Str × V) → β → Prop} {up : ∀ {H H' : Hp} {fs : List (Str × V)} {b : β}, Ex H H' → Rr H fs b → Rr H' fs b} {dvs : List V}
    (h : Ea E cl M tr σ I S B (.ok b') S') (hA : ∀ H vs, B H vs b' → A H (vs ++ dvs) a) (uA : UpA A) (hp : pre a) (hf : f a = .ok y) : Em E cl M (tMake C (spIni C A pre f Rr cl) dvs E' tr) σ I S (kOb C Rr up) (.ok y) S' :=
  em_mk h.ad fun H1 i w Q q => ea_of h H1 i w _ fun vs H2 e2 w2 r2 => by
    refine fun x dx nx nd ne => ?_
    have eN : Ex H2 (upd (upd H2 dx (.own x)) x (.ins C dx [])) := (Ex.new nd).trans (Ex.new (by rw [upd_ne (Ne.symm ne)]; exact nx))
    have xM : x ∉ M := fun z => w2.live _ z nx
    have e3 : ∀ H', Ex (del [x] (upd (upd H2 dx (.own x)) x (.ins C dx []))) (del [x] H') → Ex H2 H' := fun H' eB b o e => by
      have hb : b ≠ x := fun z => by rw [z, nx] at e; cases e
      exact (del_some.mp (eB b o (del_some.mpr ⟨by simp [hb], eN _ _ e⟩))).2
    refine ⟨x :: M, x, dx, vs ++ dvs, a, rfl, List.mem_cons_self, fun m hm => ?_, upd_same, uA ((del_new nx).trans (ex_del eN)) (hA _ _ r2), hp, fun b fs H' hf' hx eB hR => ⟨rfl, ?_⟩, fun k H' hf' eB => ?_⟩
    · rcases List.mem_cons.mp hm with z | z
      · rw [z, upd_same]; exact fun z => nomatch z
      · cases h2 : H2 m with
        | none => exact absurd h2 (w2.live m z)
        | some o => rw [eN m o h2]; exact fun z => nomatch z
    · rw [hf] at hf'
      cases hf'
      exact q _ H' (e2.trans (ex_del (e3 H' eB))) (w2.ex (e3 H' eB)) ⟨x, dx, fs, rfl, del_at xM hx, up del_free hR⟩
    · rw [hf] at hf'; cases hf'
/-- o.nm of an object -/
theorem em_obF {b : β} {y : α} {Rr : Hp → List (Str × V) → β → Prop} {up : ∀ {H H' : Hp} {fs : List (Str × V)} {b : β}, Ex H H' → Rr H fs b → Rr H' fs b} (hc : Cls K C) (hn : NoAttr K C nm) (hl : ∀ H fs, Rr H fs b → ∃ v, fs.lookup nm = some v ∧ t.r H v y) (h : Em E cl M to σ I S (kOb C Rr up) (.ok b) S') : Em E cl M (tFld K to nm) σ I S t (.ok y) S' :=
  em_mk h.ad fun H1 i w Q q => em_of h H1 i w _ fun v H2 e w2 r => by
    obtain ⟨x, dx, fs, rfl, h1, h2⟩ := r
    obtain ⟨v, h3, h4⟩ := hl _ _ h2
    exact ⟨x, C, dx, fs, v, rfl, (del_some.mp h1).2, hc, hn, h3, q v H2 e w2 h4⟩
/-- self.nm, self in the making -/
theorem em_cellF {n : Nat} {y : α} (ho : Em E cl M to σ I S (kPtr x) (.ok ()) S) (hk : S[n]? = some (cIns x C dx fs)) (hc : Cls K C) (hn : NoAttr K C nm) (hl : fs.lookup nm = some v) (r : t.r I v y) : Em E cl M (tFld K to nm) σ I S t (.ok y) S :=
  em_mk ho.ad fun H1 i w Q q => em_of ho H1 i w _ fun v' H2 e w2 r' => by
    obtain rfl : v' = .ref x := r'
    obtain ⟨_, o, h1, h2⟩ := w2.at_ _ (List.mem_of_getElem? hk)
    obtain rfl : o = .ins C dx fs := h2
    exact ⟨x, C, dx, fs, v, rfl, h1, hc, hn, hl, q v H2 e w2 (t.up (i.trans (w.grow e)) r)⟩
/-- self.nm = e -/
theorem g_fld {n : Nat} {y : α} (w : Holds M S H) (h : Em E cl M tv σ (del M H) S t (.ok y) S1) (ho : Em E cl M to σ (del M H) S1 (kPtr x) (.ok ()) S1) (hk : S1[n]? = some (cIns x C dx fs)) (hc : Cls K C) (hn : NoAttr K C nm) (hl : fs.length < 1000)
    (k : ∀ v H2, Gr M S H H2 → Holds M (S1.set n (cIns x C dx (putF nm v fs))) H2 → t.r (del M H2) v y → tz D σ H2) : tSeq (sFld K to tv nm) tz D σ H :=
  em_of h H (Ex.refl _) w _ fun v H2 e w2 r => em_of ho H2 (w.grow e) w2 _ fun v' H3 e3 w3 r' => by
    obtain rfl : v' = .ref x := r'
    obtain ⟨hM, o, h1, h2⟩ := w3.at_ _ (List.mem_of_getElem? hk)
    obtain rfl : o = .ins C dx fs := h2
    have w4 : Holds M (S1.set n (cIns x C dx (putF nm v fs))) (upd H3 x (.ins C dx (putF nm v fs))) := w3.put (c := cIns x C dx fs) (c' := cIns x C dx (putF nm v fs)) hk rfl rfl
    have xs : x ∈ ads S := by
      have : x ∈ ads S1 := List.mem_map.mpr ⟨_, List.mem_of_getElem? hk, rfl⟩
      rw [h.ad] at this
      exact this
    have e4 : Ex (del (ads S) H3) (del (ads S) (upd H3 x (.ins C dx (putF nm v fs)))) := by rw [del_upd xs]; exact Ex.refl _
    have e03 : Ex (del (ads S) H) (del (ads S) H3) := ads_tr h.ad e e3
    refine ⟨x, C, dx, fs, rfl, h1, hc, hn, hl, k v _ (.of w (e03.trans e4)) w4 ?_⟩
    rw [del_upd (show x ∈ M from hM)]
    exact t.up (w2.grow e3) r
theorem g_fldL {n : Nat} {y : α} (w : Holds M S H) (h : Em E cl M tv σ (del M H) S t (.ok y) S1) (ho : Em E cl M to σ (del M H) S1 (kPtr x) (.ok ()) S1) (hk : S1[n]? = some (cIns x C dx fs)) (hc : Cls K C) (hn : NoAttr K C nm) (hl : fs.length < 1000)
    (k : ∀ v H2, Gr M S H H2 → Holds M (S1.set n (cIns x C dx (putF nm v fs))) H2 → t.r (del M H2) v y → D.nx σ H2) : sFld K to tv nm D σ H :=
  g_fld (tz := fun D σ H => D.nx σ H) (D := D) w h ho hk hc hn hl k
theorem pe_GI {X : Cx} {pos : Pos} {x : Str} {i : Int} (h : ∃ t, X.mg x = some (.int i t)) (hg : Gl X x := by rfl) (hd : (x == "__debug__") = false := by rfl) : PE X (.Name x pos) (tC (.int i)) :=
  let ⟨t, e⟩ := h
  pe_glob hg e ⟨t, rfl⟩ hd
theorem o_tupT {K : PySem.W.Frag} {α : Type} {t : Ty α} {xs : List α} : OpN (fun xs H Q => ∃ p ys, xs = [.ref p] ∧ ((SqL K H p ys ∧ ∀ l, H l = none → Q (.ref l) (upd H l (.tup ys))) ∨ (SqT K H p ys ∧ Q (.ref p) H))) (aC (kT K t) a0) (xs, ()) (kT K t) xs := fun M us H l a Q q => by
  obtain ⟨v, r, rfl, ⟨p, vs, rfl, hp, ha⟩, rfl⟩ := a
  exact ⟨p, vs, rfl, .inr ⟨ex_t del_le hp, q _ H (Ex.refl H) ⟨p, vs, rfl, hp, ha⟩⟩⟩
theorem o_tup2 {K : PySem.W.Frag} {α β : Type} {t : Ty α} {u : Ty β} {x : α × β} : OpN (fun xs H Q => ∃ p ys, xs = [.ref p] ∧ ((SqL K H p ys ∧ ∀ l, H l = none → Q (.ref l) (upd H l (.tup ys))) ∨ (SqT K H p ys ∧ Q (.ref p) H))) (aC (k2 K t u) a0) (x, ()) (k2 K t u) x := fun M us H l a Q q => by
  obtain ⟨v, r, rfl, ⟨p, v1, v2, rfl, hp, ha⟩, rfl⟩ := a
  exact ⟨p, _, rfl, .inr ⟨ex_t del_le hp, q _ H (Ex.refl H) ⟨p, v1, v2, rfl, hp, ha⟩⟩⟩
end
end Rw
namespace Rw
open PySem PySem.Spec PyProof.Rows L2 Evl
section
variable {K : PySem.W.Frag} {α β γ δ R τ : Type} {E E' : XK} {cl : Nat → Addr} {M : List Addr} {σ : L2.St} {I I' H H' : Hp} {S S' S1 S2 S3 : List Cell} {te ta tb tc to tv : TE} {tt : TT} {tr tk : TA} {t : Ty α} {u : Ty β} {w' : Ty γ} {C x dx : Addr} {D : Ends} {tz : TS}
theorem cond_ok {b : Bool} {x y : α} : cond b (Re.ok x) (Re.ok y) = Re.ok (cond b x y) := by cases b <;> rfl
theorem args_mG {t : Ty α} {A : AR β} {x : α} {b : β} : ∀ (H : Hp) (v : V) (vs : List V), t.r H v x → A H vs b → aC t A H (v :: (vs ++ [])) (x, b) := fun H v vs r h => ⟨v, vs ++ [], rfl, r, by rw [List.append_nil]; exact h⟩
theorem em_2T {x y : α} (h : Em E cl M te σ I S (k2 K t t) (.ok (x, y)) S') : Em E cl M te σ I S (kT K t) (.ok [x, y]) S' :=
  em_ty h fun H v ⟨p, a, b, e, s, ra, rb⟩ => ⟨p, [a, b], e, s, .cons ra (.cons rb .nil)⟩
theorem em_3T {x y z : α} (h : Em E cl M te σ I S (k3 K t t t) (.ok (x, y, z)) S') : Em E cl M te σ I S (kT K t) (.ok [x, y, z]) S' :=
  em_ty h fun H v ⟨p, a, b, c, e, s, ra, rb, rc⟩ => ⟨p, [a, b, c], e, s, .cons ra (.cons rb (.cons rc .nil))⟩
theorem o_catT {xs ys : List α} (h : xs ≠ []) (hl : xs.length + ys.length ≤ 100000) : Op2 (rCatT K) (kT K t) xs (kT K t) ys (kT K t) (xs ++ ys) := fun M v1 v2 H l a b Q q => by
  obtain ⟨p, vs, rfl, hp, ha⟩ := a
  obtain ⟨p2, vs2, rfl, hp2, ha2⟩ := b
  exact ⟨p, p2, vs, vs2, rfl, rfl, ex_t del_le hp, ex_t del_le hp2, (fun z => by subst z; cases ha; exact h rfl), sz_of (by rw [ha.len, ha2.len]; exact hl), (fun z => by subst z; cases ha2; exact q _ H (Ex.refl H) ⟨p, vs, rfl, hp, by rw [List.append_nil]; exact ha⟩), fun _ q2 hq => q _ _ (Ex.new hq) ⟨q2, _, rfl, st_of (del_at (fresh_not l hq) upd_same), all2_up t (ex_del (Ex.new hq)) (ha.app ha2)⟩⟩
theorem o_catL {xs ys : List α} (hl : xs.length + ys.length ≤ 100000) (hX : ∀ (M : List Addr) (H : Hp) (v : V), (kL K t).r (del M H) v xs → ∃ p vs, v = .ref p ∧ H p = some (.lst vs) ∧ All2 (t.r (del M H)) vs xs) (hY : ∀ (M : List Addr) (H : Hp) (v : V), (kL K t).r (del M H) v ys → ∃ p vs, v = .ref p ∧ H p = some (.lst vs) ∧ All2 (t.r (del M H)) vs ys) : Op2 rCat (kL K t) xs (kL K t) ys (kL K t) (xs ++ ys) := fun M u w H l a b Q q => by
  obtain ⟨p, vs, rfl, hp, ha⟩ := hX _ _ _ a
  obtain ⟨p2, ws, rfl, hp2, hb⟩ := hY _ _ _ b
  exact ⟨p, p2, vs, ws, rfl, rfl, hp, hp2, sz_of (by rw [ha.len, hb.len]; exact hl), fun q2 hq => q _ _ (Ex.new hq) ⟨q2, _, rfl, sq_of (del_at (fresh_not l hq) upd_same), all2_up t (ex_del (Ex.new hq)) (ha.app hb)⟩⟩
theorem em_kXL {xs : List α} (h : Em E cl M te σ I S (kX t) (.ok xs) S') : Em E cl M te σ I S (kL K t) (.ok xs) S' :=
  em_ty h fun H v ⟨p, vs, e, s, r⟩ => ⟨p, vs, e, sq_of s, r⟩
theorem o_tupL {K : PySem.W.Frag} {α : Type} {t : Ty α} {xs : List α} : OpN (fun xs H Q => ∃ p ys, xs = [.ref p] ∧ ((SqL K H p ys ∧ ∀ l, H l = none → Q (.ref l) (upd H l (.tup ys))) ∨ (SqT K H p ys ∧ Q (.ref p) H))) (aC (kL K t) a0) (xs, ()) (kT K t) xs := fun M us H l a Q q => by
  obtain ⟨v, r, rfl, ⟨p, vs, rfl, hp, ha⟩, rfl⟩ := a
  exact ⟨p, vs, rfl, .inl ⟨ex_l del_le hp, mk_tup l ha q⟩⟩
/-! ### least and greatest -/
def minOf (l : List Int) : Int := l.foldl min (l.headD 0)
theorem fold_min : ∀ (l : List Int) (a : Int), l.foldl min a ≤ a ∧ (∀ x ∈ l, l.foldl min a ≤ x) ∧ (l.foldl min a = a ∨ l.foldl min a ∈ l)
  | [], a => ⟨Int.le_refl _, fun x h => (by cases h), .inl rfl⟩
  | b :: l, a => by
    obtain ⟨h1, h2, h3⟩ := fold_min l (min a b)
    rw [List.foldl_cons]
    refine ⟨by omega, fun x hx => ?_, ?_⟩
    · rcases List.mem_cons.mp hx with z | z
      · rw [z]; omega
      · exact h2 x z
    · rcases h3 with z | z
      · rw [z]
        rcases Int.le_total a b with q | q
        · left; exact Int.min_eq_left q
        · right; rw [Int.min_eq_right q]; exact List.mem_cons_self
      · exact .inr (List.mem_cons_of_mem _ z)
theorem minOf_is {l : List Int} {m : Int} (h : m ∈ l) (k : ∀ n ∈ l, m ≤ n) : minOf l = m := by
  unfold minOf
  obtain ⟨h1, h2, h3⟩ := fold_min l (l.headD 0)
  have a := h2 m h
  have hd : l.headD 0 ∈ l := by cases l with
    | nil => cases h
    | cons a l => exact List.mem_cons_self
  have b : m ≤ l.foldl min (l.headD 0) := by
    rcases h3 with z | z
    · rw [z]; exact k _ hd
    · exact k _ z
  omega
theorem minOf_mem {l : List Int} (h : 0 < l.length) : minOf l ∈ l ∧ ∀ n ∈ l, minOf l ≤ n := by
  unfold minOf
  obtain ⟨h1, h2, h3⟩ := fold_min l (l.headD 0)
  refine ⟨?_, h2⟩
  rcases h3 with z | z
  · rw [z]
    cases l with
    | nil => cases h
    | cons a l => exact List.mem_cons_self
  · exact z
theorem topOf_mem {l : List Int} (h : 0 < l.length) : topOf l ∈ l ∧ ∀ n ∈ l, n ≤ topOf l := by
  unfold topOf
  obtain ⟨h1, h2, h3⟩ := fold_max l (l.headD 0)
  refine ⟨?_, h2⟩
  rcases h3 with z | z
  · rw [z]
    cases l with
    | nil => cases h
    | cons a l => exact List.mem_cons_self
  · exact z
theorem o_minT {ns : List Int} (h : 0 < ns.length) : OpN (rMinT K) (aC (kT K kI) a0) (ns, ()) kI (minOf ns) := fun M us H l a Q q => by
  obtain ⟨v, r, rfl, ⟨p, vs, rfl, hp, ha⟩, rfl⟩ := a
  exact ⟨p, ns, rfl, ex_t del_le (by rw [← all_ints ha]; exact hp), h, fun m h1 h2 => q _ H (Ex.refl H) (by rw [minOf_is h1 h2]; rfl)⟩
theorem o_minL {ns : List Int} (h : 0 < ns.length) : OpN (rMin K) (aC (kL K kI) a0) (ns, ()) kI (minOf ns) := fun M us H l a Q q => by
  obtain ⟨v, r, rfl, ⟨p, vs, rfl, hp, ha⟩, rfl⟩ := a
  exact ⟨p, ns, rfl, ex_l del_le (by rw [← all_ints ha]; exact hp), h, fun m h1 h2 => q _ H (Ex.refl H) (by rw [minOf_is h1 h2]; rfl)⟩
theorem o_maxL {ns : List Int} (h : 0 < ns.length) : OpN (rMax K) (aC (kL K kI) a0) (ns, ()) kI (topOf ns) := fun M us H l a Q q => by
  obtain ⟨v, r, rfl, ⟨p, vs, rfl, hp, ha⟩, rfl⟩ := a
  exact ⟨p, ns, rfl, ex_l del_le (by rw [← all_ints ha]; exact hp), h, fun m h1 h2 => q _ H (Ex.refl H) (by rw [topOf_is h1 h2]; rfl)⟩
theorem o_sumT {ns : List Int} : OpN (rSumT K) (aC (kT K kI) a0) (ns, ()) kI ns.sum := fun M us H l a Q q => by
  obtain ⟨v, r, rfl, ⟨p, vs, rfl, hp, ha⟩, rfl⟩ := a
  exact ⟨p, ns, rfl, ex_t del_le (by rw [← all_ints ha]; exact hp), q _ H (Ex.refl H) rfl⟩
theorem em_ckw {ns : List Int} {d : Int} (h : Ea E cl M tr σ I S (aC (kL K kI) a0) (.ok (ns, ())) S1) (h2 : Ea E cl M tk σ I S1 (aC kI a0) (.ok (d, ())) S2) : Em E cl M (tCKw (rMaxD K) tr tk) σ I S kI (.ok (maxD d ns)) S2 :=
  em_mk (h2.ad.trans h.ad) fun H1 i w Q q => ea_of h H1 i w _ fun us H2 e2 w2 r2 => ea_of h2 H2 (i.trans (w.grow e2)) w2 _ fun zs H3 e3 w3 r3 => by
    obtain ⟨v, r, rfl, hv, rfl⟩ := r2
    obtain ⟨p, vs, rfl, hp, ha⟩ := (kL K kI).up (w2.grow e3) hv
    obtain ⟨z, r', rfl, rfl, rfl⟩ := r3
    exact ⟨p, ns, d, rfl, rfl, ex_l del_le (by rw [← all_ints ha]; exact hp), q _ H3 (ads_tr h.ad e2 e3) w3 rfl⟩
theorem o_negI {i : Int} : Op1 (rU fun i => .int (-i)) kI i kI (-i) := fun M v H l a Q q => by
  obtain rfl : v = .int i := a
  exact ⟨i, rfl, q _ H (Ex.refl H) rfl⟩
/-! ### x in a list, a list's count -/
theorem op_notInK {X : Cx} (h : X.K = K := by rfl) : OpR X (compareOp .NotIn) (rIn K true) := by
  subst h
  exact op_notIn_seq
theorem inV_int {i : Int} : ∀ {xs : List Int} {vs : List V} {H : Hp}, All2 (kI.r H) vs xs → (vs.all flatV = true ∧ inV (.int i) vs = decide (i ∈ xs))
  | [], vs, H, h => by cases h; exact ⟨rfl, rfl⟩
  | x :: xs, vs, H, h => by
    cases h with
    | cons a t =>
      obtain ⟨p, q⟩ := inV_int (i := i) t
      cases a
      refine ⟨by rw [List.all_cons, p]; rfl, ?_⟩
      show (eqV (.int x) (.int i) || inV (.int i) _) = _
      rw [q]
      show (decide (x = i) || _) = _
      by_cases e : x = i
      · rw [decide_eq_true e, Bool.true_or, decide_eq_true (by rw [e]; exact List.mem_cons_self)]
      · rw [decide_eq_false e, Bool.false_or]
        congr 1
        rw [List.mem_cons]
        simp [Ne.symm e, eq_comm]
theorem o_inI {neg : Bool} {i : Int} {xs : List Int} : Op2 (rIn K neg) kI i (kL K kI) xs kB (if neg then !decide (i ∈ xs) else decide (i ∈ xs)) := fun M v1 v2 H l a b Q q => by
  obtain ⟨p, vs, rfl, hp, ha⟩ := b
  obtain rfl : v1 = .int i := a
  obtain ⟨f1, f2⟩ := inV_int (i := i) ha
  refine ⟨p, vs, rfl, .inl (ex_l del_le hp), rfl, f1, ?_⟩
  rw [f2]
  exact q _ H (Ex.refl H) rfl
theorem o_inIT {neg : Bool} {i : Int} {xs : List Int} : Op2 (rIn K neg) kI i (kT K kI) xs kB (if neg then !decide (i ∈ xs) else decide (i ∈ xs)) := fun M v1 v2 H l a b Q q => by
  obtain ⟨p, vs, rfl, hp, ha⟩ := b
  obtain rfl : v1 = .int i := a
  obtain ⟨f1, f2⟩ := inV_int (i := i) ha
  refine ⟨p, vs, rfl, .inr (ex_t del_le hp), rfl, f1, ?_⟩
  rw [f2]
  exact q _ H (Ex.refl H) rfl
def cntI (i : Int) (ns : List Int) : Int := ((ns.countP fun n => decide (n = i) : Nat) : Int)
def rCntI (K : PySem.W.Frag) : V → List V → Hp → VK → Prop := fun x xs H Q => ∃ (a : Addr) (ns : List Int) (i : Int), x = .ref a ∧ xs = [.int i] ∧ SqL K H a (ns.map V.int) ∧ Q (.int (cntI i ns)) H
theorem vals_cnt {i : Int} {y : Value} (ry : RelV (.int i) y) : ∀ {ns : List Int} {us : List Value}, Vals (ns.map V.int) us → us.countP (eqU (.int i)) = ns.countP (fun n => decide (n = i))
  | [], us, h => by cases h; rfl
  | n :: ns, us, h => by
    cases h with
    | cons a t =>
      rename_i u us'
      rw [List.countP_cons, List.countP_cons, vals_cnt ry t, eqU_of a rfl]
      show _ + (if decide (n = i) = true then 1 else 0) = _
      rfl
theorem mt_cntI {X : Cx} : MtR X "list.count" (rCntI X.K) := fun pn sh st Hh v0 vs0 v1 us0 Q0 IV rv0 rvs hh => by
  obtain ⟨a, ns, i, rfl, rfl, hs, q⟩ := hh
  cases rv0
  cases rvs with
  | cons ry rt =>
    rename_i uy ut
    cases rt
    obtain ⟨its, rr, ⟨⟨c0, d0, da0, sl0⟩, n0, ho, hc0, hd0, hda⟩, hlen⟩ := IV.list hs
    simp only at hc0 hda
    subst hc0 hda
    have fl : (ns.map V.int).all flatV = true := by simp [flatV]
    refine call_meets PySem.F.slot_list_count ⟨_, ho, rfl⟩ PySem.F.entry_list_count (PySem.F.args_list_count_2 _ _) (SeqAt.list_countAt a its.toArray n0 d0 sl0 uy (eqU (.int i))) ⟨ho, fun u' hu' => mem_eqAt ry rfl rr fl u' (by simpa using hu'), ?_⟩
    refine ⟨.int (cntI i ns), Hh, IV.tok _, ⟨sh.toks, ?_⟩, q⟩
    unfold cntI
    rw [← vals_cnt ry rr]
theorem em_cntI {ns : List Int} {i : Int} (h : Em E cl M te σ I S (kL K kI) (.ok ns) S1) (h2 : Ea E cl M tr σ I S1 (aC kI a0) (.ok (i, ())) S2) : Em E cl M (tBM K "list" (rCntI K) te tr) σ I S kI (.ok (cntI i ns)) S2 :=
  em_mk (h2.ad.trans h.ad) fun H1 i1 w Q q => em_of h H1 i1 w _ fun v H2 e2 w2 r2 => by
    obtain ⟨p, vs, rfl, hp, ha⟩ := r2
    refine ⟨.inl ⟨rfl, vs, ex_l del_le hp⟩, ea_of h2 H2 (i1.trans (w.grow e2)) w2 _ fun us H3 e3 w3 r3 => ?_⟩
    obtain ⟨z, r', rfl, rfl, rfl⟩ := r3
    exact ⟨p, ns, i, rfl, rfl, ex_l ((w2.grow e3).trans del_le) (by rw [← all_ints ha]; exact hp), q _ H3 (ads_tr h.ad e2 e3) w3 rfl⟩
end
end Rw
namespace Rw
open PySem PySem.Spec PyProof.Rows L2 Evl
section
variable {K : PySem.W.Frag} {α β γ δ R τ : Type} {E E' : XK} {cl : Nat → Addr} {M : List Addr} {σ : L2.St} {I I' H H' : Hp} {S S' S1 S2 S3 : List Cell} {te ta tb tc to tv : TE} {tt : TT} {tr tk : TA} {t : Ty α} {u : Ty β} {p x dx : Addr} {D : Ends} {tz : TS} {l : List (Int × Int)} {P : R → Prop}
theorem g_newD {i : Nat} (w : Holds M S H) (c : ∀ p H2, H p = none → Gr M S H H2 → Holds (p :: M) (cD p [] :: S) H2 → Ex (del M H) (del (p :: M) H2) → tz D (σ.set i (some (.ref p))) H2) : tSeq (tAsg tDNewK (gName i)) tz D σ H := fun p hp => by
  have e0 : Ex H (upd H p (.dK [])) := Ex.new hp
  exact c p _ hp ⟨ex_del e0, ex_del e0⟩ (w.new (c := cD p []) hp e0 upd_same rfl) ((del_new hp).trans (ex_del e0))
theorem g_appL {n : Nat} {p : Addr} {acc0 acc : List α} {x : α} {k : List α → R} (w : Holds M S H) (o : P (lt (acc ++ [x]) k)) (ha : Em E cl M ta σ (del M H) S (kPtr p) (.ok ()) S) (h : Em E cl M te σ (del M H) S t (.ok x) S') (hk0 : S[n]? = some (cL p t acc0)) (hk : S'[n]? = some (cL p t acc)) (hz : acc.length < 100000)
    (c : ∀ acc' H2, acc' = acc ++ [x] → P (k acc') → Gr M S H H2 → Holds M (S'.set n (cL p t acc')) H2 → D.nx σ H2) : tDrop (tBM K "list" rAppend ta (tCons te tNil)) D σ H :=
  g_app (tz := fun D' σ' H' => D.nx σ' H') (D := D) w o ha h hk0 hk hz c
theorem em_cellGet {n : Nat} {k d : Int} (ha : Em E cl M ta σ I S (kPtr p) (.ok ()) S) (hb : Em E cl M tb σ I S kI (.ok k) S) (hc : Em E cl M tc σ I S kI (.ok d) S) (hk : S[n]? = some (cD p l)) : Em E cl M (tDGet2 ta tb tc) σ I S kI (.ok ((l.lookup k).getD d)) S :=
  em_mk rfl fun H1 i w Q q => em_of ha H1 i w _ fun v1 H2 e1 w1 r1 => by
    obtain rfl : v1 = .ref p := r1
    obtain ⟨_, o2, h2, ro⟩ := w1.at_ _ (List.mem_of_getElem? hk)
    obtain rfl : o2 = .dK (l.map pairV) := ro
    refine ⟨p, rfl, .inl ⟨_, .inl h2⟩, em_of hb H2 (i.trans (w.grow e1)) w1 _ fun v2 H3 e2 w2 r2 => em_of hc H3 ((i.trans (w.grow e1)).trans (w1.grow e2)) w2 _ fun v3 H4 e3 w3 r3 => ?_⟩
    obtain rfl : v2 = .int k := r2
    obtain rfl : v3 = .int d := r3
    obtain ⟨_, o4, h4, ro4⟩ := w3.at_ _ (List.mem_of_getElem? hk)
    obtain rfl : o4 = .dK (l.map pairV) := ro4
    refine ⟨valV (l.map pairV) (.inl k), DGet.k (k := .inl k) h4, ?_⟩
    rw [valV_pair]
    refine q _ H4 ((e1.trans e2).trans e3) w3 ?_
    cases l.lookup k with
    | none => rfl
    | some y => rfl
/-- two dicts of numbers that hold the same: never unlike -/
theorem o_neDic {l2 : List (Int × Int)} (hl : l.length = l2.length) (h : ∀ q ∈ l, l2.lookup q.1 = some q.2) : Op2 rNeDA kDN l kDN l2 kB false := fun M v1 v2 H lv a b Q q => by
  obtain ⟨p1, rfl, h1⟩ := a
  obtain ⟨p2, rfl, h2⟩ := b
  refine ⟨p1, p2, _, _, rfl, rfl, (del_some.mp h1).2, (del_some.mp h2).2, by rw [List.length_map, List.length_map]; exact hl, fun z hz => ?_, q _ H (Ex.refl H) rfl⟩
  obtain ⟨y, hy, rfl⟩ := List.mem_map.mp hz
  refine ⟨?_, rfl⟩
  show valV (l2.map pairV) (.inl y.1) = some (.int y.2)
  rw [valV_pair, h y hy]
  rfl
/-- dict(pairs) -/
def dictP (l : List (Int × Int)) : List (Int × Int) := l.foldl (fun acc q => putN acc q.1 q.2) []
theorem merge_pair : ∀ (l acc : List (Int × Int)), mergeK (acc.map pairV) (l.map pairV) = (l.foldl (fun acc q => putN acc q.1 q.2) acc).map pairV
  | [], acc => rfl
  | q :: l, acc => by
    rw [List.map_cons, List.foldl_cons]
    show mergeK (putK (acc.map pairV) (.inl q.1) (.int q.2)) (l.map pairV) = _
    rw [putK_pair]
    exact merge_pair l _
theorem pairs_r {I : Hp} : ∀ {l : List (Int × Int)} {vs : List V}, All2 ((k2 K kI kI).r I) vs l → ∃ ps : List Addr, vs = ps.map V.ref ∧ Paired (fun p (kv : Key × V) => SqT K I p [kV kv.1, kv.2]) ps (l.map pairV)
  | [], vs, h => by cases h; exact ⟨[], rfl, .nil⟩
  | q :: l, vs, h => by
    cases h with
    | cons a t =>
      obtain ⟨ps, rfl, hp⟩ := pairs_r t
      obtain ⟨p, u, w, rfl, hs, ru, rw_⟩ := a
      obtain rfl : u = .int q.1 := ru
      obtain rfl : w = .int q.2 := rw_
      exact ⟨p :: ps, rfl, .cons hs hp⟩
theorem paired_up {H H' : Hp} (e : Ex H H') {ps : List Addr} {ks : List (Key × V)} (h : Paired (fun p (kv : Key × V) => SqT K H p [kV kv.1, kv.2]) ps ks) : Paired (fun p (kv : Key × V) => SqT K H' p [kV kv.1, kv.2]) ps ks := by
  induction h with
  | nil => exact .nil
  | cons a _ ih => exact .cons (ex_t e a) ih
theorem o_dictPr : OpN (fun xs H Q => ∃ (a : Addr) (ps : List Addr) (kvs : List (Key × V)), xs = [.ref a] ∧ SqL K H a (ps.map V.ref) ∧ Paired (fun p kv => SqT K H p [kV kv.1, kv.2]) ps kvs ∧ ∀ p, H p = none → Q (.ref p) (upd H p (.dK (mergeK [] kvs)))) (aC (kL K (k2 K kI kI)) a0) (l, ()) kDN (dictP l) := fun M us H lv a Q q => by
  obtain ⟨v, r, rfl, ⟨p, vs, rfl, hp, ha⟩, rfl⟩ := a
  obtain ⟨ps, rfl, hps⟩ := pairs_r ha
  refine ⟨p, ps, _, rfl, ex_l del_le hp, paired_up del_le hps, fun p2 hp2 => q _ _ (Ex.new hp2) ⟨p2, rfl, ?_⟩⟩
  have e : mergeK [] (l.map pairV) = (dictP l).map pairV := merge_pair l []
  rw [e]
  exact del_at (fresh_not lv hp2) upd_same
end
end Rw
/-! set(l) of a list of whole numbers, by the library's loop -/
namespace L2
open PySem PySem.Spec PyProof.Rows
abbrev nSet (w : World) : Obj := ⟨.type "set", none, .set #[] 0 (.fresh 0 0 (!w.params.followText "set-order")), #[]⟩
section
variable {P : Program} {w : World} {A : Around} {E : Value → Shared → Prop} {s : Shared}
def SetDone (w : World) (s : Shared) (ns : List Int) (t : Shared) : Prop := ∃ (h' : Heap) (tk c : Nat), t = { s with heap := h', toks := tk } ∧
  SetR w h' s.heap.objs.size (fun j => decide (j ∈ ns)) c ∧ c ≤ ns.length ∧ ∀ (b : Addr) (o : Obj), s.heap.get? b = some o → h'.get? b = some o
theorem set_list_at {l : Addr} {its : Array Value} (ns : List Int) {Q : Value → Shared → Prop} (hh : A.handled = none) (hl : s.heap.IsList l its) (hi : IntsAre its.toList ns) (hb : ns.length + 1 < scanBound)
    (h : ∀ t, SetDone w s ns t → Q (.ref s.heap.objs.size) t) : wpAny (model P w) A (call (.type "set") [.ref l]) Q E s := by
  have len : its.size = ns.length := by rw [← Array.length_toList]; exact IntsAre.length hi
  obtain ⟨c, tl, hmro⟩ := F.called_set.mro
  have hmade := F.called_set.made; have hsub := F.called_set.sub; have h1 := F.called_set.notType; have h2 := F.called_set.canCreate; have hct := F.typeCall_set_1 (.ref l)
  apply wpAny_call; apply codeAny_of_tree
  show wpAny _ _ (callAny (.type "set") _) _ _ _; refine wpAny_pure ⟨Code.quiet_builtin _ (by decide +kernel), codeAny_builtin F.entry_type_call ?_⟩; rw [Around.under_plain (weight_type_call_type "set" [.ref l] []) rfl]
  repeat (any_goals (first | assumption | wp_step))
  refine codeAny_mono (code_set_led1 (.ref l) (E := E) (Q₁ := fun ob t => ob = .ref s.heap.objs.size ∧ t = { s with heap := s.heap.push (nSet w) }) ⟨rfl, rfl⟩) fun r t hr => ?_
  match r, hr with
  | .ok (.ret ob), hr =>
    obtain ⟨e1, e2⟩ := hr
    subst e1 e2
    have at0 : (s.heap.push (nSet w)).get? s.heap.objs.size = some (nSet w) := Heap.get?_push_size _ rfl
    have ty : Shared.TypeIs { s with heap := s.heap.push (nSet w) } (.ref s.heap.objs.size) "set" := ⟨_, at0, rfl⟩
    have hli := F.called_set.init.lookup; have hbi := F.called_set.init.bind (.ref s.heap.objs.size)
    repeat (any_goals (first | assumption | wp_step))
    refine codeAny_mono (codeAny_call_builtin (R := wants (fun r t => r = .none ∧ SetDone w s ns t) E) F.called_set.init.plain F.entry_set_init (check_set_init_1 ty ?_)) fun r2 t2 hr2 => ?_
    · obtain ⟨⟨oc, od, oda, osl⟩, ho, ec, n, ed⟩ := hl
      simp only at ec ed; subst ec ed
      have hs1 := F.sub_list_set; have hs2 := F.sub_list_frozenset; have ne : (Value.type "list" == Value.type "dict") = false := by decide
      have hl1 : (s.heap.push (nSet w)).IsList l its := ⟨_, Heap.get?_push_of_some _ ho, rfl, n, rfl⟩
      have ho' := Heap.get?_push_of_some (nSet w) ho
      unfold Builtin.«set.__init__» noKeywords Builtin.Frozenset.updateFrom
      generalize hPI : pyIter = PI
      wp_walk
      subst hPI
      refine wpAny_pyIter_list hl1 ?_
      refine wpAny_bind (wpAny_runValue ?_)
      have lt0 : l < s.heap.objs.size := Heap.lt_size ho
      have hh3 : A.in1.in1.in1.handled = none := by simp [hh]
      have sz : (s.heap.push (nSet w)).objs.size = s.heap.objs.size + 1 := Heap.size_push ..
      have nI : l ≠ (s.heap.push (nSet w)).objs.size := fun z => absurd (z ▸ lt0 : (s.heap.push (nSet w)).objs.size < s.heap.objs.size) (by rw [sz]; exact Nat.not_lt.mpr (Nat.le_succ _))
      have nf : s.heap.objs.size ∉ [(s.heap.push (nSet w)).objs.size, l] := by
        rw [sz]
        intro z
        rcases List.mem_cons.mp z with z | z
        · exact absurd z (Nat.ne_of_lt (Nat.lt_succ_self _))
        · exact absurd (List.mem_singleton.mp z) (Nat.ne_of_gt lt0)
      have val : ∀ (i : Nat) (v : Value), its[i]? = some v → ∃ k t, ns[i]? = some k ∧ v = .int k t := fun i v hv => by
        have hi2 : i < ns.length := by rw [← len]; exact (Array.getElem?_eq_some_iff.mp hv).1
        obtain ⟨t, e⟩ := IntsAre.int_at hi i v (by rw [Array.getElem?_toList]; exact hv)
        exact ⟨ns[i], t, List.getElem?_eq_getElem hi2, by rw [e, List.getD_eq_getElem?_getD, List.getElem?_eq_getElem hi2]; rfl⟩
      refine set_update_ints ((Walks.list hh3 _ l nI its).toS) s.heap.objs.size nf ns len hb val (its.size - 0) 0 _ (by omega) (Nat.zero_le _) ⟨⟨_, Heap.get?_push_size _ rfl, rfl, rfl⟩, (hl1.push _)⟩ ⟨0, Nat.le_refl 0, setR_new_at (Heap.get?_push_of_some _ at0)⟩ fun t' c' hm hc' hS' => ?_
      obtain ⟨h', g2, d2, tk2, os2⟩ := t'
      obtain rfl : g2 = s.gens := hm.gens
      obtain rfl : d2 = s.drawn := hm.drawn
      obtain rfl : os2 = s.os := hm.os
      show wpAny _ _ _ _ _ _; refine wpAny_pure ?_; show wpAny _ _ (ret Value.none) _ _ _; refine wpAny_pure ⟨rfl, h', tk2, c', rfl, hS', by rw [← len]; exact hc', fun b o e => ?_⟩
      have lb : b < s.heap.objs.size := Heap.lt_size e
      refine hm.heap b o (fun z => ?_) (Heap.get?_push_of_some _ (Heap.get?_push_of_some _ e))
      rcases List.mem_cons.mp z with z | z
      · exact absurd z (Nat.ne_of_lt lb)
      · exact absurd ((List.mem_singleton.mp z).trans sz) (Nat.ne_of_lt (Nat.lt_succ_of_lt lb))
    · match r2, hr2 with
      | .ok (.ret r), hr2 =>
        obtain ⟨rfl, hd⟩ := hr2
        repeat (any_goals (first | assumption | wp_step))
        exact h _ hd
      | .error e, hr2 => exact hr2
      | .ok .next, hr2 => exact hr2.elim
      | .ok .brk, hr2 => exact hr2.elim
      | .ok .cont, hr2 => exact hr2.elim
  | .error e, hr => exact hr
  | .ok .next, hr => exact hr.elim
  | .ok .brk, hr => exact hr.elim
  | .ok .cont, hr => exact hr.elim
end
/-- rising whole numbers: each member once -/
def insS (x : Int) : List Int → List Int
  | [] => [x]
  | y :: r => if x < y then x :: y :: r else if x = y then y :: r else y :: insS x r
def setL : List Int → List Int
  | [] => []
  | x :: r => insS x (setL r)
theorem insS_mem {x k : Int} : ∀ {l : List Int}, k ∈ insS x l ↔ k = x ∨ k ∈ l
  | [] => by simp [insS]
  | y :: r => by
    unfold insS
    split
    · simp
    · split
      · rename_i h; subst h; simp
      · rw [List.mem_cons, List.mem_cons, insS_mem]
        constructor
        · rintro (h | h | h)
          · exact .inr (.inl h)
          · exact .inl h
          · exact .inr (.inr h)
        · rintro (h | h | h)
          · exact .inr (.inl h)
          · exact .inl h
          · exact .inr (.inr h)
theorem insS_up {x : Int} : ∀ {l : List Int}, l.Pairwise (· < ·) → (insS x l).Pairwise (· < ·)
  | [], _ => by simp [insS]
  | y :: r, h => by
    unfold insS
    have hr := List.pairwise_cons.mp h
    split
    · rename_i hx
      refine List.pairwise_cons.mpr ⟨fun z hz => ?_, h⟩
      rcases List.mem_cons.mp hz with e | e
      · rw [e]; exact hx
      · exact Int.lt_trans hx (hr.1 z e)
    · split
      · exact h
      · refine List.pairwise_cons.mpr ⟨fun z hz => ?_, insS_up hr.2⟩
        rcases insS_mem.mp hz with e | e
        · rw [e]; omega
        · exact hr.1 z e
theorem setL_mem {k : Int} : ∀ {l : List Int}, k ∈ setL l ↔ k ∈ l
  | [] => Iff.rfl
  | x :: r => by rw [setL, insS_mem, List.mem_cons, setL_mem]
theorem setL_up : ∀ (l : List Int), (setL l).Pairwise (· < ·)
  | [] => .nil
  | x :: r => insS_up (setL_up r)
theorem up_same : ∀ {l r : List Int}, l.Pairwise (· < ·) → r.Pairwise (· < ·) → (∀ k, k ∈ l ↔ k ∈ r) → l = r
  | [], [], _, _, _ => rfl
  | [], y :: r, _, _, h => absurd ((h y).mpr List.mem_cons_self) List.not_mem_nil
  | x :: l, [], _, _, h => absurd ((h x).mp List.mem_cons_self) List.not_mem_nil
  | x :: l, y :: r, hl, hr, h => by
    have a := List.pairwise_cons.mp hl
    have b := List.pairwise_cons.mp hr
    have e : x = y := by
      have h1 := (h x).mp List.mem_cons_self
      have h2 := (h y).mpr List.mem_cons_self
      rcases List.mem_cons.mp h1 with z | z
      · exact z
      · rcases List.mem_cons.mp h2 with q | q
        · exact q.symm
        · have := b.1 x z; have := a.1 y q; omega
    subst e
    refine congrArg (x :: ·) (up_same a.2 b.2 fun k => ⟨fun m => ?_, fun m => ?_⟩)
    · rcases List.mem_cons.mp ((h k).mp (List.mem_cons_of_mem _ m)) with z | z
      · have := a.1 k m; omega
      · exact z
    · rcases List.mem_cons.mp ((h k).mpr (List.mem_cons_of_mem _ m)) with z | z
      · have := b.1 k m; omega
      · exact z
theorem up_nodup {l : List Int} (h : l.Pairwise (· < ·)) : l.Nodup := h.imp fun h e => by omega
theorem setR_count {w : World} {h : Heap} {a : Addr} {ns : List Int} {c : Nat} (R : SetR w h a (fun j => decide (j ∈ ns)) c) : c = (setL ns).length := by
  obtain ⟨o, es, ep, t, _, _, _, _, nd, hm, _, _, hn, _⟩ := R
  have p : (es.toList.map keyOf).Perm (setL ns) := (List.perm_ext_iff_of_nodup nd (up_nodup (setL_up ns))).mpr fun k => by rw [setL_mem, ← hm k, decide_eq_true_eq]
  rw [← p.length_eq, List.length_map, Array.length_toList, hn]
/-- set(l) -/
def rSetIL (K : PySem.W.Frag) (w : World) : List V → Hp → VK → Prop := fun xs H Q => ∃ (l : Addr) (ns : List Int), xs = [.ref l] ∧ SqL K H l (ns.map V.int) ∧ ns.length ≤ 1000 ∧
  ∀ p, H p = none → Q (.ref p) (upd H p (SetO w p (fun j => decide (j ∈ ns)) (setL ns).length))
theorem cr_setIL {X : Cx} (hc : X.calm = true) : CallR X (.type "set") (rSetIL X.K X.w) := by
  intro pins s σ H xs us Q I r h
  obtain ⟨l, ns, rfl, hl, hz, q⟩ := h
  rw [Vals.ref1 r]
  obtain ⟨its, rv, pl, _⟩ := I.list hl
  have hn : H s.heap.objs.size = none := I.hok.fresh (Nat.le_refl _)
  refine set_list_at ns (I.ok.hd hc) pl.isList (ints_of_vals rv) (by unfold scanBound; omega) fun t ⟨h', tk, c, e, R, hcn, k⟩ => ?_
  subst e
  rw [setR_count R] at R
  exact ⟨.ref s.heap.objs.size, upd H s.heap.objs.size (SetO X.w s.heap.objs.size _ _), I.laid (t' := tk) k (Nat.le_refl _) (setO_new R), rfl, q _ hn⟩
end L2
namespace Rw
open PySem PySem.Spec PyProof.Rows L2 Evl
/-! ### sets of whole numbers, and tables of what is there -/
def kSetI (w : World) : Ty (List Int) := ⟨fun H v l => ∃ p, v = .ref p ∧ H p = some (SetO w p (fun j => decide (j ∈ l)) (setL l).length), fun e ⟨p, a, b⟩ => ⟨p, a, e _ _ b⟩⟩
def kKeys : Ty (List Int) := ⟨fun H v ns => ∃ d kvs, v = .ref d ∧ H d = some (.dK kvs) ∧ ∀ i : Int, (valV kvs (.inl i)).isSome = decide (i ∈ ns), fun e ⟨d, k, a, b, c⟩ => ⟨d, k, a, e _ _ b, c⟩⟩
section
variable {K : PySem.W.Frag} {w : World} {α β γ δ R τ : Type} {E E' : XK} {cl : Nat → Addr} {M : List Addr} {σ : L2.St} {I I' H H' : Hp} {S S' S1 S2 S3 : List Cell} {te ta tb tc to tv tl : TE} {tt : TT} {tr tk : TA} {t : Ty α} {u : Ty β} {p x dx : Addr} {l ns : List Int}
theorem o_setI (h : l.length ≤ 1000) : OpN (rSetIL K w) (aC (kL K kI) a0) (l, ()) (kSetI w) l := fun M us H lv a Q q => by
  obtain ⟨v, r, rfl, ⟨p, vs, rfl, hp, ha⟩, rfl⟩ := a
  have e : vs = l.map V.int := all_ints ha
  subst e
  exact ⟨p, l, rfl, ex_l del_le hp, h, fun p2 hp2 => q _ _ (Ex.new hp2) ⟨p2, rfl, del_at (fresh_not lv hp2) upd_same⟩⟩
theorem o_sortedSet (h : (setL l).length < 64) : OpN (rSortedSet w) (aC (kSetI w) a0) (l, ()) (kL K kI) (setL l) := fun M us H lv a Q q => by
  obtain ⟨v, r, rfl, ⟨p, rfl, hp⟩, rfl⟩ := a
  refine ⟨p, _, _, rfl, (del_some.mp hp).2, h, fun ns p2 up mem len hp2 => ?_⟩
  have e : ns = setL l := up_same up (setL_up l) fun k => by rw [mem k, decide_eq_true_eq, setL_mem]
  subst e
  exact q _ _ (Ex.new hp2) ⟨p2, _, rfl, .inl (.inl (del_at (fresh_not lv hp2) upd_same)), all_intsR _⟩
/-- n in a table of what is there -/
theorem em_inKeys {n : Int} (ha : Em E cl M ta σ I S kI (.ok n) S1) (hb : Em E cl M tb σ I S1 kKeys (.ok ns) S2) : Em E cl M (tDIn ta tb) σ I S kB (.ok (decide (n ∈ ns))) S2 :=
  em_mk (hb.ad.trans ha.ad) fun H1 i w Q q => em_of ha H1 i w _ fun v1 H2 e1 w1 r1 => em_of hb H2 (i.trans (w.grow e1)) w1 _ fun v2 H3 e2 w2 r2 => by
    obtain rfl : v1 = .int n := r1
    obtain ⟨d, kvs, rfl, h1, h2⟩ := r2
    refine ⟨d, _, rfl, DGet.k (k := .inl n) (del_some.mp h1).2, q _ H3 (ads_tr ha.ad e1 e2) w2 ?_⟩
    show V.bl _ = V.bl _
    rw [h2 n]
theorem em_keys {j : Nat} {vs : List Nat} (h : Em E cl M tl σ I S (kT K kI) (.ok ns) S') (hz : ns.length ≤ 100000) (hw : ∀ x, wipe ((wipe σ vs).set j (some x)) vs = wipe σ vs) (hj : ∀ x, ((wipe σ vs).set j (some x))[j]? = some (some x)) :
    Em E cl M (tDc (iTup K tl) (gName j) tYes (tVar j) (tC (.bl true)) vs) σ I S kKeys (.ok ns) S' :=
  em_mk h.ad fun H1 i w Q q => em_of h H1 i w _ fun v H2 e w2 r => by
    obtain ⟨p, xs, rfl, hs, ha⟩ := r
    obtain rfl : xs = ns.map V.int := all_ints ha
    have hs2 : SqT K H2 p (ns.map V.int) := ex_t del_le hs
    refine ⟨p, rfl, ⟨_, hs2⟩, fun Dd hD => dc_tup (xs := ns.map V.int) (fun i H' => Ex H2 H' ∧ ∃ kvs : List (Key × V), H' Dd = some (.dK kvs) ∧ kvs.length ≤ i ∧ ∀ q : Int, (valV kvs (.inl q)).isSome = decide (q ∈ ns.take i))
      ⟨Ex.new hD, [], upd_same, Nat.le_refl _, fun q => by simp [valV]⟩ (fun i H' _ c => ex_t c.1 hs2) (fun i x H' hi c => ?_) (fun H' c => ?_)⟩
    · obtain ⟨eH, kvs, g1, g2, g3⟩ := c
      have hlt := (List.getElem?_eq_some_iff.mp hi).1
      rw [List.length_map] at hlt
      rw [List.getElem?_map, List.getElem?_eq_getElem hlt] at hi
      obtain rfl : V.int ns[i] = x := Option.some.inj hi
      refine ⟨hw _, ?_⟩
      simp only [tYes, ↓reduceIte]
      refine ⟨_, hj _, kvs, .inl ns[i], rfl, g1, sz_lt (by omega), Ex.mut eH hD, _, upd_same, Nat.le_trans (length_putK _ _ _) (by omega), fun q => ?_⟩
      rw [valV_put, List.take_succ_eq_append_getElem hlt]
      by_cases z : (Sum.inl q : Key) = Sum.inl ns[i]
      · rw [if_pos z]
        injection z with z
        rw [z]
        exact (decide_eq_true (List.mem_append_right _ List.mem_cons_self)).symm
      · rw [if_neg z, g3 q]
        have z2 : ¬ q = ns[i] := fun y => z (by rw [y])
        exact decide_eq_decide.mpr ⟨fun h => List.mem_append_left _ h, fun h => (List.mem_append.mp h).elim id fun h => absurd (List.mem_singleton.mp h) z2⟩
    · obtain ⟨eH, kvs, g1, g2, g3⟩ := c
      rw [List.length_map, List.take_length] at g3
      exact q _ H' (e.trans (ex_del eH)) (w2.ex eH) ⟨Dd, kvs, rfl, del_at (fresh_not w2.live hD) g1, g3⟩
end
end Rw
namespace Rw
open PySem PySem.Spec PyProof.Rows L2 Evl
theorem mods_in {p : Int} (h : 0 < p) {l : List Int} : ∀ x ∈ setL (l.map fun y => y % p), 0 ≤ x ∧ x < p := fun x hx => by
  obtain ⟨y, _, rfl⟩ := List.mem_map.mp (setL_mem.mp hx)
  exact ⟨Int.emod_nonneg _ (by omega), Int.emod_lt_of_pos _ h⟩

def I_Rg (b : (Int × List Int × List Int)) : Prop := match b with
  | (p, l, k) => 1 ≤ p ∧ p ≤ 5000 ∧ k = l ∧ l.Pairwise (· < ·) ∧ (∀ x ∈ l, 0 ≤ x ∧ x < p) ∧ l.length < 64
def R_Rg (K : PySem.W.Frag)  : Hp → List (Str × V) → (Int × List Int × List Int) → Prop := fun H fs b => ∃ v1 v2 : V, fs = ([("period", (.int (b.1))), ("places", v1), ("there", v2)] : List (Str × V)) ∧ (kT K kI).r H v1 (b.2.1) ∧ kKeys.r H v2 (b.2.2) ∧ I_Rg b
theorem R_Rg_up {K : PySem.W.Frag}  {H H' : Hp} {fs : List (Str × V)} {b : (Int × List Int × List Int)} (e : Ex H H') (h : R_Rg K  H fs b) : R_Rg K  H' fs b := by
  obtain ⟨v1, v2, h0, h1, h2, hz⟩ := h
  exact ⟨v1, v2, h0, (kT K kI).up e h1, kKeys.up e h2, hz⟩
abbrev k_Rg (K : PySem.W.Frag) (CR : Addr)  : Ty (Int × List Int × List Int) := kOb CR (R_Rg K ) (fun e h => R_Rg_up e h)
structure Tt_Rg (K : PySem.W.Frag) (CR : Addr) : Prop where
  cls : Cls K CR
  n_period : NoAttr K CR "period"
  n_places : NoAttr K CR "places"
  n_there : NoAttr K CR "there"
theorem em_Rg_period {K : PySem.W.Frag} {E : XK} {cl : Nat → Addr} {M : List Addr} {σ : L2.St} {I : Hp} {S S' : List Cell} {to : TE} {CR : Addr}  {b : (Int × List Int × List Int)} (T : Tt_Rg K CR) (h : Em E cl M to σ I S (k_Rg K CR ) (.ok b) S') : Em E cl M (tFld K to "period") σ I S kI (.ok (b.1)) S' :=
  em_obF T.cls T.n_period (fun H fs r => by
    obtain ⟨v1, v2, h0, h1, h2, hz⟩ := r
    exact ⟨_, by rw [h0]; rfl, rfl⟩) h
theorem em_Rg_places {K : PySem.W.Frag} {E : XK} {cl : Nat → Addr} {M : List Addr} {σ : L2.St} {I : Hp} {S S' : List Cell} {to : TE} {CR : Addr}  {b : (Int × List Int × List Int)} (T : Tt_Rg K CR) (h : Em E cl M to σ I S (k_Rg K CR ) (.ok b) S') : Em E cl M (tFld K to "places") σ I S (kT K kI) (.ok (b.2.1)) S' :=
  em_obF T.cls T.n_places (fun H fs r => by
    obtain ⟨v1, v2, h0, h1, h2, hz⟩ := r
    exact ⟨_, by rw [h0]; rfl, h1⟩) h
theorem em_Rg_there {K : PySem.W.Frag} {E : XK} {cl : Nat → Addr} {M : List Addr} {σ : L2.St} {I : Hp} {S S' : List Cell} {to : TE} {CR : Addr}  {b : (Int × List Int × List Int)} (T : Tt_Rg K CR) (h : Em E cl M to σ I S (k_Rg K CR ) (.ok b) S') : Em E cl M (tFld K to "there") σ I S kKeys (.ok (b.2.2)) S' :=
  em_obF T.cls T.n_there (fun H fs r => by
    obtain ⟨v1, v2, h0, h1, h2, hz⟩ := r
    exact ⟨_, by rw [h0]; rfl, h2⟩) h
theorem ob_Rg {K : PySem.W.Frag} {CR : Addr}  {m : Str} (hm : ∀ (b : (Int × List Int × List Int)) (v1 v2 : V), (([("period", (.int (b.1))), ("places", v1), ("there", v2)] : List (Str × V)).lookup m = none)) : Ob (k_Rg K CR ) CR m := fun H v b ⟨x, dx, fs, e, h, r⟩ => by
  obtain ⟨v1, v2, h0, h1, h2, hz⟩ := r
  exact ⟨x, dx, fs, e, h, by rw [h0]; exact hm b v1 v2⟩
theorem inv_Rg {K : PySem.W.Frag} {CR : Addr}  {H : Hp} {v : V} {b : (Int × List Int × List Int)} (h : (k_Rg K CR ).r H v b) : I_Rg b := by
  obtain ⟨_, _, _, _, _, r⟩ := h
  obtain ⟨v1, v2, h0, h1, h2, hz⟩ := r
  exact hz

section
variable {P : Program} {w : World} {K : PySem.W.Frag} {mg : Str → Option Value} {base : Heap} {CR : Addr} {cl : Nat → Addr}

abbrev s_Ring_init : Stmt := inClass (topS 19) 0
def Ring_initN : List Str := ["self", "period", "places", "place"]
theorem sc_Ring_init : FnScope Ring_initN ["self", "period", "places"] (defScope s_Ring_init) := ⟨rfl, rfl, rfl, by decide +kernel, rfl, by decide +kernel, by decide +kernel⟩
def f_Ring_init : Int × (List Int) × Unit → Re (Int × List Int × List Int) := fun a => match a with
  | (x0, x1, _) =>
    cond (!((decide ((0 : Int) < x0)) && (decide (x0 ≤ (5000 : Int)))))
    ((.er 5))
    ((.ok (x0, (setL (x1.map (fun x_19 => (x_19 % x0)))), (setL (x1.map (fun x_19 => (x_19 % x0)))))))
def pre_Ring_init : Int × (List Int) × Unit → Prop := fun a => match a with
  | (x0, x1, _) => (-1000000 ≤ x0 ∧ x0 ≤ 1000000) ∧ x1.length ≤ 1000 ∧ True ∧ (setL (x1.map fun y => y % x0)).length < 64
abbrev sp_Ring_init (K : PySem.W.Frag) (CR : Addr) (cl : Nat → Addr) : Sp := spIni CR (aC kI (aC (kL K kI) a0)) pre_Ring_init f_Ring_init (R_Rg K ) cl
theorem ok_Ring_init {f : Addr} {fd : FuncData} (F : Fun K "__init__" "Ring.__init__" s_Ring_init f fd) (T_Rg : Tt_Rg K CR) (B : BD mg) (n_tuple : mg "tuple" = none) (n_set : mg "set" = none) (n_sorted : mg "sorted" = none) (gi_MOST : ∃ t, mg "MOST" = some (.int 5000 t)) (xBadSize : Exc1 K mg "BadSize" (cl 5)) : FnOk P w K mg base (L2.CX P w) 1 f fd ["self", "period", "places"] (sp_Ring_init K CR cl) := by
  refine F.okX sc_Ring_init (fun vs H Q E h => ?_) (fun cdv A outer s H vs Q E hr h => ?_)
  · obtain ⟨M, x, dx, ws, a, rfl, _, _, _, hA, _⟩ := h
    obtain ⟨v0, _, rfl, r0, v1, _, rfl, r1, rfl⟩ := hA
    rfl
  · obtain ⟨M, x, dx, ws, ⟨x0, x1, _⟩, rfl, xM, live, hx, hA, hpre, qok, qer⟩ := h
    obtain ⟨v0, _, rfl, r0, v1, _, rfl, r1, rfl⟩ := hA
    obtain rfl : v0 = (.int x0) := r0
    have hpre : (-1000000 ≤ x0 ∧ x0 ≤ 1000000) ∧ x1.length ≤ 1000 ∧ True ∧ (setL (x1.map fun y => y % x0)).length < 64 := hpre
    have w0 : Holds M [cIns x CR dx []] H := ⟨fun c hc => by rw [List.mem_singleton.mp hc]; exact ⟨xM, _, hx, rfl⟩, by simp [ads], live⟩
    have o0 : Pr (f_Ring_init (x0, x1, ())) (cond (!((decide ((0 : Int) < x0)) && (decide (x0 ≤ (5000 : Int)))))
((.er 5))
((.ok (x0, (setL (x1.map (fun x_19 => (x_19 % x0)))), (setL (x1.map (fun x_19 => (x_19 % x0)))))))) := rfl
    refine ⟨_, pss_cons (ps_if (pt_not (pt_chain op_lt op_le pe_int (pv 1) (pe_GI gi_MOST))) (pss_one (ps_raiseX xBadSize)) (pss_nil)) (pss_cons (ps_fld (pv 0) (pv 1) rfl) (pss_cons (ps_fld (pv 0) (pe_callTy call_tuple_of (by rfl) n_tuple (by decide +kernel) (pa_cons (pe_callB (cr_sortedSet rfl) (by rfl) n_sorted (by decide +kernel) (pa_cons (pe_callTy (cr_setIL rfl) (by rfl) n_set (by decide +kernel) (pa_cons (pe_lc (own := [("place", 3)]) (g := gName 3) (tt := tYes) rfl sc_Ring_init.nd (pi_list (pv 2)) (blkOk_by (own := [("place", 3)]) (N := Ring_initN) (sc := defScope s_Ring_init) (by decide +kernel)) (fun _ _ _ _ _ => pg_name (i := 3) sc_Ring_init.nd rfl (Or.inl rfl)) (fun _ _ _ _ _ => pts_nil) (fun _ _ _ _ _ => (pe_op op_mod (pv 3) (pv 1)))) pa_nil)) pa_nil)) pa_nil)) rfl) (pss_one (ps_fld (pv 0) (pe_dc (own := [("place", 3)]) (g := gName 3) (tt := tYes) rfl sc_Ring_init.nd (pi_tup (pe_fld (pv 0) rfl)) (blkOk_by (own := [("place", 3)]) (N := Ring_initN) (sc := defScope s_Ring_init) (by decide +kernel)) (fun _ _ _ _ _ => pg_name (i := 3) sc_Ring_init.nd rfl (Or.inl rfl)) (fun _ _ _ _ _ => pts_nil) (fun _ _ _ _ _ => pv 3) (fun _ _ _ _ _ => pe_bl)) rfl)))), ?_⟩
    refine g_when (E := E) (cl := cl) (b := (!((decide ((0 : Int) < x0)) && (decide (x0 ≤ (5000 : Int)))))) w0 o0 (gt_not (gt_test (em_chain em_int (em_var (t := kI) (v := (.int x0)) (x := x0) rfl rfl) (fun _ => em_int) o_IB o_IB))) (fun hb_2 o_3 H_1 g_4 w_5 => ?_) (fun hb_7 o_8 H_6 g_9 w_10 => ?_)
    · simp only [decide_eq_true_eq, decide_eq_false_iff_not, Bool.and_eq_true, Bool.or_eq_true, Bool.and_eq_false_iff, Bool.or_eq_false_iff, Bool.not_eq_true', Bool.not_eq_false'] at hb_2
      have r_11 := (kL K kI).up g_4.im r1
      exact qer 5 _ o_3 (show Ex (del [x] H) (del [x] _) from Gr.fr g_4)
    · simp only [decide_eq_true_eq, decide_eq_false_iff_not, Bool.and_eq_true, Bool.or_eq_true, Bool.and_eq_false_iff, Bool.or_eq_false_iff, Bool.not_eq_true', Bool.not_eq_false'] at hb_7
      have r_12 := (kL K kI).up g_9.im r1
      refine g_fld (E := E) (cl := cl) (n := 0) (C := CR) (t := kI) (y := x0) w_10 (em_var (t := kI) (v := (.int x0)) (x := x0) rfl rfl) (em_var (t := kPtr x) (v := .ref x) (x := ()) rfl rfl) rfl T_Rg.cls T_Rg.n_period (Nat.lt_of_le_of_lt (Nat.le_refl 0) (by decide)) (fun v_13 H_14 g_15 w_16 r_17 => ?_)
      have r_18 := (kL K kI).up g_15.im r_12
      obtain rfl : v_13 = (.int x0) := r_17
      refine g_fld (E := E) (cl := cl) (n := 0) (C := CR) (t := (kT K kI)) (y := (setL (x1.map (fun x_19 => (x_19 % x0))))) w_16 (em_cb (em_cons (em_cb (em_cons (em_cb (em_cons (em_eq (em_lc (K := K) (u := kI) (fun _ => true) (fun x_19 => (x_19 % x0)) (ei_L (em_var (t := (kL K kI)) (v := v1) (x := x1) rfl r_18)) (by first | (omega) | (dsimp only; omega)) eg_name (fun _ _ _ b => by obtain ⟨_, rfl, rfl⟩ := b; rfl) (fun _ _ _ _ _ _ _ _ => gt_yes) (fun M_25 S_26 I_20 x_19 s_24 e_21 m_22 c_29 b_23 => by obtain ⟨_, rfl, rfl⟩ := b_23; exact (em_op (em_var (t := kI) (v := (.int x_19)) (x := x_19) rfl rfl) (em_var (t := kI) (v := (.int x0)) (x := x0) rfl rfl) (o_IC (C := fun _ j => 0 < j) (by first | (show (0 : Int) < _; omega) | (dsimp only; show (0 : Int) < _; omega)))))) (by rw [filter_yes])) em_nil) (o_setI (by rw [List.length_map]; omega))) em_nil) (o_sortedSet (by exact hpre.2.2.2))) em_nil) o_tupL) (em_var (t := kPtr x) (v := .ref x) (x := ()) rfl rfl) rfl T_Rg.cls T_Rg.n_places (Nat.lt_of_le_of_lt (putF_le (Nat.le_refl 0)) (by decide)) (fun v_30 H_31 g_32 w_33 r_34 => ?_)
      have r_35 := (kL K kI).up g_32.im r_18
      refine g_fldL (E := E) (cl := cl) (n := 0) (C := CR) (t := kKeys) (y := (setL (x1.map (fun x_19 => (x_19 % x0))))) w_33 (em_keys (j := 3) (em_cellF (n := 0) (C := CR) (y := (setL (x1.map (fun x_19 => (x_19 % x0))))) (v := v_30) (em_var (t := kPtr x) (v := .ref x) (x := ()) rfl rfl) rfl T_Rg.cls T_Rg.n_places rfl r_34) (by have := hpre.2.2.2; omega) (fun _ => rfl) (fun _ => rfl)) (em_var (t := kPtr x) (v := .ref x) (x := ()) rfl rfl) rfl T_Rg.cls T_Rg.n_there (Nat.lt_of_le_of_lt (putF_le (putF_le (Nat.le_refl 0))) (by decide)) (fun v_36 H_37 g_38 w_39 r_40 => ?_)
      have r_41 := (kL K kI).up g_38.im r_35
      have r_42 := (kT K kI).up g_38.im r_34
      obtain ⟨_, oF, hF⟩ := w_39.at_ _ (List.mem_singleton.mpr rfl)
      obtain ⟨hF1, hF2⟩ := hF
      subst hF2
      exact qok (x0, (setL (x1.map (fun x_19 => (x_19 % x0)))), (setL (x1.map (fun x_19 => (x_19 % x0))))) _ H_37 o_8 hF1 (show Ex (del [x] H) (del [x] H_37) from Gr.fr (((g_9.then g_15 rfl).then g_32 rfl).then g_38 rfl)) ⟨v_30, v_36, rfl, r_42, r_40, by show I_Rg (x0, (setL (x1.map (fun x_19 => (x_19 % x0)))), (setL (x1.map (fun x_19 => (x_19 % x0))))); exact ⟨by omega, by omega, rfl, setL_up _, mods_in (by omega), by omega⟩⟩

abbrev s_Ring_initT : Stmt := inClass (topS 19) 0
def Ring_initTN : List Str := ["self", "period", "places", "place"]
theorem sc_Ring_initT : FnScope Ring_initTN ["self", "period", "places"] (defScope s_Ring_initT) := ⟨rfl, rfl, rfl, by decide +kernel, rfl, by decide +kernel, by decide +kernel⟩
def f_Ring_initT : Int × (List Int) × Unit → Re (Int × List Int × List Int) := fun a => match a with
  | (x0, x1, _) =>
    cond (!((decide ((0 : Int) < x0)) && (decide (x0 ≤ (5000 : Int)))))
    ((.er 5))
    ((.ok (x0, (setL (x1.map (fun x_61 => (x_61 % x0)))), (setL (x1.map (fun x_61 => (x_61 % x0)))))))
def pre_Ring_initT : Int × (List Int) × Unit → Prop := fun a => match a with
  | (x0, x1, _) => (-1000000 ≤ x0 ∧ x0 ≤ 1000000) ∧ x1.length ≤ 1000 ∧ True ∧ (setL (x1.map fun y => y % x0)).length < 64
abbrev sp_Ring_initT (K : PySem.W.Frag) (CR : Addr) (cl : Nat → Addr) : Sp := spIni CR (aC kI (aC (kT K kI) a0)) pre_Ring_initT f_Ring_initT (R_Rg K ) cl
theorem ok_Ring_initT {f : Addr} {fd : FuncData} (F : Fun K "__init__" "Ring.__init__" s_Ring_initT f fd) (T_Rg : Tt_Rg K CR) (B : BD mg) (n_tuple : mg "tuple" = none) (n_set : mg "set" = none) (n_sorted : mg "sorted" = none) (gi_MOST : ∃ t, mg "MOST" = some (.int 5000 t)) (xBadSize : Exc1 K mg "BadSize" (cl 5)) : FnOk P w K mg base (L2.CX P w) 1 f fd ["self", "period", "places"] (sp_Ring_initT K CR cl) := by
  refine F.okX sc_Ring_initT (fun vs H Q E h => ?_) (fun cdv A outer s H vs Q E hr h => ?_)
  · obtain ⟨M, x, dx, ws, a, rfl, _, _, _, hA, _⟩ := h
    obtain ⟨v0, _, rfl, r0, v1, _, rfl, r1, rfl⟩ := hA
    rfl
  · obtain ⟨M, x, dx, ws, ⟨x0, x1, _⟩, rfl, xM, live, hx, hA, hpre, qok, qer⟩ := h
    obtain ⟨v0, _, rfl, r0, v1, _, rfl, r1, rfl⟩ := hA
    obtain rfl : v0 = (.int x0) := r0
    have hpre : (-1000000 ≤ x0 ∧ x0 ≤ 1000000) ∧ x1.length ≤ 1000 ∧ True ∧ (setL (x1.map fun y => y % x0)).length < 64 := hpre
    have w0 : Holds M [cIns x CR dx []] H := ⟨fun c hc => by rw [List.mem_singleton.mp hc]; exact ⟨xM, _, hx, rfl⟩, by simp [ads], live⟩
    have o0 : Pr (f_Ring_initT (x0, x1, ())) (cond (!((decide ((0 : Int) < x0)) && (decide (x0 ≤ (5000 : Int)))))
((.er 5))
((.ok (x0, (setL (x1.map (fun x_61 => (x_61 % x0)))), (setL (x1.map (fun x_61 => (x_61 % x0)))))))) := rfl
    refine ⟨_, pss_cons (ps_if (pt_not (pt_chain op_lt op_le pe_int (pv 1) (pe_GI gi_MOST))) (pss_one (ps_raiseX xBadSize)) (pss_nil)) (pss_cons (ps_fld (pv 0) (pv 1) rfl) (pss_cons (ps_fld (pv 0) (pe_callTy call_tuple_of (by rfl) n_tuple (by decide +kernel) (pa_cons (pe_callB (cr_sortedSet rfl) (by rfl) n_sorted (by decide +kernel) (pa_cons (pe_callTy (cr_setIL rfl) (by rfl) n_set (by decide +kernel) (pa_cons (pe_lc (own := [("place", 3)]) (g := gName 3) (tt := tYes) rfl sc_Ring_initT.nd (pi_tup (pv 2)) (blkOk_by (own := [("place", 3)]) (N := Ring_initTN) (sc := defScope s_Ring_initT) (by decide +kernel)) (fun _ _ _ _ _ => pg_name (i := 3) sc_Ring_initT.nd rfl (Or.inl rfl)) (fun _ _ _ _ _ => pts_nil) (fun _ _ _ _ _ => (pe_op op_mod (pv 3) (pv 1)))) pa_nil)) pa_nil)) pa_nil)) rfl) (pss_one (ps_fld (pv 0) (pe_dc (own := [("place", 3)]) (g := gName 3) (tt := tYes) rfl sc_Ring_initT.nd (pi_tup (pe_fld (pv 0) rfl)) (blkOk_by (own := [("place", 3)]) (N := Ring_initTN) (sc := defScope s_Ring_initT) (by decide +kernel)) (fun _ _ _ _ _ => pg_name (i := 3) sc_Ring_initT.nd rfl (Or.inl rfl)) (fun _ _ _ _ _ => pts_nil) (fun _ _ _ _ _ => pv 3) (fun _ _ _ _ _ => pe_bl)) rfl)))), ?_⟩
    refine g_when (E := E) (cl := cl) (b := (!((decide ((0 : Int) < x0)) && (decide (x0 ≤ (5000 : Int)))))) w0 o0 (gt_not (gt_test (em_chain em_int (em_var (t := kI) (v := (.int x0)) (x := x0) rfl rfl) (fun _ => em_int) o_IB o_IB))) (fun hb_44 o_45 H_43 g_46 w_47 => ?_) (fun hb_49 o_50 H_48 g_51 w_52 => ?_)
    · simp only [decide_eq_true_eq, decide_eq_false_iff_not, Bool.and_eq_true, Bool.or_eq_true, Bool.and_eq_false_iff, Bool.or_eq_false_iff, Bool.not_eq_true', Bool.not_eq_false'] at hb_44
      have r_53 := (kT K kI).up g_46.im r1
      exact qer 5 _ o_45 (show Ex (del [x] H) (del [x] _) from Gr.fr g_46)
    · simp only [decide_eq_true_eq, decide_eq_false_iff_not, Bool.and_eq_true, Bool.or_eq_true, Bool.and_eq_false_iff, Bool.or_eq_false_iff, Bool.not_eq_true', Bool.not_eq_false'] at hb_49
      have r_54 := (kT K kI).up g_51.im r1
      refine g_fld (E := E) (cl := cl) (n := 0) (C := CR) (t := kI) (y := x0) w_52 (em_var (t := kI) (v := (.int x0)) (x := x0) rfl rfl) (em_var (t := kPtr x) (v := .ref x) (x := ()) rfl rfl) rfl T_Rg.cls T_Rg.n_period (Nat.lt_of_le_of_lt (Nat.le_refl 0) (by decide)) (fun v_55 H_56 g_57 w_58 r_59 => ?_)
      have r_60 := (kT K kI).up g_57.im r_54
      obtain rfl : v_55 = (.int x0) := r_59
      refine g_fld (E := E) (cl := cl) (n := 0) (C := CR) (t := (kT K kI)) (y := (setL (x1.map (fun x_61 => (x_61 % x0))))) w_58 (em_cb (em_cons (em_cb (em_cons (em_cb (em_cons (em_eq (em_lc (K := K) (u := kI) (fun _ => true) (fun x_61 => (x_61 % x0)) (ei_T (em_var (t := (kT K kI)) (v := v1) (x := x1) rfl r_60)) (by first | (omega) | (dsimp only; omega)) eg_name (fun _ _ _ b => by obtain ⟨_, rfl, rfl⟩ := b; rfl) (fun _ _ _ _ _ _ _ _ => gt_yes) (fun M_67 S_68 I_62 x_61 s_66 e_63 m_64 c_71 b_65 => by obtain ⟨_, rfl, rfl⟩ := b_65; exact (em_op (em_var (t := kI) (v := (.int x_61)) (x := x_61) rfl rfl) (em_var (t := kI) (v := (.int x0)) (x := x0) rfl rfl) (o_IC (C := fun _ j => 0 < j) (by first | (show (0 : Int) < _; omega) | (dsimp only; show (0 : Int) < _; omega)))))) (by rw [filter_yes])) em_nil) (o_setI (by rw [List.length_map]; omega))) em_nil) (o_sortedSet (by exact hpre.2.2.2))) em_nil) o_tupL) (em_var (t := kPtr x) (v := .ref x) (x := ()) rfl rfl) rfl T_Rg.cls T_Rg.n_places (Nat.lt_of_le_of_lt (putF_le (Nat.le_refl 0)) (by decide)) (fun v_72 H_73 g_74 w_75 r_76 => ?_)
      have r_77 := (kT K kI).up g_74.im r_60
      refine g_fldL (E := E) (cl := cl) (n := 0) (C := CR) (t := kKeys) (y := (setL (x1.map (fun x_61 => (x_61 % x0))))) w_75 (em_keys (j := 3) (em_cellF (n := 0) (C := CR) (y := (setL (x1.map (fun x_61 => (x_61 % x0))))) (v := v_72) (em_var (t := kPtr x) (v := .ref x) (x := ()) rfl rfl) rfl T_Rg.cls T_Rg.n_places rfl r_76) (by have := hpre.2.2.2; omega) (fun _ => rfl) (fun _ => rfl)) (em_var (t := kPtr x) (v := .ref x) (x := ()) rfl rfl) rfl T_Rg.cls T_Rg.n_there (Nat.lt_of_le_of_lt (putF_le (putF_le (Nat.le_refl 0))) (by decide)) (fun v_78 H_79 g_80 w_81 r_82 => ?_)
      have r_83 := (kT K kI).up g_80.im r_77
      have r_84 := (kT K kI).up g_80.im r_76
      obtain ⟨_, oF, hF⟩ := w_81.at_ _ (List.mem_singleton.mpr rfl)
      obtain ⟨hF1, hF2⟩ := hF
      subst hF2
      exact qok (x0, (setL (x1.map (fun x_61 => (x_61 % x0)))), (setL (x1.map (fun x_61 => (x_61 % x0))))) _ H_79 o_50 hF1 (show Ex (del [x] H) (del [x] H_79) from Gr.fr (((g_51.then g_57 rfl).then g_74 rfl).then g_80 rfl)) ⟨v_72, v_78, rfl, r_84, r_82, by show I_Rg (x0, (setL (x1.map (fun x_61 => (x_61 % x0)))), (setL (x1.map (fun x_61 => (x_61 % x0))))); exact ⟨by omega, by omega, rfl, setL_up _, mods_in (by omega), by omega⟩⟩
end
end Rw
namespace Rw
open PySem PySem.Spec PyProof.Rows L2 Evl

section
variable {K : PySem.W.Frag} {α : Type} {t : Ty α}
theorem o_ixTI {xs : List α} {x : α} {i : Int} (h : atI xs i = some x) : Op2 (rIxT K) (kT K t) xs kI i t x := fun M u w H l a b Q q => by
  obtain ⟨p, vs, rfl, hp, ha⟩ := a
  obtain rfl : w = .int i := b
  obtain ⟨j, hj, hx⟩ : ∃ j, ixN xs.length i = some j ∧ xs[j]? = some x := by
    unfold atI at h
    cases hj : ixN xs.length i with
    | none => rw [hj] at h; cases h
    | some j => rw [hj] at h; exact ⟨j, rfl, h⟩
  obtain ⟨v, hv, hr⟩ := ha.at2 hx
  refine ⟨p, vs, i, v, rfl, rfl, ex_t del_le hp, ?_, q v H (Ex.refl H) hr⟩
  unfold atI
  rw [ha.len]
  show (ixN xs.length i).bind _ = _
  rw [hj]
  exact hv
end

section
variable {P : Program} {w : World} {K : PySem.W.Frag} {mg : Str → Option Value} {base : Heap} {CR : Addr} {cl : Nat → Addr}

abbrev s_count_below : Stmt := topS 14
def count_belowN : List Str := ["numbers", "bound", "low", "high", "half"]
theorem sc_count_below : FnScope count_belowN ["numbers", "bound"] (defScope s_count_below) := ⟨rfl, rfl, rfl, by decide +kernel, rfl, by decide +kernel, by decide +kernel⟩
def f_count_below : (List Int) × Int × Unit → Re Int := fun a => match a with
  | (x0, x1, _) =>
    lt (0 : Int) fun low_85 =>
    lt (x0.length : Int) fun high_94 =>
    whK (fun s_105 : (Int × Int) => (decide ((s_105.1) < (s_105.2))))
    (fun (s_135 : (Int × Int)) (kn : (Int × Int) → _) (kb : (Int × Int) → _) =>
    lt (((s_135.1) + (s_135.2)) / (2 : Int)) fun half_150 =>
    cond (decide (((atI x0 half_150).getD 0) < x1))
    (lt (half_150 + (1 : Int)) fun low_170 =>
    kn (low_170, (s_135.2)))
    (lt half_150 fun high_180 =>
    kn ((s_135.1), high_180)))
    (fun (s_115 : (Int × Int)) =>
    (.ok (s_115.1))) (x0.length) (low_85, high_94)
def pre_count_below : (List Int) × Int × Unit → Prop := fun a => match a with
  | (x0, x1, _) => x0.length ≤ 1000
abbrev sp_count_below (K : PySem.W.Frag)  (cl : Nat → Addr) : Sp := spD (aC (kT K kI) (aC kI a0)) pre_count_below f_count_below kI cl
theorem ok_count_below {f : Addr} {fd : FuncData} (F : Fun K "count_below" "count_below" s_count_below f fd) (B : BD mg) : FnOk P w K mg base (L2.CX P w) 1 f fd ["numbers", "bound"] (sp_count_below K  cl) := by
  refine F.okX sc_count_below (fun vs H Q E h => ?_) (fun cdv A outer s H vs Q E hr h => ?_)
  · obtain ⟨M, a, live, hA, _⟩ := h
    obtain ⟨v0, _, rfl, r0, v1, _, rfl, r1, rfl⟩ := hA
    rfl
  · obtain ⟨M, ⟨x0, x1, _⟩, live, hA, hpre, qok, qer⟩ := h
    obtain ⟨v0, _, rfl, r0, v1, _, rfl, r1, rfl⟩ := hA
    obtain rfl : v1 = (.int x1) := r1
    have hpre : x0.length ≤ 1000 := hpre
    have w0 : Holds M [] H := hold0 live
    have o0 : Pr (f_count_below (x0, x1, ())) (lt (0 : Int) fun low_85 =>
lt (x0.length : Int) fun high_94 =>
whK (fun s_105 : (Int × Int) => (decide ((s_105.1) < (s_105.2))))
(fun (s_135 : (Int × Int)) (kn : (Int × Int) → _) (kb : (Int × Int) → _) =>
lt (((s_135.1) + (s_135.2)) / (2 : Int)) fun half_150 =>
cond (decide (((atI x0 half_150).getD 0) < x1))
(lt (half_150 + (1 : Int)) fun low_170 =>
kn (low_170, (s_135.2)))
(lt half_150 fun high_180 =>
kn ((s_135.1), high_180)))
(fun (s_115 : (Int × Int)) =>
(.ok (s_115.1))) (x0.length) (low_85, high_94)) := rfl
    refine ⟨_, pss_cons (ps_set (i := 2) sc_count_below.nd rfl (.inl rfl) pe_int) (pss_cons (ps_set (i := 3) sc_count_below.nd rfl (.inl rfl) (pe_callB call_len_seq (by rfl) B.len (by decide +kernel) (pa_cons (pv 0) pa_nil))) (pss_cons (ps_while (passes_of rfl) (pt_cmpR op_lt (pv 2) (pv 3) (nomark _)) (pss_cons (ps_set (i := 4) sc_count_below.nd rfl (.inl rfl) (pe_op op_fdiv (pe_op op_add (pv 2) (pv 3)) pe_int)) (pss_one (ps_if (pt_cmpR op_lt (pe_ix ix_tup (pv 0) (pv 4) (fun _ _ => rfl)) (pv 1) (nomark _)) (pss_one (ps_set (i := 2) sc_count_below.nd rfl (.inl rfl) (pe_op op_add (pv 4) pe_int))) (pss_one (ps_set (i := 3) sc_count_below.nd rfl (.inl rfl) (pv 4))))))) (pss_one (ps_ret (pv 2))))), ?_⟩
    refine g_asg (E := E) (cl := cl) (i := 2) (t := kI) (x := (0 : Int)) w0 o0 em_int (fun low_85 v_86 H_87 hx_88 o_89 g_90 w_91 r_92 => ?_)
    have r_93 := (kT K kI).up g_90.im r0
    obtain rfl : v_86 = (.int low_85) := r_92
    refine g_asg (E := E) (cl := cl) (i := 3) (t := kI) (x := (x0.length : Int)) w_91 o_89 (em_cb (em_cons (em_var (t := (kT K kI)) (v := v0) (x := x0) rfl r_93) em_nil) o_lenT) (fun high_94 v_95 H_96 hx_97 o_98 g_99 w_100 r_101 => ?_)
    have r_102 := (kT K kI).up g_99.im r_93
    obtain rfl : v_95 = (.int high_94) := r_101
    refine g_while (E := E) (cl := cl) (c := (fun s_105 : (Int × Int) => (decide ((s_105.1) < (s_105.2))))) (n := x0.length) (s0 := (low_85, high_94)) (Sx := (fun s : (Int × Int) => [])) (fun (n : Nat) (s : (Int × Int)) => 0 ≤ (s.1) ∧ (s.1) ≤ (s.2) ∧ (s.2) ≤ (x0.length : Int) ∧ (s.2) - (s.1) ≤ (n : Int)) (fun (I : Hp) (s : (Int × Int)) (σ : L2.St) => ∃ (l_103 : Option V), σ = [some v0, some (.int x1), some (.int (s.1)), some (.int (s.2)), l_103]) w_100 o_98 (fun _ => rfl) (by show 0 ≤ low_85 ∧ low_85 ≤ high_94 ∧ high_94 ≤ (x0.length : Int) ∧ _; omega) (fun s h => by have := h.2.1; have := h.2.2.2; exact decide_eq_false (by omega)) ⟨_, rfl⟩ (fun n_104 s_105 σ_106 H_107 ok_108 g_109 w_110 rv_111 => ?_) (fun n_114 s_115 σ_116 I_117 H_118 ok_119 hc_120 g_121 w_122 e_123 rv_124 o_125 => ?_) (fun hd_133 n_134 s_135 σ_136 I_137 H_138 ok_139 hc_140 g_141 w_142 e_143 rv_144 o_145 Nx_146 nx_147 => ?_)
    · obtain ⟨l_112, rfl⟩ := rv_111
      have r_113 := (kT K kI).up g_109.im r_102
      have ok1 := ok_108.1; have ok2 := ok_108.2.1; have ok3 := ok_108.2.2.1; have ok4 := ok_108.2.2.2
      exact (gt_test (em_op (em_var (t := kI) (v := (.int (s_105.1))) (x := (s_105.1)) rfl rfl) (em_var (t := kI) (v := (.int (s_105.2))) (x := (s_105.2)) rfl rfl) o_IB))
    · obtain ⟨l_126, rfl⟩ := rv_124
      have r_127 := (kT K kI).up g_121.im r_102
      have hc_120' : ((decide ((s_115.1) < (s_115.2)))) = false := hc_120
      simp only [decide_eq_true_eq, decide_eq_false_iff_not, Bool.and_eq_true, Bool.or_eq_true, Bool.and_eq_false_iff, Bool.or_eq_false_iff, Bool.not_eq_true', Bool.not_eq_false'] at hc_120'
      have ok1 := ok_119.1; have ok2 := ok_119.2.1; have ok3 := ok_119.2.2.1; have ok4 := ok_119.2.2.2
      refine g_ret (E := E) (cl := cl) (t := kI) (x := (s_115.1)) w_122 (em_var (t := kI) (v := (.int (s_115.1))) (x := (s_115.1)) rfl rfl) (fun v_128 H_129 g_130 w_131 r_132 => ?_)
      exact qok _ v_128 H_129 o_125 (show Ex H _ from Gr.fr (((g_90.then g_99 rfl).then g_121 rfl).then g_130 rfl)) r_132
    · obtain ⟨l_148, rfl⟩ := rv_144
      have r_149 := (kT K kI).up g_141.im r_102
      have hc_140' : ((decide ((s_135.1) < (s_135.2)))) = true := hc_140
      simp only [decide_eq_true_eq, decide_eq_false_iff_not, Bool.and_eq_true, Bool.or_eq_true, Bool.and_eq_false_iff, Bool.or_eq_false_iff, Bool.not_eq_true', Bool.not_eq_false'] at hc_140'
      have ok1 := ok_139.1; have ok2 := ok_139.2.1; have ok3 := ok_139.2.2.1; have ok4 := ok_139.2.2.2
      refine g_asg (E := E) (cl := cl) (i := 4) (t := kI) (x := (((s_135.1) + (s_135.2)) / (2 : Int))) w_142 o_145 (em_op (em_op (em_var (t := kI) (v := (.int (s_135.1))) (x := (s_135.1)) rfl rfl) (em_var (t := kI) (v := (.int (s_135.2))) (x := (s_135.2)) rfl rfl) o_I) em_int (o_IC (C := CDiv) (g := fun i j => i / j) (by first | (exact ⟨by omega, by omega⟩) | (dsimp only; exact ⟨by omega, by omega⟩)))) (fun half_150 v_151 H_152 hx_153 o_154 g_155 w_156 r_157 => ?_)
      have r_158 := (kT K kI).up g_155.im r_149
      obtain rfl : v_151 = (.int half_150) := r_157
      refine g_ifL (E := E) (cl := cl) (b := (decide (((atI x0 half_150).getD 0) < x1))) w_156 o_154 (gt_test (em_op (em_op (em_var (t := (kT K kI)) (v := v0) (x := x0) rfl r_158) (em_var (t := kI) (v := (.int half_150)) (x := half_150) rfl rfl) (o_ixTI (at_in (by first | (omega) | (dsimp only; omega))))) (em_var (t := kI) (v := (.int x1)) (x := x1) rfl rfl) o_IB)) (fun hb_160 o_161 H_159 g_162 w_163 => ?_) (fun hb_165 o_166 H_164 g_167 w_168 => ?_)
      · simp only [decide_eq_true_eq, decide_eq_false_iff_not, Bool.and_eq_true, Bool.or_eq_true, Bool.and_eq_false_iff, Bool.or_eq_false_iff, Bool.not_eq_true', Bool.not_eq_false'] at hb_160
        have r_169 := (kT K kI).up g_162.im r_158
        refine g_asgL (E := E) (cl := cl) (i := 2) (t := kI) (x := (half_150 + (1 : Int))) w_163 o_161 (em_op (em_var (t := kI) (v := (.int half_150)) (x := half_150) rfl rfl) em_int o_I) (fun low_170 v_171 H_172 hx_173 o_174 g_175 w_176 r_177 => ?_)
        have r_178 := (kT K kI).up g_175.im r_169
        obtain rfl : v_171 = (.int low_170) := r_177
        exact nx_147 (low_170, (s_135.2)) _ _ (by have := hc_140'; omega) o_174 (Gr.cast ((g_155.then g_162 rfl).then g_175 rfl) rfl) w_176 ⟨_, rfl⟩
      · simp only [decide_eq_true_eq, decide_eq_false_iff_not, Bool.and_eq_true, Bool.or_eq_true, Bool.and_eq_false_iff, Bool.or_eq_false_iff, Bool.not_eq_true', Bool.not_eq_false'] at hb_165
        have r_179 := (kT K kI).up g_167.im r_158
        refine g_asgL (E := E) (cl := cl) (i := 3) (t := kI) (x := half_150) w_168 o_166 (em_var (t := kI) (v := (.int half_150)) (x := half_150) rfl rfl) (fun high_180 v_181 H_182 hx_183 o_184 g_185 w_186 r_187 => ?_)
        have r_188 := (kT K kI).up g_185.im r_179
        obtain rfl : v_181 = (.int high_180) := r_187
        exact nx_147 ((s_135.1), high_180) _ _ (by have := hc_140'; omega) o_184 (Gr.cast ((g_155.then g_167 rfl).then g_185 rfl) rfl) w_186 ⟨_, rfl⟩
end
end Rw
namespace Rw
open PySem PySem.Spec PyProof.Rows L2 Evl

def cntB (xs : List Int) (b : Int) : Int := ((xs.filter fun x => decide (x < b)).length : Int)
theorem atI_le {xs : List Int} {i : Int} (h0 : 0 ≤ i) (h1 : i < xs.length) : (atI xs i).getD 0 = xs[i.toNat]'(by omega) := by
  obtain ⟨n, rfl⟩ : ∃ n : Nat, i = (n : Int) := ⟨i.toNat, by omega⟩
  have h2 : n < xs.length := by omega
  rw [atI_nat (v := xs[n]) (by rw [List.getElem?_eq_getElem h2])]
  rfl
theorem cb_at {xs : List Int} {b : Int} {k : Nat} (hk : k ≤ xs.length) (h1 : ∀ j (h : j < xs.length), j < k → xs[j] < b) (h2 : ∀ j (h : j < xs.length), k ≤ j → ¬ xs[j] < b) : cntB xs b = (k : Int) := by
  have e : xs.filter (fun x => decide (x < b)) = xs.take k := by
    conv => lhs; rw [← List.take_append_drop k xs]
    rw [List.filter_append]
    have a : (xs.take k).filter (fun x => decide (x < b)) = xs.take k := List.filter_eq_self.mpr fun x hx => by
      obtain ⟨j, hj, rfl⟩ := List.mem_iff_getElem.mp hx
      rw [List.length_take] at hj
      rw [List.getElem_take]
      exact decide_eq_true (h1 j (by omega) (by omega))
    have c : (xs.drop k).filter (fun x => decide (x < b)) = [] := List.filter_eq_nil_iff.mpr fun x hx => by
      obtain ⟨j, hj, rfl⟩ := List.mem_iff_getElem.mp hx
      rw [List.length_drop] at hj
      rw [List.getElem_drop]
      simpa using h2 (k + j) (by omega) (by omega)
    rw [a, c, List.append_nil]
  unfold cntB
  rw [e, List.length_take]
  omega
theorem up_at {xs : List Int} (up : xs.Pairwise (· < ·)) {i j : Nat} (hi : i < xs.length) (hj : j < xs.length) (h : i ≤ j) : xs[i] ≤ xs[j] := by
  rcases Nat.lt_or_eq_of_le h with z | z
  · exact Int.le_of_lt (List.pairwise_iff_getElem.mp up i j hi hj z)
  · subst z; exact Int.le_refl _
theorem cb_eq {xs : List Int} (up : xs.Pairwise (· < ·)) (b : Int) : f_count_below (xs, b, ()) = .ok (cntB xs b) := by
  have k : ∀ (n : Nat) (lo hi : Int), 0 ≤ lo → lo ≤ hi → hi ≤ xs.length → hi - lo ≤ n → (∀ j (h : j < xs.length), (j : Int) < lo → xs[j] < b) → (∀ j (h : j < xs.length), hi ≤ (j : Int) → ¬ xs[j] < b) →
      whK (fun s : Int × Int => decide (s.1 < s.2)) (fun s (kn : Int × Int → Re Int) _ => lt ((s.1 + s.2) / 2) fun half => cond (decide ((atI xs half).getD 0 < b)) (lt (half + 1) fun low => kn (low, s.2)) (lt half fun high => kn (s.1, high))) (fun s => .ok s.1) n (lo, hi) = .ok (cntB xs b) := by
    intro n
    induction n with
    | zero =>
      intro lo hi h0 h1 h2 h3 a1 a2
      show Re.ok lo = _
      rw [cb_at (k := lo.toNat) (by omega) (fun j h q => a1 j h (by omega)) (fun j h q => a2 j h (by omega))]
      exact congrArg Re.ok (by omega)
    | succ n ih =>
      intro lo hi h0 h1 h2 h3 a1 a2
      show cond (decide (lo < hi)) _ (Re.ok lo) = _
      by_cases h : lo < hi
      · rw [decide_eq_true h]
        show cond (decide ((atI xs ((lo + hi) / 2)).getD 0 < b)) _ _ = _
        have e := atI_le (xs := xs) (i := (lo + hi) / 2) (by omega) (by omega)
        by_cases hb : (atI xs ((lo + hi) / 2)).getD 0 < b
        · rw [decide_eq_true hb]
          refine ih _ _ (by omega) (by omega) (by omega) (by omega) (fun j hj q => ?_) a2
          rw [e] at hb
          exact Int.lt_of_le_of_lt (up_at up hj (by omega) (by omega)) hb
        · rw [decide_eq_false hb]
          refine ih _ _ (by omega) (by omega) (by omega) (by omega) a1 (fun j hj q z => ?_)
          rw [e] at hb
          exact hb (Int.lt_of_le_of_lt (up_at up (by omega) hj (by omega)) z)
      · rw [decide_eq_false h]
        show Re.ok lo = _
        rw [cb_at (k := lo.toNat) (by omega) (fun j h q => a1 j h (by omega)) (fun j h q => a2 j h (by omega))]
        exact congrArg Re.ok (by omega)
  exact k _ _ _ (by omega) (by omega) (by omega) (by omega) (fun j h q => absurd q (by omega)) (fun j h q => absurd q (by omega))

section
variable {P : Program} {w : World} {K : PySem.W.Frag} {mg : Str → Option Value} {base : Heap} {CR : Addr} {cl : Nat → Addr}

abbrev s_Ring_has : Stmt := inClass (topS 19) 1
def Ring_hasN : List Str := ["self", "number"]
theorem sc_Ring_has : FnScope Ring_hasN ["self", "number"] (defScope s_Ring_has) := ⟨rfl, rfl, rfl, by decide +kernel, rfl, by decide +kernel, by decide +kernel⟩
def f_Ring_has : (Int × List Int × List Int) × Int × Unit → Re Bool := fun a => match a with
  | ((p0, l0, k0), x1, _) =>
    (.ok (decide ((x1 % p0) ∈ k0)))
def pre_Ring_has : (Int × List Int × List Int) × Int × Unit → Prop := fun a => match a with
  | ((p0, l0, k0), x1, _) => True
abbrev sp_Ring_has (K : PySem.W.Frag) (CR : Addr) (cl : Nat → Addr) : Sp := spD (aC (k_Rg K CR) (aC kI a0)) pre_Ring_has f_Ring_has kB cl
theorem ok_Ring_has {f : Addr} {fd : FuncData} (F : Fun K "has" "Ring.has" s_Ring_has f fd) (T_Rg : Tt_Rg K CR) : FnOk P w K mg base (L2.CX P w) 1 f fd ["self", "number"] (sp_Ring_has K CR cl) := by
  refine F.okX sc_Ring_has (fun vs H Q E h => ?_) (fun cdv A outer s H vs Q E hr h => ?_)
  · obtain ⟨M, a, live, hA, _⟩ := h
    obtain ⟨v0, _, rfl, r0, v1, _, rfl, r1, rfl⟩ := hA
    rfl
  · obtain ⟨M, ⟨⟨p0, l0, k0⟩, x1, _⟩, live, hA, hpre, qok, qer⟩ := h
    obtain ⟨v0, _, rfl, r0, v1, _, rfl, r1, rfl⟩ := hA
    obtain rfl : v1 = (.int x1) := r1
    have iv0 : I_Rg (p0, l0, k0) := inv_Rg r0
    obtain ⟨ia0, ib0, ik0, iu0, ir0, il0⟩ := iv0
    have w0 : Holds M [] H := hold0 live
    have o0 : Pr (f_Ring_has ((p0, l0, k0), x1, ())) ((.ok (decide ((x1 % p0) ∈ k0)))) := rfl
    refine ⟨_, pss_one (ps_ret (pe_cmp (pc_din hr.u1 (pe_op op_mod (pv 1) (pe_fld (pv 0) rfl)) (pe_fld (pv 0) rfl)) (by rfl))), ?_⟩
    refine g_ret (E := E) (cl := cl) (t := kB) (x := (decide ((x1 % p0) ∈ k0))) w0 (em_inKeys (em_op (em_var (t := kI) (v := (.int x1)) (x := x1) rfl rfl) (em_Rg_period T_Rg (em_var (t := (k_Rg K CR)) (v := v0) (x := (p0, l0, k0)) rfl r0)) (o_IC (C := fun _ j => 0 < j) (by first | (show (0 : Int) < _; omega) | (dsimp only; show (0 : Int) < _; omega)))) (em_Rg_there T_Rg (em_var (t := (k_Rg K CR)) (v := v0) (x := (p0, l0, k0)) rfl r0))) (fun v_189 H_190 g_191 w_192 r_193 => ?_)
    exact qok _ v_189 H_190 o0 (show Ex H _ from Gr.fr g_191) r_193
def v_Ring_has : (Int × List Int × List Int) × Int × Unit → Bool := fun a => match a with
  | ((p0, l0, k0), x1, _) =>
    ((decide ((x1 % p0) ∈ k0)))
theorem is_Ring_has (a : (Int × List Int × List Int) × Int × Unit) : f_Ring_has a = .ok (v_Ring_has a) := by
  obtain ⟨⟨p0, l0, k0⟩, x1, _⟩ := a
  rfl

abbrev s_Ring_ahead : Stmt := inClass (topS 19) 2
def Ring_aheadN : List Str := ["self", "number", "times", "place"]
theorem sc_Ring_ahead : FnScope Ring_aheadN ["self", "number"] (defScope s_Ring_ahead) := ⟨rfl, rfl, rfl, by decide +kernel, rfl, by decide +kernel, by decide +kernel⟩
def f_Ring_ahead : (Int × List Int × List Int) × Int × Unit → Re Int := fun a => match a with
  | ((p0, l0, k0), x1, _) =>
    lt (x1 / p0, x1 % p0) fun _ =>
    (.ok (((x1 / p0) * (l0.length : Int)) + (cntB l0 (x1 % p0))))
def pre_Ring_ahead : (Int × List Int × List Int) × Int × Unit → Prop := fun a => match a with
  | ((p0, l0, k0), x1, _) => True
abbrev sp_Ring_ahead (K : PySem.W.Frag) (CR : Addr) (cl : Nat → Addr) : Sp := spD (aC (k_Rg K CR) (aC kI a0)) pre_Ring_ahead f_Ring_ahead kI cl
theorem ok_Ring_ahead {f : Addr} {fd : FuncData} (F : Fun K "ahead" "Ring.ahead" s_Ring_ahead f fd) (T_Rg : Tt_Rg K CR) (B : BD mg) (c_count_below : Cal P w K mg base 1 "count_below" (sp_count_below K cl) []) : FnOk P w K mg base (L2.CX P w) 2 f fd ["self", "number"] (sp_Ring_ahead K CR cl) := by
  refine F.okX sc_Ring_ahead (fun vs H Q E h => ?_) (fun cdv A outer s H vs Q E hr h => ?_)
  · obtain ⟨M, a, live, hA, _⟩ := h
    obtain ⟨v0, _, rfl, r0, v1, _, rfl, r1, rfl⟩ := hA
    rfl
  · obtain ⟨M, ⟨⟨p0, l0, k0⟩, x1, _⟩, live, hA, hpre, qok, qer⟩ := h
    obtain ⟨v0, _, rfl, r0, v1, _, rfl, r1, rfl⟩ := hA
    obtain rfl : v1 = (.int x1) := r1
    have iv0 : I_Rg (p0, l0, k0) := inv_Rg r0
    obtain ⟨ia0, ib0, ik0, iu0, ir0, il0⟩ := iv0
    have w0 : Holds M [] H := hold0 live
    have o0 : Pr (f_Ring_ahead ((p0, l0, k0), x1, ())) (lt (x1 / p0, x1 % p0) fun _ =>
(.ok (((x1 / p0) * (l0.length : Int)) + (cntB l0 (x1 % p0))))) := rfl
    refine ⟨_, pss_cons (ps_asg (pe_callB call_divmod (by rfl) B.divmod (by decide +kernel) (pa_cons (pv 1) (pa_cons (pe_fld (pv 0) rfl) pa_nil))) (pg_tup rfl (pgs_cons (pg_name (i := 2) sc_Ring_ahead.nd rfl (.inl rfl)) (pgs_cons (pg_name (i := 3) sc_Ring_ahead.nd rfl (.inl rfl)) pgs_nil)))) (pss_one (ps_ret (pe_op op_add (pe_op op_mul (pv 2) (pe_callB call_len_seq (by rfl) B.len (by decide +kernel) (pa_cons (pe_fld (pv 0) rfl) pa_nil))) (pe_k c_count_below hr (by decide) passL (pa_cons (pe_fld (pv 0) rfl) (pa_cons (pv 3) pa_nil)))))), ?_⟩
    refine g_asgG (E := E) (cl := cl) (t := (k2 K kI kI)) (x := (x1 / p0, x1 % p0)) w0 eg_2 o0 (em_cb (em_cons (em_var (t := kI) (v := (.int x1)) (x := x1) rfl rfl) (em_cons (em_Rg_period T_Rg (em_var (t := (k_Rg K CR)) (v := v0) (x := (p0, l0, k0)) rfl r0)) em_nil)) (o_divmod (by first | exact ⟨by omega, by omega⟩ | (dsimp only; exact ⟨by omega, by omega⟩)))) (fun p_194 σ_195 H_196 hx_197 o_198 g_199 w_200 b => ?_)
    subst hx_197
    have r_201 := (k_Rg K CR).up g_199.im r0
    obtain ⟨_, _, rfl, rfl, rfl⟩ := b
    refine g_ret (E := E) (cl := cl) (t := kI) (x := (((x1 / p0) * (l0.length : Int)) + (cntB l0 (x1 % p0)))) w_200 (em_op (em_op (em_var (t := kI) (v := (.int (x1 / p0))) (x := (x1 / p0)) rfl rfl) (em_cb (em_cons (em_Rg_places T_Rg (em_var (t := (k_Rg K CR)) (v := v0) (x := (p0, l0, k0)) rfl r_201)) em_nil) o_lenT) (o_IC (by first | (first | exact .inl ⟨by omega, by omega⟩ | exact .inr ⟨by omega, by omega⟩) | (dsimp only; first | exact .inl ⟨by omega, by omega⟩ | exact .inr ⟨by omega, by omega⟩)))) (em_callP (y := (cntB l0 (x1 % p0))) (a := (l0, (x1 % p0), ())) (em_cons (em_Rg_places T_Rg (em_var (t := (k_Rg K CR)) (v := v0) (x := (p0, l0, k0)) rfl r_201)) (em_cons (em_var (t := kI) (v := (.int (x1 % p0))) (x := (x1 % p0)) rfl rfl) em_nil)) args_id (by first | (show _ ≤ 1000; omega) | (dsimp only; show _ ≤ 1000; omega)) (by first | (exact cb_eq iu0 _) | (dsimp only; exact cb_eq iu0 _))) o_I) (fun v_202 H_203 g_204 w_205 r_206 => ?_)
    exact qok _ v_202 H_203 o_198 (show Ex H _ from Gr.fr (g_199.then g_204 rfl)) r_206
def v_Ring_ahead : (Int × List Int × List Int) × Int × Unit → Int := fun a => match a with
  | ((p0, l0, k0), x1, _) =>
    lt (x1 / p0, x1 % p0) fun _ =>
    ((((x1 / p0) * (l0.length : Int)) + (cntB l0 (x1 % p0))))
theorem is_Ring_ahead (a : (Int × List Int × List Int) × Int × Unit) : f_Ring_ahead a = .ok (v_Ring_ahead a) := by
  obtain ⟨⟨p0, l0, k0⟩, x1, _⟩ := a
  rfl

abbrev s_Ring_at : Stmt := inClass (topS 19) 3
def Ring_atN : List Str := ["self", "count", "times", "rest"]
theorem sc_Ring_at : FnScope Ring_atN ["self", "count"] (defScope s_Ring_at) := ⟨rfl, rfl, rfl, by decide +kernel, rfl, by decide +kernel, by decide +kernel⟩
def f_Ring_at : (Int × List Int × List Int) × Int × Unit → Re Int := fun a => match a with
  | ((p0, l0, k0), x1, _) =>
    cond (decide (l0 = []))
    ((.er 9))
    (lt (x1 / (l0.length : Int), x1 % (l0.length : Int)) fun _ =>
    (.ok (((x1 / (l0.length : Int)) * p0) + ((atI l0 (x1 % (l0.length : Int))).getD 0))))
def pre_Ring_at : (Int × List Int × List Int) × Int × Unit → Prop := fun a => match a with
  | ((p0, l0, k0), x1, _) => True
abbrev sp_Ring_at (K : PySem.W.Frag) (CR : Addr) (cl : Nat → Addr) : Sp := spD (aC (k_Rg K CR) (aC kI a0)) pre_Ring_at f_Ring_at kI cl
theorem ok_Ring_at {f : Addr} {fd : FuncData} (F : Fun K "at" "Ring.at" s_Ring_at f fd) (T_Rg : Tt_Rg K CR) (B : BD mg) (xNoDay : Exc1 K mg "NoDay" (cl 9)) : FnOk P w K mg base (L2.CX P w) 1 f fd ["self", "count"] (sp_Ring_at K CR cl) := by
  refine F.okX sc_Ring_at (fun vs H Q E h => ?_) (fun cdv A outer s H vs Q E hr h => ?_)
  · obtain ⟨M, a, live, hA, _⟩ := h
    obtain ⟨v0, _, rfl, r0, v1, _, rfl, r1, rfl⟩ := hA
    rfl
  · obtain ⟨M, ⟨⟨p0, l0, k0⟩, x1, _⟩, live, hA, hpre, qok, qer⟩ := h
    obtain ⟨v0, _, rfl, r0, v1, _, rfl, r1, rfl⟩ := hA
    obtain rfl : v1 = (.int x1) := r1
    have iv0 : I_Rg (p0, l0, k0) := inv_Rg r0
    obtain ⟨ia0, ib0, ik0, iu0, ir0, il0⟩ := iv0
    have w0 : Holds M [] H := hold0 live
    have o0 : Pr (f_Ring_at ((p0, l0, k0), x1, ())) (cond (decide (l0 = []))
((.er 9))
(lt (x1 / (l0.length : Int), x1 % (l0.length : Int)) fun _ =>
(.ok (((x1 / (l0.length : Int)) * p0) + ((atI l0 (x1 % (l0.length : Int))).getD 0))))) := rfl
    refine ⟨_, pss_cons (ps_if (pt_cmpR (op_eqD hr.units) (pe_fld (pv 0) rfl) (pe_tup pa_nil) (nomark _)) (pss_one (ps_raiseX xNoDay)) (pss_nil)) (pss_cons (ps_asg (pe_callB call_divmod (by rfl) B.divmod (by decide +kernel) (pa_cons (pv 1) (pa_cons (pe_callB call_len_seq (by rfl) B.len (by decide +kernel) (pa_cons (pe_fld (pv 0) rfl) pa_nil)) pa_nil))) (pg_tup rfl (pgs_cons (pg_name (i := 2) sc_Ring_at.nd rfl (.inl rfl)) (pgs_cons (pg_name (i := 3) sc_Ring_at.nd rfl (.inl rfl)) pgs_nil)))) (pss_one (ps_ret (pe_op op_add (pe_op op_mul (pv 2) (pe_fld (pv 0) rfl)) (pe_ix ix_tup (pe_fld (pv 0) rfl) (pv 3) (fun _ _ => rfl)))))), ?_⟩
    refine g_when (E := E) (cl := cl) (b := (decide (l0 = []))) w0 o0 (gt_test (em_op (em_Rg_places T_Rg (em_var (t := (k_Rg K CR)) (v := v0) (x := (p0, l0, k0)) rfl r0)) (em_tupL K (t := kI) em_nilL (by simp)) (o_eqD (dT dI) (by decide)))) (fun hb_208 o_209 H_207 g_210 w_211 => ?_) (fun hb_213 o_214 H_212 g_215 w_216 => ?_)
    · simp only [decide_eq_true_eq, decide_eq_false_iff_not, Bool.and_eq_true, Bool.or_eq_true, Bool.and_eq_false_iff, Bool.or_eq_false_iff, Bool.not_eq_true', Bool.not_eq_false'] at hb_208; first | have lnp := List.length_pos_iff.mpr hb_208 | skip
      have r_217 := (k_Rg K CR).up g_210.im r0
      exact qer 9 _ o_209 (show Ex H _ from Gr.fr g_210)
    · simp only [decide_eq_true_eq, decide_eq_false_iff_not, Bool.and_eq_true, Bool.or_eq_true, Bool.and_eq_false_iff, Bool.or_eq_false_iff, Bool.not_eq_true', Bool.not_eq_false'] at hb_213; first | have lnp := List.length_pos_iff.mpr hb_213 | skip
      have r_218 := (k_Rg K CR).up g_215.im r0
      refine g_asgG (E := E) (cl := cl) (t := (k2 K kI kI)) (x := (x1 / (l0.length : Int), x1 % (l0.length : Int))) w_216 eg_2 o_214 (em_cb (em_cons (em_var (t := kI) (v := (.int x1)) (x := x1) rfl rfl) (em_cons (em_cb (em_cons (em_Rg_places T_Rg (em_var (t := (k_Rg K CR)) (v := v0) (x := (p0, l0, k0)) rfl r_218)) em_nil) o_lenT) em_nil)) (o_divmod (by first | exact ⟨by omega, by omega⟩ | (dsimp only; exact ⟨by omega, by omega⟩)))) (fun p_219 σ_220 H_221 hx_222 o_223 g_224 w_225 b => ?_)
      subst hx_222
      have r_226 := (k_Rg K CR).up g_224.im r_218
      obtain ⟨_, _, rfl, rfl, rfl⟩ := b
      refine g_ret (E := E) (cl := cl) (t := kI) (x := (((x1 / (l0.length : Int)) * p0) + ((atI l0 (x1 % (l0.length : Int))).getD 0))) w_225 (em_op (em_op (em_var (t := kI) (v := (.int (x1 / (l0.length : Int)))) (x := (x1 / (l0.length : Int))) rfl rfl) (em_Rg_period T_Rg (em_var (t := (k_Rg K CR)) (v := v0) (x := (p0, l0, k0)) rfl r_226)) (o_IC (by first | (first | exact .inl ⟨by omega, by omega⟩ | exact .inr ⟨by omega, by omega⟩) | (dsimp only; first | exact .inl ⟨by omega, by omega⟩ | exact .inr ⟨by omega, by omega⟩)))) (em_op (em_Rg_places T_Rg (em_var (t := (k_Rg K CR)) (v := v0) (x := (p0, l0, k0)) rfl r_226)) (em_var (t := kI) (v := (.int (x1 % (l0.length : Int)))) (x := (x1 % (l0.length : Int))) rfl rfl) (o_ixTI (at_in (by have := Int.emod_nonneg x1 (b := (l0.length : Int)) (by omega); have := Int.emod_lt_of_pos x1 (b := (l0.length : Int)) (by omega); dsimp only; omega)))) o_I) (fun v_227 H_228 g_229 w_230 r_231 => ?_)
      exact qok _ v_227 H_228 o_223 (show Ex H _ from Gr.fr ((g_215.then g_224 rfl).then g_229 rfl)) r_231

abbrev s_Ring_next : Stmt := inClass (topS 19) 4
def Ring_nextN : List Str := ["self", "number"]
theorem sc_Ring_next : FnScope Ring_nextN ["self", "number"] (defScope s_Ring_next) := ⟨rfl, rfl, rfl, by decide +kernel, rfl, by decide +kernel, by decide +kernel⟩
def f_Ring_next : (Int × List Int × List Int) × Int × Unit → Re Int := fun a => match a with
  | ((p0, l0, k0), x1, _) =>
    (f_Ring_at ((p0, l0, k0), (v_Ring_ahead ((p0, l0, k0), x1, ())), ()))
def pre_Ring_next : (Int × List Int × List Int) × Int × Unit → Prop := fun a => match a with
  | ((p0, l0, k0), x1, _) => True
abbrev sp_Ring_next (K : PySem.W.Frag) (CR : Addr) (cl : Nat → Addr) : Sp := spD (aC (k_Rg K CR) (aC kI a0)) pre_Ring_next f_Ring_next kI cl
theorem ok_Ring_next {f : Addr} {fd : FuncData} (F : Fun K "next" "Ring.next" s_Ring_next f fd) (T_Rg : Tt_Rg K CR) (m_at : Mt P w K mg base 1 CR "at" (sp_Ring_at K CR cl) []) (m_ahead : Mt P w K mg base 2 CR "ahead" (sp_Ring_ahead K CR cl) []) : FnOk P w K mg base (L2.CX P w) 3 f fd ["self", "number"] (sp_Ring_next K CR cl) := by
  refine F.okX sc_Ring_next (fun vs H Q E h => ?_) (fun cdv A outer s H vs Q E hr h => ?_)
  · obtain ⟨M, a, live, hA, _⟩ := h
    obtain ⟨v0, _, rfl, r0, v1, _, rfl, r1, rfl⟩ := hA
    rfl
  · obtain ⟨M, ⟨⟨p0, l0, k0⟩, x1, _⟩, live, hA, hpre, qok, qer⟩ := h
    obtain ⟨v0, _, rfl, r0, v1, _, rfl, r1, rfl⟩ := hA
    obtain rfl : v1 = (.int x1) := r1
    have iv0 : I_Rg (p0, l0, k0) := inv_Rg r0
    obtain ⟨ia0, ib0, ik0, iu0, ir0, il0⟩ := iv0
    have w0 : Holds M [] H := hold0 live
    have o0 : Pr (f_Ring_next ((p0, l0, k0), x1, ())) ((f_Ring_at ((p0, l0, k0), (v_Ring_ahead ((p0, l0, k0), x1, ())), ()))) := rfl
    refine ⟨_, pss_one (ps_ret (pe_mk m_at hr (by decide) (passE (E := E)) (pv 0) (pa_cons (pe_mk m_ahead hr (by decide) passL (pv 0) (pa_cons (pv 1) pa_nil)) pa_nil))), ?_⟩
    refine g_retX (E := E) (cl := cl) (t := kI) (r := (f_Ring_at ((p0, l0, k0), (v_Ring_ahead ((p0, l0, k0), x1, ())), ()))) w0 (em_meth (pre := pre_Ring_at) (f := f_Ring_at) (b := ((v_Ring_ahead ((p0, l0, k0), x1, ())), ())) (em_var (t := (k_Rg K CR)) (v := v0) (x := (p0, l0, k0)) rfl r0) (ob_Rg fun _ _ _ => rfl) (em_cons (em_methP (pre := pre_Ring_ahead) (f := f_Ring_ahead) (y := (v_Ring_ahead ((p0, l0, k0), x1, ()))) (b := (x1, ())) (em_var (t := (k_Rg K CR)) (v := v0) (x := (p0, l0, k0)) rfl r0) (ob_Rg fun _ _ _ => rfl) (em_cons (em_var (t := kI) (v := (.int x1)) (x := x1) rfl rfl) em_nil) args_mG (by exact trivial) (by first | (exact is_Ring_ahead _) | (dsimp only; exact is_Ring_ahead _))) em_nil) args_mG (by exact trivial)) (fun x_237 v_232 H_233 e_238 g_234 w_235 r_236 => ?_) (fun k_239 H_240 e_241 g_242 w_243 => ?_)
    · exact qok _ v_232 H_233 (Eq.trans o0 e_238) (show Ex H _ from Gr.fr g_234) r_236
    · exact qer _ _ (Eq.trans o0 e_241) (show Ex H _ from Gr.fr g_242)

abbrev s_Ring_shown : Stmt := inClass (topS 19) 5
def Ring_shownN : List Str := ["self"]
theorem sc_Ring_shown : FnScope Ring_shownN ["self"] (defScope s_Ring_shown) := ⟨rfl, rfl, rfl, by decide +kernel, rfl, by decide +kernel, by decide +kernel⟩
def f_Ring_shown : (Int × List Int × List Int) × Unit → Re (Int × (List Int)) := fun a => match a with
  | ((p0, l0, k0), _) =>
    (.ok (p0, l0))
def pre_Ring_shown : (Int × List Int × List Int) × Unit → Prop := fun a => match a with
  | ((p0, l0, k0), _) => True
abbrev sp_Ring_shown (K : PySem.W.Frag) (CR : Addr) (cl : Nat → Addr) : Sp := spD (aC (k_Rg K CR) a0) pre_Ring_shown f_Ring_shown (k2 K kI (kT K kI)) cl
theorem ok_Ring_shown {f : Addr} {fd : FuncData} (F : Fun K "shown" "Ring.shown" s_Ring_shown f fd) (T_Rg : Tt_Rg K CR) : FnOk P w K mg base (L2.CX P w) 1 f fd ["self"] (sp_Ring_shown K CR cl) := by
  refine F.okX sc_Ring_shown (fun vs H Q E h => ?_) (fun cdv A outer s H vs Q E hr h => ?_)
  · obtain ⟨M, a, live, hA, _⟩ := h
    obtain ⟨v0, _, rfl, r0, rfl⟩ := hA
    rfl
  · obtain ⟨M, ⟨⟨p0, l0, k0⟩, _⟩, live, hA, hpre, qok, qer⟩ := h
    obtain ⟨v0, _, rfl, r0, rfl⟩ := hA
    have iv0 : I_Rg (p0, l0, k0) := inv_Rg r0
    obtain ⟨ia0, ib0, ik0, iu0, ir0, il0⟩ := iv0
    have w0 : Holds M [] H := hold0 live
    have o0 : Pr (f_Ring_shown ((p0, l0, k0), ())) ((.ok (p0, l0))) := rfl
    refine ⟨_, pss_one (ps_ret (pe_tup (pa_cons (pe_fld (pv 0) rfl) (pa_cons (pe_fld (pv 0) rfl) pa_nil)))), ?_⟩
    refine g_ret (E := E) (cl := cl) (t := (k2 K kI (kT K kI))) (x := (p0, l0)) w0 (em_t2 K (em_cons (em_Rg_period T_Rg (em_var (t := (k_Rg K CR)) (v := v0) (x := (p0, l0, k0)) rfl r0)) (em_cons (em_Rg_places T_Rg (em_var (t := (k_Rg K CR)) (v := v0) (x := (p0, l0, k0)) rfl r0)) em_nil))) (fun v_244 H_245 g_246 w_247 r_248 => ?_)
    exact qok _ v_244 H_245 o0 (show Ex H _ from Gr.fr g_246) r_248
def v_Ring_shown : (Int × List Int × List Int) × Unit → (Int × (List Int)) := fun a => match a with
  | ((p0, l0, k0), _) =>
    ((p0, l0))
theorem is_Ring_shown (a : (Int × List Int × List Int) × Unit) : f_Ring_shown a = .ok (v_Ring_shown a) := by
  obtain ⟨⟨p0, l0, k0⟩, _⟩ := a
  rfl
end
end Rw
namespace Rw
open PySem PySem.Spec PyProof.Rows L2 Evl

abbrev mkR (p : Int) (l : List Int) : Int × List Int × List Int := (p, setL (l.map fun x => x % p), setL (l.map fun x => x % p))
theorem ring_ok {p : Int} {l : List Int} (h : 1 ≤ p) (h2 : p ≤ 63) : f_Ring_init (p, l, ()) = .ok (mkR p l) := by
  show cond (!(decide (0 < p) && decide (p ≤ 5000))) _ _ = _
  rw [decide_eq_true (show (0 : Int) < p by omega), decide_eq_true (show p ≤ 5000 by omega)]
  rfl
theorem ring_okT {p : Int} {l : List Int} (h : 1 ≤ p) (h2 : p ≤ 63) : f_Ring_initT (p, l, ()) = .ok (mkR p l) := ring_ok h h2
theorem up_few {b : Int} : ∀ {l : List Int} {a : Int}, l.Pairwise (· < ·) → (∀ x ∈ l, a ≤ x ∧ x < b) → a ≤ b → (l.length : Int) ≤ b - a
  | [], _, _, _, h => by show ((0 : Nat) : Int) ≤ _; omega
  | x :: l, a, h, h2, h3 => by
    have hx := h2 x List.mem_cons_self
    have q := List.pairwise_cons.mp h
    have := up_few (b := b) (a := x + 1) q.2 (fun y hy => ⟨by have := q.1 y hy; omega, (h2 y (List.mem_cons_of_mem _ hy)).2⟩) (by omega)
    rw [List.length_cons]
    omega
theorem mods_few {p : Int} {l : List Int} (h : 1 ≤ p) (h2 : p ≤ 63) : (setL (l.map fun x => x % p)).length < 64 := by
  have := up_few (b := p) (a := 0) (setL_up (l.map fun x => x % p)) (mods_in (by omega)) (by omega)
  omega
theorem ring_pre {p : Int} {l : List Int} (h : 1 ≤ p) (h2 : p ≤ 63) (h3 : l.length ≤ 1000) : (-1000000 ≤ p ∧ p ≤ 1000000) ∧ l.length ≤ 1000 ∧ True ∧ (setL (l.map fun y => y % p)).length < 64 := ⟨⟨by omega, by omega⟩, h3, trivial, mods_few h h2⟩
theorem upA_Rg {K : PySem.W.Frag} : UpA (aC kI (aC (kL K kI) a0)) := fun e h => up_aC (t := kI) (A := aC (kL K kI) a0) (fun e h => up_aC (t := kL K kI) (A := a0) up_a0 e h) e h
theorem upA_RgT {K : PySem.W.Frag} : UpA (aC kI (aC (kT K kI) a0)) := fun e h => up_aC (t := kI) (A := aC (kT K kI) a0) (fun e h => up_aC (t := kT K kI) (A := a0) up_a0 e h) e h
theorem lf_len {α β : Type} {l : List α} {c : α → Bool} {f : α → β} (h : l.length ≤ 1000) : ((l.filter c).map f).length ≤ 1000 := by
  rw [List.length_map]
  exact Nat.le_trans (List.length_filter_le _ _) h
theorem lm_len {α β : Type} {l : List α} {f : α → β} (h : l.length ≤ 1000) : (l.map f).length ≤ 1000 := by rw [List.length_map]; exact h

section
variable {P : Program} {w : World} {K : PySem.W.Frag} {mg : Str → Option Value} {base : Heap} {CR : Addr} {cl : Nat → Addr}

abbrev s_widened : Stmt := topS 20
def widenedN : List Str := ["ring", "times", "period", "number"]
theorem sc_widened : FnScope widenedN ["ring", "times"] (defScope s_widened) := ⟨rfl, rfl, rfl, by decide +kernel, rfl, by decide +kernel, by decide +kernel⟩
def f_widened : (Int × List Int × List Int) × Int × Unit → Re (Int × List Int × List Int) := fun a => match a with
  | ((p0, l0, k0), x1, _) =>
    lt (p0 * x1) fun period_249 =>
    (.ok (mkR period_249 (((rng 0 (if (5000 : Int) < period_249 then (5000 : Int) else period_249)).filter (fun x_258 => (v_Ring_has ((p0, l0, k0), x_258, ())))).map (fun x_258 => x_258))))
def pre_widened : (Int × List Int × List Int) × Int × Unit → Prop := fun a => match a with
  | ((p0, l0, k0), x1, _) => 1 ≤ p0 * x1 ∧ p0 * x1 ≤ 63
abbrev sp_widened (K : PySem.W.Frag) (CR : Addr) (cl : Nat → Addr) : Sp := spD (aC (k_Rg K CR) (aC kI a0)) pre_widened f_widened (k_Rg K CR) cl
theorem ok_widened {f : Addr} {fd : FuncData} (F : Fun K "widened" "widened" s_widened f fd) (T_Rg : Tt_Rg K CR) (B : BD mg) (gi_MOST : ∃ t, mg "MOST" = some (.int 5000 t)) (nR : Nw P w K mg base 1 "Ring" CR (sp_Ring_init K CR cl) []) (m_has : Mt P w K mg base 1 CR "has" (sp_Ring_has K CR cl) []) : FnOk P w K mg base (L2.CX P w) 3 f fd ["ring", "times"] (sp_widened K CR cl) := by
  refine F.okX sc_widened (fun vs H Q E h => ?_) (fun cdv A outer s H vs Q E hr h => ?_)
  · obtain ⟨M, a, live, hA, _⟩ := h
    obtain ⟨v0, _, rfl, r0, v1, _, rfl, r1, rfl⟩ := hA
    rfl
  · obtain ⟨M, ⟨⟨p0, l0, k0⟩, x1, _⟩, live, hA, hpre, qok, qer⟩ := h
    obtain ⟨v0, _, rfl, r0, v1, _, rfl, r1, rfl⟩ := hA
    obtain rfl : v1 = (.int x1) := r1
    have iv0 : I_Rg (p0, l0, k0) := inv_Rg r0
    obtain ⟨ia0, ib0, ik0, iu0, ir0, il0⟩ := iv0
    have hpre : 1 ≤ p0 * x1 ∧ p0 * x1 ≤ 63 := hpre
    have w0 : Holds M [] H := hold0 live
    have o0 : Pr (f_widened ((p0, l0, k0), x1, ())) (lt (p0 * x1) fun period_249 =>
(.ok (mkR period_249 (((rng 0 (if (5000 : Int) < period_249 then (5000 : Int) else period_249)).filter (fun x_258 => (v_Ring_has ((p0, l0, k0), x_258, ())))).map (fun x_258 => x_258))))) := rfl
    refine ⟨_, pss_cons (ps_set (i := 2) sc_widened.nd rfl (.inl rfl) (pe_op op_mul (pe_fld (pv 0) rfl) (pv 1))) (pss_one (ps_ret (pe_nw nR hr (by decide) passL (pa_cons (pv 2) (pa_cons (pe_lc (own := [("number", 3)]) (g := gName 3) (tt := _) rfl sc_widened.nd (pi_range1 rfl B.range (pa_cons (pe_callB (call_min2 rfl) (by rfl) B.min (by decide +kernel) (pa_cons (pv 2) (pa_cons (pe_GI gi_MOST) pa_nil))) pa_nil)) (blkOk_by (own := [("number", 3)]) (N := widenedN) (sc := defScope s_widened) (by decide +kernel)) (fun _ _ _ _ _ => pg_name (i := 3) sc_widened.nd rfl (Or.inl rfl)) (fun _ _ _ _ _ => pts_one (pt_val (pe_mk m_has hr (by decide) passL (pv 0) (pa_cons (pv 3) pa_nil)))) (fun _ _ _ _ _ => (pv 3))) pa_nil))))), ?_⟩
    refine g_asg (E := E) (cl := cl) (i := 2) (t := kI) (x := (p0 * x1)) w0 o0 (em_op (em_Rg_period T_Rg (em_var (t := (k_Rg K CR)) (v := v0) (x := (p0, l0, k0)) rfl r0)) (em_var (t := kI) (v := (.int x1)) (x := x1) rfl rfl) (o_IC (by first | (first | exact .inl ⟨by omega, by omega⟩ | exact .inr ⟨by omega, by omega⟩) | (dsimp only; first | exact .inl ⟨by omega, by omega⟩ | exact .inr ⟨by omega, by omega⟩)))) (fun period_249 v_250 H_251 hx_252 o_253 g_254 w_255 r_256 => ?_)
    have r_257 := (k_Rg K CR).up g_254.im r0
    obtain rfl : v_250 = (.int period_249) := r_256
    refine g_ret (E := E) (cl := cl) (t := (k_Rg K CR)) (x := (mkR period_249 (((rng 0 (if (5000 : Int) < period_249 then (5000 : Int) else period_249)).filter (fun x_258 => (v_Ring_has ((p0, l0, k0), x_258, ())))).map (fun x_258 => x_258)))) w_255 (em_mkObP (a := (period_249, (((rng 0 (if (5000 : Int) < period_249 then (5000 : Int) else period_249)).filter (fun x_258 => (v_Ring_has ((p0, l0, k0), x_258, ())))).map (fun x_258 => x_258)), ())) (pre := pre_Ring_init) (f := f_Ring_init) (Rr := R_Rg K) (up := fun e h => R_Rg_up e h) (em_cons (em_var (t := kI) (v := (.int period_249)) (x := period_249) rfl rfl) (em_cons (em_lc (K := K) (u := kI) (fun x_258 => (v_Ring_has ((p0, l0, k0), x_258, ()))) (fun x_258 => x_258) (ei_R1 (em_cons (em_cb (em_cons (em_var (t := kI) (v := (.int period_249)) (x := period_249) rfl rfl) (em_cons em_int em_nil)) o_min2) em_nil) (by refine ⟨by split <;> omega, by split <;> omega⟩)) (by rw [rng_len]; split <;> omega) eg_name (fun _ _ _ b => by obtain ⟨_, rfl, rfl⟩ := b; rfl) (fun M_264 S_265 I_259 x_258 s_263 e_260 m_261 b_262 => by obtain ⟨_, rfl, rfl⟩ := b_262; rw [rng_mem] at m_261; exact (gt_B (em_methP (pre := pre_Ring_has) (f := f_Ring_has) (y := (v_Ring_has ((p0, l0, k0), x_258, ()))) (b := (x_258, ())) (em_var (t := (k_Rg K CR)) (v := v0) (x := (p0, l0, k0)) rfl ((k_Rg K CR).up e_260 r_257)) (ob_Rg fun _ _ _ => rfl) (em_cons (em_var (t := kI) (v := (.int x_258)) (x := x_258) rfl rfl) em_nil) args_mG (by exact trivial) (by first | (exact is_Ring_has _) | (dsimp only; exact is_Ring_has _))))) (fun M_264 S_265 I_259 x_258 s_263 e_260 m_261 c_268 b_262 => by obtain ⟨_, rfl, rfl⟩ := b_262; rw [rng_mem] at m_261; exact (em_var (t := kI) (v := (.int x_258)) (x := x_258) rfl rfl))) em_nil)) args_id upA_Rg (by exact ring_pre (by first | (omega) | (dsimp only; omega)) (by first | (omega) | (dsimp only; omega)) (by exact lf_len (by rw [rng_len]; split <;> omega))) (ring_ok (by first | (omega) | (dsimp only; omega)) (by first | (omega) | (dsimp only; omega)))) (fun v_269 H_270 g_271 w_272 r_273 => ?_)
    exact qok _ v_269 H_270 o_253 (show Ex H _ from Gr.fr (g_254.then g_271 rfl)) r_273
def v_widened : (Int × List Int × List Int) × Int × Unit → (Int × List Int × List Int) := fun a => match a with
  | ((p0, l0, k0), x1, _) =>
    lt (p0 * x1) fun period_249 =>
    ((mkR period_249 (((rng 0 (if (5000 : Int) < period_249 then (5000 : Int) else period_249)).filter (fun x_258 => (v_Ring_has ((p0, l0, k0), x_258, ())))).map (fun x_258 => x_258))))
theorem is_widened (a : (Int × List Int × List Int) × Int × Unit) : f_widened a = .ok (v_widened a) := by
  obtain ⟨⟨p0, l0, k0⟩, x1, _⟩ := a
  rfl

abbrev s_opposite : Stmt := topS 25
def oppositeN : List Str := ["ring", "place"]
theorem sc_opposite : FnScope oppositeN ["ring"] (defScope s_opposite) := ⟨rfl, rfl, rfl, by decide +kernel, rfl, by decide +kernel, by decide +kernel⟩
def f_opposite : (Int × List Int × List Int) × Unit → Re (Int × List Int × List Int) := fun a => match a with
  | ((p0, l0, k0), _) =>
    (.ok (mkR p0 (((rng 0 p0).filter (fun x_274 => (!(v_Ring_has ((p0, l0, k0), x_274, ()))))).map (fun x_274 => x_274))))
def pre_opposite : (Int × List Int × List Int) × Unit → Prop := fun a => match a with
  | ((p0, l0, k0), _) => p0 ≤ 63
abbrev sp_opposite (K : PySem.W.Frag) (CR : Addr) (cl : Nat → Addr) : Sp := spD (aC (k_Rg K CR) a0) pre_opposite f_opposite (k_Rg K CR) cl
theorem ok_opposite {f : Addr} {fd : FuncData} (F : Fun K "opposite" "opposite" s_opposite f fd) (T_Rg : Tt_Rg K CR) (B : BD mg) (nR : Nw P w K mg base 1 "Ring" CR (sp_Ring_init K CR cl) []) (m_has : Mt P w K mg base 1 CR "has" (sp_Ring_has K CR cl) []) : FnOk P w K mg base (L2.CX P w) 3 f fd ["ring"] (sp_opposite K CR cl) := by
  refine F.okX sc_opposite (fun vs H Q E h => ?_) (fun cdv A outer s H vs Q E hr h => ?_)
  · obtain ⟨M, a, live, hA, _⟩ := h
    obtain ⟨v0, _, rfl, r0, rfl⟩ := hA
    rfl
  · obtain ⟨M, ⟨⟨p0, l0, k0⟩, _⟩, live, hA, hpre, qok, qer⟩ := h
    obtain ⟨v0, _, rfl, r0, rfl⟩ := hA
    have iv0 : I_Rg (p0, l0, k0) := inv_Rg r0
    obtain ⟨ia0, ib0, ik0, iu0, ir0, il0⟩ := iv0
    have hpre : p0 ≤ 63 := hpre
    have w0 : Holds M [] H := hold0 live
    have o0 : Pr (f_opposite ((p0, l0, k0), ())) ((.ok (mkR p0 (((rng 0 p0).filter (fun x_274 => (!(v_Ring_has ((p0, l0, k0), x_274, ()))))).map (fun x_274 => x_274))))) := rfl
    refine ⟨_, pss_one (ps_ret (pe_nw nR hr (by decide) passL (pa_cons (pe_fld (pv 0) rfl) (pa_cons (pe_lc (own := [("place", 1)]) (g := gName 1) (tt := _) rfl sc_opposite.nd (pi_range1 rfl B.range (pa_cons (pe_fld (pv 0) rfl) pa_nil)) (blkOk_by (own := [("place", 1)]) (N := oppositeN) (sc := defScope s_opposite) (by decide +kernel)) (fun _ _ _ _ _ => pg_name (i := 1) sc_opposite.nd rfl (Or.inl rfl)) (fun _ _ _ _ _ => pts_one (pt_not (pt_val (pe_mk m_has hr (by decide) passL (pv 0) (pa_cons (pv 1) pa_nil))))) (fun _ _ _ _ _ => (pv 1))) pa_nil)))), ?_⟩
    refine g_ret (E := E) (cl := cl) (t := (k_Rg K CR)) (x := (mkR p0 (((rng 0 p0).filter (fun x_274 => (!(v_Ring_has ((p0, l0, k0), x_274, ()))))).map (fun x_274 => x_274)))) w0 (em_mkObP (a := (p0, (((rng 0 p0).filter (fun x_274 => (!(v_Ring_has ((p0, l0, k0), x_274, ()))))).map (fun x_274 => x_274)), ())) (pre := pre_Ring_init) (f := f_Ring_init) (Rr := R_Rg K) (up := fun e h => R_Rg_up e h) (em_cons (em_Rg_period T_Rg (em_var (t := (k_Rg K CR)) (v := v0) (x := (p0, l0, k0)) rfl r0)) (em_cons (em_lc (K := K) (u := kI) (fun x_274 => (!(v_Ring_has ((p0, l0, k0), x_274, ())))) (fun x_274 => x_274) (ei_R1 (em_cons (em_Rg_period T_Rg (em_var (t := (k_Rg K CR)) (v := v0) (x := (p0, l0, k0)) rfl r0)) em_nil) (by refine ⟨by first | omega | (dsimp only; omega), by first | omega | (dsimp only; omega)⟩)) (by rw [rng_len]; first | omega | (dsimp only; omega)) eg_name (fun _ _ _ b => by obtain ⟨_, rfl, rfl⟩ := b; rfl) (fun M_280 S_281 I_275 x_274 s_279 e_276 m_277 b_278 => by obtain ⟨_, rfl, rfl⟩ := b_278; rw [rng_mem] at m_277; exact (gt_not (gt_B (em_methP (pre := pre_Ring_has) (f := f_Ring_has) (y := (v_Ring_has ((p0, l0, k0), x_274, ()))) (b := (x_274, ())) (em_var (t := (k_Rg K CR)) (v := v0) (x := (p0, l0, k0)) rfl ((k_Rg K CR).up e_276 r0)) (ob_Rg fun _ _ _ => rfl) (em_cons (em_var (t := kI) (v := (.int x_274)) (x := x_274) rfl rfl) em_nil) args_mG (by exact trivial) (by first | (exact is_Ring_has _) | (dsimp only; exact is_Ring_has _)))))) (fun M_280 S_281 I_275 x_274 s_279 e_276 m_277 c_284 b_278 => by obtain ⟨_, rfl, rfl⟩ := b_278; rw [rng_mem] at m_277; exact (em_var (t := kI) (v := (.int x_274)) (x := x_274) rfl rfl))) em_nil)) args_id upA_Rg (by exact ring_pre (by first | (omega) | (dsimp only; omega)) (by first | (omega) | (dsimp only; omega)) (by exact lf_len (by rw [rng_len]; first | omega | (dsimp only; omega)))) (ring_ok (by first | (omega) | (dsimp only; omega)) (by first | (omega) | (dsimp only; omega)))) (fun v_285 H_286 g_287 w_288 r_289 => ?_)
    exact qok _ v_285 H_286 o0 (show Ex H _ from Gr.fr g_287) r_289
def v_opposite : (Int × List Int × List Int) × Unit → (Int × List Int × List Int) := fun a => match a with
  | ((p0, l0, k0), _) =>
    ((mkR p0 (((rng 0 p0).filter (fun x_274 => (!(v_Ring_has ((p0, l0, k0), x_274, ()))))).map (fun x_274 => x_274))))
theorem is_opposite (a : (Int × List Int × List Int) × Unit) : f_opposite a = .ok (v_opposite a) := by
  obtain ⟨⟨p0, l0, k0⟩, _⟩ := a
  rfl

abbrev s_shifted : Stmt := topS 26
def shiftedN : List Str := ["ring", "many", "place"]
theorem sc_shifted : FnScope shiftedN ["ring", "many"] (defScope s_shifted) := ⟨rfl, rfl, rfl, by decide +kernel, rfl, by decide +kernel, by decide +kernel⟩
def f_shifted : (Int × List Int × List Int) × Int × Unit → Re (Int × List Int × List Int) := fun a => match a with
  | ((p0, l0, k0), x1, _) =>
    (.ok (mkR p0 (l0.map (fun x_290 => (x_290 + x1)))))
def pre_shifted : (Int × List Int × List Int) × Int × Unit → Prop := fun a => match a with
  | ((p0, l0, k0), x1, _) => p0 ≤ 63
abbrev sp_shifted (K : PySem.W.Frag) (CR : Addr) (cl : Nat → Addr) : Sp := spD (aC (k_Rg K CR) (aC kI a0)) pre_shifted f_shifted (k_Rg K CR) cl
theorem ok_shifted {f : Addr} {fd : FuncData} (F : Fun K "shifted" "shifted" s_shifted f fd) (T_Rg : Tt_Rg K CR) (B : BD mg) (nR : Nw P w K mg base 1 "Ring" CR (sp_Ring_init K CR cl) []) : FnOk P w K mg base (L2.CX P w) 3 f fd ["ring", "many"] (sp_shifted K CR cl) := by
  refine F.okX sc_shifted (fun vs H Q E h => ?_) (fun cdv A outer s H vs Q E hr h => ?_)
  · obtain ⟨M, a, live, hA, _⟩ := h
    obtain ⟨v0, _, rfl, r0, v1, _, rfl, r1, rfl⟩ := hA
    rfl
  · obtain ⟨M, ⟨⟨p0, l0, k0⟩, x1, _⟩, live, hA, hpre, qok, qer⟩ := h
    obtain ⟨v0, _, rfl, r0, v1, _, rfl, r1, rfl⟩ := hA
    obtain rfl : v1 = (.int x1) := r1
    have iv0 : I_Rg (p0, l0, k0) := inv_Rg r0
    obtain ⟨ia0, ib0, ik0, iu0, ir0, il0⟩ := iv0
    have hpre : p0 ≤ 63 := hpre
    have w0 : Holds M [] H := hold0 live
    have o0 : Pr (f_shifted ((p0, l0, k0), x1, ())) ((.ok (mkR p0 (l0.map (fun x_290 => (x_290 + x1)))))) := rfl
    refine ⟨_, pss_one (ps_ret (pe_nw nR hr (by decide) passL (pa_cons (pe_fld (pv 0) rfl) (pa_cons (pe_lc (own := [("place", 2)]) (g := gName 2) (tt := tYes) rfl sc_shifted.nd (pi_tup (pe_fld (pv 0) rfl)) (blkOk_by (own := [("place", 2)]) (N := shiftedN) (sc := defScope s_shifted) (by decide +kernel)) (fun _ _ _ _ _ => pg_name (i := 2) sc_shifted.nd rfl (Or.inl rfl)) (fun _ _ _ _ _ => pts_nil) (fun _ _ _ _ _ => (pe_op op_add (pv 2) (pv 1)))) pa_nil)))), ?_⟩
    refine g_ret (E := E) (cl := cl) (t := (k_Rg K CR)) (x := (mkR p0 (l0.map (fun x_290 => (x_290 + x1))))) w0 (em_mkObP (a := (p0, (l0.map (fun x_290 => (x_290 + x1))), ())) (pre := pre_Ring_init) (f := f_Ring_init) (Rr := R_Rg K) (up := fun e h => R_Rg_up e h) (em_cons (em_Rg_period T_Rg (em_var (t := (k_Rg K CR)) (v := v0) (x := (p0, l0, k0)) rfl r0)) (em_cons (em_eq (em_lc (K := K) (u := kI) (fun _ => true) (fun x_290 => (x_290 + x1)) (ei_T (em_Rg_places T_Rg (em_var (t := (k_Rg K CR)) (v := v0) (x := (p0, l0, k0)) rfl r0))) (by first | (omega) | (dsimp only; omega)) eg_name (fun _ _ _ b => by obtain ⟨_, rfl, rfl⟩ := b; rfl) (fun _ _ _ _ _ _ _ _ => gt_yes) (fun M_296 S_297 I_291 x_290 s_295 e_292 m_293 c_300 b_294 => by obtain ⟨_, rfl, rfl⟩ := b_294; exact (em_op (em_var (t := kI) (v := (.int x_290)) (x := x_290) rfl rfl) (em_var (t := kI) (v := (.int x1)) (x := x1) rfl rfl) o_I))) (by rw [filter_yes])) em_nil)) args_id upA_Rg (by exact ring_pre (by first | (omega) | (dsimp only; omega)) (by first | (omega) | (dsimp only; omega)) (by first | (first | exact lf_len (by omega) | exact lm_len (by omega) | omega) | (dsimp only; first | exact lf_len (by omega) | exact lm_len (by omega) | omega))) (ring_ok (by first | (omega) | (dsimp only; omega)) (by first | (omega) | (dsimp only; omega)))) (fun v_301 H_302 g_303 w_304 r_305 => ?_)
    exact qok _ v_301 H_302 o0 (show Ex H _ from Gr.fr g_303) r_305
def v_shifted : (Int × List Int × List Int) × Int × Unit → (Int × List Int × List Int) := fun a => match a with
  | ((p0, l0, k0), x1, _) =>
    ((mkR p0 (l0.map (fun x_290 => (x_290 + x1)))))
theorem is_shifted (a : (Int × List Int × List Int) × Int × Unit) : f_shifted a = .ok (v_shifted a) := by
  obtain ⟨⟨p0, l0, k0⟩, x1, _⟩ := a
  rfl
end
end Rw
namespace Rw
open PySem PySem.Spec PyProof.Rows L2 Evl
section
variable {K : PySem.W.Frag} {α β γ δ R τ : Type} {E : XK} {cl : Nat → Addr} {M : List Addr} {σ : L2.St} {I I' H H' : Hp} {S S' S1 S2 S3 : List Cell} {te ta tb tc to : TE} {tt : TT} {tr : TA} {t : Ty α} {u : Ty β} {w' : Ty γ} {x : α} {y : β} {v : V} {xs : List α}
theorem em_lcEX {wi : TI} {g : TG} {vs : List Nat} {B : Hp → α → L2.St → Prop} {ct : α → τ → Bool × τ} {f : α → τ → β × τ} {Sx : τ → List Cell} {s0 : τ} (hi : Ei E cl M wi σ I S t xs (Sx s0)) (hz : xs.length ≤ 100000 - 1) (hS : ∀ s, ads (Sx s) = ads (Sx s0))
    (hg : Eg g t (wipe σ vs) B) (hw : ∀ I x σ', B I x σ' → wipe σ' vs = wipe σ vs)
    (ht : ∀ D acc I' x s σ', Ex I I' → x ∈ xs → B I' x σ' → Et E cl (D :: M) tt σ' I' (cL D u acc :: Sx s) (.ok (ct x s).1) (cL D u acc :: Sx (ct x s).2))
    (he : ∀ D acc I' x s σ', Ex I I' → x ∈ xs → (ct x s).1 = true → B I' x σ' → Em E cl (D :: M) te σ' I' (cL D u acc :: Sx (ct x s).2) u (.ok (f x (ct x s).2).1) (cL D u acc :: Sx (f x (ct x s).2).2)) :
    Em E cl M (tLc wi g tt te vs) σ I S (kX u) (.ok (runE ct f xs s0).1) (Sx (runE ct f xs s0).2) := by
  refine em_mk ((hS _).trans hi.ad) fun H0 i0 w0 Q q => hi.run H0 i0 w0 _ fun J H2 G Y e2 w2 wk gG gY D hD => ?_
  let acc : Nat → List β := fun i => (runE ct f (xs.take i) s0).1
  let st : Nat → τ := fun i => (runE ct f (xs.take i) s0).2
  let Pv : Nat → Hp → Prop := fun i H' => Holds (D :: M) (cL D u (acc i) :: Sx (st i)) H' ∧ Ex (del (D :: ads (Sx s0)) (upd H2 D (.lst []))) (del (D :: ads (Sx s0)) H')
  have dM : D ∉ M := fresh_not w2.live hD
  have toM : ∀ {i H'}, Pv i H' → Ex (del M H2) (del (D :: M) H') := fun {i H'} p => by
    refine ex_lone (o := .lst []) hD (ex_sub (A := D :: ads (Sx s0)) (fun a h => ?_) p.2)
    rcases List.mem_cons.mp h with z | z
    · rw [z]; exact List.mem_cons_self
    · exact List.mem_cons_of_mem _ (w2.sub a z)
  have stop : ∀ i, i < xs.length → ∃ x, xs[i]? = some x := fun i hi => ⟨xs[i], by simp [hi]⟩
  have accLen : ∀ i, (acc i).length ≤ i := by
    intro i
    have : ∀ (l : List α) (s : τ), (runE ct f l s).1.length ≤ l.length := by
      intro l
      induction l with
      | nil => intro s; exact Nat.le_refl _
      | cons a l ih =>
        intro s
        simp only [runE]
        split
        · simp only [List.length_cons]
          exact Nat.succ_le_succ (ih _)
        · exact Nat.le_succ_of_le (ih _)
    exact Nat.le_trans (this _ _) (by rw [List.length_take]; omega)
  refine lc_it wk Pv ⟨?_, Ex.refl _⟩ (fun i H' hi p => gG H' ((toM p).trans del_le2)) (fun i v H Hy hi p y => ?_) (fun H' p => ?_)
  · have e0 : acc 0 = [] := by show (runE ct f (xs.take 0) s0).1 = []; rw [List.take_zero]; rfl
    have e1 : st 0 = s0 := by show (runE ct f (xs.take 0) s0).2 = s0; rw [List.take_zero]; rfl
    show Holds (D :: M) (cL D u (acc 0) :: Sx (st 0)) _
    rw [e0, e1]
    exact w2.new (c := cL D u []) hD (Ex.new hD) upd_same ⟨[], rfl, .nil⟩
  · obtain ⟨x, hx⟩ := stop i hi
    have xm : x ∈ xs := List.mem_of_getElem? hx
    obtain ⟨eH, rv⟩ := gY i H v Hy x hx ((toM p).trans del_le2) y
    have rx := rv (D :: M) p.1.live (toM p)
    have wy := p.1.ex eH
    have i1 : Ex I (del (D :: M) Hy) := ((i0.trans (w0.grow e2)).trans (toM p)).trans (ex_del eH)
    refine hg v Hy x _ rx del_le _ fun σ' b => ⟨hw _ x σ' b, ?_⟩
    have tk : xs.take (i + 1) = xs.take i ++ [x] := by rw [List.take_add_one, hx]; rfl
    have nx : runE ct f (xs.take (i + 1)) s0 = (if (ct x (st i)).1 = true then (acc i ++ [(f x (ct x (st i)).2).1], (f x (ct x (st i)).2).2) else (acc i, (ct x (st i)).2)) := by rw [tk, runE_app]
    have fr : Ex (del (D :: ads (Sx s0)) (upd H2 D (.lst []))) (del (D :: ads (Sx s0)) Hy) := p.2.trans (ex_del eH)
    have same : ∀ s, ads (cL D u (acc i) :: Sx s) = D :: ads (Sx s0) := fun s => by show D :: ads (Sx s) = _; rw [hS s]
    refine et_of (ht D (acc i) _ x (st i) σ' i1 xm b) Hy (Ex.refl _) wy _ fun H3 e3 w3 => ?_
    rw [same] at e3
    cases hc : (ct x (st i)).1 with
    | true =>
      rw [if_pos rfl]
      have i3 : Ex (del (D :: M) Hy) (del (D :: M) H3) := wy.grow (by rw [same]; exact e3)
      refine em_of (he D (acc i) _ x _ σ' i1 xm hc b) H3 i3 w3 _ fun vy H4 e4 w4 r4 => ?_
      rw [same] at e4
      obtain ⟨_, o4, h4, ys, rfl, a4⟩ := w4.at_ _ List.mem_cons_self
      refine ⟨ys, h4, ?_, ?_, ?_⟩
      · rw [All2.len a4]
        exact sz_lt (by have := accLen i; show (acc i).length < _; omega)
      · have a1 : acc (i + 1) = acc i ++ [(f x (ct x (st i)).2).1] := by show (runE ct f (xs.take (i + 1)) s0).1 = _; rw [nx]; simp [hc]
        have s1 : st (i + 1) = (f x (ct x (st i)).2).2 := by show (runE ct f (xs.take (i + 1)) s0).2 = _; rw [nx]; simp [hc]
        show Holds (D :: M) (cL D u (acc (i + 1)) :: Sx (st (i + 1))) _
        rw [a1, s1]
        exact w4.put (k := 0) (c := cL D u (acc i)) (c' := cL D u (acc i ++ [(f x (ct x (st i)).2).1])) rfl rfl ⟨_, rfl, a4.app (.one r4)⟩
      · rw [show del (D :: ads (Sx s0)) (upd H4 D (.lst (ys ++ [vy]))) = del (D :: ads (Sx s0)) H4 from del_upd List.mem_cons_self]
        exact (fr.trans e3).trans e4
    | false =>
      rw [if_neg Bool.false_ne_true]
      refine ⟨?_, fr.trans e3⟩
      have a1 : acc (i + 1) = acc i := by show (runE ct f (xs.take (i + 1)) s0).1 = _; rw [nx]; simp [hc]
      have s1 : st (i + 1) = (ct x (st i)).2 := by show (runE ct f (xs.take (i + 1)) s0).2 = _; rw [nx]; simp [hc]
      rw [a1, s1]
      exact w3
  · have al : acc xs.length = (runE ct f xs s0).1 := by show (runE ct f (xs.take xs.length) s0).1 = _; rw [List.take_length]
    have sl : st xs.length = (runE ct f xs s0).2 := by show (runE ct f (xs.take xs.length) s0).2 = _; rw [List.take_length]
    obtain ⟨pw, pe⟩ := p
    rw [al, sl] at pw
    obtain ⟨_, o4, h4, ys, rfl, a4⟩ := pw.at_ _ List.mem_cons_self
    refine q _ H' ?_ (pw.drop (c := cL D u _) dM) ⟨D, ys, rfl, del_at dM h4, all2_up u del_le2 a4⟩
    rw [← hi.ad]
    rw [← hi.ad] at e2
    exact e2.trans ((ex_lone (M := ads (Sx s0)) hD pe).trans del_le2)
theorem em_lcX {wi : TI} {g : TG} {vs : List Nat} {B : Hp → α → L2.St → Prop} (c : α → Bool) (f : α → β) (hi : Ei E cl M wi σ I S t xs S1) (hz : xs.length ≤ 100000 - 1) (hg : Eg g t (wipe σ vs) B) (hw : ∀ I x σ', B I x σ' → wipe σ' vs = wipe σ vs)
    (ht : ∀ M' S' I' x σ', Ex I I' → x ∈ xs → B I' x σ' → Et E cl M' tt σ' I' S' (.ok (c x)) S') (he : ∀ M' S' I' x σ', Ex I I' → x ∈ xs → c x = true → B I' x σ' → Em E cl M' te σ' I' S' u (.ok (f x)) S') :
    Em E cl M (tLc wi g tt te vs) σ I S (kX u) (.ok ((xs.filter c).map f)) S1 := by
  have h := em_lcEX (u := u) (te := te) (tt := tt) (ct := fun x (s : Unit) => (c x, s)) (f := fun x (s : Unit) => (f x, s)) (Sx := fun _ => S1) (s0 := ()) hi hz (fun _ => rfl) hg hw (fun D acc I' x s σ' a b d => ht _ _ I' x σ' a b d) (fun D acc I' x s σ' a b d z => he _ _ I' x σ' a b d z)
  rw [runE_pure] at h
  exact h
end
theorem q_dice2 {K : PySem.W.Frag} {a PT : Addr} {LQ : Str} {ns : List Int} {σ : L2.St} {H : Hp} {ta : TA} {D : Ends} {tu tz : TS} {j : Nat} (hv : EvA ta σ H [.ref a, .int 1]) (hS : SqL K H a (ns.map V.int)) (hT : H PT = some (.tbl #[])) (Sg : L2.St → Prop) (s0 : Sg σ)
    (hs : ∀ d z σ' H', Sg σ' → Holds [d, PT] [cDice d z, cTab PT LQ] H' → ∀ Nx : L2.St → Hp → Prop, (∀ z' σ2 H2, Sg σ2 → Gr [d, PT] [cDice d z, cTab PT LQ] H' H2 → Holds [d, PT] [cDice d z', cTab PT LQ] H2 → Nx σ2 H2) → tu { D with nx := Nx, ct := Nx, bk := tz D } (σ'.set j (some (.ref d))) H')
    (hd : ∀ d z σ' H', Sg σ' → Holds [d, PT] [cDice d z, cTab PT LQ] H' → tz D σ' H') :
    tSeq (tFor (iList K (tCall (spRounds K) [] E0 ta)) (gName j) tu) tz D σ H :=
  hv H (Ex.refl H) _ fun H1 e1 => ⟨a, ns, rfl, ex_l e1 hS, fun r d x y z H2 hr hd0 hne e2 h2 h3 => by
    have hP : H2 PT = some (.tbl #[]) := e2 _ _ (e1 _ _ hT)
    have dP : d ≠ PT := fun q => by rw [q, hP] at h3; cases h3
    have rP : r ≠ PT := fun q => by rw [q, hP] at h2; cases h2
    have w0 : Holds [d, PT] [cDice d (x, y, z), cTab PT LQ] H2 := by
      refine ⟨fun c hc => ?_, by simp [ads, cDice, cTab, dP], fun m hm => ?_⟩
      · rcases List.mem_cons.mp hc with q | q
        · rw [q]; exact ⟨List.mem_cons_self, _, h3, rfl⟩
        · rw [List.mem_singleton.mp q]
          refine ⟨by simp [cTab], _, hP, #[], rfl, by first | trivial | decide, fun pos cv z => ?_⟩
          cases z
      · rcases List.mem_cons.mp hm with q | q
        · rw [q, h3]; exact fun z => nomatch z
        · rw [List.mem_singleton.mp q, hP]; exact fun z => nomatch z
    have rM : r ∉ [d, PT] := by simp [hne, rP]
    have keep : ∀ H', Ex (del [d, PT] H2) (del [d, PT] H') → H' r = some (.lst [.ref d]) := fun H' e => (del_some.mp (e r _ (del_some.mpr ⟨rM, h2⟩))).2
    refine ⟨r, rfl, ⟨_, SqL.of h2⟩, for_list (xs := [.ref d]) (fun _ σ' H' => Sg σ' ∧ Ex (del [d, PT] H2) (del [d, PT] H') ∧ ∃ z, Holds [d, PT] [cDice d z, cTab PT LQ] H') ⟨s0, Ex.refl _, _, w0⟩ (fun i σ' H' _ p => SqL.of (keep H' p.2.1)) (fun i v σ' H' hi p => ?_) (fun σ' H' p => ?_)⟩
    · obtain rfl : v = .ref d := by
        cases i with
        | zero => exact (Option.some.inj hi).symm
        | succ i => simp at hi
      obtain ⟨p1, p2, z, p3⟩ := p
      exact hs d z σ' H' p1 p3 _ fun z' σ2 H3 g1 g2 g3 => ⟨g1, p2.trans g2.im, z', g3⟩
    · obtain ⟨p1, p2, z, p3⟩ := p
      exact hd d z σ' H' p1 p3⟩
theorem q_dice3 {K : PySem.W.Frag} {a PT : Addr} {LQ : Str} {ns : List Int} {σ : L2.St} {H : Hp} {ta : TA} {D : Ends} {tu tz : TS} {j : Nat} (hv : EvA ta σ H [.ref a, .int 1]) (hS : SqL K H a (ns.map V.int)) (hT : H PT = some (.tbl #[])) (Sg : L2.St → Prop) (s0 : Sg σ)
    (hs : ∀ d z σ' H', Sg σ' → Holds [d, PT] [cDice d z, cTab PT LQ] H' → ∀ Nx : L2.St → Hp → Prop, (∀ z' σ2 H2, Sg σ2 → Gr [d, PT] [cDice d z, cTab PT LQ] H' H2 → Holds [d, PT] [cDice d z', cTab PT LQ] H2 → Nx σ2 H2) → tu { D with nx := Nx, ct := Nx, bk := tz D } (σ'.set j (some (.ref d))) H')
    (hd : ∀ d z σ' H', Sg σ' → (∀ a o, a ≠ PT → H a = some o → H' a = some o) → Holds [d, PT] [cDice d z, cTab PT LQ] H' → tz D σ' H') :
    tSeq (tFor (iList K (tCall (spRounds K) [] E0 ta)) (gName j) tu) tz D σ H :=
  hv H (Ex.refl H) _ fun H1 e1 => ⟨a, ns, rfl, ex_l e1 hS, fun r d x y z H2 hr hd0 hne e2 h2 h3 => by
    have hP : H2 PT = some (.tbl #[]) := e2 _ _ (e1 _ _ hT)
    have dP : d ≠ PT := fun q => by rw [q, hP] at h3; cases h3
    have rP : r ≠ PT := fun q => by rw [q, hP] at h2; cases h2
    have w0 : Holds [d, PT] [cDice d (x, y, z), cTab PT LQ] H2 := by
      refine ⟨fun c hc => ?_, by simp [ads, cDice, cTab, dP], fun m hm => ?_⟩
      · rcases List.mem_cons.mp hc with q | q
        · rw [q]; exact ⟨List.mem_cons_self, _, h3, rfl⟩
        · rw [List.mem_singleton.mp q]
          refine ⟨by simp [cTab], _, hP, #[], rfl, by first | trivial | decide, fun pos cv z => ?_⟩
          cases z
      · rcases List.mem_cons.mp hm with q | q
        · rw [q, h3]; exact fun z => nomatch z
        · rw [List.mem_singleton.mp q, hP]; exact fun z => nomatch z
    have rM : r ∉ [d, PT] := by simp [hne, rP]
    have keep : ∀ H', Ex (del [d, PT] H2) (del [d, PT] H') → H' r = some (.lst [.ref d]) := fun H' e => (del_some.mp (e r _ (del_some.mpr ⟨rM, h2⟩))).2
    refine ⟨r, rfl, ⟨_, SqL.of h2⟩, for_list (xs := [.ref d]) (fun _ σ' H' => Sg σ' ∧ Ex (del [d, PT] H2) (del [d, PT] H') ∧ ∃ z, Holds [d, PT] [cDice d z, cTab PT LQ] H') ⟨s0, Ex.refl _, _, w0⟩ (fun i σ' H' _ p => SqL.of (keep H' p.2.1)) (fun i v σ' H' hi p => ?_) (fun σ' H' p => ?_)⟩
    · obtain rfl : v = .ref d := by
        cases i with
        | zero => exact (Option.some.inj hi).symm
        | succ i => simp at hi
      obtain ⟨p1, p2, z, p3⟩ := p
      exact hs d z σ' H' p1 p3 _ fun z' σ2 H3 g1 g2 g3 => ⟨g1, p2.trans g2.im, z', g3⟩
    · obtain ⟨p1, p2, z, p3⟩ := p
      exact hd d z σ' H' p1 (fun b o nb hb => (del_some.mp (p2 b o (del_some.mpr ⟨by rw [List.mem_cons, List.mem_singleton]; rintro (e | e); exact absurd (e1 _ _ hb) (by rw [e, hd0]; exact fun z => nomatch z); exact nb e, e2 _ _ (e1 _ _ hb)⟩))).2) p3⟩

section
variable {K : PySem.W.Frag} {α β γ δ R τ : Type} {E E' : XK} {cl : Nat → Addr} {M : List Addr} {σ : L2.St} {I I' H H' : Hp} {S S' S1 S2 S3 : List Cell} {te ta tb tc to tv : TE} {t : Ty α} {u : Ty β}
theorem em_toEr {r : Re α} {i : Nat} (h : Em E cl M te σ I S t r S') (e : r = .er i) : Em E cl M te σ I S kN (.er i) S' := by
  subst e
  exact em_er h
theorem em_kXL2 {xs : List α} (h : Em E cl M te σ I S (kL K t) (.ok xs) S') : Em E cl M te σ I S (kL K t) (.ok xs) S' := h
theorem o_eqNil : Op2 (rEqD K) (kL K t) ([] : List α) (kL K t) [] kB true := fun M v1 v2 H l a b Q q => by
  obtain ⟨p, vs, rfl, hp, ha⟩ := a
  obtain ⟨p2, vs2, rfl, hp2, ha2⟩ := b
  cases ha
  cases ha2
  exact ⟨.list [], .list [], .lst (ex_l del_le hp) .nil, .lst (ex_l del_le hp2) .nil, rfl, rfl, q _ H (Ex.refl H) rfl⟩
theorem ix_listK {X : Cx} {K : PySem.W.Frag} (h : X.K = K := by rfl) : IxR X (rIxL K) := by
  subst h
  exact ix_list
end
theorem cr_maxK {X : Cx} {K : PySem.W.Frag} (hc : X.calm = true) (h : X.K = K := by rfl) : CallR X (.builtin "max") (rMax K) := by
  subst h
  exact cr_max hc
theorem cr_minK {X : Cx} {K : PySem.W.Frag} (hc : X.calm = true) (h : X.K = K := by rfl) : CallR X (.builtin "min") (rMin K) := by
  subst h
  exact cr_min hc
theorem cr_minTK {X : Cx} {K : PySem.W.Frag} (hc : X.calm = true) (h : X.K = K := by rfl) : CallR X (.builtin "min") (rMinT K) := by
  subst h
  exact cr_minT hc
theorem cr_sumK {X : Cx} {K : PySem.W.Frag} (hc : X.calm = true) (h : X.K = K := by rfl) : CallR X (.builtin "sum") (rSum K) := by
  subst h
  exact cr_sum hc
theorem cr_sumTK {X : Cx} {K : PySem.W.Frag} (hc : X.calm = true) (h : X.K = K := by rfl) : CallR X (.builtin "sum") (rSumT K) := by
  subst h
  exact cr_sumT hc
theorem pe_cntK {X : Cx} {K : PySem.W.Frag} {o e : Expr} {es : List Expr} {to : TE} {t : TA} {apos cpos : Pos} (ho : PE X o to) (ha : PA X (e :: es) t) (h : X.K = K := by rfl)
    (h1 : attributeBase o "count" X.env (eval o X.env) = eval o X.env := by rfl)
    (h2 : ((backTo cpos (starEach (e :: es) X.env)).all (fun x => !x.1) && (backToKw cpos (keywordEach [] X.env)).all (fun x => x.1.isSome) && decide ((e :: es).length + ([] : List Keyword).length + (if ([] : List Keyword).isEmpty then 0 else 1) < 30)) = true := by rfl)
    (h3 : (apos.endLine == cpos.line) = true := by rfl) (h4 : starEach (e :: es) X.env = (false, eval e X.env) :: starEach es X.env := by rfl) (h5 : (backTo cpos (starEach es X.env)).any (·.1) = false := by rfl) :
    PE X (.Call (.Attribute o "count" apos) (e :: es) [] cpos) (tBM K "list" (rCntI K) to t) := by
  subst h
  exact pe_bm PySem.F.plainAttrs_list PySem.F.slot_list_count PySem.F.type_list_count mt_cntI ho ha h1 h2 h3 h4 h5
theorem op_eqDK {X : Cx} {K : PySem.W.Frag} (hu : X.A.units + 64 < cLine) (h : X.K = K := by rfl) : OpR X (compareOp .Eq) (rEqD K) := by
  subst h
  exact op_eqD hu
theorem op_neDK {X : Cx} {K : PySem.W.Frag} (hu : X.A.units + 64 < cLine) (h : X.K = K := by rfl) : OpR X (compareOp .NotEq) (rNeD K) := by
  subst h
  exact op_neD hu
theorem forK_true {α : Type} {b : α → Unit → (Unit → Bool) → (Unit → Bool) → Bool} {kn : Unit → Bool} (hk : kn () = true) : ∀ {xs : List α}, (∀ x ∈ xs, ∀ k1 k2 : Unit → Bool, k1 () = true → b x () k1 k2 = true) → forK b kn xs () = true
  | [], _ => hk
  | x :: xs, h => h x List.mem_cons_self _ _ (forK_true hk fun y hy => h y (List.mem_cons_of_mem _ hy))
section
variable {α β R : Type} {E : XK} {cl : Nat → Addr} {M : List Addr} {σ : L2.St} {H : Hp} {S S' : List Cell} {tr : TA} {t : Ty α} {u : Ty β} {x : α} {y : β} {P : R → Prop} {D : Ends}
theorem g_parL {i j : Nat} {kk : α → β → R} (w : Holds M S H) (o : P (lt x fun a => lt y fun b => kk a b)) (h : Ea E cl M tr σ (del M H) S (aC t (aC u a0)) (.ok (x, y, ())) S') (c : ∀ x' y' v1 v2 H2, x' = x → y' = y → P (kk x' y') → Gr M S H H2 → Holds M S' H2 → t.r (del M H2) v1 x' → u.r (del M H2) v2 y' → D.nx ((σ.set i (some v1)).set j (some v2)) H2) : tPar i j tr D σ H :=
  g_par (tz := fun _ σ' H' => D.nx σ' H') (D := D) w o h c
theorem g_tup2L {i j : Nat} {K : PySem.W.Frag} {kk : α → β → R} (w : Holds M S H) (o : P (lt x fun a => lt y fun b => kk a b)) (h : Ea E cl M tr σ (del M H) S (aC t (aC u a0)) (.ok (x, y, ())) S') (c : ∀ x' y' v1 v2 H2, x' = x → y' = y → P (kk x' y') → Gr M S H H2 → Holds M S' H2 → t.r (del M H2) v1 x' → u.r (del M H2) v2 y' → D.nx ((σ.set i (some v1)).set j (some v2)) H2) : tAsg (tTup tr) (gTup K 2 (gCons (gName i) (gCons (gName j) gNil))) D σ H :=
  g_tup2 (tz := fun _ σ' H' => D.nx σ' H') (D := D) w o h c
end
theorem cf {t r : Bool} (h : t = false) (k : r = true) : cond t false r = true := by rw [h]; exact k
theorem nd {p : Prop} [Decidable p] (h : p) : (!decide p) = false := by rw [decide_eq_true h]; rfl
theorem or_ff {a b : Bool} (h : a = false) (k : b = false) : (a || b) = false := by rw [h, k]; rfl
theorem atI_map {f : Int → Int} {n k : Int} (h : 0 ≤ k ∧ k < n) : (atI ((rng 0 n).map f) k).getD 0 = f k := by
  have e := atI_nat (xs := (rng 0 n).map f) (j := k.toNat) (v := f k) (by rw [List.getElem?_map, rng_get h]; rfl)
  rw [Int.toNat_of_nonneg h.1] at e
  rw [e]
  rfl
end Rw
namespace Rw
open PySem PySem.Spec PyProof.Rows L2 Evl

theorem div_small {a b : Int} (h : 0 ≤ a) (h2 : a ≤ 1000) (h3 : 0 ≤ b) : 0 ≤ a / b ∧ a / b ≤ 1000 :=
  ⟨Int.ediv_nonneg h h3, Int.le_trans (Int.ediv_le_self b h) h2⟩

section
variable {P : Program} {w : World} {K : PySem.W.Frag} {mg : Str → Option Value} {base : Heap} {CR : Addr} {cl : Nat → Addr}

abbrev s_shared : Stmt := topS 16
def sharedN : List Str := ["one", "other"]
theorem sc_shared : FnScope sharedN ["one", "other"] (defScope s_shared) := ⟨rfl, rfl, rfl, by decide +kernel, rfl, by decide +kernel, by decide +kernel⟩
def f_shared : Int × Int × Unit → Re Int := fun a => match a with
  | (x0, x1, _) =>
    whK (fun s_307 : (Int × Int) => (!decide ((s_307.2) = (0 : Int))))
    (fun (s_333 : (Int × Int)) (kn : (Int × Int) → _) (kb : (Int × Int) → _) =>
    lt (s_333.2) fun one_346 => lt ((s_333.1) % (s_333.2)) fun other_347 =>
    kn (one_346, other_347))
    (fun (s_315 : (Int × Int)) =>
    (.ok (if (s_315.1) < 0 then -(s_315.1) else (s_315.1)))) (x1.toNat) (x0, x1)
def pre_shared : Int × Int × Unit → Prop := fun a => match a with
  | (x0, x1, _) => 0 ≤ x1 ∧ x1 ≤ 1000000
abbrev sp_shared (K : PySem.W.Frag)  (cl : Nat → Addr) : Sp := spD (aC kI (aC kI a0)) pre_shared f_shared kI cl
theorem ok_shared {f : Addr} {fd : FuncData} (F : Fun K "shared" "shared" s_shared f fd) (B : BD mg) : FnOk P w K mg base (L2.CX P w) 1 f fd ["one", "other"] (sp_shared K  cl) := by
  refine F.okX sc_shared (fun vs H Q E h => ?_) (fun cdv A outer s H vs Q E hr h => ?_)
  · obtain ⟨M, a, live, hA, _⟩ := h
    obtain ⟨v0, _, rfl, r0, v1, _, rfl, r1, rfl⟩ := hA
    rfl
  · obtain ⟨M, ⟨x0, x1, _⟩, live, hA, hpre, qok, qer⟩ := h
    obtain ⟨v0, _, rfl, r0, v1, _, rfl, r1, rfl⟩ := hA
    obtain rfl : v0 = (.int x0) := r0
    obtain rfl : v1 = (.int x1) := r1
    have hpre : 0 ≤ x1 ∧ x1 ≤ 1000000 := hpre
    have w0 : Holds M [] H := hold0 live
    have o0 : Pr (f_shared (x0, x1, ())) (whK (fun s_307 : (Int × Int) => (!decide ((s_307.2) = (0 : Int))))
(fun (s_333 : (Int × Int)) (kn : (Int × Int) → _) (kb : (Int × Int) → _) =>
lt (s_333.2) fun one_346 => lt ((s_333.1) % (s_333.2)) fun other_347 =>
kn (one_346, other_347))
(fun (s_315 : (Int × Int)) =>
(.ok (if (s_315.1) < 0 then -(s_315.1) else (s_315.1)))) (x1.toNat) (x0, x1)) := rfl
    refine ⟨_, pss_cons (ps_while (passes_of rfl) (pt_cmpR op_ne (pv 1) pe_int (nomark _)) (pss_one (ps_par (i := 0) (j := 1) rfl sc_shared.nd rfl rfl (by decide) rfl rfl (pa_cons (pv 1) (pa_cons (pe_op op_mod (pv 0) (pv 1)) pa_nil)) rfl))) (pss_one (ps_ret (pe_callB call_abs (by rfl) B.abs (by decide +kernel) (pa_cons (pv 0) pa_nil)))), ?_⟩
    refine g_while (E := E) (cl := cl) (c := (fun s_307 : (Int × Int) => (!decide ((s_307.2) = (0 : Int))))) (n := x1.toNat) (s0 := (x0, x1)) (Sx := (fun s : (Int × Int) => [])) (fun (n : Nat) (s : (Int × Int)) => 0 ≤ (s.2) ∧ (s.2) ≤ (n : Int)) (fun (I : Hp) (s : (Int × Int)) (σ : L2.St) => σ = [some (.int (s.1)), some (.int (s.2))]) w0 o0 (fun _ => rfl) (by show 0 ≤ x1 ∧ _; omega) (fun s h => by have := h.1; have := h.2; simp; omega) rfl (fun n_306 s_307 σ_308 H_309 ok_310 g_311 w_312 rv_313 => ?_) (fun n_314 s_315 σ_316 I_317 H_318 ok_319 hc_320 g_321 w_322 e_323 rv_324 o_325 => ?_) (fun hd_331 n_332 s_333 σ_334 I_335 H_336 ok_337 hc_338 g_339 w_340 e_341 rv_342 o_343 Nx_344 nx_345 => ?_)
    · obtain ⟨rfl⟩ := rv_313
      have ok1 := ok_310.1; have ok2 := ok_310.2
      exact (gt_test (em_op (em_var (t := kI) (v := (.int (s_307.2))) (x := (s_307.2)) rfl rfl) em_int o_neI))
    · obtain ⟨rfl⟩ := rv_324
      have hc_320' : ((!decide ((s_315.2) = (0 : Int)))) = false := hc_320
      simp only [decide_eq_true_eq, decide_eq_false_iff_not, Bool.and_eq_true, Bool.or_eq_true, Bool.and_eq_false_iff, Bool.or_eq_false_iff, Bool.not_eq_true', Bool.not_eq_false'] at hc_320'
      have ok1 := ok_319.1; have ok2 := ok_319.2
      refine g_ret (E := E) (cl := cl) (t := kI) (x := (if (s_315.1) < 0 then -(s_315.1) else (s_315.1))) w_322 (em_cb (em_cons (em_var (t := kI) (v := (.int (s_315.1))) (x := (s_315.1)) rfl rfl) em_nil) o_abs) (fun v_326 H_327 g_328 w_329 r_330 => ?_)
      exact qok _ v_326 H_327 o_325 (show Ex H _ from Gr.fr (g_321.then g_328 rfl)) r_330
    · obtain ⟨rfl⟩ := rv_342
      have hc_338' : ((!decide ((s_333.2) = (0 : Int)))) = true := hc_338
      simp only [decide_eq_true_eq, decide_eq_false_iff_not, Bool.and_eq_true, Bool.or_eq_true, Bool.and_eq_false_iff, Bool.or_eq_false_iff, Bool.not_eq_true', Bool.not_eq_false'] at hc_338'
      have ok1 := ok_337.1; have ok2 := ok_337.2
      refine g_parL (E := E) (cl := cl) (i := 0) (j := 1) (t := kI) (u := kI) (x := (s_333.2)) (y := ((s_333.1) % (s_333.2))) w_340 o_343 (em_cons (em_var (t := kI) (v := (.int (s_333.2))) (x := (s_333.2)) rfl rfl) (em_cons (em_op (em_var (t := kI) (v := (.int (s_333.1))) (x := (s_333.1)) rfl rfl) (em_var (t := kI) (v := (.int (s_333.2))) (x := (s_333.2)) rfl rfl) (o_IC (C := fun _ j => 0 < j) (by first | (show (0 : Int) < _; omega) | (dsimp only; show (0 : Int) < _; omega)))) em_nil)) (fun one_346 other_347 v_348 v_349 H_352 hx_356 hx_357 o_353 g_354 w_355 r_350 r_351 => ?_)
      obtain rfl : v_348 = (.int one_346) := r_350
      obtain rfl : v_349 = (.int other_347) := r_351
      exact nx_345 (one_346, other_347) _ _ (by have q1 := Int.emod_nonneg (s_333.1) hc_338'; have q2 := Int.emod_lt_of_pos (s_333.1) (b := (s_333.2)) (by omega); exact ⟨by omega, by omega⟩) o_353 (Gr.cast g_354 rfl) w_355 rfl

abbrev s_opposite_of : Stmt := topS 28
def opposite_ofN : List Str := ["number", "size", "found", "later", "left", "rest", "times"]
theorem sc_opposite_of : FnScope opposite_ofN ["number", "size"] (defScope s_opposite_of) := ⟨rfl, rfl, rfl, by decide +kernel, rfl, by decide +kernel, by decide +kernel⟩
def f_opposite_of : Int × Int × Unit → Re Int := fun a => match a with
  | (x0, x1, _) =>
    lt (1 : Int) fun found_358 =>
    lt (0 : Int) fun later_366 =>
    lt x0 fun left_374 =>
    lt x1 fun rest_382 =>
    whK (fun s_392 : (Int × Int × Int × Int) => (!decide ((s_392.2.2.2) = (0 : Int))))
    (fun (s_420 : (Int × Int × Int × Int)) (kn : (Int × Int × Int × Int) → _) (kb : (Int × Int × Int × Int) → _) =>
    lt ((s_420.2.2.1) / (s_420.2.2.2)) fun times_434 =>
    lt (s_420.2.1) fun found_442 => lt ((s_420.1) - (times_434 * (s_420.2.1))) fun later_443 =>
    lt (s_420.2.2.2) fun left_454 => lt ((s_420.2.2.1) - (times_434 * (s_420.2.2.2))) fun rest_455 =>
    kn (found_442, later_443, left_454, rest_455))
    (fun (s_401 : (Int × Int × Int × Int)) =>
    (.ok (s_401.1))) (x1.toNat) (found_358, later_366, left_374, rest_382)
def pre_opposite_of : Int × Int × Unit → Prop := fun a => match a with
  | (x0, x1, _) => 0 ≤ x0 ∧ x0 ≤ 1000 ∧ 0 ≤ x1 ∧ x1 ≤ 1000
abbrev sp_opposite_of (K : PySem.W.Frag)  (cl : Nat → Addr) : Sp := spD (aC kI (aC kI a0)) pre_opposite_of f_opposite_of kI cl
theorem ok_opposite_of {f : Addr} {fd : FuncData} (F : Fun K "opposite_of" "opposite_of" s_opposite_of f fd)  : FnOk P w K mg base (L2.CX P w) 1 f fd ["number", "size"] (sp_opposite_of K  cl) := by
  refine F.okX sc_opposite_of (fun vs H Q E h => ?_) (fun cdv A outer s H vs Q E hr h => ?_)
  · obtain ⟨M, a, live, hA, _⟩ := h
    obtain ⟨v0, _, rfl, r0, v1, _, rfl, r1, rfl⟩ := hA
    rfl
  · obtain ⟨M, ⟨x0, x1, _⟩, live, hA, hpre, qok, qer⟩ := h
    obtain ⟨v0, _, rfl, r0, v1, _, rfl, r1, rfl⟩ := hA
    obtain rfl : v0 = (.int x0) := r0
    obtain rfl : v1 = (.int x1) := r1
    have hpre : 0 ≤ x0 ∧ x0 ≤ 1000 ∧ 0 ≤ x1 ∧ x1 ≤ 1000 := hpre
    have w0 : Holds M [] H := hold0 live
    have o0 : Pr (f_opposite_of (x0, x1, ())) (lt (1 : Int) fun found_358 =>
lt (0 : Int) fun later_366 =>
lt x0 fun left_374 =>
lt x1 fun rest_382 =>
whK (fun s_392 : (Int × Int × Int × Int) => (!decide ((s_392.2.2.2) = (0 : Int))))
(fun (s_420 : (Int × Int × Int × Int)) (kn : (Int × Int × Int × Int) → _) (kb : (Int × Int × Int × Int) → _) =>
lt ((s_420.2.2.1) / (s_420.2.2.2)) fun times_434 =>
lt (s_420.2.1) fun found_442 => lt ((s_420.1) - (times_434 * (s_420.2.1))) fun later_443 =>
lt (s_420.2.2.2) fun left_454 => lt ((s_420.2.2.1) - (times_434 * (s_420.2.2.2))) fun rest_455 =>
kn (found_442, later_443, left_454, rest_455))
(fun (s_401 : (Int × Int × Int × Int)) =>
(.ok (s_401.1))) (x1.toNat) (found_358, later_366, left_374, rest_382)) := rfl
    refine ⟨_, pss_cons (ps_set (i := 2) sc_opposite_of.nd rfl (.inl rfl) pe_int) (pss_cons (ps_set (i := 3) sc_opposite_of.nd rfl (.inl rfl) pe_int) (pss_cons (ps_set (i := 4) sc_opposite_of.nd rfl (.inl rfl) (pv 0)) (pss_cons (ps_set (i := 5) sc_opposite_of.nd rfl (.inl rfl) (pv 1)) (pss_cons (ps_while (passes_of rfl) (pt_cmpR op_ne (pv 5) pe_int (nomark _)) (pss_cons (ps_set (i := 6) sc_opposite_of.nd rfl (.inl rfl) (pe_op op_fdiv (pv 4) (pv 5))) (pss_cons (ps_par (i := 2) (j := 3) rfl sc_opposite_of.nd rfl rfl (by decide) rfl rfl (pa_cons (pv 3) (pa_cons (pe_op op_sub (pv 2) (pe_op op_mul (pv 6) (pv 3))) pa_nil)) rfl) (pss_one (ps_par (i := 4) (j := 5) rfl sc_opposite_of.nd rfl rfl (by decide) rfl rfl (pa_cons (pv 5) (pa_cons (pe_op op_sub (pv 4) (pe_op op_mul (pv 6) (pv 5))) pa_nil)) rfl))))) (pss_one (ps_ret (pv 2))))))), ?_⟩
    refine g_asg (E := E) (cl := cl) (i := 2) (t := kI) (x := (1 : Int)) w0 o0 em_int (fun found_358 v_359 H_360 hx_361 o_362 g_363 w_364 r_365 => ?_)
    obtain rfl : v_359 = (.int found_358) := r_365
    refine g_asg (E := E) (cl := cl) (i := 3) (t := kI) (x := (0 : Int)) w_364 o_362 em_int (fun later_366 v_367 H_368 hx_369 o_370 g_371 w_372 r_373 => ?_)
    obtain rfl : v_367 = (.int later_366) := r_373
    refine g_asg (E := E) (cl := cl) (i := 4) (t := kI) (x := x0) w_372 o_370 (em_var (t := kI) (v := (.int x0)) (x := x0) rfl rfl) (fun left_374 v_375 H_376 hx_377 o_378 g_379 w_380 r_381 => ?_)
    obtain rfl : v_375 = (.int left_374) := r_381
    refine g_asg (E := E) (cl := cl) (i := 5) (t := kI) (x := x1) w_380 o_378 (em_var (t := kI) (v := (.int x1)) (x := x1) rfl rfl) (fun rest_382 v_383 H_384 hx_385 o_386 g_387 w_388 r_389 => ?_)
    obtain rfl : v_383 = (.int rest_382) := r_389
    refine g_while (E := E) (cl := cl) (c := (fun s_392 : (Int × Int × Int × Int) => (!decide ((s_392.2.2.2) = (0 : Int))))) (n := x1.toNat) (s0 := (found_358, later_366, left_374, rest_382)) (Sx := (fun s : (Int × Int × Int × Int) => [])) (fun (n : Nat) (s : (Int × Int × Int × Int)) => 0 ≤ (s.2.2.2) ∧ (s.2.2.2) ≤ (n : Int) ∧ (s.2.2.2) ≤ 1000 ∧ 0 ≤ (s.2.2.1) ∧ (s.2.2.1) ≤ 1000) (fun (I : Hp) (s : (Int × Int × Int × Int)) (σ : L2.St) => ∃ (l_390 : Option V), σ = [some (.int x0), some (.int x1), some (.int (s.1)), some (.int (s.2.1)), some (.int (s.2.2.1)), some (.int (s.2.2.2)), l_390]) w_388 o_386 (fun _ => rfl) (by show 0 ≤ rest_382 ∧ rest_382 ≤ _ ∧ rest_382 ≤ 1000 ∧ 0 ≤ left_374 ∧ left_374 ≤ 1000; omega) (fun s h => by have := h.1; have := h.2.1; simp; omega) ⟨_, rfl⟩ (fun n_391 s_392 σ_393 H_394 ok_395 g_396 w_397 rv_398 => ?_) (fun n_400 s_401 σ_402 I_403 H_404 ok_405 hc_406 g_407 w_408 e_409 rv_410 o_411 => ?_) (fun hd_418 n_419 s_420 σ_421 I_422 H_423 ok_424 hc_425 g_426 w_427 e_428 rv_429 o_430 Nx_431 nx_432 => ?_)
    · obtain ⟨l_399, rfl⟩ := rv_398
      have ok1 := ok_395.1; have ok2 := ok_395.2.1; have ok3 := ok_395.2.2.1; have ok4 := ok_395.2.2.2.1; have ok5 := ok_395.2.2.2.2; have ok6 := div_small ok4 ok5 ok1
      exact (gt_test (em_op (em_var (t := kI) (v := (.int (s_392.2.2.2))) (x := (s_392.2.2.2)) rfl rfl) em_int o_neI))
    · obtain ⟨l_412, rfl⟩ := rv_410
      have hc_406' : ((!decide ((s_401.2.2.2) = (0 : Int)))) = false := hc_406
      simp only [decide_eq_true_eq, decide_eq_false_iff_not, Bool.and_eq_true, Bool.or_eq_true, Bool.and_eq_false_iff, Bool.or_eq_false_iff, Bool.not_eq_true', Bool.not_eq_false'] at hc_406'
      have ok1 := ok_405.1; have ok2 := ok_405.2.1; have ok3 := ok_405.2.2.1; have ok4 := ok_405.2.2.2.1; have ok5 := ok_405.2.2.2.2; have ok6 := div_small ok4 ok5 ok1
      refine g_ret (E := E) (cl := cl) (t := kI) (x := (s_401.1)) w_408 (em_var (t := kI) (v := (.int (s_401.1))) (x := (s_401.1)) rfl rfl) (fun v_413 H_414 g_415 w_416 r_417 => ?_)
      exact qok _ v_413 H_414 o_411 (show Ex H _ from Gr.fr (((((g_363.then g_371 rfl).then g_379 rfl).then g_387 rfl).then g_407 rfl).then g_415 rfl)) r_417
    · obtain ⟨l_433, rfl⟩ := rv_429
      have hc_425' : ((!decide ((s_420.2.2.2) = (0 : Int)))) = true := hc_425
      simp only [decide_eq_true_eq, decide_eq_false_iff_not, Bool.and_eq_true, Bool.or_eq_true, Bool.and_eq_false_iff, Bool.or_eq_false_iff, Bool.not_eq_true', Bool.not_eq_false'] at hc_425'
      have ok1 := ok_424.1; have ok2 := ok_424.2.1; have ok3 := ok_424.2.2.1; have ok4 := ok_424.2.2.2.1; have ok5 := ok_424.2.2.2.2; have ok6 := div_small ok4 ok5 ok1
      refine g_asg (E := E) (cl := cl) (i := 6) (t := kI) (x := ((s_420.2.2.1) / (s_420.2.2.2))) w_427 o_430 (em_op (em_var (t := kI) (v := (.int (s_420.2.2.1))) (x := (s_420.2.2.1)) rfl rfl) (em_var (t := kI) (v := (.int (s_420.2.2.2))) (x := (s_420.2.2.2)) rfl rfl) (o_IC (C := CDiv) (g := fun i j => i / j) (by first | (exact ⟨by omega, by omega⟩) | (dsimp only; exact ⟨by omega, by omega⟩)))) (fun times_434 v_435 H_436 hx_437 o_438 g_439 w_440 r_441 => ?_)
      obtain rfl : v_435 = (.int times_434) := r_441
      refine g_par (E := E) (cl := cl) (i := 2) (j := 3) (t := kI) (u := kI) (x := (s_420.2.1)) (y := ((s_420.1) - (times_434 * (s_420.2.1)))) w_440 o_438 (em_cons (em_var (t := kI) (v := (.int (s_420.2.1))) (x := (s_420.2.1)) rfl rfl) (em_cons (em_op (em_var (t := kI) (v := (.int (s_420.1))) (x := (s_420.1)) rfl rfl) (em_op (em_var (t := kI) (v := (.int times_434)) (x := times_434) rfl rfl) (em_var (t := kI) (v := (.int (s_420.2.1))) (x := (s_420.2.1)) rfl rfl) (o_IC (by first | (first | exact .inl ⟨by omega, by omega⟩ | exact .inr ⟨by omega, by omega⟩) | (dsimp only; first | exact .inl ⟨by omega, by omega⟩ | exact .inr ⟨by omega, by omega⟩)))) o_I) em_nil)) (fun found_442 later_443 v_444 v_445 H_448 hx_452 hx_453 o_449 g_450 w_451 r_446 r_447 => ?_)
      obtain rfl : v_444 = (.int found_442) := r_446
      obtain rfl : v_445 = (.int later_443) := r_447
      refine g_parL (E := E) (cl := cl) (i := 4) (j := 5) (t := kI) (u := kI) (x := (s_420.2.2.2)) (y := ((s_420.2.2.1) - (times_434 * (s_420.2.2.2)))) w_451 o_449 (em_cons (em_var (t := kI) (v := (.int (s_420.2.2.2))) (x := (s_420.2.2.2)) rfl rfl) (em_cons (em_op (em_var (t := kI) (v := (.int (s_420.2.2.1))) (x := (s_420.2.2.1)) rfl rfl) (em_op (em_var (t := kI) (v := (.int times_434)) (x := times_434) rfl rfl) (em_var (t := kI) (v := (.int (s_420.2.2.2))) (x := (s_420.2.2.2)) rfl rfl) (o_IC (by first | (first | exact .inl ⟨by omega, by omega⟩ | exact .inr ⟨by omega, by omega⟩) | (dsimp only; first | exact .inl ⟨by omega, by omega⟩ | exact .inr ⟨by omega, by omega⟩)))) o_I) em_nil)) (fun left_454 rest_455 v_456 v_457 H_460 hx_464 hx_465 o_461 g_462 w_463 r_458 r_459 => ?_)
      obtain rfl : v_456 = (.int left_454) := r_458
      obtain rfl : v_457 = (.int rest_455) := r_459
      exact nx_432 (found_442, later_443, left_454, rest_455) _ _ (by have e : rest_455 = (s_420.2.2.1) % (s_420.2.2.2) := by { subst_vars; rw [Int.emod_def, Int.mul_comm] }; have q1 := Int.emod_nonneg (s_420.2.2.1) hc_425'; have q2 := Int.emod_lt_of_pos (s_420.2.2.1) (b := (s_420.2.2.2)) (by omega); show 0 ≤ rest_455 ∧ rest_455 ≤ _ ∧ rest_455 ≤ 1000 ∧ 0 ≤ left_454 ∧ left_454 ≤ 1000; exact ⟨by omega, by omega, by omega, by omega, by omega⟩) o_461 (Gr.cast ((g_439.then g_450 rfl).then g_462 rfl) rfl) w_463 ⟨_, rfl⟩

abbrev s_many_between : Stmt := topS 30
def many_betweenN : List Str := ["ring", "first", "last"]
theorem sc_many_between : FnScope many_betweenN ["ring", "first", "last"] (defScope s_many_between) := ⟨rfl, rfl, rfl, by decide +kernel, rfl, by decide +kernel, by decide +kernel⟩
def f_many_between : (Int × List Int × List Int) × Int × Int × Unit → Re Int := fun a => match a with
  | ((p0, l0, k0), x1, x2, _) =>
    cond (decide (x2 < x1))
    ((.er 5))
    ((.ok ((v_Ring_ahead ((p0, l0, k0), x2, ())) - (v_Ring_ahead ((p0, l0, k0), x1, ())))))
def pre_many_between : (Int × List Int × List Int) × Int × Int × Unit → Prop := fun a => match a with
  | ((p0, l0, k0), x1, x2, _) => True
abbrev sp_many_between (K : PySem.W.Frag) (CR : Addr) (cl : Nat → Addr) : Sp := spD (aC (k_Rg K CR) (aC kI (aC kI a0))) pre_many_between f_many_between kI cl
theorem ok_many_between {f : Addr} {fd : FuncData} (F : Fun K "many_between" "many_between" s_many_between f fd) (m_ahead : Mt P w K mg base 2 CR "ahead" (sp_Ring_ahead K CR cl) []) (xBadSize : Exc1 K mg "BadSize" (cl 5)) : FnOk P w K mg base (L2.CX P w) 3 f fd ["ring", "first", "last"] (sp_many_between K CR cl) := by
  refine F.okX sc_many_between (fun vs H Q E h => ?_) (fun cdv A outer s H vs Q E hr h => ?_)
  · obtain ⟨M, a, live, hA, _⟩ := h
    obtain ⟨v0, _, rfl, r0, v1, _, rfl, r1, v2, _, rfl, r2, rfl⟩ := hA
    rfl
  · obtain ⟨M, ⟨⟨p0, l0, k0⟩, x1, x2, _⟩, live, hA, hpre, qok, qer⟩ := h
    obtain ⟨v0, _, rfl, r0, v1, _, rfl, r1, v2, _, rfl, r2, rfl⟩ := hA
    obtain rfl : v1 = (.int x1) := r1
    obtain rfl : v2 = (.int x2) := r2
    have iv0 : I_Rg (p0, l0, k0) := inv_Rg r0
    obtain ⟨ia0, ib0, ik0, iu0, ir0, il0⟩ := iv0
    have w0 : Holds M [] H := hold0 live
    have o0 : Pr (f_many_between ((p0, l0, k0), x1, x2, ())) (cond (decide (x2 < x1))
((.er 5))
((.ok ((v_Ring_ahead ((p0, l0, k0), x2, ())) - (v_Ring_ahead ((p0, l0, k0), x1, ())))))) := rfl
    refine ⟨_, pss_cons (ps_if (pt_cmpR op_lt (pv 2) (pv 1) (nomark _)) (pss_one (ps_raiseX xBadSize)) (pss_nil)) (pss_one (ps_ret (pe_op op_sub (pe_mk m_ahead hr (by decide) passL (pv 0) (pa_cons (pv 2) pa_nil)) (pe_mk m_ahead hr (by decide) passL (pv 0) (pa_cons (pv 1) pa_nil))))), ?_⟩
    refine g_when (E := E) (cl := cl) (b := (decide (x2 < x1))) w0 o0 (gt_test (em_op (em_var (t := kI) (v := (.int x2)) (x := x2) rfl rfl) (em_var (t := kI) (v := (.int x1)) (x := x1) rfl rfl) o_IB)) (fun hb_467 o_468 H_466 g_469 w_470 => ?_) (fun hb_472 o_473 H_471 g_474 w_475 => ?_)
    · simp only [decide_eq_true_eq, decide_eq_false_iff_not, Bool.and_eq_true, Bool.or_eq_true, Bool.and_eq_false_iff, Bool.or_eq_false_iff, Bool.not_eq_true', Bool.not_eq_false'] at hb_467
      have r_476 := (k_Rg K CR).up g_469.im r0
      exact qer 5 _ o_468 (show Ex H _ from Gr.fr g_469)
    · simp only [decide_eq_true_eq, decide_eq_false_iff_not, Bool.and_eq_true, Bool.or_eq_true, Bool.and_eq_false_iff, Bool.or_eq_false_iff, Bool.not_eq_true', Bool.not_eq_false'] at hb_472
      have r_477 := (k_Rg K CR).up g_474.im r0
      refine g_ret (E := E) (cl := cl) (t := kI) (x := ((v_Ring_ahead ((p0, l0, k0), x2, ())) - (v_Ring_ahead ((p0, l0, k0), x1, ())))) w_475 (em_op (em_methP (pre := pre_Ring_ahead) (f := f_Ring_ahead) (y := (v_Ring_ahead ((p0, l0, k0), x2, ()))) (b := (x2, ())) (em_var (t := (k_Rg K CR)) (v := v0) (x := (p0, l0, k0)) rfl r_477) (ob_Rg fun _ _ _ => rfl) (em_cons (em_var (t := kI) (v := (.int x2)) (x := x2) rfl rfl) em_nil) args_mG (by exact trivial) (by first | (exact is_Ring_ahead _) | (dsimp only; exact is_Ring_ahead _))) (em_methP (pre := pre_Ring_ahead) (f := f_Ring_ahead) (y := (v_Ring_ahead ((p0, l0, k0), x1, ()))) (b := (x1, ())) (em_var (t := (k_Rg K CR)) (v := v0) (x := (p0, l0, k0)) rfl r_477) (ob_Rg fun _ _ _ => rfl) (em_cons (em_var (t := kI) (v := (.int x1)) (x := x1) rfl rfl) em_nil) args_mG (by exact trivial) (by first | (exact is_Ring_ahead _) | (dsimp only; exact is_Ring_ahead _))) o_I) (fun v_478 H_479 g_480 w_481 r_482 => ?_)
      exact qok _ v_478 H_479 o_473 (show Ex H _ from Gr.fr (g_474.then g_480 rfl)) r_482
end
end Rw
namespace Rw
open PySem PySem.Spec PyProof.Rows L2 Evl

theorem sh_eq {a b : Int} (ha : 0 ≤ a) (hb : 0 ≤ b) : f_shared (a, b, ()) = .ok ((Int.gcd a b : Nat) : Int) := by
  have k : ∀ (n : Nat) (a b : Int), 0 ≤ a → 0 ≤ b → b ≤ n → whK (fun s : Int × Int => !decide (s.2 = 0)) (fun s (kn : Int × Int → Re Int) _ => lt s.2 fun one => lt (s.1 % s.2) fun other => kn (one, other)) (fun s => .ok (if s.1 < 0 then -s.1 else s.1)) n (a, b) = .ok ((Int.gcd a b : Nat) : Int) := by
    intro n
    induction n with
    | zero =>
      intro a b ha hb h
      obtain rfl : b = 0 := by omega
      show Re.ok (if a < 0 then -a else a) = _
      rw [if_neg (by omega), Int.gcd_zero_right]
      exact congrArg Re.ok (by omega)
    | succ n ih =>
      intro a b ha hb h
      show cond (!decide (b = 0)) _ (Re.ok (if a < 0 then -a else a)) = _
      by_cases h0 : b = 0
      · subst h0
        show Re.ok (if a < 0 then -a else a) = _
        rw [if_neg (by omega), Int.gcd_zero_right]
        exact congrArg Re.ok (by omega)
      · rw [decide_eq_false h0]
        refine (ih b (a % b) hb (Int.emod_nonneg a h0) ?_).trans ?_
        · have := Int.emod_lt_of_pos a (b := b) (by omega); omega
        · obtain ⟨m, rfl⟩ : ∃ m : Nat, a = m := ⟨a.toNat, by omega⟩
          obtain ⟨k, rfl⟩ : ∃ k : Nat, b = k := ⟨b.toNat, by omega⟩
          show Re.ok (((Nat.gcd k (m % k) : Nat) : Int)) = Re.ok (((Nat.gcd m k : Nat) : Int))
          rw [Nat.gcd_comm k, ← Nat.gcd_rec, Nat.gcd_comm]
  exact k _ _ _ ha hb (by omega)
theorem gcd_pos {a b : Int} (h : 1 ≤ a) : 1 ≤ ((Int.gcd a b : Nat) : Int) ∧ ((Int.gcd a b : Nat) : Int) ≤ a := by
  have h1 := Nat.gcd_pos_of_pos_left (m := a.natAbs) b.natAbs (by omega)
  have h2 := Nat.gcd_le_left b.natAbs (m := a.natAbs) (by omega)
  have e : Int.gcd a b = Nat.gcd a.natAbs b.natAbs := rfl
  rw [e]
  omega
theorem lcm_few {a b : Int} (h1 : 1 ≤ a) (h2 : a ≤ 8) (h3 : 1 ≤ b) (h4 : b ≤ 8) : (1 ≤ a * (b / ((Int.gcd a b : Nat) : Int)) ∧ a * (b / ((Int.gcd a b : Nat) : Int)) ≤ 63) ∧ (1 ≤ b * (a / ((Int.gcd a b : Nat) : Int)) ∧ b * (a / ((Int.gcd a b : Nat) : Int)) ≤ 63) := by
  obtain ⟨m, rfl⟩ : ∃ m : Nat, a = m := ⟨a.toNat, by omega⟩
  obtain ⟨n, rfl⟩ : ∃ n : Nat, b = n := ⟨b.toNat, by omega⟩
  have hm : m < 9 := by omega
  have hn : n < 9 := by omega
  have all : ∀ m : Fin 9, ∀ n : Fin 9, 1 ≤ m.val → 1 ≤ n.val → (1 ≤ ((m.val : Nat) : Int) * ((n.val : Int) / ((Int.gcd m.val n.val : Nat) : Int)) ∧ ((m.val : Nat) : Int) * ((n.val : Int) / ((Int.gcd m.val n.val : Nat) : Int)) ≤ 63) ∧ (1 ≤ ((n.val : Nat) : Int) * ((m.val : Int) / ((Int.gcd m.val n.val : Nat) : Int)) ∧ ((n.val : Nat) : Int) * ((m.val : Int) / ((Int.gcd m.val n.val : Nat) : Int)) ≤ 63) := by decide +kernel
  exact all ⟨m, hm⟩ ⟨n, hn⟩ (by show 1 ≤ m; omega) (by show 1 ≤ n; omega)

section
variable {P : Program} {w : World} {K : PySem.W.Frag} {mg : Str → Option Value} {base : Heap} {CR : Addr} {cl : Nat → Addr}

abbrev s_paired : Stmt := topS 22
def pairedN : List Str := ["one", "other", "common"]
theorem sc_paired : FnScope pairedN ["one", "other"] (defScope s_paired) := ⟨rfl, rfl, rfl, by decide +kernel, rfl, by decide +kernel, by decide +kernel⟩
def f_paired : (Int × List Int × List Int) × (Int × List Int × List Int) × Unit → Re ((Int × List Int × List Int) × (Int × List Int × List Int)) := fun a => match a with
  | ((p0, l0, k0), (p1, l1, k1), _) =>
    lt ((Int.gcd p0 p1 : Nat) : Int) fun common_483 =>
    (.ok ((v_widened ((p0, l0, k0), (p1 / common_483), ())), (v_widened ((p1, l1, k1), (p0 / common_483), ()))))
def pre_paired : (Int × List Int × List Int) × (Int × List Int × List Int) × Unit → Prop := fun a => match a with
  | ((p0, l0, k0), (p1, l1, k1), _) => p0 ≤ 8 ∧ p1 ≤ 8
abbrev sp_paired (K : PySem.W.Frag) (CR : Addr) (cl : Nat → Addr) : Sp := spD (aC (k_Rg K CR) (aC (k_Rg K CR) a0)) pre_paired f_paired (k2 K (k_Rg K CR) (k_Rg K CR)) cl
theorem ok_paired {f : Addr} {fd : FuncData} (F : Fun K "paired" "paired" s_paired f fd) (T_Rg : Tt_Rg K CR) (c_shared : Cal P w K mg base 1 "shared" (sp_shared K cl) []) (c_widened : Cal P w K mg base 3 "widened" (sp_widened K CR cl) []) : FnOk P w K mg base (L2.CX P w) 4 f fd ["one", "other"] (sp_paired K CR cl) := by
  refine F.okX sc_paired (fun vs H Q E h => ?_) (fun cdv A outer s H vs Q E hr h => ?_)
  · obtain ⟨M, a, live, hA, _⟩ := h
    obtain ⟨v0, _, rfl, r0, v1, _, rfl, r1, rfl⟩ := hA
    rfl
  · obtain ⟨M, ⟨⟨p0, l0, k0⟩, ⟨p1, l1, k1⟩, _⟩, live, hA, hpre, qok, qer⟩ := h
    obtain ⟨v0, _, rfl, r0, v1, _, rfl, r1, rfl⟩ := hA
    have iv0 : I_Rg (p0, l0, k0) := inv_Rg r0
    obtain ⟨ia0, ib0, ik0, iu0, ir0, il0⟩ := iv0
    have iv1 : I_Rg (p1, l1, k1) := inv_Rg r1
    obtain ⟨ia1, ib1, ik1, iu1, ir1, il1⟩ := iv1
    have hpre : p0 ≤ 8 ∧ p1 ≤ 8 := hpre
    have w0 : Holds M [] H := hold0 live
    have o0 : Pr (f_paired ((p0, l0, k0), (p1, l1, k1), ())) (lt ((Int.gcd p0 p1 : Nat) : Int) fun common_483 =>
(.ok ((v_widened ((p0, l0, k0), (p1 / common_483), ())), (v_widened ((p1, l1, k1), (p0 / common_483), ()))))) := rfl
    refine ⟨_, pss_cons (ps_set (i := 2) sc_paired.nd rfl (.inl rfl) (pe_k c_shared hr (by decide) passL (pa_cons (pe_fld (pv 0) rfl) (pa_cons (pe_fld (pv 1) rfl) pa_nil)))) (pss_one (ps_ret (pe_tup (pa_cons (pe_k c_widened hr (by decide) passL (pa_cons (pv 0) (pa_cons (pe_op op_fdiv (pe_fld (pv 1) rfl) (pv 2)) pa_nil))) (pa_cons (pe_k c_widened hr (by decide) passL (pa_cons (pv 1) (pa_cons (pe_op op_fdiv (pe_fld (pv 0) rfl) (pv 2)) pa_nil))) pa_nil))))), ?_⟩
    refine g_asg (E := E) (cl := cl) (i := 2) (t := kI) (x := ((Int.gcd p0 p1 : Nat) : Int)) w0 o0 (em_callP (y := ((Int.gcd p0 p1 : Nat) : Int)) (a := (p0, p1, ())) (em_cons (em_Rg_period T_Rg (em_var (t := (k_Rg K CR)) (v := v0) (x := (p0, l0, k0)) rfl r0)) (em_cons (em_Rg_period T_Rg (em_var (t := (k_Rg K CR)) (v := v1) (x := (p1, l1, k1)) rfl r1)) em_nil)) args_id (by first | (first | exact ⟨by omega, by omega⟩ | (dsimp only; exact ⟨by omega, by omega⟩)) | (dsimp only; first | exact ⟨by omega, by omega⟩ | (dsimp only; exact ⟨by omega, by omega⟩))) (by first | (exact sh_eq (by omega) (by omega)) | (dsimp only; exact sh_eq (by omega) (by omega)))) (fun common_483 v_484 H_485 hx_486 o_487 g_488 w_489 r_490 => ?_)
    have r_491 := (k_Rg K CR).up g_488.im r0
    have r_492 := (k_Rg K CR).up g_488.im r1
    obtain rfl : v_484 = (.int common_483) := r_490
    refine g_ret (E := E) (cl := cl) (t := (k2 K (k_Rg K CR) (k_Rg K CR))) (x := ((v_widened ((p0, l0, k0), (p1 / common_483), ())), (v_widened ((p1, l1, k1), (p0 / common_483), ())))) w_489 (em_t2 K (em_cons (em_callP (y := (v_widened ((p0, l0, k0), (p1 / common_483), ()))) (a := ((p0, l0, k0), (p1 / common_483), ())) (em_cons (em_var (t := (k_Rg K CR)) (v := v0) (x := (p0, l0, k0)) rfl r_491) (em_cons (em_op (em_Rg_period T_Rg (em_var (t := (k_Rg K CR)) (v := v1) (x := (p1, l1, k1)) rfl r_492)) (em_var (t := kI) (v := (.int common_483)) (x := common_483) rfl rfl) (o_IC (C := CDiv) (g := fun i j => i / j) (by have gp := gcd_pos (a := p0) (b := p1) (by omega); exact ⟨by omega, by omega⟩))) em_nil)) args_id (by first | (have lf := lcm_few (a := p0) (b := p1) (by omega) (by omega) (by omega) (by omega); subst_vars; first | exact lf.1 | exact lf.2) | (dsimp only; have lf := lcm_few (a := p0) (b := p1) (by omega) (by omega) (by omega) (by omega); subst_vars; first | exact lf.1 | exact lf.2)) (by first | (exact is_widened _) | (dsimp only; exact is_widened _))) (em_cons (em_callP (y := (v_widened ((p1, l1, k1), (p0 / common_483), ()))) (a := ((p1, l1, k1), (p0 / common_483), ())) (em_cons (em_var (t := (k_Rg K CR)) (v := v1) (x := (p1, l1, k1)) rfl r_492) (em_cons (em_op (em_Rg_period T_Rg (em_var (t := (k_Rg K CR)) (v := v0) (x := (p0, l0, k0)) rfl r_491)) (em_var (t := kI) (v := (.int common_483)) (x := common_483) rfl rfl) (o_IC (C := CDiv) (g := fun i j => i / j) (by have gp := gcd_pos (a := p0) (b := p1) (by omega); exact ⟨by omega, by omega⟩))) em_nil)) args_id (by first | (have lf := lcm_few (a := p0) (b := p1) (by omega) (by omega) (by omega) (by omega); subst_vars; first | exact lf.1 | exact lf.2) | (dsimp only; have lf := lcm_few (a := p0) (b := p1) (by omega) (by omega) (by omega) (by omega); subst_vars; first | exact lf.1 | exact lf.2)) (by first | (exact is_widened _) | (dsimp only; exact is_widened _))) em_nil))) (fun v_493 H_494 g_495 w_496 r_497 => ?_)
    exact qok _ v_493 H_494 o_487 (show Ex H _ from Gr.fr (g_488.then g_495 rfl)) r_497
def v_paired : (Int × List Int × List Int) × (Int × List Int × List Int) × Unit → ((Int × List Int × List Int) × (Int × List Int × List Int)) := fun a => match a with
  | ((p0, l0, k0), (p1, l1, k1), _) =>
    lt ((Int.gcd p0 p1 : Nat) : Int) fun common_483 =>
    (((v_widened ((p0, l0, k0), (p1 / common_483), ())), (v_widened ((p1, l1, k1), (p0 / common_483), ()))))
theorem is_paired (a : (Int × List Int × List Int) × (Int × List Int × List Int) × Unit) : f_paired a = .ok (v_paired a) := by
  obtain ⟨⟨p0, l0, k0⟩, ⟨p1, l1, k1⟩, _⟩ := a
  rfl
end
end Rw
namespace Rw
open PySem PySem.Spec PyProof.Rows L2 Evl

theorem o_catA {K : PySem.W.Frag} {α : Type} {t : Ty α} {xs ys : List α} (hl : xs.length + ys.length ≤ 100000) : Op2 (rCatA K) (kT K t) xs (kT K t) ys (kT K t) (xs ++ ys) := fun M v1 v2 H l a b Q q => by
  obtain ⟨p, vs, rfl, hp, ha⟩ := a
  obtain ⟨p2, vs2, rfl, hp2, ha2⟩ := b
  refine ⟨p, p2, vs, vs2, rfl, rfl, ex_t del_le hp, ex_t del_le hp2, sz_of (by rw [ha.len, ha2.len]; exact hl), fun z => ?_, fun _ z => ?_, fun _ _ q2 hq => q _ _ (Ex.new hq) ⟨q2, _, rfl, st_of (del_at (fresh_not l hq) upd_same), all2_up t (ex_del (Ex.new hq)) (ha.app ha2)⟩⟩
  · subst z; cases ha; exact q _ H (Ex.refl H) ⟨p2, vs2, rfl, hp2, ha2⟩
  · subst z; cases ha2; exact q _ H (Ex.refl H) ⟨p, vs, rfl, hp, by rw [List.append_nil]; exact ha⟩

section
variable {P : Program} {w : World} {K : PySem.W.Frag} {mg : Str → Option Value} {base : Heap} {CR : Addr} {cl : Nat → Addr}

abbrev s_either : Stmt := topS 23
def eitherN : List Str := ["one", "other", "ours", "theirs"]
theorem sc_either : FnScope eitherN ["one", "other"] (defScope s_either) := ⟨rfl, rfl, rfl, by decide +kernel, rfl, by decide +kernel, by decide +kernel⟩
def f_either : (Int × List Int × List Int) × (Int × List Int × List Int) × Unit → Re (Int × List Int × List Int) := fun a => match a with
  | ((p0, l0, k0), (p1, l1, k1), _) =>
    lt (v_paired ((p0, l0, k0), (p1, l1, k1), ())) fun _ =>
    (.ok (mkR (((v_paired ((p0, l0, k0), (p1, l1, k1), ()))).1).1 ((((v_paired ((p0, l0, k0), (p1, l1, k1), ()))).1).2.1 ++ (((v_paired ((p0, l0, k0), (p1, l1, k1), ()))).2).2.1)))
def pre_either : (Int × List Int × List Int) × (Int × List Int × List Int) × Unit → Prop := fun a => match a with
  | ((p0, l0, k0), (p1, l1, k1), _) => p0 ≤ 8 ∧ p1 ≤ 8
abbrev sp_either (K : PySem.W.Frag) (CR : Addr) (cl : Nat → Addr) : Sp := spD (aC (k_Rg K CR) (aC (k_Rg K CR) a0)) pre_either f_either (k_Rg K CR) cl
theorem ok_either {f : Addr} {fd : FuncData} (F : Fun K "either" "either" s_either f fd) (T_Rg : Tt_Rg K CR) (c_paired : Cal P w K mg base 4 "paired" (sp_paired K CR cl) []) (nRT : Nw P w K mg base 1 "Ring" CR (sp_Ring_initT K CR cl) []) : FnOk P w K mg base (L2.CX P w) 5 f fd ["one", "other"] (sp_either K CR cl) := by
  refine F.okX sc_either (fun vs H Q E h => ?_) (fun cdv A outer s H vs Q E hr h => ?_)
  · obtain ⟨M, a, live, hA, _⟩ := h
    obtain ⟨v0, _, rfl, r0, v1, _, rfl, r1, rfl⟩ := hA
    rfl
  · obtain ⟨M, ⟨⟨p0, l0, k0⟩, ⟨p1, l1, k1⟩, _⟩, live, hA, hpre, qok, qer⟩ := h
    obtain ⟨v0, _, rfl, r0, v1, _, rfl, r1, rfl⟩ := hA
    have iv0 : I_Rg (p0, l0, k0) := inv_Rg r0
    obtain ⟨ia0, ib0, ik0, iu0, ir0, il0⟩ := iv0
    have iv1 : I_Rg (p1, l1, k1) := inv_Rg r1
    obtain ⟨ia1, ib1, ik1, iu1, ir1, il1⟩ := iv1
    have hpre : p0 ≤ 8 ∧ p1 ≤ 8 := hpre
    have w0 : Holds M [] H := hold0 live
    have o0 : Pr (f_either ((p0, l0, k0), (p1, l1, k1), ())) (lt (v_paired ((p0, l0, k0), (p1, l1, k1), ())) fun _ =>
(.ok (mkR (((v_paired ((p0, l0, k0), (p1, l1, k1), ()))).1).1 ((((v_paired ((p0, l0, k0), (p1, l1, k1), ()))).1).2.1 ++ (((v_paired ((p0, l0, k0), (p1, l1, k1), ()))).2).2.1)))) := rfl
    refine ⟨_, pss_cons (ps_asg (pe_k c_paired hr (by decide) passL (pa_cons (pv 0) (pa_cons (pv 1) pa_nil))) (pg_tup rfl (pgs_cons (pg_name (i := 2) sc_either.nd rfl (.inl rfl)) (pgs_cons (pg_name (i := 3) sc_either.nd rfl (.inl rfl)) pgs_nil)))) (pss_one (ps_ret (pe_nw nRT hr (by decide) passL (pa_cons (pe_fld (pv 2) rfl) (pa_cons (pe_op op_catA (pe_fld (pv 2) rfl) (pe_fld (pv 3) rfl)) pa_nil))))), ?_⟩
    refine g_asgG (E := E) (cl := cl) (t := (k2 K (k_Rg K CR) (k_Rg K CR))) (x := (v_paired ((p0, l0, k0), (p1, l1, k1), ()))) w0 eg_2 o0 (em_callP (y := (v_paired ((p0, l0, k0), (p1, l1, k1), ()))) (a := ((p0, l0, k0), (p1, l1, k1), ())) (em_cons (em_var (t := (k_Rg K CR)) (v := v0) (x := (p0, l0, k0)) rfl r0) (em_cons (em_var (t := (k_Rg K CR)) (v := v1) (x := (p1, l1, k1)) rfl r1) em_nil)) args_id (by first | (exact ⟨by omega, by omega⟩) | (dsimp only; exact ⟨by omega, by omega⟩)) (by first | (exact is_paired _) | (dsimp only; exact is_paired _))) (fun p_498 σ_499 H_500 hx_501 o_502 g_503 w_504 b => ?_)
    subst hx_501
    have r_509 := (k_Rg K CR).up g_503.im r0
    have r_510 := (k_Rg K CR).up g_503.im r1
    obtain ⟨va_505, vb_506, ra_507, rb_508, rfl⟩ := b
    obtain ⟨iv_511a, iv_511b, iv_511k, iv_511u, iv_511r, iv_511l⟩ : 1 ≤ (((v_paired ((p0, l0, k0), (p1, l1, k1), ()))).1).1 ∧ (((v_paired ((p0, l0, k0), (p1, l1, k1), ()))).1).1 ≤ 5000 ∧ (((v_paired ((p0, l0, k0), (p1, l1, k1), ()))).1).2.2 = (((v_paired ((p0, l0, k0), (p1, l1, k1), ()))).1).2.1 ∧ (((v_paired ((p0, l0, k0), (p1, l1, k1), ()))).1).2.1.Pairwise (· < ·) ∧ (∀ x ∈ (((v_paired ((p0, l0, k0), (p1, l1, k1), ()))).1).2.1, 0 ≤ x ∧ x < (((v_paired ((p0, l0, k0), (p1, l1, k1), ()))).1).1) ∧ (((v_paired ((p0, l0, k0), (p1, l1, k1), ()))).1).2.1.length < 64 := inv_Rg ra_507
    obtain ⟨iv_512a, iv_512b, iv_512k, iv_512u, iv_512r, iv_512l⟩ : 1 ≤ (((v_paired ((p0, l0, k0), (p1, l1, k1), ()))).2).1 ∧ (((v_paired ((p0, l0, k0), (p1, l1, k1), ()))).2).1 ≤ 5000 ∧ (((v_paired ((p0, l0, k0), (p1, l1, k1), ()))).2).2.2 = (((v_paired ((p0, l0, k0), (p1, l1, k1), ()))).2).2.1 ∧ (((v_paired ((p0, l0, k0), (p1, l1, k1), ()))).2).2.1.Pairwise (· < ·) ∧ (∀ x ∈ (((v_paired ((p0, l0, k0), (p1, l1, k1), ()))).2).2.1, 0 ≤ x ∧ x < (((v_paired ((p0, l0, k0), (p1, l1, k1), ()))).2).1) ∧ (((v_paired ((p0, l0, k0), (p1, l1, k1), ()))).2).2.1.length < 64 := inv_Rg rb_508
    refine g_ret (E := E) (cl := cl) (t := (k_Rg K CR)) (x := (mkR (((v_paired ((p0, l0, k0), (p1, l1, k1), ()))).1).1 ((((v_paired ((p0, l0, k0), (p1, l1, k1), ()))).1).2.1 ++ (((v_paired ((p0, l0, k0), (p1, l1, k1), ()))).2).2.1))) w_504 (em_mkObP (a := ((((v_paired ((p0, l0, k0), (p1, l1, k1), ()))).1).1, ((((v_paired ((p0, l0, k0), (p1, l1, k1), ()))).1).2.1 ++ (((v_paired ((p0, l0, k0), (p1, l1, k1), ()))).2).2.1), ())) (pre := pre_Ring_initT) (f := f_Ring_initT) (Rr := R_Rg K) (up := fun e h => R_Rg_up e h) (em_cons (em_Rg_period T_Rg (em_var (t := (k_Rg K CR)) (v := va_505) (x := ((v_paired ((p0, l0, k0), (p1, l1, k1), ()))).1) rfl ra_507)) (em_cons (em_op (em_Rg_places T_Rg (em_var (t := (k_Rg K CR)) (v := va_505) (x := ((v_paired ((p0, l0, k0), (p1, l1, k1), ()))).1) rfl ra_507)) (em_Rg_places T_Rg (em_var (t := (k_Rg K CR)) (v := vb_506) (x := ((v_paired ((p0, l0, k0), (p1, l1, k1), ()))).2) rfl rb_508)) (o_catA (by omega))) em_nil)) args_id upA_RgT (by exact ring_pre (by exact (lcm_few (a := p0) (b := p1) (by omega) (by omega) (by omega) (by omega)).1.1) (by exact (lcm_few (a := p0) (b := p1) (by omega) (by omega) (by omega) (by omega)).1.2) (by rw [List.length_append]; omega)) (ring_okT (by exact (lcm_few (a := p0) (b := p1) (by omega) (by omega) (by omega) (by omega)).1.1) (by exact (lcm_few (a := p0) (b := p1) (by omega) (by omega) (by omega) (by omega)).1.2))) (fun v_513 H_514 g_515 w_516 r_517 => ?_)
    exact qok _ v_513 H_514 o_502 (show Ex H _ from Gr.fr (g_503.then g_515 rfl)) r_517
def v_either : (Int × List Int × List Int) × (Int × List Int × List Int) × Unit → (Int × List Int × List Int) := fun a => match a with
  | ((p0, l0, k0), (p1, l1, k1), _) =>
    lt (v_paired ((p0, l0, k0), (p1, l1, k1), ())) fun _ =>
    ((mkR (((v_paired ((p0, l0, k0), (p1, l1, k1), ()))).1).1 ((((v_paired ((p0, l0, k0), (p1, l1, k1), ()))).1).2.1 ++ (((v_paired ((p0, l0, k0), (p1, l1, k1), ()))).2).2.1)))
theorem is_either (a : (Int × List Int × List Int) × (Int × List Int × List Int) × Unit) : f_either a = .ok (v_either a) := by
  obtain ⟨⟨p0, l0, k0⟩, ⟨p1, l1, k1⟩, _⟩ := a
  rfl

abbrev s_common_to : Stmt := topS 24
def common_toN : List Str := ["one", "other", "ours", "theirs", "place"]
theorem sc_common_to : FnScope common_toN ["one", "other"] (defScope s_common_to) := ⟨rfl, rfl, rfl, by decide +kernel, rfl, by decide +kernel, by decide +kernel⟩
def f_common_to : (Int × List Int × List Int) × (Int × List Int × List Int) × Unit → Re (Int × List Int × List Int) := fun a => match a with
  | ((p0, l0, k0), (p1, l1, k1), _) =>
    lt (v_paired ((p0, l0, k0), (p1, l1, k1), ())) fun _ =>
    (.ok (mkR (((v_paired ((p0, l0, k0), (p1, l1, k1), ()))).1).1 (((((v_paired ((p0, l0, k0), (p1, l1, k1), ()))).1).2.1.filter (fun x_533 => (v_Ring_has (((v_paired ((p0, l0, k0), (p1, l1, k1), ()))).2, x_533, ())))).map (fun x_533 => x_533))))
def pre_common_to : (Int × List Int × List Int) × (Int × List Int × List Int) × Unit → Prop := fun a => match a with
  | ((p0, l0, k0), (p1, l1, k1), _) => p0 ≤ 8 ∧ p1 ≤ 8
abbrev sp_common_to (K : PySem.W.Frag) (CR : Addr) (cl : Nat → Addr) : Sp := spD (aC (k_Rg K CR) (aC (k_Rg K CR) a0)) pre_common_to f_common_to (k_Rg K CR) cl
theorem ok_common_to {f : Addr} {fd : FuncData} (F : Fun K "common_to" "common_to" s_common_to f fd) (T_Rg : Tt_Rg K CR) (c_paired : Cal P w K mg base 4 "paired" (sp_paired K CR cl) []) (nR : Nw P w K mg base 1 "Ring" CR (sp_Ring_init K CR cl) []) (m_has : Mt P w K mg base 1 CR "has" (sp_Ring_has K CR cl) []) : FnOk P w K mg base (L2.CX P w) 5 f fd ["one", "other"] (sp_common_to K CR cl) := by
  refine F.okX sc_common_to (fun vs H Q E h => ?_) (fun cdv A outer s H vs Q E hr h => ?_)
  · obtain ⟨M, a, live, hA, _⟩ := h
    obtain ⟨v0, _, rfl, r0, v1, _, rfl, r1, rfl⟩ := hA
    rfl
  · obtain ⟨M, ⟨⟨p0, l0, k0⟩, ⟨p1, l1, k1⟩, _⟩, live, hA, hpre, qok, qer⟩ := h
    obtain ⟨v0, _, rfl, r0, v1, _, rfl, r1, rfl⟩ := hA
    have iv0 : I_Rg (p0, l0, k0) := inv_Rg r0
    obtain ⟨ia0, ib0, ik0, iu0, ir0, il0⟩ := iv0
    have iv1 : I_Rg (p1, l1, k1) := inv_Rg r1
    obtain ⟨ia1, ib1, ik1, iu1, ir1, il1⟩ := iv1
    have hpre : p0 ≤ 8 ∧ p1 ≤ 8 := hpre
    have w0 : Holds M [] H := hold0 live
    have o0 : Pr (f_common_to ((p0, l0, k0), (p1, l1, k1), ())) (lt (v_paired ((p0, l0, k0), (p1, l1, k1), ())) fun _ =>
(.ok (mkR (((v_paired ((p0, l0, k0), (p1, l1, k1), ()))).1).1 (((((v_paired ((p0, l0, k0), (p1, l1, k1), ()))).1).2.1.filter (fun x_533 => (v_Ring_has (((v_paired ((p0, l0, k0), (p1, l1, k1), ()))).2, x_533, ())))).map (fun x_533 => x_533))))) := rfl
    refine ⟨_, pss_cons (ps_asg (pe_k c_paired hr (by decide) passL (pa_cons (pv 0) (pa_cons (pv 1) pa_nil))) (pg_tup rfl (pgs_cons (pg_name (i := 2) sc_common_to.nd rfl (.inl rfl)) (pgs_cons (pg_name (i := 3) sc_common_to.nd rfl (.inr rfl)) pgs_nil)))) (pss_one (ps_ret (pe_nw nR hr (by decide) passL (pa_cons (pe_fld (pv 2) rfl) (pa_cons (pe_lc (own := [("place", 4)]) (g := gName 4) (tt := _) rfl sc_common_to.nd (pi_tup (pe_fld (pv 2) rfl)) (blkOk_by (own := [("place", 4)]) (N := common_toN) (sc := defScope s_common_to) (by decide +kernel)) (fun _ _ _ _ _ => pg_name (i := 4) sc_common_to.nd rfl (Or.inl rfl)) (fun _ _ _ _ _ => pts_one (pt_val (pe_mk m_has hr (by decide) passL (pv 3) (pa_cons (pv 4) pa_nil)))) (fun _ _ _ _ _ => (pv 4))) pa_nil))))), ?_⟩
    refine g_asgG (E := E) (cl := cl) (t := (k2 K (k_Rg K CR) (k_Rg K CR))) (x := (v_paired ((p0, l0, k0), (p1, l1, k1), ()))) w0 eg_2 o0 (em_callP (y := (v_paired ((p0, l0, k0), (p1, l1, k1), ()))) (a := ((p0, l0, k0), (p1, l1, k1), ())) (em_cons (em_var (t := (k_Rg K CR)) (v := v0) (x := (p0, l0, k0)) rfl r0) (em_cons (em_var (t := (k_Rg K CR)) (v := v1) (x := (p1, l1, k1)) rfl r1) em_nil)) args_id (by first | (exact ⟨by omega, by omega⟩) | (dsimp only; exact ⟨by omega, by omega⟩)) (by first | (exact is_paired _) | (dsimp only; exact is_paired _))) (fun p_518 σ_519 H_520 hx_521 o_522 g_523 w_524 b => ?_)
    subst hx_521
    have r_529 := (k_Rg K CR).up g_523.im r0
    have r_530 := (k_Rg K CR).up g_523.im r1
    obtain ⟨va_525, vb_526, ra_527, rb_528, rfl⟩ := b
    obtain ⟨iv_531a, iv_531b, iv_531k, iv_531u, iv_531r, iv_531l⟩ : 1 ≤ (((v_paired ((p0, l0, k0), (p1, l1, k1), ()))).1).1 ∧ (((v_paired ((p0, l0, k0), (p1, l1, k1), ()))).1).1 ≤ 5000 ∧ (((v_paired ((p0, l0, k0), (p1, l1, k1), ()))).1).2.2 = (((v_paired ((p0, l0, k0), (p1, l1, k1), ()))).1).2.1 ∧ (((v_paired ((p0, l0, k0), (p1, l1, k1), ()))).1).2.1.Pairwise (· < ·) ∧ (∀ x ∈ (((v_paired ((p0, l0, k0), (p1, l1, k1), ()))).1).2.1, 0 ≤ x ∧ x < (((v_paired ((p0, l0, k0), (p1, l1, k1), ()))).1).1) ∧ (((v_paired ((p0, l0, k0), (p1, l1, k1), ()))).1).2.1.length < 64 := inv_Rg ra_527
    obtain ⟨iv_532a, iv_532b, iv_532k, iv_532u, iv_532r, iv_532l⟩ : 1 ≤ (((v_paired ((p0, l0, k0), (p1, l1, k1), ()))).2).1 ∧ (((v_paired ((p0, l0, k0), (p1, l1, k1), ()))).2).1 ≤ 5000 ∧ (((v_paired ((p0, l0, k0), (p1, l1, k1), ()))).2).2.2 = (((v_paired ((p0, l0, k0), (p1, l1, k1), ()))).2).2.1 ∧ (((v_paired ((p0, l0, k0), (p1, l1, k1), ()))).2).2.1.Pairwise (· < ·) ∧ (∀ x ∈ (((v_paired ((p0, l0, k0), (p1, l1, k1), ()))).2).2.1, 0 ≤ x ∧ x < (((v_paired ((p0, l0, k0), (p1, l1, k1), ()))).2).1) ∧ (((v_paired ((p0, l0, k0), (p1, l1, k1), ()))).2).2.1.length < 64 := inv_Rg rb_528
    refine g_ret (E := E) (cl := cl) (t := (k_Rg K CR)) (x := (mkR (((v_paired ((p0, l0, k0), (p1, l1, k1), ()))).1).1 (((((v_paired ((p0, l0, k0), (p1, l1, k1), ()))).1).2.1.filter (fun x_533 => (v_Ring_has (((v_paired ((p0, l0, k0), (p1, l1, k1), ()))).2, x_533, ())))).map (fun x_533 => x_533)))) w_524 (em_mkObP (a := ((((v_paired ((p0, l0, k0), (p1, l1, k1), ()))).1).1, (((((v_paired ((p0, l0, k0), (p1, l1, k1), ()))).1).2.1.filter (fun x_533 => (v_Ring_has (((v_paired ((p0, l0, k0), (p1, l1, k1), ()))).2, x_533, ())))).map (fun x_533 => x_533)), ())) (pre := pre_Ring_init) (f := f_Ring_init) (Rr := R_Rg K) (up := fun e h => R_Rg_up e h) (em_cons (em_Rg_period T_Rg (em_var (t := (k_Rg K CR)) (v := va_525) (x := ((v_paired ((p0, l0, k0), (p1, l1, k1), ()))).1) rfl ra_527)) (em_cons (em_lc (K := K) (u := kI) (fun x_533 => (v_Ring_has (((v_paired ((p0, l0, k0), (p1, l1, k1), ()))).2, x_533, ()))) (fun x_533 => x_533) (ei_T (em_Rg_places T_Rg (em_var (t := (k_Rg K CR)) (v := va_525) (x := ((v_paired ((p0, l0, k0), (p1, l1, k1), ()))).1) rfl ra_527))) (by first | (omega) | (dsimp only; omega)) eg_name (fun _ _ _ b => by obtain ⟨_, rfl, rfl⟩ := b; rfl) (fun M_539 S_540 I_534 x_533 s_538 e_535 m_536 b_537 => by obtain ⟨_, rfl, rfl⟩ := b_537; exact (gt_B (em_methP (pre := pre_Ring_has) (f := f_Ring_has) (y := (v_Ring_has (((v_paired ((p0, l0, k0), (p1, l1, k1), ()))).2, x_533, ()))) (b := (x_533, ())) (em_var (t := (k_Rg K CR)) (v := vb_526) (x := ((v_paired ((p0, l0, k0), (p1, l1, k1), ()))).2) rfl ((k_Rg K CR).up e_535 rb_528)) (ob_Rg fun _ _ _ => rfl) (em_cons (em_var (t := kI) (v := (.int x_533)) (x := x_533) rfl rfl) em_nil) args_mG (by exact trivial) (by first | (exact is_Ring_has _) | (dsimp only; exact is_Ring_has _))))) (fun M_539 S_540 I_534 x_533 s_538 e_535 m_536 c_543 b_537 => by obtain ⟨_, rfl, rfl⟩ := b_537; exact (em_var (t := kI) (v := (.int x_533)) (x := x_533) rfl rfl))) em_nil)) args_id upA_Rg (by exact ring_pre (by exact (lcm_few (a := p0) (b := p1) (by omega) (by omega) (by omega) (by omega)).1.1) (by exact (lcm_few (a := p0) (b := p1) (by omega) (by omega) (by omega) (by omega)).1.2) (by exact lf_len (by omega))) (ring_ok (by exact (lcm_few (a := p0) (b := p1) (by omega) (by omega) (by omega) (by omega)).1.1) (by exact (lcm_few (a := p0) (b := p1) (by omega) (by omega) (by omega) (by omega)).1.2))) (fun v_544 H_545 g_546 w_547 r_548 => ?_)
    exact qok _ v_544 H_545 o_522 (show Ex H _ from Gr.fr (g_523.then g_546 rfl)) r_548
def v_common_to : (Int × List Int × List Int) × (Int × List Int × List Int) × Unit → (Int × List Int × List Int) := fun a => match a with
  | ((p0, l0, k0), (p1, l1, k1), _) =>
    lt (v_paired ((p0, l0, k0), (p1, l1, k1), ())) fun _ =>
    ((mkR (((v_paired ((p0, l0, k0), (p1, l1, k1), ()))).1).1 (((((v_paired ((p0, l0, k0), (p1, l1, k1), ()))).1).2.1.filter (fun x_533 => (v_Ring_has (((v_paired ((p0, l0, k0), (p1, l1, k1), ()))).2, x_533, ())))).map (fun x_533 => x_533))))
theorem is_common_to (a : (Int × List Int × List Int) × (Int × List Int × List Int) × Unit) : f_common_to a = .ok (v_common_to a) := by
  obtain ⟨⟨p0, l0, k0⟩, ⟨p1, l1, k1⟩, _⟩ := a
  rfl
end
end Rw
namespace Rw
open PySem PySem.Spec PyProof.Rows L2 Evl

section
variable {P : Program} {w : World} {K : PySem.W.Frag} {mg : Str → Option Value} {base : Heap} {CR : Addr} {cl : Nat → Addr}

abbrev s_least : Stmt := topS 21
def leastN : List Str := ["ring", "period", "found", "place"]
theorem sc_least : FnScope leastN ["ring"] (defScope s_least) := ⟨rfl, rfl, rfl, by decide +kernel, rfl, by decide +kernel, by decide +kernel⟩
def f_least : (Int × List Int × List Int) × Unit → Re (Int × List Int × List Int) := fun a => match a with
  | ((p0, l0, k0), _) =>
    forK (fun (x_549 : Int) (s_550 : Unit) (kn : Unit → _) (kb : Unit → _) =>
    cond (decide ((p0 % x_549) = (0 : Int)))
    (lt (mkR x_549 ((l0.filter (fun x_583 => (decide (x_583 < x_549)))).map (fun x_583 => x_583))) fun _ =>
    cond (decide (((v_widened ((mkR x_549 ((l0.filter (fun x_583 => (decide (x_583 < x_549)))).map (fun x_583 => x_583))), (p0 / x_549), ()))).2.1 = l0))
    ((.ok (mkR x_549 ((l0.filter (fun x_583 => (decide (x_583 < x_549)))).map (fun x_583 => x_583)))))
    (kn ()))
    (kn ()))
    (fun (s_623 : Unit) =>
    (.ok (mkR p0 l0)))
    (rng (1 : Int) p0) ()
def pre_least : (Int × List Int × List Int) × Unit → Prop := fun a => match a with
  | ((p0, l0, k0), _) => p0 ≤ 63
abbrev sp_least (K : PySem.W.Frag) (CR : Addr) (cl : Nat → Addr) : Sp := spD (aC (k_Rg K CR) a0) pre_least f_least (k_Rg K CR) cl
theorem ok_least {f : Addr} {fd : FuncData} (F : Fun K "least" "least" s_least f fd) (T_Rg : Tt_Rg K CR) (B : BD mg) (nR : Nw P w K mg base 1 "Ring" CR (sp_Ring_init K CR cl) []) (nRT : Nw P w K mg base 1 "Ring" CR (sp_Ring_initT K CR cl) []) (c_widened : Cal P w K mg base 3 "widened" (sp_widened K CR cl) []) : FnOk P w K mg base (L2.CX P w) 4 f fd ["ring"] (sp_least K CR cl) := by
  refine F.okX sc_least (fun vs H Q E h => ?_) (fun cdv A outer s H vs Q E hr h => ?_)
  · obtain ⟨M, a, live, hA, _⟩ := h
    obtain ⟨v0, _, rfl, r0, rfl⟩ := hA
    rfl
  · obtain ⟨M, ⟨⟨p0, l0, k0⟩, _⟩, live, hA, hpre, qok, qer⟩ := h
    obtain ⟨v0, _, rfl, r0, rfl⟩ := hA
    have iv0 : I_Rg (p0, l0, k0) := inv_Rg r0
    obtain ⟨ia0, ib0, ik0, iu0, ir0, il0⟩ := iv0
    have hpre : p0 ≤ 63 := hpre
    have w0 : Holds M [] H := hold0 live
    have o0 : Pr (f_least ((p0, l0, k0), ())) (forK (fun (x_549 : Int) (s_550 : Unit) (kn : Unit → _) (kb : Unit → _) =>
cond (decide ((p0 % x_549) = (0 : Int)))
(lt (mkR x_549 ((l0.filter (fun x_583 => (decide (x_583 < x_549)))).map (fun x_583 => x_583))) fun _ =>
cond (decide (((v_widened ((mkR x_549 ((l0.filter (fun x_583 => (decide (x_583 < x_549)))).map (fun x_583 => x_583))), (p0 / x_549), ()))).2.1 = l0))
((.ok (mkR x_549 ((l0.filter (fun x_583 => (decide (x_583 < x_549)))).map (fun x_583 => x_583)))))
(kn ()))
(kn ()))
(fun (s_623 : Unit) =>
(.ok (mkR p0 l0)))
(rng (1 : Int) p0) ()) := rfl
    refine ⟨_, pss_cons (ps_for (passes_of rfl) rfl (pi_range2 rfl B.range (pa_cons pe_int (pa_cons (pe_fld (pv 0) rfl) pa_nil))) (pg_name (i := 1) sc_least.nd rfl (Or.inr rfl)) (pss_one (ps_if (pt_cmpR op_eq (pe_op op_mod (pe_fld (pv 0) rfl) (pv 1)) pe_int (nomark _)) (pss_cons (ps_set (i := 2) sc_least.nd rfl (.inl rfl) (pe_nw nR hr (by decide) passL (pa_cons (pv 1) (pa_cons (pe_lc (own := [("place", 3)]) (g := gName 3) (tt := _) rfl sc_least.nd (pi_tup (pe_fld (pv 0) rfl)) (blkOk_by (own := [("place", 3)]) (N := leastN) (sc := defScope s_least) (by decide +kernel)) (fun _ _ _ _ _ => pg_name (i := 3) sc_least.nd rfl (Or.inl rfl)) (fun _ _ _ _ _ => pts_one (pt_cmpR op_lt (pv 3) (pv 1) (nomark _))) (fun _ _ _ _ _ => (pv 3))) pa_nil)))) (pss_one (ps_if (pt_cmpR (op_eqD hr.units) (pe_fld (pe_k c_widened hr (by decide) passL (pa_cons (pv 2) (pa_cons (pe_op op_fdiv (pe_fld (pv 0) rfl) (pv 1)) pa_nil))) rfl) (pe_fld (pv 0) rfl) (nomark _)) (pss_one (ps_ret (pv 2))) (pss_nil)))) (pss_nil)))) (pss_one (ps_ret (pe_nw nRT hr (by decide) passL (pa_cons (pe_fld (pv 0) rfl) (pa_cons (pe_fld (pv 0) rfl) pa_nil))))), ?_⟩
    refine g_for (E := E) (cl := cl) (xs := (rng (1 : Int) p0)) (s0 := ()) (Sx := (fun s : Unit => [])) (fun (I : Hp) (rs : List Int) (s : Unit) (σ : L2.St) => ∃ (l1 : Option V) (l2 : Option V), σ = [some v0, l1, l2, none]) w0 o0 (ei_R2 (em_cons em_int (em_cons (em_Rg_period T_Rg (em_var (t := (k_Rg K CR)) (v := v0) (x := (p0, l0, k0)) rfl r0)) em_nil)) (by refine ⟨by first | omega | (dsimp only; omega), by first | omega | (dsimp only; omega), by first | omega | (dsimp only; omega), by first | omega | (dsimp only; omega)⟩)) (fun _ => rfl) (fun _ => eg_name) (fun _ g => ⟨_, _, rfl⟩) (fun s_623 σ_624 H_625 g_626 w_627 rv_628 o_629 => ?_) (fun hd_565 x_549 s_550 σ_551 σ_552 I_553 H_554 rest_555 hm_556 g_557 w_558 ei_559 rv_560 b_561 o_562 Nx_563 nx_564 => ?_)
    · have r_630 := (k_Rg K CR).up g_626.im r0
      obtain ⟨l_631, l_632, rfl⟩ := rv_628
      refine g_ret (E := E) (cl := cl) (t := (k_Rg K CR)) (x := (mkR p0 l0)) w_627 (em_mkObP (a := (p0, l0, ())) (pre := pre_Ring_initT) (f := f_Ring_initT) (Rr := R_Rg K) (up := fun e h => R_Rg_up e h) (em_cons (em_Rg_period T_Rg (em_var (t := (k_Rg K CR)) (v := v0) (x := (p0, l0, k0)) rfl r_630)) (em_cons (em_Rg_places T_Rg (em_var (t := (k_Rg K CR)) (v := v0) (x := (p0, l0, k0)) rfl r_630)) em_nil)) args_id upA_RgT (by exact ring_pre (by first | (omega) | (dsimp only; omega)) (by first | (omega) | (dsimp only; omega)) (by first | (first | exact lf_len (by omega) | exact lm_len (by omega) | omega) | (dsimp only; first | exact lf_len (by omega) | exact lm_len (by omega) | omega))) (ring_okT (by first | (omega) | (dsimp only; omega)) (by first | (omega) | (dsimp only; omega)))) (fun v_634 H_635 g_636 w_637 r_638 => ?_)
      exact qok _ v_634 H_635 o_629 (show Ex H _ from Gr.fr (g_626.then g_636 rfl)) r_638
    · obtain ⟨l_568, l_569, rfl⟩ := rv_560
      have r_571 := (k_Rg K CR).up g_557.im r0
      obtain ⟨_, rfl, rfl⟩ := b_561
      rw [rng_mem] at hm_556
      refine g_ifL (E := E) (cl := cl) (b := (decide ((p0 % x_549) = (0 : Int)))) w_558 o_562 (gt_test (em_op (em_op (em_Rg_period T_Rg (em_var (t := (k_Rg K CR)) (v := v0) (x := (p0, l0, k0)) rfl r_571)) (em_var (t := kI) (v := (.int x_549)) (x := x_549) rfl rfl) (o_IC (C := fun _ j => 0 < j) (by first | (show (0 : Int) < _; omega) | (dsimp only; show (0 : Int) < _; omega)))) em_int o_eqI)) (fun hb_573 o_574 H_572 g_575 w_576 => ?_) (fun hb_578 o_579 H_577 g_580 w_581 => ?_)
      · simp only [decide_eq_true_eq, decide_eq_false_iff_not, Bool.and_eq_true, Bool.or_eq_true, Bool.and_eq_false_iff, Bool.or_eq_false_iff, Bool.not_eq_true', Bool.not_eq_false'] at hb_573
        have r_582 := (k_Rg K CR).up g_575.im r_571
        refine g_asg (E := E) (cl := cl) (i := 2) (t := (k_Rg K CR)) (x := (mkR x_549 ((l0.filter (fun x_583 => (decide (x_583 < x_549)))).map (fun x_583 => x_583)))) w_576 o_574 (em_mkObP (a := (x_549, ((l0.filter (fun x_583 => (decide (x_583 < x_549)))).map (fun x_583 => x_583)), ())) (pre := pre_Ring_init) (f := f_Ring_init) (Rr := R_Rg K) (up := fun e h => R_Rg_up e h) (em_cons (em_var (t := kI) (v := (.int x_549)) (x := x_549) rfl rfl) (em_cons (em_lc (K := K) (u := kI) (fun x_583 => (decide (x_583 < x_549))) (fun x_583 => x_583) (ei_T (em_Rg_places T_Rg (em_var (t := (k_Rg K CR)) (v := v0) (x := (p0, l0, k0)) rfl r_582))) (by first | (omega) | (dsimp only; omega)) eg_name (fun _ _ _ b => by obtain ⟨_, rfl, rfl⟩ := b; rfl) (fun M_589 S_590 I_584 x_583 s_588 e_585 m_586 b_587 => by obtain ⟨_, rfl, rfl⟩ := b_587; exact (gt_test (em_op (em_var (t := kI) (v := (.int x_583)) (x := x_583) rfl rfl) (em_var (t := kI) (v := (.int x_549)) (x := x_549) rfl rfl) o_IB))) (fun M_589 S_590 I_584 x_583 s_588 e_585 m_586 c_593 b_587 => by obtain ⟨_, rfl, rfl⟩ := b_587; exact (em_var (t := kI) (v := (.int x_583)) (x := x_583) rfl rfl))) em_nil)) args_id upA_Rg (by exact ring_pre (by first | (omega) | (dsimp only; omega)) (by first | (omega) | (dsimp only; omega)) (by first | (first | exact lf_len (by omega) | exact lm_len (by omega) | omega) | (dsimp only; first | exact lf_len (by omega) | exact lm_len (by omega) | omega))) (ring_ok (by first | (omega) | (dsimp only; omega)) (by first | (omega) | (dsimp only; omega)))) (fun found_594 v_595 H_596 hx_597 o_598 g_599 w_600 r_601 => ?_)
        subst hx_597
        have r_602 := (k_Rg K CR).up g_599.im r_582
        refine g_ifL (E := E) (cl := cl) (b := (decide (((v_widened ((mkR x_549 ((l0.filter (fun x_583 => (decide (x_583 < x_549)))).map (fun x_583 => x_583))), (p0 / x_549), ()))).2.1 = l0))) w_600 o_598 (gt_test (em_op (em_Rg_places T_Rg (em_callP (y := (v_widened ((mkR x_549 ((l0.filter (fun x_583 => (decide (x_583 < x_549)))).map (fun x_583 => x_583))), (p0 / x_549), ()))) (a := ((mkR x_549 ((l0.filter (fun x_583 => (decide (x_583 < x_549)))).map (fun x_583 => x_583))), (p0 / x_549), ())) (em_cons (em_var (t := (k_Rg K CR)) (v := v_595) (x := (mkR x_549 ((l0.filter (fun x_583 => (decide (x_583 < x_549)))).map (fun x_583 => x_583)))) rfl r_601) (em_cons (em_op (em_Rg_period T_Rg (em_var (t := (k_Rg K CR)) (v := v0) (x := (p0, l0, k0)) rfl r_602)) (em_var (t := kI) (v := (.int x_549)) (x := x_549) rfl rfl) (o_IC (C := CDiv) (g := fun i j => i / j) (by first | (exact ⟨by omega, by omega⟩) | (dsimp only; exact ⟨by omega, by omega⟩)))) em_nil)) args_id (by first | (have e := Int.mul_ediv_cancel' (Int.dvd_of_emod_eq_zero (a := x_549) (b := p0) (by omega)); show 1 ≤ x_549 * _ ∧ x_549 * _ ≤ 63; omega) | (dsimp only; have e := Int.mul_ediv_cancel' (Int.dvd_of_emod_eq_zero (a := x_549) (b := p0) (by omega)); show 1 ≤ x_549 * _ ∧ x_549 * _ ≤ 63; omega)) (by first | (exact is_widened _) | (dsimp only; exact is_widened _)))) (em_Rg_places T_Rg (em_var (t := (k_Rg K CR)) (v := v0) (x := (p0, l0, k0)) rfl r_602)) (o_eqD (dT dI) (by decide)))) (fun hb_604 o_605 H_603 g_606 w_607 => ?_) (fun hb_609 o_610 H_608 g_611 w_612 => ?_)
        · simp only [decide_eq_true_eq, decide_eq_false_iff_not, Bool.and_eq_true, Bool.or_eq_true, Bool.and_eq_false_iff, Bool.or_eq_false_iff, Bool.not_eq_true', Bool.not_eq_false'] at hb_604
          have r_613 := (k_Rg K CR).up g_606.im r_602
          have r_614 := (k_Rg K CR).up g_606.im r_601
          refine g_ret (E := E) (cl := cl) (t := (k_Rg K CR)) (x := (mkR x_549 ((l0.filter (fun x_583 => (decide (x_583 < x_549)))).map (fun x_583 => x_583)))) w_607 (em_var (t := (k_Rg K CR)) (v := v_595) (x := (mkR x_549 ((l0.filter (fun x_583 => (decide (x_583 < x_549)))).map (fun x_583 => x_583)))) rfl r_614) (fun v_615 H_616 g_617 w_618 r_619 => ?_)
          exact qok _ v_615 H_616 o_605 (show Ex H _ from Gr.fr ((((g_557.then g_575 rfl).then g_599 rfl).then g_606 rfl).then g_617 rfl)) r_619
        · simp only [decide_eq_true_eq, decide_eq_false_iff_not, Bool.and_eq_true, Bool.or_eq_true, Bool.and_eq_false_iff, Bool.or_eq_false_iff, Bool.not_eq_true', Bool.not_eq_false'] at hb_609
          have r_620 := (k_Rg K CR).up g_611.im r_602
          have r_621 := (k_Rg K CR).up g_611.im r_601
          exact nx_564 () _ _ o_610 (Gr.cast ((g_575.then g_599 rfl).then g_611 rfl) rfl) w_612 ⟨_, _, rfl⟩
      · simp only [decide_eq_true_eq, decide_eq_false_iff_not, Bool.and_eq_true, Bool.or_eq_true, Bool.and_eq_false_iff, Bool.or_eq_false_iff, Bool.not_eq_true', Bool.not_eq_false'] at hb_578
        have r_622 := (k_Rg K CR).up g_580.im r_571
        exact nx_564 () _ _ o_579 (Gr.cast g_580 rfl) w_581 ⟨_, _, rfl⟩
end
end Rw
namespace Rw
open PySem PySem.Spec PyProof.Rows L2 Evl

def opV (a b : Int) : Int := match f_opposite_of (a, b, ()) with
  | .ok x => x
  | .er _ => 0
def opOk (a b : Int) : Bool := match f_opposite_of (a, b, ()) with
  | .ok x => decide (-64 ≤ x) && decide (x ≤ 64)
  | .er _ => false
theorem op_all : ∀ a : Fin 9, ∀ b : Fin 9, opOk (a.val : Int) (b.val : Int) = true := by decide +kernel
theorem opp_eq {a b : Int} (h : 0 ≤ a) (h2 : a ≤ 8) (h3 : 0 ≤ b) (h4 : b ≤ 8) : f_opposite_of (a, b, ()) = .ok (opV a b) ∧ -64 ≤ opV a b ∧ opV a b ≤ 64 := by
  have q : opOk a b = true := by
    have := op_all ⟨a.toNat, by omega⟩ ⟨b.toNat, by omega⟩
    simp only at this
    rwa [show ((a.toNat : Nat) : Int) = a by omega, show ((b.toNat : Nat) : Int) = b by omega] at this
  unfold opOk at q
  unfold opV
  cases e : f_opposite_of (a, b, ()) with
  | ok x =>
    rw [e] at q
    simp only [Bool.and_eq_true, decide_eq_true_eq] at q
    exact ⟨rfl, q.1, q.2⟩
  | er k => rw [e] at q; cases q
theorem div_in {a g : Int} (h : 1 ≤ g) (h2 : 0 ≤ a) : 0 ≤ a / g ∧ a / g ≤ a := ⟨Int.ediv_nonneg h2 (by omega), Int.ediv_le_self g h2⟩
theorem gcd_posR {a b : Int} (h : 1 ≤ b) : ((Int.gcd a b : Nat) : Int) ≤ b := by
  rw [Int.gcd_comm]
  exact (gcd_pos h).2
theorem sz_pos {a b : Int} (h : 1 ≤ a) (h2 : 1 ≤ b) : 0 < a / ((Int.gcd a b : Nat) : Int) * b := by
  have g := gcd_pos (a := a) (b := b) h
  have : 1 ≤ a / ((Int.gcd a b : Nat) : Int) := Int.le_ediv_of_mul_le (by omega) (by omega)
  exact Int.mul_pos (by omega) (by omega)

section
variable {P : Program} {w : World} {K : PySem.W.Frag} {mg : Str → Option Value} {base : Heap} {CR : Addr} {cl : Nat → Addr}

abbrev s_meeting : Stmt := topS 29
def meetingN : List Str := ["first", "period", "second", "other", "common", "away", "steps", "size"]
theorem sc_meeting : FnScope meetingN ["first", "period", "second", "other"] (defScope s_meeting) := ⟨rfl, rfl, rfl, by decide +kernel, rfl, by decide +kernel, by decide +kernel⟩
def f_meeting : Int × Int × Int × Int × Unit → Re (Option (Int × Int)) := fun a => match a with
  | (x0, x1, x2, x3, _) =>
    cond ((decide (x1 < (1 : Int))) || (decide (x3 < (1 : Int))))
    ((.er 5))
    (lt ((Int.gcd x1 x3 : Nat) : Int) fun common_650 =>
    lt (x2 - x0) fun away_658 =>
    cond (!decide ((away_658 % common_650) = (0 : Int)))
    ((.ok none))
    (lt ((away_658 / common_650) * (opV (x1 / common_650) (x3 / common_650))) fun steps_681 =>
    lt ((x1 / common_650) * x3) fun size_689 =>
    (.ok (some (((x0 + (x1 * steps_681)) % size_689), size_689)))))
def pre_meeting : Int × Int × Int × Int × Unit → Prop := fun a => match a with
  | (x0, x1, x2, x3, _) => (-100 ≤ x0 ∧ x0 ≤ 100) ∧ x1 ≤ 8 ∧ (-100 ≤ x2 ∧ x2 ≤ 100) ∧ x3 ≤ 8
abbrev sp_meeting (K : PySem.W.Frag)  (cl : Nat → Addr) : Sp := spD (aC kI (aC kI (aC kI (aC kI a0)))) pre_meeting f_meeting (kO (k2 K kI kI)) cl
theorem ok_meeting {f : Addr} {fd : FuncData} (F : Fun K "meeting" "meeting" s_meeting f fd) (c_shared : Cal P w K mg base 1 "shared" (sp_shared K cl) []) (c_opposite_of : Cal P w K mg base 1 "opposite_of" (sp_opposite_of K cl) []) (xBadSize : Exc1 K mg "BadSize" (cl 5)) : FnOk P w K mg base (L2.CX P w) 2 f fd ["first", "period", "second", "other"] (sp_meeting K  cl) := by
  refine F.okX sc_meeting (fun vs H Q E h => ?_) (fun cdv A outer s H vs Q E hr h => ?_)
  · obtain ⟨M, a, live, hA, _⟩ := h
    obtain ⟨v0, _, rfl, r0, v1, _, rfl, r1, v2, _, rfl, r2, v3, _, rfl, r3, rfl⟩ := hA
    rfl
  · obtain ⟨M, ⟨x0, x1, x2, x3, _⟩, live, hA, hpre, qok, qer⟩ := h
    obtain ⟨v0, _, rfl, r0, v1, _, rfl, r1, v2, _, rfl, r2, v3, _, rfl, r3, rfl⟩ := hA
    obtain rfl : v0 = (.int x0) := r0
    obtain rfl : v1 = (.int x1) := r1
    obtain rfl : v2 = (.int x2) := r2
    obtain rfl : v3 = (.int x3) := r3
    have hpre : (-100 ≤ x0 ∧ x0 ≤ 100) ∧ x1 ≤ 8 ∧ (-100 ≤ x2 ∧ x2 ≤ 100) ∧ x3 ≤ 8 := hpre
    have w0 : Holds M [] H := hold0 live
    have o0 : Pr (f_meeting (x0, x1, x2, x3, ())) (cond ((decide (x1 < (1 : Int))) || (decide (x3 < (1 : Int))))
((.er 5))
(lt ((Int.gcd x1 x3 : Nat) : Int) fun common_650 =>
lt (x2 - x0) fun away_658 =>
cond (!decide ((away_658 % common_650) = (0 : Int)))
((.ok none))
(lt ((away_658 / common_650) * (opV (x1 / common_650) (x3 / common_650))) fun steps_681 =>
lt ((x1 / common_650) * x3) fun size_689 =>
(.ok (some (((x0 + (x1 * steps_681)) % size_689), size_689)))))) := rfl
    refine ⟨_, pss_cons (ps_if (PW.pt (pw_or (pt_cmpR op_lt (pv 1) pe_int (nomark _)) (pw_or1 (pt_cmpR op_lt (pv 3) pe_int (nomark _))))) (pss_one (ps_raiseX xBadSize)) (pss_nil)) (pss_cons (ps_set (i := 4) sc_meeting.nd rfl (.inl rfl) (pe_k c_shared hr (by decide) passL (pa_cons (pv 1) (pa_cons (pv 3) pa_nil)))) (pss_cons (ps_set (i := 5) sc_meeting.nd rfl (.inl rfl) (pe_op op_sub (pv 2) (pv 0))) (pss_cons (ps_if (pt_cmpR op_ne (pe_op op_mod (pv 5) (pv 4)) pe_int (nomark _)) (pss_one (ps_ret pe_non)) (pss_nil)) (pss_cons (ps_set (i := 6) sc_meeting.nd rfl (.inl rfl) (pe_op op_mul (pe_op op_fdiv (pv 5) (pv 4)) (pe_k c_opposite_of hr (by decide) passL (pa_cons (pe_op op_fdiv (pv 1) (pv 4)) (pa_cons (pe_op op_fdiv (pv 3) (pv 4)) pa_nil))))) (pss_cons (ps_set (i := 7) sc_meeting.nd rfl (.inl rfl) (pe_op op_mul (pe_op op_fdiv (pv 1) (pv 4)) (pv 3))) (pss_one (ps_ret (pe_tup (pa_cons (pe_op op_mod (pe_op op_add (pv 0) (pe_op op_mul (pv 1) (pv 6))) (pv 7)) (pa_cons (pv 7) pa_nil)))))))))), ?_⟩
    refine g_when (E := E) (cl := cl) (b := ((decide (x1 < (1 : Int))) || (decide (x3 < (1 : Int))))) w0 o0 (gt_or (gt_test (em_op (em_var (t := kI) (v := (.int x1)) (x := x1) rfl rfl) em_int o_IB)) (fun _ => (gt_test (em_op (em_var (t := kI) (v := (.int x3)) (x := x3) rfl rfl) em_int o_IB)))) (fun hb_641 o_642 H_640 g_643 w_644 => ?_) (fun hb_646 o_647 H_645 g_648 w_649 => ?_)
    · simp only [decide_eq_true_eq, decide_eq_false_iff_not, Bool.and_eq_true, Bool.or_eq_true, Bool.and_eq_false_iff, Bool.or_eq_false_iff, Bool.not_eq_true', Bool.not_eq_false'] at hb_641
      exact qer 5 _ o_642 (show Ex H _ from Gr.fr g_643)
    · simp only [decide_eq_true_eq, decide_eq_false_iff_not, Bool.and_eq_true, Bool.or_eq_true, Bool.and_eq_false_iff, Bool.or_eq_false_iff, Bool.not_eq_true', Bool.not_eq_false'] at hb_646
      refine g_asg (E := E) (cl := cl) (i := 4) (t := kI) (x := ((Int.gcd x1 x3 : Nat) : Int)) w_649 o_647 (em_callP (y := ((Int.gcd x1 x3 : Nat) : Int)) (a := (x1, x3, ())) (em_cons (em_var (t := kI) (v := (.int x1)) (x := x1) rfl rfl) (em_cons (em_var (t := kI) (v := (.int x3)) (x := x3) rfl rfl) em_nil)) args_id (by first | (exact ⟨by omega, by omega⟩) | (dsimp only; exact ⟨by omega, by omega⟩)) (by first | (exact sh_eq (by omega) (by omega)) | (dsimp only; exact sh_eq (by omega) (by omega)))) (fun common_650 v_651 H_652 hx_653 o_654 g_655 w_656 r_657 => ?_)
      obtain rfl : v_651 = (.int common_650) := r_657
      refine g_asg (E := E) (cl := cl) (i := 5) (t := kI) (x := (x2 - x0)) w_656 o_654 (em_op (em_var (t := kI) (v := (.int x2)) (x := x2) rfl rfl) (em_var (t := kI) (v := (.int x0)) (x := x0) rfl rfl) o_I) (fun away_658 v_659 H_660 hx_661 o_662 g_663 w_664 r_665 => ?_)
      obtain rfl : v_659 = (.int away_658) := r_665
      refine g_when (E := E) (cl := cl) (b := (!decide ((away_658 % common_650) = (0 : Int)))) w_664 o_662 (gt_test (em_op (em_op (em_var (t := kI) (v := (.int away_658)) (x := away_658) rfl rfl) (em_var (t := kI) (v := (.int common_650)) (x := common_650) rfl rfl) (o_IC (C := fun _ j => 0 < j) (by subst_vars; have gp := gcd_pos (a := x1) (b := x3) (by omega); have gq := gcd_posR (a := x1) (b := x3) (by omega); have d1 := div_in (a := x1) (g := ((Int.gcd x1 x3 : Nat) : Int)) gp.1 (by omega); have d3 := div_in (a := x3) (g := ((Int.gcd x1 x3 : Nat) : Int)) gp.1 (by omega); show (0 : Int) < _; omega))) em_int o_neI)) (fun hb_667 o_668 H_666 g_669 w_670 => ?_) (fun hb_672 o_673 H_671 g_674 w_675 => ?_)
      · simp only [decide_eq_true_eq, decide_eq_false_iff_not, Bool.and_eq_true, Bool.or_eq_true, Bool.and_eq_false_iff, Bool.or_eq_false_iff, Bool.not_eq_true', Bool.not_eq_false'] at hb_667
        refine g_ret (E := E) (cl := cl) (t := (kO (k2 K kI kI))) (x := none) w_670 (em_c (t := (kO (k2 K kI kI))) (x := none) rfl) (fun v_676 H_677 g_678 w_679 r_680 => ?_)
        exact qok _ v_676 H_677 o_668 (show Ex H _ from Gr.fr ((((g_648.then g_655 rfl).then g_663 rfl).then g_669 rfl).then g_678 rfl)) r_680
      · simp only [decide_eq_true_eq, decide_eq_false_iff_not, Bool.and_eq_true, Bool.or_eq_true, Bool.and_eq_false_iff, Bool.or_eq_false_iff, Bool.not_eq_true', Bool.not_eq_false'] at hb_672
        refine g_asg (E := E) (cl := cl) (i := 6) (t := kI) (x := ((away_658 / common_650) * (opV (x1 / common_650) (x3 / common_650)))) w_675 o_673 (em_op (em_op (em_var (t := kI) (v := (.int away_658)) (x := away_658) rfl rfl) (em_var (t := kI) (v := (.int common_650)) (x := common_650) rfl rfl) (o_IC (C := CDiv) (g := fun i j => i / j) (by subst_vars; have gp := gcd_pos (a := x1) (b := x3) (by omega); have gq := gcd_posR (a := x1) (b := x3) (by omega); have d1 := div_in (a := x1) (g := ((Int.gcd x1 x3 : Nat) : Int)) gp.1 (by omega); have d3 := div_in (a := x3) (g := ((Int.gcd x1 x3 : Nat) : Int)) gp.1 (by omega); exact ⟨by omega, by omega⟩))) (em_callP (y := (opV (x1 / common_650) (x3 / common_650))) (a := ((x1 / common_650), (x3 / common_650), ())) (em_cons (em_op (em_var (t := kI) (v := (.int x1)) (x := x1) rfl rfl) (em_var (t := kI) (v := (.int common_650)) (x := common_650) rfl rfl) (o_IC (C := CDiv) (g := fun i j => i / j) (by subst_vars; have gp := gcd_pos (a := x1) (b := x3) (by omega); have gq := gcd_posR (a := x1) (b := x3) (by omega); have d1 := div_in (a := x1) (g := ((Int.gcd x1 x3 : Nat) : Int)) gp.1 (by omega); have d3 := div_in (a := x3) (g := ((Int.gcd x1 x3 : Nat) : Int)) gp.1 (by omega); exact ⟨by omega, by omega⟩))) (em_cons (em_op (em_var (t := kI) (v := (.int x3)) (x := x3) rfl rfl) (em_var (t := kI) (v := (.int common_650)) (x := common_650) rfl rfl) (o_IC (C := CDiv) (g := fun i j => i / j) (by subst_vars; have gp := gcd_pos (a := x1) (b := x3) (by omega); have gq := gcd_posR (a := x1) (b := x3) (by omega); have d1 := div_in (a := x1) (g := ((Int.gcd x1 x3 : Nat) : Int)) gp.1 (by omega); have d3 := div_in (a := x3) (g := ((Int.gcd x1 x3 : Nat) : Int)) gp.1 (by omega); exact ⟨by omega, by omega⟩))) em_nil)) args_id (by first | (subst_vars; have gp := gcd_pos (a := x1) (b := x3) (by omega); have gq := gcd_posR (a := x1) (b := x3) (by omega); have d1 := div_in (a := x1) (g := ((Int.gcd x1 x3 : Nat) : Int)) gp.1 (by omega); have d3 := div_in (a := x3) (g := ((Int.gcd x1 x3 : Nat) : Int)) gp.1 (by omega); exact ⟨by omega, by omega, by omega, by omega⟩) | (dsimp only; subst_vars; have gp := gcd_pos (a := x1) (b := x3) (by omega); have gq := gcd_posR (a := x1) (b := x3) (by omega); have d1 := div_in (a := x1) (g := ((Int.gcd x1 x3 : Nat) : Int)) gp.1 (by omega); have d3 := div_in (a := x3) (g := ((Int.gcd x1 x3 : Nat) : Int)) gp.1 (by omega); exact ⟨by omega, by omega, by omega, by omega⟩)) (by first | (exact (by subst_vars; have gp := gcd_pos (a := x1) (b := x3) (by omega); have gq := gcd_posR (a := x1) (b := x3) (by omega); have d1 := div_in (a := x1) (g := ((Int.gcd x1 x3 : Nat) : Int)) gp.1 (by omega); have d3 := div_in (a := x3) (g := ((Int.gcd x1 x3 : Nat) : Int)) gp.1 (by omega); exact (opp_eq (by omega) (by omega) (by omega) (by omega)).1)) | (dsimp only; exact (by subst_vars; have gp := gcd_pos (a := x1) (b := x3) (by omega); have gq := gcd_posR (a := x1) (b := x3) (by omega); have d1 := div_in (a := x1) (g := ((Int.gcd x1 x3 : Nat) : Int)) gp.1 (by omega); have d3 := div_in (a := x3) (g := ((Int.gcd x1 x3 : Nat) : Int)) gp.1 (by omega); exact (opp_eq (by omega) (by omega) (by omega) (by omega)).1)))) (o_IC (by subst_vars; have gp := gcd_pos (a := x1) (b := x3) (by omega); have gq := gcd_posR (a := x1) (b := x3) (by omega); have d1 := div_in (a := x1) (g := ((Int.gcd x1 x3 : Nat) : Int)) gp.1 (by omega); have d3 := div_in (a := x3) (g := ((Int.gcd x1 x3 : Nat) : Int)) gp.1 (by omega); have oo := opp_eq (a := x1 / ((Int.gcd x1 x3 : Nat) : Int)) (b := x3 / ((Int.gcd x1 x3 : Nat) : Int)) (by omega) (by omega) (by omega) (by omega); exact .inr ⟨by omega, by omega⟩))) (fun steps_681 v_682 H_683 hx_684 o_685 g_686 w_687 r_688 => ?_)
        obtain rfl : v_682 = (.int steps_681) := r_688
        refine g_asg (E := E) (cl := cl) (i := 7) (t := kI) (x := ((x1 / common_650) * x3)) w_687 o_685 (em_op (em_op (em_var (t := kI) (v := (.int x1)) (x := x1) rfl rfl) (em_var (t := kI) (v := (.int common_650)) (x := common_650) rfl rfl) (o_IC (C := CDiv) (g := fun i j => i / j) (by subst_vars; have gp := gcd_pos (a := x1) (b := x3) (by omega); have gq := gcd_posR (a := x1) (b := x3) (by omega); have d1 := div_in (a := x1) (g := ((Int.gcd x1 x3 : Nat) : Int)) gp.1 (by omega); have d3 := div_in (a := x3) (g := ((Int.gcd x1 x3 : Nat) : Int)) gp.1 (by omega); exact ⟨by omega, by omega⟩))) (em_var (t := kI) (v := (.int x3)) (x := x3) rfl rfl) (o_IC (by first | (first | exact .inl ⟨by omega, by omega⟩ | exact .inr ⟨by omega, by omega⟩) | (dsimp only; first | exact .inl ⟨by omega, by omega⟩ | exact .inr ⟨by omega, by omega⟩)))) (fun size_689 v_690 H_691 hx_692 o_693 g_694 w_695 r_696 => ?_)
        obtain rfl : v_690 = (.int size_689) := r_696
        refine g_ret (E := E) (cl := cl) (t := (k2 K kI kI)) (x := (((x0 + (x1 * steps_681)) % size_689), size_689)) w_695 (em_t2 K (em_cons (em_op (em_op (em_var (t := kI) (v := (.int x0)) (x := x0) rfl rfl) (em_op (em_var (t := kI) (v := (.int x1)) (x := x1) rfl rfl) (em_var (t := kI) (v := (.int steps_681)) (x := steps_681) rfl rfl) (o_IC (by first | (first | exact .inl ⟨by omega, by omega⟩ | exact .inr ⟨by omega, by omega⟩) | (dsimp only; first | exact .inl ⟨by omega, by omega⟩ | exact .inr ⟨by omega, by omega⟩)))) o_I) (em_var (t := kI) (v := (.int size_689)) (x := size_689) rfl rfl) (o_IC (C := fun _ j => 0 < j) (by subst_vars; exact sz_pos (by omega) (by omega)))) (em_cons (em_var (t := kI) (v := (.int size_689)) (x := size_689) rfl rfl) em_nil))) (fun v_697 H_698 g_699 w_700 r_701 => ?_)
        exact qok _ v_697 H_698 o_693 (show Ex H _ from Gr.fr ((((((g_648.then g_655 rfl).then g_663 rfl).then g_674 rfl).then g_686 rfl).then g_694 rfl).then g_699 rfl)) (some_r r_701 (nn_2 _ _ r_701))
end
end Rw
namespace Rw
open PySem PySem.Spec PyProof.Rows L2 Evl

abbrev cutR (l : List Int) (x : Int) : Int × List Int × List Int := mkR x ((l.filter fun z => decide (z < x)).map fun z => z)
def isPer (p : Int) (l : List Int) (x : Int) : Bool := decide (p % x = 0) && decide ((v_widened (cutR l x, p / x, ())).2.1 = l)
def leastV (p : Int) (l : List Int) : Int × List Int × List Int := match (rng 1 p).find? (isPer p l) with
  | some x => cutR l x
  | none => mkR p l
theorem least_eq (p : Int) (l k : List Int) : f_least ((p, l, k), ()) = .ok (leastV p l) := by
  unfold leastV
  have q : ∀ xs : List Int, forK (fun (x : Int) (_ : Unit) (kn : Unit → Re (Int × List Int × List Int)) (_ : Unit → Re (Int × List Int × List Int)) => cond (decide (p % x = 0)) (lt (cutR l x) fun _ => cond (decide ((v_widened (cutR l x, p / x, ())).2.1 = l)) (Re.ok (cutR l x)) (kn ())) (kn ())) (fun _ => Re.ok (mkR p l)) xs () = Re.ok (match xs.find? (isPer p l) with | some x => cutR l x | none => mkR p l) := by
    intro xs
    induction xs with
    | nil => rfl
    | cons x xs ih =>
      rw [List.find?_cons]
      unfold isPer
      show cond (decide (p % x = 0)) (cond (decide ((v_widened (cutR l x, p / x, ())).2.1 = l)) (Re.ok (cutR l x)) _) _ = _
      cases h1 : decide (p % x = 0) with
      | false => exact ih
      | true =>
        cases h2 : decide ((v_widened (cutR l x, p / x, ())).2.1 = l) with
        | false => exact ih
        | true => rfl
  exact q _

section
variable {P : Program} {w : World} {K : PySem.W.Frag} {mg : Str → Option Value} {base : Heap} {CR : Addr} {cl : Nat → Addr}

abbrev s_same : Stmt := topS 27
def sameN : List Str := ["one", "other"]
theorem sc_same : FnScope sameN ["one", "other"] (defScope s_same) := ⟨rfl, rfl, rfl, by decide +kernel, rfl, by decide +kernel, by decide +kernel⟩
def f_same : (Int × List Int × List Int) × (Int × List Int × List Int) × Unit → Re Bool := fun a => match a with
  | ((p0, l0, k0), (p1, l1, k1), _) =>
    (.ok (decide ((v_Ring_shown ((leastV p0 l0), ())) = (v_Ring_shown ((leastV p1 l1), ())))))
def pre_same : (Int × List Int × List Int) × (Int × List Int × List Int) × Unit → Prop := fun a => match a with
  | ((p0, l0, k0), (p1, l1, k1), _) => p0 ≤ 63 ∧ p1 ≤ 63
abbrev sp_same (K : PySem.W.Frag) (CR : Addr) (cl : Nat → Addr) : Sp := spD (aC (k_Rg K CR) (aC (k_Rg K CR) a0)) pre_same f_same kB cl
theorem ok_same {f : Addr} {fd : FuncData} (F : Fun K "same" "same" s_same f fd) (c_least : Cal P w K mg base 4 "least" (sp_least K CR cl) []) (m_shown : Mt P w K mg base 1 CR "shown" (sp_Ring_shown K CR cl) []) : FnOk P w K mg base (L2.CX P w) 5 f fd ["one", "other"] (sp_same K CR cl) := by
  refine F.okX sc_same (fun vs H Q E h => ?_) (fun cdv A outer s H vs Q E hr h => ?_)
  · obtain ⟨M, a, live, hA, _⟩ := h
    obtain ⟨v0, _, rfl, r0, v1, _, rfl, r1, rfl⟩ := hA
    rfl
  · obtain ⟨M, ⟨⟨p0, l0, k0⟩, ⟨p1, l1, k1⟩, _⟩, live, hA, hpre, qok, qer⟩ := h
    obtain ⟨v0, _, rfl, r0, v1, _, rfl, r1, rfl⟩ := hA
    have iv0 : I_Rg (p0, l0, k0) := inv_Rg r0
    obtain ⟨ia0, ib0, ik0, iu0, ir0, il0⟩ := iv0
    have iv1 : I_Rg (p1, l1, k1) := inv_Rg r1
    obtain ⟨ia1, ib1, ik1, iu1, ir1, il1⟩ := iv1
    have hpre : p0 ≤ 63 ∧ p1 ≤ 63 := hpre
    have w0 : Holds M [] H := hold0 live
    have o0 : Pr (f_same ((p0, l0, k0), (p1, l1, k1), ())) ((.ok (decide ((v_Ring_shown ((leastV p0 l0), ())) = (v_Ring_shown ((leastV p1 l1), ())))))) := rfl
    refine ⟨_, pss_one (ps_ret (pe_cmpR (op_eqD hr.units) (pe_mk0 m_shown hr (by decide) passL (pe_k c_least hr (by decide) passL (pa_cons (pv 0) pa_nil))) (pe_mk0 m_shown hr (by decide) passL (pe_k c_least hr (by decide) passL (pa_cons (pv 1) pa_nil))) (nomark _))), ?_⟩
    refine g_ret (E := E) (cl := cl) (t := kB) (x := (decide ((v_Ring_shown ((leastV p0 l0), ())) = (v_Ring_shown ((leastV p1 l1), ()))))) w0 (em_op (em_methP (pre := pre_Ring_shown) (f := f_Ring_shown) (y := (v_Ring_shown ((leastV p0 l0), ()))) (b := (())) (em_callP (y := (leastV p0 l0)) (a := ((p0, l0, k0), ())) (em_cons (em_var (t := (k_Rg K CR)) (v := v0) (x := (p0, l0, k0)) rfl r0) em_nil) args_id (by first | (show p0 ≤ (63 : Int); omega) | (dsimp only; show p0 ≤ (63 : Int); omega)) (by first | (exact least_eq _ _ _) | (dsimp only; exact least_eq _ _ _))) (ob_Rg fun _ _ _ => rfl) em_nil args_mG (by exact trivial) (by first | (exact is_Ring_shown _) | (dsimp only; exact is_Ring_shown _))) (em_methP (pre := pre_Ring_shown) (f := f_Ring_shown) (y := (v_Ring_shown ((leastV p1 l1), ()))) (b := (())) (em_callP (y := (leastV p1 l1)) (a := ((p1, l1, k1), ())) (em_cons (em_var (t := (k_Rg K CR)) (v := v1) (x := (p1, l1, k1)) rfl r1) em_nil) args_id (by first | (show p1 ≤ (63 : Int); omega) | (dsimp only; show p1 ≤ (63 : Int); omega)) (by first | (exact least_eq _ _ _) | (dsimp only; exact least_eq _ _ _))) (ob_Rg fun _ _ _ => rfl) em_nil args_mG (by exact trivial) (by first | (exact is_Ring_shown _) | (dsimp only; exact is_Ring_shown _))) (o_eqD (d2 dI (dT dI)) (by decide))) (fun v_702 H_703 g_704 w_705 r_706 => ?_)
    exact qok _ v_702 H_703 o0 (show Ex H _ from Gr.fr g_704) r_706
def v_same : (Int × List Int × List Int) × (Int × List Int × List Int) × Unit → Bool := fun a => match a with
  | ((p0, l0, k0), (p1, l1, k1), _) =>
    ((decide ((v_Ring_shown ((leastV p0 l0), ())) = (v_Ring_shown ((leastV p1 l1), ())))))
theorem is_same (a : (Int × List Int × List Int) × (Int × List Int × List Int) × Unit) : f_same a = .ok (v_same a) := by
  obtain ⟨⟨p0, l0, k0⟩, ⟨p1, l1, k1⟩, _⟩ := a
  rfl
end
end Rw
/-! sorted of a dict's whole numbers, any number of them -/
namespace L2
open PySem PySem.Spec PyProof.Rows Srt SrtO
section
variable {X : Cx}
def rSortDK : List V → Hp → VK → Prop := fun xs H Q => ∃ (a : Addr) (kvs : List (Key × V)) (ks : List Int), xs = [.ref a] ∧ Rd H a (.dK kvs) ∧ kvs.map (·.1) = ks.map Sum.inl ∧ ks.length ≤ 100000 ∧
    ∀ (ys : List Int) (p : Addr), ys.Perm ks → ys.Pairwise (· ≤ ·) → H p = none → Q (.ref p) (upd H p (.lst (ys.map V.int)))
theorem cr_sortedDK (hcalm : X.calm = true) : CallR X (.builtin "sorted") rSortDK := by
  intro pn sh st Hh vs0 us0 Q0 IV rv hh
  obtain ⟨a, kvs, ks, ex, hd, hks, h64, q⟩ := hh
  subst ex
  obtain ⟨u, eu, rx⟩ := vals1 rv
  subst eu
  cases rx
  obtain ⟨z, lo, vs, rel, dd⟩ := dk_rd IV.hok hd
  obtain ⟨ep, hat⟩ := dd.dictAt
  have hkeys : vs.map (·.1) = ks.map Sum.inl := rel.keys.symm.trans hks
  have hl : vs.length = ks.length := by
    have e := congrArg List.length hkeys
    rw [List.length_map, List.length_map] at e
    exact e
  have h16 : vs.length ≤ sizeLine := by rw [hl, sizeLine_eq]; omega
  refine Calls.call_function_entry PyProof.Rows.kind_sorted PyProof.Rows.plain_sorted PyProof.Rows.entry_sorted (PyProof.Rows.args_sorted1 _) (?_ : _)
  unfold Builtin.«sorted»
  refine wpAny_bind (m := checkCount "sorted" 1 1 _) (wpAny_pure (?_ : _)); refine wpAny_bind (PySem.W.kdu_collect (A := X.A.in1) (PySem.W.kdl_dict (knd := mixKind X.prog X.w) (kvs := vs) (ep := ep) lo) (IV.ok.hd hcalm) hat h16 fun h1 tk acc hk hacc => (?_ : _))
  have hal : acc.toList.length = ks.length := by rw [Array.length_toList, hacc.1, hl]
  have hS : IntsAre acc.toList ks := ints_each hal fun j v e => by
    obtain ⟨k, x, e1, e2⟩ := hacc.2 j v (by rw [← Array.getElem?_toList]; exact e)
    have e3 : (vs.map (·.1))[j]? = some k := by rw [List.getElem?_map, e1]; rfl
    rw [hkeys, List.getElem?_map] at e3
    cases e4 : ks[j]? with
    | none => rw [e4] at e3; cases e3
    | some y =>
      rw [e4] at e3
      have e5 : Sum.inl y = k := Option.some.inj e3
      subst e5
      rcases keyIs_shape (show keyIs (Sum.inl y) v = true from e2) with ⟨i, t, ek, ev⟩ | ⟨z, t, ek, ev⟩
      · cases ek
        exact ⟨y, t, rfl, ev⟩
      · cases ek
  have I1 : Inv X pn st Hh { sh with heap := h1, toks := tk } := IV.kept hk
  have hz : acc.toList.length ≤ sizeLine := by rw [hal, sizeLine_eq]; omega
  refine wpAny_bind (wpAny_newList (?_ : _) hz)
  have hoL : (h1.push (seqObj "list" acc.toList.toArray 0)).get? h1.objs.size = some (seqObj "list" acc.toList.toArray 0) := Heap.get?_push_size _ rfl
  show wpAny _ _ _ _ _ { sh with heap := h1.push (seqObj "list" acc.toList.toArray 0), toks := tk }
  refine wpAny_bind (wpAny_holding (wpAny_call_entry PyProof.Rows.slot_list_sort ⟨_, hoL, rfl⟩ PyProof.Rows.entry_list_sort
    (SrtO.list_sort_ord (s := { sh with heap := h1.push (seqObj "list" acc.toList.toArray 0), toks := tk }) SrtO.swo_int hoL hz (fun h2 => SrtO.ints_sortable hS h2) fun out g1 g2 => ⟨_, rfl, (?_ : _)⟩) (PyProof.Rows.args_list_sort _)))
  obtain ⟨k1, k2, k3⟩ := SrtO.ints_out hS g1 g2
  obtain ⟨e', he'⟩ := PyProof.Rows.sortedHeap_at (vs := acc.toList) (out := out.toArray) hoL
  have hlen : ((out.map SrtO.iv).map V.int).length ≤ sizeLine := by
    rw [List.length_map, k2.length_eq, sizeLine_eq]
    omega
  refine wpAny_pure ⟨_, rfl, .ref h1.objs.size, upd Hh h1.objs.size (.lst ((out.map SrtO.iv).map V.int)), I1.laid (t' := tk) (fun b u e => ?_) (Nat.le_refl _)
    (show ObjOk X.prog X.w _ _ _ (.lst ((out.map SrtO.iv).map V.int)) from ⟨hlen, out, e', vals_of_ints k1, he'⟩), rfl, q _ _ k2 k3 (I1.hok.fresh (Nat.le_refl _))⟩
  have hb : b < h1.objs.size := Heap.lt_size e
  rw [PyProof.Rows.sortedHeap_old (Nat.ne_of_lt hb) (by rw [size_push']; exact Nat.lt_succ_of_lt hb)]
  exact Heap.get?_push_of_some _ e
end
end L2
namespace Rw
open PySem PySem.Spec PyProof.Rows L2 Evl
section
variable {K : PySem.W.Frag} {α β γ δ R τ : Type} {E E' : XK} {cl : Nat → Addr} {M : List Addr} {σ : L2.St} {I I' H H' : Hp} {S S' S1 S2 S3 : List Cell} {te ta tb tc to tv : TE} {tt : TT} {tr tk : TA} {t : Ty α} {u : Ty β} {D : Ends} {tz : TS} {l : List (Int × Int)} {P : R → Prop}
/-! ### a list of two, taken apart -/
def kL2 (K : PySem.W.Frag) (t : Ty α) : Ty (α × α) := ⟨fun H v p => (kL K t).r H v [p.1, p.2], fun e h => (kL K t).up e h⟩
theorem em_L2 {a b : α} (h : Em E cl M te σ I S (kL K t) (.ok [a, b]) S') : Em E cl M te σ I S (kL2 K t) (.ok (a, b)) S' := em_ty h fun _ _ r => r
theorem eg_u2 {i j : Nat} : Eg (gUnl K 2 (gCons (gName i) (gCons (gName j) gNil))) (kL2 K t) σ (fun I x σ' => ∃ v w, t.r I v x.1 ∧ t.r I w x.2 ∧ σ' = (σ.set i (some v)).set j (some w)) := fun v H x I r e k q => by
  obtain ⟨p, vs, rfl, hp, ha⟩ := r
  cases ha with
  | cons h1 ha =>
    cases ha with
    | cons h2 ha =>
      cases ha
      exact ⟨p, _, rfl, ex_l e hp, rfl, _, _, rfl, _, _, rfl, rfl, q _ ⟨_, _, h1, h2, rfl⟩⟩
/-! ### list(range(a, b)) -/
theorem rgV_rng {a b : Int} : rgV a b = (rng a b).map V.int := by unfold rgV rng; rw [List.map_map]; rfl
theorem em_listRg {a b : Int} (ha : Em E cl M ta σ I S kI (.ok a) S1) (hb : Em E cl M tb σ I S1 kI (.ok b) S2) (h : -1000000 ≤ a ∧ a ≤ 1000000 ∧ -1000000 ≤ b ∧ b ≤ 1000000) : Em E cl M (tLstRg (tRg2 ta tb)) σ I S (kX kI) (.ok (rng a b)) S2 :=
  em_mk (hb.ad.trans ha.ad) fun H1 i w Q q => em_of ha H1 i w _ fun v1 H2 e1 w1 r1 => em_of hb H2 (i.trans (w.grow e1)) w1 _ fun v2 H3 e2 w2 r2 => by
    obtain rfl : v1 = .int a := r1
    obtain rfl : v2 = .int b := r2
    refine ⟨a, b, rfl, rfl, ⟨by omega, by omega, by omega, by omega, by omega⟩, fun p hp => ?_⟩
    have e3 : Ex H3 (upd H3 p (.lst (rgV a b))) := Ex.new hp
    rw [rgV_rng] at e3 ⊢
    exact q _ _ ((ads_tr ha.ad e1 e2).trans (ex_del e3)) (w2.ex e3) ⟨p, _, rfl, del_at (fresh_not w2.live hp) upd_same, all_intsR _⟩
theorem em_XL {xs : List α} (h : Em E cl M te σ I S (kX t) (.ok xs) S') : Em E cl M te σ I S (kL K t) (.ok xs) S' :=
  em_ty h fun H v ⟨p, vs, a, b, c⟩ => ⟨p, vs, a, sq_of b, c⟩
/-! ### is True, is not True -/
theorem o_isB {a b : Bool} : Op2 (fun x y H Q => ∃ a b, x = .bl a ∧ y = .bl b ∧ Q (.bl (decide (a = b))) H) kB a kB b kB (decide (a = b)) := fun M u w H l r1 r2 Q q => by
  obtain rfl : u = .bl a := r1
  obtain rfl : w = .bl b := r2
  exact ⟨a, b, rfl, rfl, q _ H (Ex.refl H) rfl⟩
theorem o_isnB {a b : Bool} : Op2 (fun x y H Q => ∃ a b, x = .bl a ∧ y = .bl b ∧ Q (.bl (!decide (a = b))) H) kB a kB b kB (!decide (a = b)) := fun M u w H l r1 r2 Q q => by
  obtain rfl : u = .bl a := r1
  obtain rfl : w = .bl b := r2
  exact ⟨a, b, rfl, rfl, q _ H (Ex.refl H) rfl⟩
theorem at_inG {xs : List α} {i : Int} {z : α} (h : 0 - (xs.length : Int) ≤ i ∧ i < (xs.length : Int)) : atI xs i = some ((atI xs i).getD z) := by
  have e : ∃ j, j < xs.length ∧ ixN xs.length i = some j := by
    unfold ixN
    split
    · rw [if_pos h.2]; exact ⟨i.toNat, by omega, rfl⟩
    · rw [if_pos (by omega)]; exact ⟨(i + xs.length).toNat, by omega, rfl⟩
  obtain ⟨j, hj, e⟩ := e
  unfold atI
  rw [e]
  show xs[j]? = some (xs[j]?.getD z)
  rw [List.getElem?_eq_getElem hj]
  rfl
/-! ### sorted of a dict -/
theorem putN_keys {l : List (Int × Int)} {k v : Int} (h : (l.map (·.1)).Nodup) : ((putN l k v).map (·.1)).Nodup ∧ ∀ x, x ∈ (putN l k v).map (·.1) ↔ x = k ∨ x ∈ l.map (·.1) := by
  unfold putN
  split
  · rename_i c
    have e : (l.map (fun q => if q.1 = k then (q.1, v) else q)).map (·.1) = l.map (·.1) := by
      rw [List.map_map]
      apply List.map_congr_left
      intro q _
      show (if q.1 = k then (q.1, v) else q).1 = q.1
      split <;> rfl
    rw [e]
    refine ⟨h, fun x => ⟨.inr, fun z => z.elim (fun y => ?_) id⟩⟩
    subst y
    obtain ⟨q, hq, hk⟩ := List.any_eq_true.mp c
    exact List.mem_map.mpr ⟨q, hq, of_decide_eq_true hk⟩
  · rename_i c
    have nk : k ∉ l.map (·.1) := fun z => by
      obtain ⟨q, hq, hk⟩ := List.mem_map.mp z
      exact c (List.any_eq_true.mpr ⟨q, hq, decide_eq_true hk⟩)
    rw [List.map_append]
    refine ⟨List.nodup_append.mpr ⟨h, by simp, fun a ha b hb => ?_⟩, fun x => ?_⟩
    · rw [List.map_cons, List.map_nil, List.mem_singleton] at hb
      subst hb
      exact fun e => nk (e ▸ ha)
    · rw [List.mem_append, List.map_cons, List.map_nil, List.mem_singleton]
      exact Or.comm
theorem dictP_keys (l : List (Int × Int)) : ((dictP l).map (·.1)).Nodup ∧ ∀ x, x ∈ (dictP l).map (·.1) ↔ x ∈ l.map (·.1) := by
  have k : ∀ (l acc : List (Int × Int)), (acc.map (·.1)).Nodup → ((l.foldl (fun acc q => putN acc q.1 q.2) acc).map (·.1)).Nodup ∧ ∀ x, x ∈ (l.foldl (fun acc q => putN acc q.1 q.2) acc).map (·.1) ↔ x ∈ acc.map (·.1) ∨ x ∈ l.map (·.1) := by
    intro l
    induction l with
    | nil => intro acc h; exact ⟨h, fun x => by simp⟩
    | cons q l ih =>
      intro acc h
      obtain ⟨n, m⟩ := putN_keys (k := q.1) (v := q.2) h
      obtain ⟨n2, m2⟩ := ih _ n
      refine ⟨n2, fun x => ?_⟩
      rw [List.foldl_cons, m2, m, List.map_cons, List.mem_cons]
      constructor
      · rintro ((q | q) | q)
        · exact .inr (.inl q)
        · exact .inl q
        · exact .inr (.inr q)
      · rintro (q | q | q)
        · exact .inl (.inr q)
        · exact .inl (.inl q)
        · exact .inr q
  obtain ⟨n, m⟩ := k l [] (by simp)
  exact ⟨n, fun x => (m x).trans (by simp)⟩
theorem le_up : ∀ {l : List Int}, l.Pairwise (· ≤ ·) → l.Nodup → l.Pairwise (· < ·)
  | [], _, _ => .nil
  | x :: l, h, n => by
    have a := List.pairwise_cons.mp h
    have b := List.nodup_cons.mp n
    refine List.pairwise_cons.mpr ⟨fun y hy => ?_, le_up a.2 b.2⟩
    have := a.1 y hy
    have : x ≠ y := fun e => b.1 (e ▸ hy)
    omega
theorem o_sortDK (hn : (l.map (·.1)).Nodup) (hz : l.length ≤ 100000) : OpN rSortDK (aC kDN a0) (l, ()) (kL K kI) (setL (l.map (·.1))) := fun M us H lv a Q q => by
  obtain ⟨v, r, rfl, ⟨p, rfl, hp⟩, rfl⟩ := a
  refine ⟨p, l.map pairV, l.map (·.1), rfl, .inl (del_some.mp hp).2, by rw [List.map_map, List.map_map]; rfl, by rw [List.length_map]; exact hz, fun ys p2 perm up new => ?_⟩
  have e : ys = setL (l.map (·.1)) := up_same (le_up up (perm.nodup_iff.mpr hn)) (setL_up _) fun k => by rw [perm.mem_iff, setL_mem]
  subst e
  exact q _ _ (Ex.new new) ⟨p2, _, rfl, sq_of (del_at (fresh_not lv new) upd_same), all_intsR _⟩
end
end Rw
namespace Rw
open PySem PySem.Spec PyProof.Rows L2 Evl
theorem pi_listK {X : Cx} {K : PySem.W.Frag} {tg l : Expr} {tl : TE} (hl : PE X l tl) (h : X.K = K := by rfl) : PI X tg l (iList K tl) := by
  subst h
  exact pi_list hl
theorem pi_tupK {X : Cx} {K : PySem.W.Frag} {tg l : Expr} {tl : TE} (hl : PE X l tl) (h : X.K = K := by rfl) : PI X tg l (iTup K tl) := by
  subst h
  exact pi_tup hl
theorem em_someO {α : Type} {t : Ty α} {E : XK} {cl : Nat → Addr} {M : List Addr} {te : TE} {σ : L2.St} {I : Hp} {S S' : List Cell} {x : α} (nn : ∀ H v, t.r H v x → v ≠ .non) (h : Em E cl M te σ I S t (.ok x) S') : Em E cl M te σ I S (kO t) (.ok (some x)) S' :=
  em_ty h fun H v r => some_r r (nn H v r)
theorem dictP_len (l : List (Int × Int)) : (dictP l).length ≤ l.length := by
  have k : ∀ (l acc : List (Int × Int)), (l.foldl (fun acc q => putN acc q.1 q.2) acc).length ≤ acc.length + l.length := by
    intro l
    induction l with
    | nil => intro acc; exact Nat.le_refl _
    | cons q l ih =>
      intro acc
      have := ih (putN acc q.1 q.2)
      have := len_putN acc q.1 q.2
      rw [List.foldl_cons, List.length_cons]
      omega
  have := k l []
  rw [List.length_nil, Nat.zero_add] at this
  exact this
end Rw
namespace Rw
open PySem PySem.Spec PyProof.Rows L2 Evl
abbrev RT := Int × List Int × List Int
abbrev hasR (r : RT) (n : Int) : Bool := v_Ring_has (r, n, ())
structure RgOk (r : RT) : Prop where
  p1 : 1 ≤ r.1
  p63 : r.1 ≤ 63
  k : r.2.2 = r.2.1
  up : r.2.1.Pairwise (· < ·)
  inn : ∀ x ∈ r.2.1, 0 ≤ x ∧ x < r.1
theorem rg_ok {r : RT} (h : I_Rg r) (h2 : r.1 ≤ 63) : RgOk r := by
  obtain ⟨p, l, k⟩ := r
  obtain ⟨a, _, b, c, d, _⟩ := h
  exact ⟨a, h2, b, c, d⟩
theorem has_iff {r : RT} (k : RgOk r) {n : Int} : hasR r n = true ↔ n % r.1 ∈ r.2.1 := by
  obtain ⟨p, l, kk⟩ := r
  obtain rfl : kk = l := k.k
  exact decide_eq_true_iff
theorem has_eq {r s : RT} {m n : Int} (h : hasR r m = true ↔ hasR s n = true) : hasR r m = hasR s n := by
  cases h1 : hasR r m with
  | true => exact (h.mp h1).symm
  | false =>
    cases h2 : hasR s n with
    | true => rw [h.mpr h2] at h1; cases h1
    | false => rfl
theorem has_per {r : RT} (k : RgOk r) (n : Int) : hasR r (n + r.1) = hasR r n := has_eq (by rw [has_iff k, has_iff k, Int.add_emod_right])
/-! ### rings put together -/
theorem mkR_ok {p : Int} {l : List Int} (h : 1 ≤ p) (h2 : p ≤ 63) : RgOk (mkR p l) := ⟨h, h2, rfl, setL_up _, mods_in (by omega)⟩
theorem mkR_has {p : Int} {l : List Int} (h : 1 ≤ p) (h2 : p ≤ 63) {n : Int} : hasR (mkR p l) n = true ↔ ∃ x ∈ l, x % p = n % p := by
  rw [has_iff (mkR_ok h h2)]
  show n % p ∈ setL (l.map fun x => x % p) ↔ _
  rw [setL_mem, List.mem_map]
theorem mod_of {a b n : Int} : n % (a * b) % a = n % a := Int.emod_emod_of_dvd n ⟨b, rfl⟩
theorem w_ok {r : RT} {t : Int} (h : 1 ≤ r.1 * t) (h2 : r.1 * t ≤ 63) : RgOk (v_widened (r, t, ())) := by
  obtain ⟨p, l, kk⟩ := r
  exact mkR_ok h h2
theorem w_per {r : RT} {t : Int} : (v_widened (r, t, ())).1 = r.1 * t := by obtain ⟨p, l, kk⟩ := r; rfl
theorem w_has {r : RT} (k : RgOk r) {t : Int} (h : 1 ≤ r.1 * t) (h2 : r.1 * t ≤ 63) (n : Int) : hasR (v_widened (r, t, ())) n = hasR r n := by
  apply has_eq
  obtain ⟨p, l, kk⟩ := r
  dsimp only at h h2
  show hasR (mkR (p * t) (((rng 0 (if (5000 : Int) < p * t then (5000 : Int) else p * t)).filter (fun x => (v_Ring_has ((p, l, kk), x, ())))).map (fun x => x))) n = true ↔ _
  rw [mkR_has h h2, if_neg (by omega)]
  have key : ∀ {x : Int}, x % (p * t) = n % (p * t) → (hasR (p, l, kk) x = true ↔ hasR (p, l, kk) n = true) := fun {x} e => by
    rw [has_iff k, has_iff k]
    show x % p ∈ l ↔ n % p ∈ l
    rw [← mod_of (a := p) (b := t) (n := x), ← mod_of (a := p) (b := t) (n := n), e]
  constructor
  · rintro ⟨x, hx, e⟩
    obtain ⟨y, hy, rfl⟩ := List.mem_map.mp hx
    exact (key e).mp (List.mem_filter.mp hy).2
  · intro hn
    have h0 := Int.emod_nonneg n (b := p * t) (by omega)
    have h1 := Int.emod_lt_of_pos n (b := p * t) (by omega)
    have e : n % (p * t) % (p * t) = n % (p * t) := Int.emod_emod_of_dvd n ⟨1, (Int.mul_one _).symm⟩
    exact ⟨n % (p * t), List.mem_map.mpr ⟨_, List.mem_filter.mpr ⟨rng_mem.mpr ⟨h0, h1⟩, (key e).mpr hn⟩, rfl⟩, e⟩
theorem pair_swap {a b : Int} (h1 : 1 ≤ a) (h2 : a ≤ 8) (h3 : 1 ≤ b) (h4 : b ≤ 8) : a * (b / ((Int.gcd a b : Nat) : Int)) = b * (a / ((Int.gcd a b : Nat) : Int)) := by
  have g := gcd_pos (a := a) (b := b) h1
  obtain ⟨c, hc⟩ : ((Int.gcd a b : Nat) : Int) ∣ a := Int.gcd_dvd_left ..
  obtain ⟨d, hd⟩ : ((Int.gcd a b : Nat) : Int) ∣ b := Int.gcd_dvd_right ..
  generalize ((Int.gcd a b : Nat) : Int) = q at *
  rw [hc, hd, Int.mul_ediv_cancel_left _ (by omega), Int.mul_ediv_cancel_left _ (by omega), Int.mul_assoc, Int.mul_assoc, Int.mul_comm c d]
section
variable {a b : Int} {p q : List Int}
theorem one_ok {a : Int} {p : List Int} (h : 1 ≤ a ∧ a ≤ 8) (hp : p.Sublist (rng 0 a)) : RgOk (a, p, p) :=
  ⟨h.1, by show a ≤ 63; omega, rfl, List.Pairwise.sublist hp (by
    unfold rng
    rw [List.pairwise_map]
    exact List.pairwise_lt_range.imp fun h => by omega), fun x hx => rng_mem.mp (hp.mem hx)⟩
theorem pa_ok (hA : 1 ≤ a ∧ a ≤ 8) (hB : 1 ≤ b ∧ b ≤ 8) (hP : p.Sublist (rng 0 a)) (hQ : q.Sublist (rng 0 b)) :
    let v := v_paired ((a, p, p), (b, q, q), ())
    RgOk v.1 ∧ RgOk v.2 ∧ v.1.1 = v.2.1 ∧ v.1.1 = a * (b / ((Int.gcd a b : Nat) : Int)) ∧ (∀ n, hasR v.1 n = hasR (a, p, p) n) ∧ ∀ n, hasR v.2 n = hasR (b, q, q) n := by
  have lf := lcm_few hA.1 hA.2 hB.1 hB.2
  have e : v_paired ((a, p, p), (b, q, q), ()) = (v_widened ((a, p, p), b / ((Int.gcd a b : Nat) : Int), ()), v_widened ((b, q, q), a / ((Int.gcd a b : Nat) : Int), ())) := rfl
  rw [e]
  dsimp only
  exact ⟨w_ok lf.1.1 lf.1.2, w_ok lf.2.1 lf.2.2, pair_swap hA.1 hA.2 hB.1 hB.2, rfl, fun n => w_has (one_ok hA hP) lf.1.1 lf.1.2 n, fun n => w_has (one_ok hB hQ) lf.2.1 lf.2.2 n⟩
theorem list_has {r : RT} (k : RgOk r) {n : Int} : hasR r n = true ↔ ∃ x ∈ r.2.1, x % r.1 = n % r.1 := by
  rw [has_iff k]
  constructor
  · intro h; exact ⟨_, h, Int.emod_emod_of_dvd n ⟨1, (Int.mul_one _).symm⟩⟩
  · rintro ⟨x, hx, e⟩
    have := k.inn x hx
    rw [← e, Int.emod_eq_of_lt this.1 this.2]
    exact hx
theorem ei_ok (hA : 1 ≤ a ∧ a ≤ 8) (hB : 1 ≤ b ∧ b ≤ 8) (hP : p.Sublist (rng 0 a)) (hQ : q.Sublist (rng 0 b)) : (v_either ((a, p, p), (b, q, q), ())).1 ≤ 63 ∧ ∀ n, hasR (v_either ((a, p, p), (b, q, q), ())) n = (hasR (a, p, p) n || hasR (b, q, q) n) := by
  obtain ⟨k1, k2, e1, e2, h1, h2⟩ := pa_ok hA hB hP hQ
  have e : v_either ((a, p, p), (b, q, q), ()) = mkR (v_paired ((a, p, p), (b, q, q), ())).1.1 ((v_paired ((a, p, p), (b, q, q), ())).1.2.1 ++ (v_paired ((a, p, p), (b, q, q), ())).2.2.1) := rfl
  rw [e]
  refine ⟨k1.p63, fun n => ?_⟩
  rw [← h1, ← h2]
  have := mkR_has (l := (v_paired ((a, p, p), (b, q, q), ())).1.2.1 ++ (v_paired ((a, p, p), (b, q, q), ())).2.2.1) k1.p1 k1.p63 (n := n)
  have l1 := list_has k1 (n := n)
  have l2 := list_has k2 (n := n)
  rw [← e1] at l2
  cases x : hasR (mkR (v_paired ((a, p, p), (b, q, q), ())).1.1 ((v_paired ((a, p, p), (b, q, q), ())).1.2.1 ++ (v_paired ((a, p, p), (b, q, q), ())).2.2.1)) n with
  | true =>
    obtain ⟨y, hy, ey⟩ := this.mp x
    rcases List.mem_append.mp hy with z | z
    · rw [l1.mpr ⟨y, z, ey⟩]; rfl
    · rw [l2.mpr ⟨y, z, ey⟩, Bool.or_true]
  | false =>
    cases c1 : hasR (v_paired ((a, p, p), (b, q, q), ())).1 n with
    | true =>
      obtain ⟨y, hy, ey⟩ := l1.mp c1
      rw [this.mpr ⟨y, List.mem_append_left _ hy, ey⟩] at x
      cases x
    | false =>
      cases c2 : hasR (v_paired ((a, p, p), (b, q, q), ())).2 n with
      | true =>
        obtain ⟨y, hy, ey⟩ := l2.mp c2
        rw [this.mpr ⟨y, List.mem_append_right _ hy, ey⟩] at x
        cases x
      | false => rfl
theorem co_ok (hA : 1 ≤ a ∧ a ≤ 8) (hB : 1 ≤ b ∧ b ≤ 8) (hP : p.Sublist (rng 0 a)) (hQ : q.Sublist (rng 0 b)) : (v_common_to ((a, p, p), (b, q, q), ())).1 ≤ 63 ∧ ∀ n, hasR (v_common_to ((a, p, p), (b, q, q), ())) n = (hasR (a, p, p) n && hasR (b, q, q) n) := by
  obtain ⟨k1, k2, e1, e2, h1, h2⟩ := pa_ok hA hB hP hQ
  have e : v_common_to ((a, p, p), (b, q, q), ()) = mkR (v_paired ((a, p, p), (b, q, q), ())).1.1 (((v_paired ((a, p, p), (b, q, q), ())).1.2.1.filter fun x => hasR (v_paired ((a, p, p), (b, q, q), ())).2 x).map fun x => x) := rfl
  rw [e]
  refine ⟨k1.p63, fun n => ?_⟩
  rw [← h1, ← h2]
  have := mkR_has (l := ((v_paired ((a, p, p), (b, q, q), ())).1.2.1.filter fun x => hasR (v_paired ((a, p, p), (b, q, q), ())).2 x).map fun x => x) k1.p1 k1.p63 (n := n)
  have l1 := list_has k1 (n := n)
  have same : ∀ y, y % (v_paired ((a, p, p), (b, q, q), ())).1.1 = n % (v_paired ((a, p, p), (b, q, q), ())).1.1 → hasR (v_paired ((a, p, p), (b, q, q), ())).2 y = hasR (v_paired ((a, p, p), (b, q, q), ())).2 n := fun y ey => has_eq (by
    rw [has_iff k2, has_iff k2, ← e1, ey])
  cases x : hasR (mkR (v_paired ((a, p, p), (b, q, q), ())).1.1 (((v_paired ((a, p, p), (b, q, q), ())).1.2.1.filter fun x => hasR (v_paired ((a, p, p), (b, q, q), ())).2 x).map fun x => x)) n with
  | true =>
    obtain ⟨y, hy, ey⟩ := this.mp x
    obtain ⟨y', hy', rfl⟩ := List.mem_map.mp hy
    obtain ⟨z1, z2⟩ := List.mem_filter.mp hy'
    rw [l1.mpr ⟨_, z1, ey⟩, ← same _ ey, z2]
    rfl
  | false =>
    cases c1 : hasR (v_paired ((a, p, p), (b, q, q), ())).1 n with
    | false => rfl
    | true =>
      cases c2 : hasR (v_paired ((a, p, p), (b, q, q), ())).2 n with
      | false => rfl
      | true =>
        obtain ⟨y, hy, ey⟩ := l1.mp c1
        rw [this.mpr ⟨y, List.mem_map.mpr ⟨y, List.mem_filter.mpr ⟨hy, by rw [same _ ey]; exact c2⟩, rfl⟩, ey⟩] at x
        cases x
theorem op_ok (hA : 1 ≤ a ∧ a ≤ 8) (hP : p.Sublist (rng 0 a)) : (v_opposite ((a, p, p), ())).1 ≤ 63 ∧ ∀ n, hasR (v_opposite ((a, p, p), ())) n = !hasR (a, p, p) n := by
  have k1 := one_ok hA hP
  have e : v_opposite ((a, p, p), ()) = mkR a (((rng 0 a).filter fun x => !hasR (a, p, p) x).map fun x => x) := rfl
  rw [e]
  refine ⟨k1.p63, fun n => ?_⟩
  have := mkR_has (l := ((rng 0 a).filter fun x => !hasR (a, p, p) x).map fun x => x) k1.p1 k1.p63 (n := n)
  have same : ∀ y, y % a = n % a → hasR (a, p, p) y = hasR (a, p, p) n := fun y ey => has_eq (by
    rw [has_iff k1, has_iff k1]
    show y % a ∈ p ↔ n % a ∈ p
    rw [ey])
  have h0 := Int.emod_nonneg n (b := a) (by omega)
  have h1 := Int.emod_lt_of_pos n (b := a) (by omega)
  have em : n % a % a = n % a := Int.emod_emod_of_dvd n ⟨1, (Int.mul_one _).symm⟩
  cases c1 : hasR (a, p, p) n with
  | true =>
    cases x : hasR (mkR a (((rng 0 a).filter fun x => !hasR (a, p, p) x).map fun x => x)) n with
    | false => rfl
    | true =>
      obtain ⟨y, hy, ey⟩ := this.mp x
      obtain ⟨y', hy', rfl⟩ := List.mem_map.mp hy
      have z2 := (List.mem_filter.mp hy').2
      rw [same _ ey, c1] at z2
      cases z2
  | false =>
    refine this.mpr ⟨n % a, List.mem_map.mpr ⟨_, List.mem_filter.mpr ⟨rng_mem.mpr ⟨h0, h1⟩, ?_⟩, rfl⟩, em⟩
    rw [same _ em, c1]
    rfl
theorem sh_ok (hA : 1 ≤ a ∧ a ≤ 8) (hP : p.Sublist (rng 0 a)) (d n : Int) : hasR (v_shifted ((a, p, p), d, ())) n = hasR (a, p, p) (n - d) := by
  have k1 := one_ok hA hP
  apply has_eq
  have e : v_shifted ((a, p, p), d, ()) = mkR a (p.map fun x => x + d) := rfl
  rw [e, mkR_has k1.p1 k1.p63, list_has k1]
  constructor
  · rintro ⟨x, hx, e⟩
    obtain ⟨y, hy, rfl⟩ := List.mem_map.mp hx
    refine ⟨y, hy, ?_⟩
    show y % a = (n - d) % a
    have := Int.emod_emod_of_dvd
    rw [Int.emod_eq_emod_iff_emod_sub_eq_zero] at e ⊢
    rw [show y - (n - d) = y + d - n by omega]
    exact e
  · rintro ⟨y, hy, e⟩
    refine ⟨y + d, List.mem_map.mpr ⟨y, hy, rfl⟩, ?_⟩
    have e : y % a = (n - d) % a := e
    rw [Int.emod_eq_emod_iff_emod_sub_eq_zero] at e ⊢
    rw [show y + d - n = y - (n - d) by omega]
    exact e
/-! ### the law's own -/
def flt (a : Int) (p : List Int) : List Int := (rng ((0 : Int) - 60) 121).filter fun n => decide (n % a ∈ p)
theorem flt_few {a : Int} {p : List Int} : (flt a p).length ≤ 200 := Nat.le_trans (List.length_filter_le _ _) (by rw [rng_len]; decide)
theorem flt_len {a : Int} {p : List Int} : (flt a p).length ≤ 100000 - 1 := Nat.le_trans flt_few (by decide)
theorem flt_has {a : Int} {p : List Int} {n : Int} : n ∈ flt a p ↔ ((0 : Int) - 60 ≤ n ∧ n < 121) ∧ hasR (a, p, p) n = true := by
  unfold flt
  rw [List.mem_filter, rng_mem]
  exact Iff.rfl
theorem sz_ok (z0 : Dice) : ∃ a b, (runE (fun (_ : Int) (z : Dice) => (true, z)) (fun (_ : Int) (z : Dice) => (((1 : Int) + (roll z (8 : Int)).1), (roll z (8 : Int)).2)) (rng 0 (2 : Int)) z0).1 = [a, b] ∧ (1 ≤ a ∧ a ≤ 8) ∧ (1 ≤ b ∧ b ≤ 8) := by
  have q1 := roll_in z0 (m := 8) (by decide)
  have q2 := roll_in (roll z0 8).2 (m := 8) (by decide)
  exact ⟨1 + (roll z0 8).1, 1 + (roll (roll z0 8).2 8).1, rfl, ⟨by omega, by omega⟩, ⟨by omega, by omega⟩⟩
theorem runE_sub {ct : Int → Dice → Bool × Dice} : ∀ (xs : List Int) (z : Dice), (runE ct (fun x z => (x, z)) xs z).1.Sublist xs
  | [], _ => .slnil
  | x :: xs, z => by
    simp only [runE]
    split
    · exact .cons₂ _ (runE_sub xs _)
    · exact .cons _ (runE_sub xs _)
def rolled (x : Int) (z : Dice) : List Int × Dice := runE (fun (_ : Int) (z : Dice) => ((decide ((roll z (2 : Int)).1 = (0 : Int))), (roll z (2 : Int)).2)) (fun (x : Int) (z : Dice) => (x, z)) (rng 0 x) z
theorem st_ok (a b : Int) (z : Dice) : ∃ p q, (runE (fun (_ : Int) (z : Dice) => (true, z)) (fun (x : Int) (z : Dice) => ((rolled x z).1, (rolled x z).2)) [a, b] z).1 = [p, q] ∧ p.Sublist (rng 0 a) ∧ q.Sublist (rng 0 b) :=
  ⟨_, _, rfl, runE_sub _ _, runE_sub _ _⟩
theorem mem2 (hA : 1 ≤ a ∧ a ≤ 8) (hB : 1 ≤ b ∧ b ≤ 8) {x : Int} (h : x ∈ [a, b]) : 1 ≤ x ∧ x ≤ 8 := by
  rcases List.mem_cons.mp h with rfl | z
  · exact hA
  · rw [List.mem_singleton.mp z]; exact hB
theorem szk (hA : 1 ≤ a ∧ a ≤ 8) (hB : 1 ≤ b ∧ b ≤ 8) (hP : p.Sublist (rng 0 a)) (hQ : q.Sublist (rng 0 b)) {k : Int} (h : 0 ≤ k ∧ k < 2) : 1 ≤ ((atI [a, b] k).getD 0) ∧ ((atI [a, b] k).getD 0) ≤ 8 ∧ ((atI [p, q] k).getD []).length ≤ 8 := by
  have e1 := hP.length_le
  have e2 := hQ.length_le
  rw [rng_len] at e1 e2
  have : k = 0 ∨ k = 1 := by omega
  rcases this with rfl | rfl
  · exact ⟨hA.1, hA.2, by show p.length ≤ 8; omega⟩
  · exact ⟨hB.1, hB.2, by show q.length ≤ 8; omega⟩
theorem mkR_id {a : Int} {p : List Int} (h : 1 ≤ a ∧ a ≤ 8) (hp : p.Sublist (rng 0 a)) : mkR a p = (a, p, p) := by
  have k := one_ok h hp
  have e : setL (p.map fun x => x % a) = p := by
    have : (p.map fun x => x % a) = p := by
      conv => rhs; rw [← List.map_id p]
      apply List.map_congr_left
      intro x hx
      have := k.inn x hx
      exact Int.emod_eq_of_lt this.1 this.2
    rw [this]
    exact up_same (setL_up _) k.up fun x => setL_mem
  show (a, setL (p.map fun x => x % a), setL (p.map fun x => x % a)) = _
  rw [e]
theorem two_rings (hA : 1 ≤ a ∧ a ≤ 8) (hB : 1 ≤ b ∧ b ≤ 8) (hP : p.Sublist (rng 0 a)) (hQ : q.Sublist (rng 0 b)) : ((rng 0 2).map fun k => mkR ((atI [a, b] k).getD 0) ((atI [p, q] k).getD [])) = [(a, p, p), (b, q, q)] := by
  rw [← mkR_id hA hP, ← mkR_id hB hQ]
  rfl
theorem two_flts : ((rng 0 2).map fun k => (((rng ((0 : Int) - 60) 121).filter fun n => decide (n % ((atI [a, b] k).getD 0) ∈ ((atI [p, q] k).getD []))).map fun n => n)) = [flt a p, flt b q] := by
  have e : ∀ l : List Int, (l.map fun n => n) = l := fun l => List.map_id' l
  show [_, _] = _
  dsimp only
  rw [e, e]
  rfl
theorem five_ok (hA : 1 ≤ a ∧ a ≤ 8) (hB : 1 ≤ b ∧ b ≤ 8) (hP : p.Sublist (rng 0 a)) (hQ : q.Sublist (rng 0 b)) {x : RT × List Int} (h : x ∈ [((a, p, p), flt a p), ((b, q, q), flt b q), (v_either ((a, p, p), (b, q, q), ()), setL ((dictP ((flt a p ++ flt b q).map fun n => (n, (1 : Int)))).map (·.1))),
    (v_common_to ((a, p, p), (b, q, q), ()), ((flt a p).filter fun n => decide (n ∈ flt b q)).map fun n => n), (v_opposite ((a, p, p), ()), ((rng ((0 : Int) - 60) 121).filter fun n => !decide (n ∈ flt a p)).map fun n => n)]) :
    x.2 = (rng ((0 : Int) - 60) 121).filter (fun n => hasR x.1 n) ∧ x.1.1 ≤ 63 := by
  have upR : ∀ f : Int → Bool, ((rng ((0 : Int) - 60) 121).filter f).Pairwise (· < ·) := fun f => List.Pairwise.filter _ (by
    unfold rng
    rw [List.pairwise_map]
    exact List.pairwise_lt_range.imp fun h => by omega)
  have e : ∀ l : List Int, (l.map fun n => n) = l := fun l => List.map_id' l
  have memF : ∀ {f : Int → Bool} {n : Int}, n ∈ (rng ((0 : Int) - 60) 121).filter f ↔ ((0 : Int) - 60 ≤ n ∧ n < 121) ∧ f n = true := fun {f n} => by rw [List.mem_filter, rng_mem]
  simp only [List.mem_cons, List.not_mem_nil, or_false] at h
  rcases h with rfl | rfl | rfl | rfl | rfl
  · exact ⟨rfl, by show a ≤ 63; omega⟩
  · exact ⟨rfl, by show b ≤ 63; omega⟩
  · obtain ⟨h1, h2⟩ := ei_ok hA hB hP hQ
    refine ⟨up_same (setL_up _) (upR _) fun n => ?_, h1⟩
    rw [setL_mem, (dictP_keys _).2, List.map_map]
    show n ∈ (flt a p ++ flt b q).map (fun n => n) ↔ _
    rw [e, List.mem_append, flt_has, flt_has, memF, h2, Bool.or_eq_true]
    constructor
    · rintro (⟨z1, z2⟩ | ⟨z1, z2⟩)
      · exact ⟨z1, .inl z2⟩
      · exact ⟨z1, .inr z2⟩
    · rintro ⟨z1, z2 | z2⟩
      · exact .inl ⟨z1, z2⟩
      · exact .inr ⟨z1, z2⟩
  · obtain ⟨h1, h2⟩ := co_ok hA hB hP hQ
    refine ⟨?_, h1⟩
    show ((flt a p).filter fun n => decide (n ∈ flt b q)).map (fun n => n) = _
    rw [e]
    refine up_same (List.Pairwise.filter _ (upR _)) (upR _) fun n => ?_
    rw [List.mem_filter, flt_has, decide_eq_true_eq, flt_has, memF, h2, Bool.and_eq_true]
    constructor
    · rintro ⟨⟨z1, z2⟩, _, z3⟩
      exact ⟨z1, z2, z3⟩
    · rintro ⟨z1, z2, z3⟩
      exact ⟨⟨z1, z2⟩, z1, z3⟩
  · obtain ⟨h1, h2⟩ := op_ok hA hP
    refine ⟨?_, h1⟩
    show ((rng ((0 : Int) - 60) 121).filter fun n => !decide (n ∈ flt a p)).map (fun n => n) = _
    rw [e]
    apply List.filter_congr
    intro n hn
    rw [rng_mem] at hn
    rw [h2]
    congr 1
    cases c : hasR (a, p, p) n with
    | true => exact decide_eq_true (flt_has.mpr ⟨hn, c⟩)
    | false => exact decide_eq_false fun z => by rw [(flt_has.mp z).2] at c; cases c
end
theorem five_rg {a b : Int} {p q : List Int} (hA : 1 ≤ a ∧ a ≤ 8) (hB : 1 ≤ b ∧ b ≤ 8) (hP : p.Sublist (rng 0 a)) (hQ : q.Sublist (rng 0 b)) {x : RT × List Int} {l1 l2 l3 l4 l5 : List Int} (h : x ∈ [((a, p, p), l1), ((b, q, q), l2), (v_either ((a, p, p), (b, q, q), ()), l3), (v_common_to ((a, p, p), (b, q, q), ()), l4), (v_opposite ((a, p, p), ()), l5)]) : RgOk x.1 := by
  obtain ⟨k1, k2, e1, e2, h1, h2⟩ := pa_ok hA hB hP hQ
  simp only [List.mem_cons, List.not_mem_nil, or_false] at h
  rcases h with rfl | rfl | rfl | rfl | rfl
  · exact one_ok hA hP
  · exact one_ok hB hQ
  · exact mkR_ok k1.p1 k1.p63
  · exact mkR_ok k1.p1 k1.p63
  · exact mkR_ok (p := a) hA.1 (by omega)
/-! ### counted -/
theorem cnt_next {l : List Int} (up : l.Pairwise (· < ·)) (m : Int) : cntB l (m + 1) = cntB l m + (if m ∈ l then 1 else 0) := by
  unfold cntB
  induction l with
  | nil => rfl
  | cons x l ih =>
    have h := List.pairwise_cons.mp up
    have ih := ih h.2
    rw [List.filter_cons, List.filter_cons]
    by_cases e : x = m
    · subst e
      have nm : x ∉ l := fun z => by have := h.1 x z; omega
      rw [if_neg nm] at ih
      rw [if_pos (by simp; omega), if_neg (by simp), if_pos List.mem_cons_self, List.length_cons]
      omega
    · have e2 : (m ∈ x :: l) ↔ m ∈ l := by rw [List.mem_cons]; exact ⟨fun z => z.elim (fun y => absurd y.symm e) id, .inr⟩
      by_cases c : x < m
      · rw [if_pos (by simp; omega), if_pos (by simp; omega), List.length_cons, List.length_cons]
        by_cases d : m ∈ l
        · rw [if_pos (e2.mpr d)]; rw [if_pos d] at ih; omega
        · rw [if_neg (fun z => d (e2.mp z))]; rw [if_neg d] at ih; omega
      · rw [if_neg (by simp; omega), if_neg (by simp; omega)]
        by_cases d : m ∈ l
        · rw [if_pos (e2.mpr d)]; rw [if_pos d] at ih; exact ih
        · rw [if_neg (fun z => d (e2.mp z))]; rw [if_neg d] at ih; exact ih
theorem cnt_all {l : List Int} {b : Int} (h : ∀ x ∈ l, x < b) : cntB l b = l.length := by
  unfold cntB
  rw [List.filter_eq_self.mpr fun x hx => decide_eq_true (h x hx)]
theorem cnt_none {l : List Int} {b : Int} (h : ∀ x ∈ l, b ≤ x) : cntB l b = 0 := by
  unfold cntB
  rw [List.filter_eq_nil_iff.mpr fun x hx => by have := h x hx; simp; omega]
  rfl
abbrev ahR (r : RT) (n : Int) : Int := v_Ring_ahead (r, n, ())
theorem ah_is (r : RT) (n : Int) : ahR r n = n / r.1 * (r.2.1.length : Int) + cntB r.2.1 (n % r.1) := by obtain ⟨p, l, k⟩ := r; rfl
theorem step_mod {p n : Int} (h : 1 ≤ p) : (n % p + 1 < p ∧ (n + 1) % p = n % p + 1 ∧ (n + 1) / p = n / p) ∨ (n % p = p - 1 ∧ (n + 1) % p = 0 ∧ (n + 1) / p = n / p + 1) := by
  have h0 := Int.emod_nonneg n (b := p) (by omega)
  have h1 := Int.emod_lt_of_pos n (b := p) (by omega)
  have e := Int.mul_ediv_add_emod n p
  by_cases c : n % p + 1 < p
  · left
    have d : (n + 1) / p = n / p ∧ (n + 1) % p = n % p + 1 := by
      rw [Int.ediv_emod_unique (by omega)]
      exact ⟨by omega, by omega, by omega⟩
    exact ⟨c, d.2, d.1⟩
  · right
    have d : (n + 1) / p = n / p + 1 ∧ (n + 1) % p = 0 := by
      rw [Int.ediv_emod_unique (by omega)]
      exact ⟨by rw [Int.mul_add, Int.mul_one]; omega, by omega, by omega⟩
    exact ⟨by omega, d.2, d.1⟩
theorem ah_next {r : RT} (k : RgOk r) (n : Int) : ahR r (n + 1) = ahR r n + (if hasR r n = true then 1 else 0) := by
  rw [ah_is, ah_is]
  have hi := has_iff k (n := n)
  have cn := cnt_next k.up (n % r.1)
  rcases step_mod (n := n) k.p1 with ⟨c, e1, e2⟩ | ⟨c, e1, e2⟩
  · rw [e1, e2, cn]
    by_cases d : n % r.1 ∈ r.2.1
    · rw [if_pos d, if_pos (hi.mpr d)]; omega
    · rw [if_neg d, if_neg (fun z => d (hi.mp z))]; omega
  · rw [e1, e2, cnt_none (b := 0) fun x hx => (k.inn x hx).1]
    rw [c, show r.1 - 1 + 1 = r.1 by omega, cnt_all fun x hx => (k.inn x hx).2] at cn
    rw [c] at hi ⊢
    rw [Int.add_mul, Int.one_mul]
    by_cases d : r.1 - 1 ∈ r.2.1
    · rw [if_pos d] at cn; rw [if_pos (hi.mpr d)]; omega
    · rw [if_neg d] at cn; rw [if_neg (fun z => d (hi.mp z))]; omega
theorem ah_zero {r : RT} (k : RgOk r) : ahR r 0 = 0 := by
  rw [ah_is, Int.zero_emod, Int.zero_ediv, cnt_none fun x hx => (k.inn x hx).1]
  omega
theorem ah_diff {r : RT} (k : RgOk r) : ∀ (m : Nat) (a : Int), ahR r (a + m) - ahR r a = ((rng a (a + m)).filter fun n => hasR r n).length
  | 0, a => by
    have : rng a (a + (0 : Nat)) = [] := by unfold rng; rw [show (a + ((0 : Nat) : Int) - a).toNat = 0 by omega]; rfl
    rw [this]
    show _ - _ = (0 : Int)
    rw [show a + ((0 : Nat) : Int) = a by omega]
    omega
  | m + 1, a => by
    have ih := ah_diff k m a
    have e : rng a (a + ((m + 1 : Nat) : Int)) = rng a (a + m) ++ [a + m] := by
      rw [rng_app (b := a + m) (by omega) (by omega)]
      congr 1
      unfold rng
      rw [show (a + ((m + 1 : Nat) : Int) - (a + m)).toNat = 1 by omega]
      show [a + m + ((0 : Nat) : Int)] = _
      rw [show a + (m : Int) + ((0 : Nat) : Int) = a + m by omega]
    rw [e, List.filter_append, List.length_append]
    have s := ah_next k (a + m)
    rw [show a + ((m + 1 : Nat) : Int) = a + m + 1 by omega]
    have t : ([a + (m : Int)].filter fun n => hasR r n).length = (if hasR r (a + m) = true then 1 else 0) := by
      rw [List.filter_cons]
      cases hasR r (a + m) <;> rfl
    rw [t]
    cases c : hasR r (a + m) with
    | true => rw [if_pos c] at s; rw [if_pos rfl]; push_cast; omega
    | false => rw [if_neg (by rw [c]; decide)] at s; rw [if_neg (by decide)]; push_cast; omega
theorem ah_count {r : RT} (k : RgOk r) {a b : Int} (h : a ≤ b) : ahR r b - ahR r a = ((rng a b).filter fun n => hasR r n).length := by
  have := ah_diff k (b - a).toNat a
  rw [show a + ((b - a).toNat : Int) = b by omega] at this
  exact this
/-! ### at and next -/
def atV (r : RT) (c : Int) : Int := c / (r.2.1.length : Int) * r.1 + (atI r.2.1 (c % (r.2.1.length : Int))).getD 0
def nextV (r : RT) (n : Int) : Int := atV r (ahR r n)
theorem at_ok {r : RT} {c : Int} (h : r.2.1 ≠ []) : f_Ring_at (r, c, ()) = .ok (atV r c) := by
  obtain ⟨p, l, k⟩ := r
  show cond (decide (l = [])) _ _ = _
  rw [decide_eq_false h]
  rfl
theorem next_ok {r : RT} {c : Int} (h : r.2.1 ≠ []) : f_Ring_next (r, c, ()) = .ok (nextV r c) := by
  obtain ⟨p, l, k⟩ := r
  exact at_ok (r := (p, l, k)) h
theorem next_er {r : RT} {c : Int} (h : r.2.1 = []) : f_Ring_next (r, c, ()) = .er 9 := by
  obtain ⟨p, l, k⟩ := r
  show f_Ring_at ((p, l, k), _, ()) = _
  show cond (decide (l = [])) _ _ = _
  rw [decide_eq_true h]
  rfl
theorem mb_ok {r : RT} {a b : Int} (h : a ≤ b) : f_many_between (r, a, b, ()) = .ok (ahR r b - ahR r a) := by
  obtain ⟨p, l, k⟩ := r
  show cond (decide (b < a)) _ _ = _
  rw [decide_eq_false (by omega)]
  rfl
theorem at_has {r : RT} (k : RgOk r) (h : r.2.1 ≠ []) (c : Int) : hasR r (atV r c) = true ∧ ahR r (atV r c) = c := by
  have hl : 0 < r.2.1.length := List.length_pos_iff.mpr h
  have h0 := Int.emod_nonneg c (b := (r.2.1.length : Int)) (by omega)
  have h1 := Int.emod_lt_of_pos c (b := (r.2.1.length : Int)) (by omega)
  have e := Int.mul_ediv_add_emod c (r.2.1.length : Int)
  have hj : (c % (r.2.1.length : Int)).toNat < r.2.1.length := by omega
  have ea := atI_le h0 h1
  have mem : r.2.1[(c % (r.2.1.length : Int)).toNat] ∈ r.2.1 := List.getElem_mem hj
  have inn := k.inn _ mem
  have cb := cb_at (xs := r.2.1) (b := r.2.1[(c % (r.2.1.length : Int)).toNat]) (k := (c % (r.2.1.length : Int)).toNat) (by omega) (fun j q z => List.pairwise_iff_getElem.mp k.up j _ q hj z) (fun j q z => by have := up_at k.up hj q z; omega)
  have ev : atV r c = c / (r.2.1.length : Int) * r.1 + r.2.1[(c % (r.2.1.length : Int)).toNat] := by unfold atV; rw [ea]
  have p1 := k.p1
  have dm : atV r c / r.1 = c / (r.2.1.length : Int) ∧ atV r c % r.1 = r.2.1[(c % (r.2.1.length : Int)).toNat] := by
    rw [Int.ediv_emod_unique (by omega), ev]
    refine ⟨?_, inn.1, inn.2⟩
    rw [Int.mul_comm r.1]
    omega
  constructor
  · rw [has_iff k, dm.2]; exact mem
  · rw [ah_is, dm.1, dm.2, cb]
    rw [Int.mul_comm] at e
    omega
theorem next_has {r : RT} (k : RgOk r) (h : r.2.1 ≠ []) (n : Int) : hasR r (nextV r n) = true ∧ n ≤ nextV r n ∧ (∀ m, n ≤ m → hasR r m = true → nextV r n ≤ m) ∧ nextV r n < n + r.1 := by
  obtain ⟨h1, h2⟩ := at_has k h (ahR r n)
  change hasR r (nextV r n) = true at h1
  change ahR r (nextV r n) = ahR r n at h2
  have ge : n ≤ nextV r n := by
    rcases (show n ≤ nextV r n ∨ nextV r n < n by omega) with z | z
    · exact z
    · have c := ah_count k (show nextV r n ≤ n by omega)
      have pos : 0 < ((rng (nextV r n) n).filter fun x => hasR r x).length := List.length_pos_iff.mpr fun e => by
        have : nextV r n ∈ (rng (nextV r n) n).filter fun x => hasR r x := List.mem_filter.mpr ⟨rng_mem.mpr ⟨by omega, z⟩, h1⟩
        rw [e] at this
        cases this
      omega
  have least : ∀ m, n ≤ m → hasR r m = true → nextV r n ≤ m := fun m hm hh => by
    rcases (show nextV r n ≤ m ∨ m < nextV r n by omega) with z | z
    · exact z
    · have c := ah_count k ge
      have pos : 0 < ((rng n (nextV r n)).filter fun x => hasR r x).length := List.length_pos_iff.mpr fun e => by
        have : m ∈ (rng n (nextV r n)).filter fun x => hasR r x := List.mem_filter.mpr ⟨rng_mem.mpr ⟨hm, z⟩, hh⟩
        rw [e] at this
        cases this
      omega
  refine ⟨h1, ge, least, ?_⟩
  have p1 := k.p1
  rcases Int.lt_or_le (nextV r n) (n + r.1) with z | z
  · exact z
  · have := least (nextV r n - r.1) (by omega) (by rw [← has_per k, show nextV r n - r.1 + r.1 = nextV r n by omega]; exact h1)
    omega
/-! ### what the law's loop asks -/
theorem fn_ne {l : List Int} (h : (!decide (l = [])) = true) : l ≠ [] := fun e => by rw [decide_eq_true e] at h; cases h
theorem map_i (l : List Int) : (l.map fun n => n) = l := List.map_id' l
theorem fn_is {due fn : List Int} {r : RT} (dE : due = (rng ((0 : Int) - 60) 121).filter (fun n => hasR r n)) (hf : fn = (due.filter fun n => decide ((0 : Int) ≤ n)).map fun n => n) : fn = (rng 0 121).filter fun n => hasR r n := by
  rw [hf, map_i, dE, List.filter_filter]
  exact filter_cut (by omega) (by omega) (by omega) fun x h1 h2 => by
    congr 1
    exact decide_eq_decide.mpr ⟨fun h => ⟨h, h2⟩, fun h => h.1⟩
theorem hd_is {a b m : Int} {f : Int → Bool} (h : a ≤ m ∧ m < b) (hf : f m = true) (l : ∀ x, a ≤ x → f x = true → m ≤ x) : ∃ t, (rng a b).filter f = m :: t := by
  refine ⟨(rng (m + 1) b).filter f, ?_⟩
  rw [rng_app (b := m) h.1 (by omega), rng_app (a := m) (b := m + 1) (by omega) (by omega), List.filter_append, List.filter_append]
  have e1 : (rng a m).filter f = [] := by
    rw [List.filter_eq_nil_iff]
    intro x hx z
    rw [rng_mem] at hx
    have := l x hx.1 z
    omega
  have e2 : rng m (m + 1) = [m] := by
    unfold rng
    rw [show (m + 1 - m).toNat = 1 by omega]
    show [m + ((0 : Nat) : Int)] = _
    rw [show m + ((0 : Nat) : Int) = m by omega]
  rw [e1, e2, List.filter_cons, if_pos hf]
  rfl
theorem has_l {r : RT} (k : RgOk r) {n : Int} (h : hasR r n = true) : r.2.1 ≠ [] := fun e => by
  have := (has_iff k).mp h
  rw [e] at this
  cases this
theorem late_is {fn : List Int} {r : RT} {s : Int} (hs : 0 ≤ s ∧ s < 50) (hf : fn = (rng 0 121).filter fun n => hasR r n) : ((fn.filter fun n => decide (s ≤ n)).map fun n => n) = (rng s 121).filter fun n => hasR r n := by
  rw [map_i, hf, List.filter_filter]
  exact filter_cut (by omega) (by omega) (by omega) fun x h1 h2 => by
    congr 1
    exact decide_eq_decide.mpr ⟨fun h => ⟨h, h2⟩, fun h => h.1⟩
theorem fn_ok {r : RT} (k : RgOk r) {due fn : List Int} {s : Int} (dE : due = (rng ((0 : Int) - 60) 121).filter (fun n => hasR r n)) (hf : fn = (due.filter fun n => decide ((0 : Int) ≤ n)).map fun n => n) (hs : 0 ≤ s ∧ s < 50) (h : fn ≠ []) :
    r.2.1 ≠ [] ∧ 0 < fn.length ∧ 0 < ((fn.filter fun n => decide (s ≤ n)).map fun n => n).length := by
  have e := fn_is dE hf
  obtain ⟨x, hx⟩ := List.exists_mem_of_ne_nil _ h
  rw [e] at hx
  have hl := has_l k (List.mem_filter.mp hx).2
  have p63 := k.p63
  obtain ⟨n1, n2, n3, n4⟩ := next_has k hl s
  obtain ⟨t, ht⟩ := hd_is (f := fun n => hasR r n) (b := 121) ⟨n2, by omega⟩ n1 n3
  exact ⟨hl, List.length_pos_iff.mpr h, by rw [late_is hs e, ht]; exact Nat.succ_pos _⟩
theorem l0_ok {r : RT} (k : RgOk r) {due : List Int} (dE : due = (rng ((0 : Int) - 60) 121).filter (fun n => hasR r n)) (h : due = []) : r.2.1 = [] := by
  cases e : r.2.1 with
  | nil => rfl
  | cons x l =>
    exfalso
    have hl : r.2.1 ≠ [] := by rw [e]; exact fun z => nomatch z
    have p63 := k.p63
    obtain ⟨n1, n2, n3, n4⟩ := next_has k hl 0
    have : nextV r 0 ∈ due := by rw [dE]; exact List.mem_filter.mpr ⟨rng_mem.mpr ⟨by omega, by omega⟩, n1⟩
    rw [h] at this
    cases this
def meetV (a b c d : Int) : Option (Int × Int) := match f_meeting (a, b, c, d, ()) with
  | .ok x => x
  | .er _ => none
theorem meet_eq {a b c d : Int} (h : 1 ≤ b) (h2 : b ≤ 8) (h3 : 1 ≤ d) (h4 : d ≤ 8) : f_meeting (a, b, c, d, ()) = .ok (meetV a b c d) := by
  unfold meetV
  cases e : f_meeting (a, b, c, d, ()) with
  | ok x => rfl
  | er k =>
    exfalso
    simp only [f_meeting, lt, decide_eq_false (show ¬ b < 1 by omega), decide_eq_false (show ¬ d < 1 by omega), Bool.or_self, cond_false] at e
    cases hc : decide ((c - a) % ((Int.gcd b d : Nat) : Int) = 0) <;> rw [hc] at e <;> cases e
theorem mul_le8 {a b : Int} (hA : 1 ≤ a ∧ a ≤ 8) (hB : 1 ≤ b ∧ b ≤ 8) : 1 ≤ a * b ∧ a * b ≤ 64 := by
  have h1 : 1 * 1 ≤ a * b := Int.mul_le_mul hA.1 hB.1 (by decide) (by omega)
  have h2 : a * b ≤ 8 * 8 := Int.mul_le_mul hA.2 hB.2 (by omega) (by decide)
  omega
/-! ### the least period -/
def perR (r : RT) (d : Int) : Prop := ∀ n, hasR r (n + d) = hasR r n
theorem isPer_iff {p d : Int} {l : List Int} (k : RgOk (p, l, l)) (h : 1 ≤ d ∧ d < p) : isPer p l d = true ↔ (p % d = 0 ∧ perR (p, l, l) d) := by
  unfold isPer
  rw [Bool.and_eq_true, decide_eq_true_eq, decide_eq_true_eq]
  have p63 : p ≤ 63 := k.p63
  refine and_congr_right fun hd => ?_
  have eD := Int.mul_ediv_cancel' (Int.dvd_of_emod_eq_zero hd)
  have cR : RgOk (cutR l d) := mkR_ok h.1 (by omega)
  have w1 : 1 ≤ (cutR l d).1 * (p / d) := by show 1 ≤ d * (p / d); omega
  have w2 : (cutR l d).1 * (p / d) ≤ 63 := by show d * (p / d) ≤ 63; omega
  have wk := w_ok (r := cutR l d) (t := p / d) w1 w2
  have wp : (v_widened (cutR l d, p / d, ())).1 = p := by rw [w_per]; exact eD
  have wh := w_has cR w1 w2
  have inl : ∀ x ∈ l, 0 ≤ x ∧ x < p := k.inn
  have cH : ∀ n, hasR (cutR l d) n = true ↔ ∃ x ∈ l, x < d ∧ x % d = n % d := fun n => by
    rw [mkR_has h.1 (by omega)]
    constructor
    · rintro ⟨x, hx, e⟩
      obtain ⟨y, hy, rfl⟩ := List.mem_map.mp hx
      obtain ⟨q1, q2⟩ := List.mem_filter.mp hy
      exact ⟨_, q1, of_decide_eq_true q2, e⟩
    · rintro ⟨x, hx, hd, e⟩
      exact ⟨x, List.mem_map.mpr ⟨x, List.mem_filter.mpr ⟨hx, decide_eq_true hd⟩, rfl⟩, e⟩
  have lH : ∀ n, hasR (p, l, l) n = true ↔ n % p ∈ l := fun n => has_iff k
  -- the widened one's places are l just where both have the same
  have e1 : (v_widened (cutR l d, p / d, ())).2.1 = l ↔ ∀ n, hasR (cutR l d) n = hasR (p, l, l) n := by
    constructor
    · intro e n
      rw [← wh]
      apply has_eq
      rw [has_iff wk, lH, wp, e]
    · intro e
      refine up_same wk.up k.up fun x => ?_
      constructor
      · intro hx
        have b := wk.inn x hx
        rw [wp] at b
        have q : hasR (v_widened (cutR l d, p / d, ())) x = true := by rw [has_iff wk, wp, Int.emod_eq_of_lt b.1 b.2]; exact hx
        rw [wh, e, lH, Int.emod_eq_of_lt b.1 b.2] at q
        exact q
      · intro hx
        have b := inl x hx
        have q : hasR (p, l, l) x = true := by rw [lH, Int.emod_eq_of_lt b.1 b.2]; exact hx
        rw [← e, ← wh, has_iff wk, wp, Int.emod_eq_of_lt b.1 b.2] at q
        exact q
  rw [e1]
  constructor
  · intro e n
    rw [← e, ← e]
    exact has_per cR n
  · intro per n
    have back : ∀ (m : Nat) (n : Int), hasR (p, l, l) (n + d * m) = hasR (p, l, l) n := by
      intro m
      induction m with
      | zero => intro n; rw [show n + d * ((0 : Nat) : Int) = n by simp]
      | succ m ih => intro n; rw [show n + d * ((m + 1 : Nat) : Int) = (n + d * m) + d by push_cast; rw [Int.mul_add]; omega, per, ih]
    have red : hasR (p, l, l) n = hasR (p, l, l) (n % d) := by
      have e := Int.mul_ediv_add_emod n d
      rcases Int.le_total 0 (n / d) with z | z
      · have q := back (n / d).toNat (n % d)
        rw [← q]
        congr 1
        rw [show (((n / d).toNat : Nat) : Int) = n / d by omega]
        omega
      · have q := back (-(n / d)).toNat n
        rw [← q]
        congr 1
        rw [show (((-(n / d)).toNat : Nat) : Int) = -(n / d) by omega, Int.mul_neg]
        omega
    have h0 := Int.emod_nonneg n (b := d) (by omega)
    have h1 := Int.emod_lt_of_pos n (b := d) (by omega)
    apply has_eq
    rw [cH, red, lH, Int.emod_eq_of_lt h0 (by omega)]
    constructor
    · rintro ⟨x, hx, hd, e⟩
      have b := inl x hx
      rw [Int.emod_eq_of_lt b.1 hd] at e
      rw [← e]
      exact hx
    · intro hx
      exact ⟨_, hx, h1, Int.emod_emod_of_dvd n ⟨1, (Int.mul_one _).symm⟩⟩
/-- the least divisor of the period that is one itself -/
theorem least_ok {p : Int} {l : List Int} (k : RgOk (p, l, l)) : ∃ d, (leastV p l).1 = d ∧ RgOk (leastV p l) ∧ 1 ≤ d ∧ d ≤ p ∧ p % d = 0 ∧ perR (p, l, l) d ∧ (∀ n, hasR (leastV p l) n = hasR (p, l, l) n) ∧ ∀ e, 1 ≤ e → e < d → p % e = 0 → ¬ perR (p, l, l) e := by
  have p1 : 1 ≤ p := k.p1
  have p63 : p ≤ 63 := k.p63
  unfold leastV
  cases c : (rng 1 p).find? (isPer p l) with
  | none =>
    have id : mkR p l = (p, l, l) := by
      have e : (l.map fun x => x % p) = l := by
        conv => rhs; rw [← List.map_id l]
        apply List.map_congr_left
        intro x hx
        have := k.inn x hx
        exact Int.emod_eq_of_lt this.1 this.2
      have e2 : setL (l.map fun x => x % p) = l := by rw [e]; exact up_same (setL_up _) k.up fun x => setL_mem
      show (p, setL (l.map fun x => x % p), setL (l.map fun x => x % p)) = _
      rw [e2]
    refine ⟨p, rfl, mkR_ok p1 p63, p1, Int.le_refl _, Int.emod_self, fun n => has_per k n, fun n => by show hasR (mkR p l) n = _; rw [id], fun e h1 h2 h3 h4 => ?_⟩
    have := List.find?_eq_none.mp c e (rng_mem.mpr ⟨h1, h2⟩)
    exact this ((isPer_iff k ⟨h1, h2⟩).mpr ⟨h3, h4⟩)
  | some d =>
    have hd := List.find?_some c
    have hm := rng_mem.mp (List.mem_of_find?_eq_some c)
    obtain ⟨q1, q2⟩ := (isPer_iff k hm).mp hd
    have cR : RgOk (cutR l d) := mkR_ok hm.1 (by omega)
    refine ⟨d, rfl, cR, hm.1, by omega, q1, q2, fun n => ?_, fun e h1 h2 h3 h4 => ?_⟩
    · -- as the widened one has the same places
      have eD := Int.mul_ediv_cancel' (Int.dvd_of_emod_eq_zero q1)
      have w1 : 1 ≤ (cutR l d).1 * (p / d) := by show 1 ≤ d * (p / d); omega
      have w2 : (cutR l d).1 * (p / d) ≤ 63 := by show d * (p / d) ≤ 63; omega
      have wk := w_ok (r := cutR l d) (t := p / d) w1 w2
      have wp : (v_widened (cutR l d, p / d, ())).1 = p := by rw [w_per]; exact eD
      have wl : (v_widened (cutR l d, p / d, ())).2.1 = l := by
        unfold isPer at hd
        exact of_decide_eq_true (Bool.and_eq_true_iff.mp hd).2
      show hasR (cutR l d) n = _
      rw [← w_has cR w1 w2]
      apply has_eq
      rw [has_iff wk, has_iff k, wp, wl]
    · obtain ⟨as, bs, e1, e2⟩ := (List.find?_eq_some_iff_append.mp c).2
      have em : e ∈ rng 1 p := rng_mem.mpr ⟨h1, by omega⟩
      rw [e1] at em
      have upR : (rng 1 p).Pairwise (· < ·) := by
        unfold rng
        rw [List.pairwise_map]
        exact List.pairwise_lt_range.imp fun h => by omega
      rcases List.mem_append.mp em with z | z
      · have := e2 e z
        rw [(isPer_iff k ⟨h1, by omega⟩).mpr ⟨h3, h4⟩] at this
        cases this
      · rw [e1] at upR
        have u2 := (List.pairwise_append.mp upR).2.1
        rcases List.mem_cons.mp z with y | y
        · omega
        · have := (List.pairwise_cons.mp u2).1 e y
          omega
/-- what is a period of both is one of what they share -/
theorem per_mod {r : RT} {a b : Int} (ha : perR r a) (hb : perR r b) (h : 1 ≤ b) : perR r (a % b) := fun n => by
  have mul : ∀ (m : Nat) (n : Int), hasR r (n + b * m) = hasR r n := by
    intro m
    induction m with
    | zero => intro n; rw [show n + b * ((0 : Nat) : Int) = n by simp]
    | succ m ih => intro n; rw [show n + b * ((m + 1 : Nat) : Int) = (n + b * m) + b by push_cast; rw [Int.mul_add]; omega, hb, ih]
  have e := Int.mul_ediv_add_emod a b
  rcases Int.le_total 0 (a / b) with z | z
  · have q := mul (a / b).toNat (n + a % b)
    rw [← q, show n + a % b + b * (((a / b).toNat : Nat) : Int) = n + a by rw [show (((a / b).toNat : Nat) : Int) = a / b by omega]; omega]
    exact ha n
  · have q := mul (-(a / b)).toNat (n + a)
    rw [← ha n, ← q]
    congr 1
    rw [show (((-(a / b)).toNat : Nat) : Int) = -(a / b) by omega, Int.mul_neg]
    omega
theorem per_gcd {r : RT} : ∀ (m : Nat) (a b : Int), 1 ≤ a → 0 ≤ b → b ≤ m → perR r a → perR r b → perR r ((Int.gcd a b : Nat) : Int)
  | 0, a, b, h1, h2, h3, ha, hb => by
    obtain rfl : b = 0 := by omega
    rw [Int.gcd_zero_right, show ((a.natAbs : Nat) : Int) = a by omega]
    exact ha
  | m + 1, a, b, h1, h2, h3, ha, hb => by
    by_cases z : b = 0
    · subst z
      rw [Int.gcd_zero_right, show ((a.natAbs : Nat) : Int) = a by omega]
      exact ha
    · have q0 := Int.emod_nonneg a z
      have q1 := Int.emod_lt_of_pos a (b := b) (by omega)
      have := per_gcd m b (a % b) (by omega) q0 (by omega) hb (per_mod ha hb (by omega))
      have e : Int.gcd b (a % b) = Int.gcd a b := by
        obtain ⟨x, rfl⟩ : ∃ x : Nat, a = x := ⟨a.toNat, by omega⟩
        obtain ⟨y, rfl⟩ : ∃ y : Nat, b = y := ⟨b.toNat, by omega⟩
        show Nat.gcd y (x % y) = Nat.gcd x y
        rw [Nat.gcd_comm y, ← Nat.gcd_rec, Nat.gcd_comm]
      rw [e] at this
      exact this
theorem least_same {p p2 : Int} {l l2 : List Int} (k : RgOk (p, l, l)) (k2 : RgOk (p2, l2, l2)) (h : ∀ n, hasR (p, l, l) n = hasR (p2, l2, l2) n) : v_Ring_shown (leastV p l, ()) = v_Ring_shown (leastV p2 l2, ()) := by
  obtain ⟨d, e1, g1, a1, b1, c1, pr1, hh1, m1⟩ := least_ok k
  obtain ⟨d2, e2, g2, a2, b2, c2, pr2, hh2, m2⟩ := least_ok k2
  have pr2' : perR (p, l, l) d2 := fun n => by rw [h, h]; exact pr2 n
  have pr1' : perR (p2, l2, l2) d := fun n => by rw [← h, ← h]; exact pr1 n
  have dv1 : ((Int.gcd d d2 : Nat) : Int) ∣ d := Int.gcd_dvd_left ..
  have dv2 : ((Int.gcd d d2 : Nat) : Int) ∣ d2 := Int.gcd_dvd_right ..
  have gp := gcd_pos (a := d) (b := d2) a1
  have gp2 := gcd_posR (a := d) (b := d2) a2
  have pg := per_gcd d2.toNat d d2 a1 (by omega) (by omega) pr1 pr2'
  have pg2 := per_gcd d2.toNat d d2 a1 (by omega) (by omega) pr1' pr2
  have x1 : ((Int.gcd d d2 : Nat) : Int) = d := by
    rcases Int.lt_or_le ((Int.gcd d d2 : Nat) : Int) d with z | z
    · exact absurd pg (m1 _ gp.1 z (Int.emod_eq_zero_of_dvd (Int.dvd_trans dv1 (Int.dvd_of_emod_eq_zero c1))))
    · omega
  have x2 : ((Int.gcd d d2 : Nat) : Int) = d2 := by
    rcases Int.lt_or_le ((Int.gcd d d2 : Nat) : Int) d2 with z | z
    · exact absurd pg2 (m2 _ gp.1 z (Int.emod_eq_zero_of_dvd (Int.dvd_trans dv2 (Int.dvd_of_emod_eq_zero c2))))
    · omega
  have ed : d = d2 := by omega
  have el : (leastV p l).2.1 = (leastV p2 l2).2.1 := by
    refine up_same g1.up g2.up fun x => ?_
    have key : ∀ {r : RT}, RgOk r → (x ∈ r.2.1 ↔ (0 ≤ x ∧ x < r.1) ∧ hasR r x = true) := fun {r} kk => by
      constructor
      · intro hx
        have b := kk.inn x hx
        exact ⟨b, by rw [has_iff kk, Int.emod_eq_of_lt b.1 b.2]; exact hx⟩
      · rintro ⟨b, hx⟩
        rw [has_iff kk, Int.emod_eq_of_lt b.1 b.2] at hx
        exact hx
    rw [key g1, key g2, e1, e2, ed, hh1, hh2, h]
  have s : ∀ r : RT, v_Ring_shown (r, ()) = (r.1, r.2.1) := fun r => by obtain ⟨a, b, c⟩ := r; rfl
  rw [s, s, e1, e2, ed, el]
theorem can_w {r : RT} (k : RgOk r) : RgOk (r.1, r.2.1, r.2.1) ∧ r = (r.1, r.2.1, r.2.1) := by
  obtain ⟨p, l, kk⟩ := r
  obtain rfl : kk = l := k.k
  exact ⟨k, rfl⟩
theorem small_le {a : Int} {p : List Int} (hA : 1 ≤ a ∧ a ≤ 8) (hP : p.Sublist (rng 0 a)) : 1 ≤ (leastV (v_widened ((a, p, p), 2, ())).1 (v_widened ((a, p, p), 2, ())).2.1).1 ∧ (leastV (v_widened ((a, p, p), 2, ())).1 (v_widened ((a, p, p), 2, ())).2.1).1 ≤ a := by
  have k := one_ok hA hP
  have w1 : 1 ≤ a * 2 ∧ a * 2 ≤ 63 := by omega
  have kw := w_ok (r := (a, p, p)) (t := 2) w1.1 w1.2
  obtain ⟨kc, ec⟩ := can_w kw
  obtain ⟨d, e1, g1, a1, b1, c1, pr1, hh1, m1⟩ := least_ok kc
  rw [e1]
  refine ⟨a1, ?_⟩
  rcases (show d ≤ a ∨ a < d by omega) with z | z
  · exact z
  · exfalso
    refine m1 a hA.1 z ?_ ?_
    · show (a * 2) % a = 0
      exact Int.mul_emod_right ..
    · intro n
      rw [← ec, w_has k w1.1 w1.2, w_has k w1.1 w1.2]
      exact has_per k n
end Rw
namespace Rw
open PySem PySem.Spec PyProof.Rows L2 Evl
abbrev sLaw : Stmt := topS 36
def lawN : List Str := ["script", "dice", "sizes", "sets", "one", "other", "span", "mine", "theirs", "ring", "due", "from_nought", "spot", "by", "small", "pair", "first", "second", "good", "told_now", "wrong", "k", "size", "place", "number", "n"]
theorem scLaw : FnScope lawN ["script"] (defScope sLaw) := ⟨rfl, rfl, rfl, by decide +kernel, rfl, by decide +kernel, by decide +kernel⟩

section
variable (P : Program) (w : World) (K : PySem.W.Frag) (mg : Str → Option Value) (base : Heap) (CR : Addr) (cl : Nat → Addr)
abbrev lawX (f cc : Addr) (A : Around) (outer : List Env) (s : Shared) (H : Hp) (E : XK) : Cx := cxOf (L2.CX P w) P w K mg base lawN "law" (defScope sLaw) f (.ref cc) A outer s H E
structure LawTL : Prop where
  T_Rg : Tt_Rg K CR
  n_list : mg "list" = none
  n_dict : mg "dict" = none
  n_sorted : mg "sorted" = none
  roll : Cal P w K mg base 1 "_law_roll" spRollX []
  rounds : Cal P w K mg base 2 "_law_rounds" (spRounds K) []
  nR : Nw P w K mg base 1 "Ring" CR (sp_Ring_init K CR cl) []
  m_has : Mt P w K mg base 1 CR "has" (sp_Ring_has K CR cl) []
  m_ahead : Mt P w K mg base 2 CR "ahead" (sp_Ring_ahead K CR cl) []
  m_at : Mt P w K mg base 1 CR "at" (sp_Ring_at K CR cl) []
  m_next : Mt P w K mg base 3 CR "next" (sp_Ring_next K CR cl) []
  c_widened : Cal P w K mg base 3 "widened" (sp_widened K CR cl) []
  c_opposite : Cal P w K mg base 3 "opposite" (sp_opposite K CR cl) []
  c_shifted : Cal P w K mg base 3 "shifted" (sp_shifted K CR cl) []
  c_paired : Cal P w K mg base 4 "paired" (sp_paired K CR cl) []
  c_either : Cal P w K mg base 5 "either" (sp_either K CR cl) []
  c_common_to : Cal P w K mg base 5 "common_to" (sp_common_to K CR cl) []
  c_least : Cal P w K mg base 4 "least" (sp_least K CR cl) []
  c_same : Cal P w K mg base 5 "same" (sp_same K CR cl) []
  c_meeting : Cal P w K mg base 2 "meeting" (sp_meeting K cl) []
  c_many_between : Cal P w K mg base 3 "many_between" (sp_many_between K CR cl) []
  exs : Exs K mg cl
  told : ToldF K mg
end
def m_lawB (z0 : Dice) : Bool :=
  lt (runE (fun (x_1 : Int) (z_11 : Dice) => (true, z_11)) (fun (x_1 : Int) (z_15 : Dice) => (((1 : Int) + (roll z_15 (8 : Int)).1), (roll z_15 (8 : Int)).2)) (rng 0 (2 : Int)) z0).1 fun sizes_16 =>
  lt (runE (fun (x_25 : Int) (z_35 : Dice) => (true, z_35)) (fun (x_25 : Int) (z_69 : Dice) => ((runE (fun (x_54 : Int) (z_64 : Dice) => ((decide ((roll z_64 (2 : Int)).1 = (0 : Int))), (roll z_64 (2 : Int)).2)) (fun (x_54 : Int) (z_68 : Dice) => (x_54, z_68)) (rng 0 x_25) z_69).1, (runE (fun (x_54 : Int) (z_64 : Dice) => ((decide ((roll z_64 (2 : Int)).1 = (0 : Int))), (roll z_64 (2 : Int)).2)) (fun (x_54 : Int) (z_68 : Dice) => (x_54, z_68)) (rng 0 x_25) z_69).2)) [(List.headD sizes_16 0), (List.headD (List.tail sizes_16) 0)] (runE (fun (x_1 : Int) (z_11 : Dice) => (true, z_11)) (fun (x_1 : Int) (z_15 : Dice) => (((1 : Int) + (roll z_15 (8 : Int)).1), (roll z_15 (8 : Int)).2)) (rng 0 (2 : Int)) z0).2).1 fun sets_70 =>
  lt (((List.headD sizes_16 0), (List.headD sets_70 []), (List.headD sets_70 [])), ((List.headD (List.tail sizes_16) 0), (List.headD (List.tail sets_70) []), (List.headD (List.tail sets_70) []))) fun _ =>
  lt (rng ((0 : Int) - (60 : Int)) (121 : Int)) fun span_106 =>
  lt ((flt (List.headD sizes_16 0) (List.headD sets_70 [])), (flt (List.headD (List.tail sizes_16) 0) (List.headD (List.tail sets_70) []))) fun _ =>
  forK (fun (x_246 : ((Int × List Int × List Int) × (List Int))) (s_247 : (Dice)) (kn : (Dice) → _) (kb : (Dice) → _) =>
  cond (!decide ((((rng ((0 : Int) - (60 : Int)) (121 : Int)).filter (fun x_280 => (!decide ((v_Ring_has (x_246.1, x_280, ())) = (decide (x_280 ∈ x_246.2)))))).map (fun x_280 => x_280)) = ([] : List Int)))
  (false)
  (lt ((x_246.2.filter (fun x_322 => (decide ((0 : Int) ≤ x_322)))).map (fun x_322 => x_322)) fun from_nought_336 =>
  lt (roll s_247 (50 : Int)).1 fun spot_353 =>
  cond ((!decide ((v_Ring_ahead (x_246.1, spot_353, ())) = (((from_nought_336.filter (fun x_371 => (decide (x_371 < spot_353)))).map (fun x_371 => x_371)).length : Int))) || (!decide ((v_Ring_ahead (x_246.1, ((0 : Int) - spot_353), ())) = ((0 : Int) - (((x_246.2.filter (fun x_386 => ((decide (((0 : Int) - spot_353) ≤ x_386)) && (decide (x_386 < (0 : Int)))))).map (fun x_386 => x_386)).length : Int)))))
  (false)
  (cond ((!decide (from_nought_336 = ([] : List Int))) && ((!decide ((atV x_246.1 (0 : Int)) = ((atI from_nought_336 (0 : Int)).getD 0))) || (!decide ((nextV x_246.1 spot_353) = ((atI ((from_nought_336.filter (fun x_433 => (decide (spot_353 ≤ x_433)))).map (fun x_433 => x_433)) (0 : Int)).getD 0)))))
  (false)
  (cond (((decide (x_246.2 = ([] : List Int))) && (!decide ((kindName 9) = "no day"))) || (!decide ((v_Ring_ahead (x_246.1, spot_353, ()) - v_Ring_ahead (x_246.1, ((0 : Int) - spot_353), ())) = (((x_246.2.filter (fun x_482 => ((decide (((0 : Int) - spot_353) ≤ x_482)) && (decide (x_482 < spot_353))))).map (fun x_482 => x_482)).length : Int))))
  (false)
  (kn ((roll s_247 (50 : Int)).2))))))
  (fun (s_527 : (Dice)) =>
  lt ((roll s_527 (20 : Int)).1 - (10 : Int)) fun by_547 =>
  cond ((!decide ((((rng 0 (40 : Int)).filter (fun x_562 => (!decide ((v_Ring_has ((v_shifted (((List.headD sizes_16 0), (List.headD sets_70 []), (List.headD sets_70 [])), by_547, ())), x_562, ())) = (v_Ring_has (((List.headD sizes_16 0), (List.headD sets_70 []), (List.headD sets_70 [])), (x_562 - by_547), ())))))).map (fun x_562 => x_562)) = ([] : List Int))) || ((!decide ((v_same (((List.headD sizes_16 0), (List.headD sets_70 []), (List.headD sets_70 [])), (v_widened (((List.headD sizes_16 0), (List.headD sets_70 []), (List.headD sets_70 [])), (3 : Int), ())), ())) = true)) || (!decide ((v_same (((List.headD sizes_16 0), (List.headD sets_70 []), (List.headD sets_70 [])), ((List.headD (List.tail sizes_16) 0), (List.headD (List.tail sets_70) []), (List.headD (List.tail sets_70) [])), ())) = (decide ((flt (List.headD sizes_16 0) (List.headD sets_70 [])) = (flt (List.headD (List.tail sizes_16) 0) (List.headD (List.tail sets_70) []))))))))
  (false)
  (lt (leastV ((v_widened (((List.headD sizes_16 0), (List.headD sets_70 []), (List.headD sets_70 [])), (2 : Int), ()))).1 ((v_widened (((List.headD sizes_16 0), (List.headD sets_70 []), (List.headD sets_70 [])), (2 : Int), ()))).2.1) fun small_603 =>
  cond ((!decide ((((rng 0 (40 : Int)).filter (fun x_618 => (!decide ((v_Ring_has (small_603, x_618, ())) = (v_Ring_has (((List.headD sizes_16 0), (List.headD sets_70 []), (List.headD sets_70 [])), x_618, ())))))).map (fun x_618 => x_618)) = ([] : List Int))) || ((decide ((List.headD sizes_16 0) < (small_603).1)) || (!decide ((((rng (1 : Int) (small_603).1).filter (fun x_634 => ((decide (((small_603).1 % x_634) = (0 : Int))) && (decide ((((rng 0 (60 : Int)).filter (fun x_649 => (!decide ((v_Ring_has (((List.headD sizes_16 0), (List.headD sets_70 []), (List.headD sets_70 [])), x_649, ())) = (v_Ring_has (((List.headD sizes_16 0), (List.headD sets_70 []), (List.headD sets_70 [])), (x_649 + x_634), ())))))).map (fun x_649 => x_649)) = ([] : List Int)))))).map (fun x_634 => x_634)) = ([] : List Int)))))
  (false)
  (lt (v_paired (((List.headD sizes_16 0), (List.headD sets_70 []), (List.headD sets_70 [])), ((List.headD (List.tail sizes_16) 0), (List.headD (List.tail sets_70) []), (List.headD (List.tail sets_70) [])), ())) fun pair_691 =>
  cond ((!decide (((pair_691).1).1 = ((pair_691).2).1)) || ((!decide ((((pair_691).1).1 % (List.headD sizes_16 0)) = (0 : Int))) || (!decide ((((pair_691).1).1 % (List.headD (List.tail sizes_16) 0)) = (0 : Int)))))
  (false)
  (lt (roll (roll s_527 (20 : Int)).2 (9 : Int)).1 fun first_738 => lt (roll (roll (roll s_527 (20 : Int)).2 (9 : Int)).2 (9 : Int)).1 fun second_739 =>
  lt (((rng 0 ((List.headD sizes_16 0) * (List.headD (List.tail sizes_16) 0))).filter (fun x_759 => ((decide (((x_759 - first_738) % (List.headD sizes_16 0)) = (0 : Int))) && (decide (((x_759 - second_739) % (List.headD (List.tail sizes_16) 0)) = (0 : Int)))))).map (fun x_759 => x_759)) fun good_775 =>
  lt (meetV first_738 (List.headD sizes_16 0) second_739 (List.headD (List.tail sizes_16) 0)) fun told_now_792 =>
  cond (decide (good_775 = ([] : List Int)))
  (cond (told_now_792.isSome)
  (false)
  (true))
  (cond (!decide (told_now_792 = (some (((atI good_775 (0 : Int)).getD 0), (((atI (good_775 ++ ([(((atI good_775 (0 : Int)).getD 0) + ((pair_691).1).1)] : List Int)) (1 : Int)).getD 0) - ((atI good_775 (0 : Int)).getD 0))))))
  (false)
  (true))))))
  ([(((List.headD sizes_16 0), (List.headD sets_70 []), (List.headD sets_70 [])), (flt (List.headD sizes_16 0) (List.headD sets_70 []))), (((List.headD (List.tail sizes_16) 0), (List.headD (List.tail sets_70) []), (List.headD (List.tail sets_70) [])), (flt (List.headD (List.tail sizes_16) 0) (List.headD (List.tail sets_70) []))), ((v_either (((List.headD sizes_16 0), (List.headD sets_70 []), (List.headD sets_70 [])), ((List.headD (List.tail sizes_16) 0), (List.headD (List.tail sets_70) []), (List.headD (List.tail sets_70) [])), ())), (setL ((dictP (((flt (List.headD sizes_16 0) (List.headD sets_70 [])) ++ (flt (List.headD (List.tail sizes_16) 0) (List.headD (List.tail sets_70) []))).map (fun x_204 => (x_204, (1 : Int))))).map (·.1)))), ((v_common_to (((List.headD sizes_16 0), (List.headD sets_70 []), (List.headD sets_70 [])), ((List.headD (List.tail sizes_16) 0), (List.headD (List.tail sets_70) []), (List.headD (List.tail sets_70) [])), ())), (((flt (List.headD sizes_16 0) (List.headD sets_70 [])).filter (fun x_218 => (decide (x_218 ∈ (flt (List.headD (List.tail sizes_16) 0) (List.headD (List.tail sets_70) [])))))).map (fun x_218 => x_218))), ((v_opposite (((List.headD sizes_16 0), (List.headD sets_70 []), (List.headD sets_70 [])), ())), (((rng ((0 : Int) - (60 : Int)) (121 : Int)).filter (fun x_232 => (!decide (x_232 ∈ (flt (List.headD sizes_16 0) (List.headD sets_70 [])))))).map (fun x_232 => x_232)))] : List ((Int × List Int × List Int) × (List Int))) ((runE (fun (x_25 : Int) (z_35 : Dice) => (true, z_35)) (fun (x_25 : Int) (z_69 : Dice) => ((runE (fun (x_54 : Int) (z_64 : Dice) => ((decide ((roll z_64 (2 : Int)).1 = (0 : Int))), (roll z_64 (2 : Int)).2)) (fun (x_54 : Int) (z_68 : Dice) => (x_54, z_68)) (rng 0 x_25) z_69).1, (runE (fun (x_54 : Int) (z_64 : Dice) => ((decide ((roll z_64 (2 : Int)).1 = (0 : Int))), (roll z_64 (2 : Int)).2)) (fun (x_54 : Int) (z_68 : Dice) => (x_54, z_68)) (rng 0 x_25) z_69).2)) [(List.headD sizes_16 0), (List.headD (List.tail sizes_16) 0)] (runE (fun (x_1 : Int) (z_11 : Dice) => (true, z_11)) (fun (x_1 : Int) (z_15 : Dice) => (((1 : Int) + (roll z_15 (8 : Int)).1), (roll z_15 (8 : Int)).2)) (rng 0 (2 : Int)) z0).2).2)
section
variable {P : Program} {w : World} {K : PySem.W.Frag} {mg : Str → Option Value} {base : Heap} {CR : Addr} {cl : Nat → Addr}
def spLaw (K : PySem.W.Frag) (PT : Addr) : Sp := fun vs H Q _ => ∃ (a : Addr) (ns : List Int), vs = [.ref a] ∧ SqL K H a (ns.map V.int) ∧ H PT = some (.tbl #[]) ∧ ∀ H', Q (.bl true) H'
theorem ok_law {f cc PT : Addr} {oc : Value} {od an : Option Addr} {osl : Array (Option Value)} {kV doc pm ct : Value} (lk : K.lookup f = some ⟨oc, od, .func (PySem.W.fnOf "law" "law" (defArgs sLaw) (defBody sLaw) (defScope sLaw) .none kV doc pm an (.ref cc) ct), osl⟩) (hcd : PySem.W.codeIn K (.ref cc) "law" = true) (TB : LamX.TabB base mg cc PT) (L : LawTL P w K mg base CR cl) (B : BD mg) (o0 : ∀ z', Pt (m_lawB z')) :
    FnOk P w K mg base (L2.CX P w) 11 f (PySem.W.fnOf "law" "law" (defArgs sLaw) (defBody sLaw) (defScope sLaw) .none kV doc pm an (.ref cc) ct) ["script"] (spLaw K PT) := by
  refine fn_of lk hcd scLaw (fun vs H Q E h => ?_) (fun A outer s H vs Q E hr h => ?_)
  · obtain ⟨a, ns, rfl, _⟩ := h
    rfl
  · obtain ⟨sc, ns, rfl, hS, hT, q⟩ := h
    obtain ⟨gT, ocT, kVT, dcT, pmT, cdT, ctT, odT, anT, oslT, hmT, kpT, lkT, hcT, bT⟩ := L.told
    let LQ : Str := (lawX P w K mg base f cc A outer s H E).env.qual ++ "<lambda>"
    refine ⟨_, pss_cons (ps_for (passes_of rfl) rfl (pi_list (pe_k L.rounds hr (by decide) passL (pa_cons (pv 0) (pa_cons pe_int pa_nil)))) (pg_name (i := 1) scLaw.nd rfl (.inr rfl)) (pss_cons (ps_set (i := 2) scLaw.nd rfl (.inr rfl) (pe_lc (own := [("k", 21)]) (g := gName 21) (tt := tYes) rfl scLaw.nd (pi_range1 rfl B.range (pa_cons pe_int pa_nil)) (blkOk_by (own := [("k", 21)]) (N := lawN) (sc := (defScope sLaw)) (by decide +kernel)) (fun _ _ _ _ _ => pg_name (i := 21) scLaw.nd rfl (Or.inl rfl)) (fun _ _ _ _ _ => pts_nil) (fun _ _ _ _ _ => (pe_op op_add pe_int (pe_k L.roll hr (by decide) passL (pa_cons (pv 1) (pa_cons pe_int pa_nil))))))) (pss_cons (ps_set (i := 3) scLaw.nd rfl (.inr rfl) (pe_lc (own := [("size", 22)]) (g := gName 22) (tt := tYes) rfl scLaw.nd (pi_list (pv 2)) (blkOk_by (own := [("size", 22)]) (N := lawN) (sc := (defScope sLaw)) (by decide +kernel)) (fun _ _ _ _ _ => pg_name (i := 22) scLaw.nd rfl (Or.inl rfl)) (fun _ _ _ _ _ => pts_nil) (fun _ _ _ _ _ => (pe_lc (own := [("place", 23)]) (g := gName 23) (tt := _) rfl scLaw.nd (pi_range1 rfl B.range (pa_cons (pv 22) pa_nil)) (blkOk_by (own := [("place", 23)]) (N := lawN) (sc := _) (by kernel_rfl)) (fun _ _ _ _ _ => pg_name (i := 23) scLaw.nd rfl (Or.inl rfl)) (fun _ _ _ _ _ => pts_one (pt_cmpR op_eq (pe_k L.roll hr (by decide) passL (pa_cons (pv 1) (pa_cons pe_int pa_nil))) pe_int (nomark _))) (fun _ _ _ _ _ => (pv 23)))))) (pss_cons (ps_asg (pe_lc (own := [("k", 21)]) (g := gName 21) (tt := tYes) rfl scLaw.nd (pi_range1 rfl B.range (pa_cons pe_int pa_nil)) (blkOk_by (own := [("k", 21)]) (N := lawN) (sc := (defScope sLaw)) (by decide +kernel)) (fun _ _ _ _ _ => pg_name (i := 21) scLaw.nd rfl (Or.inl rfl)) (fun _ _ _ _ _ => pts_nil) (fun _ _ _ _ _ => (pe_nw L.nR hr (by decide) passL (pa_cons (pe_ix (ix_listK (K := K)) (pv 2) (pv 21) (fun _ _ => rfl)) (pa_cons (pe_ix (ix_listK (K := K)) (pv 3) (pv 21) (fun _ _ => rfl)) pa_nil))))) (pg_unl rfl (pgs_cons (pg_name (i := 4) scLaw.nd rfl (.inr rfl)) (pgs_cons (pg_name (i := 5) scLaw.nd rfl (.inl rfl)) pgs_nil)))) (pss_cons (ps_set (i := 6) scLaw.nd rfl (.inr rfl) (pe_listRg rfl (by rfl) L.n_list (prg_2 (by rfl) B.range (pe_op op_sub pe_int pe_int) pe_int))) (pss_cons (ps_asg (pe_lc (own := [("k", 21)]) (g := gName 21) (tt := tYes) rfl scLaw.nd (pi_range1 rfl B.range (pa_cons pe_int pa_nil)) (blkOk_by (own := [("k", 21)]) (N := lawN) (sc := (defScope sLaw)) (by decide +kernel)) (fun _ _ _ _ _ => pg_name (i := 21) scLaw.nd rfl (Or.inr rfl)) (fun _ _ _ _ _ => pts_nil) (fun _ _ _ _ _ => (pe_lc (own := [("number", 24)]) (g := gName 24) (tt := _) rfl scLaw.nd (pi_listK (K := K) (pv 6)) (blkOk_by (own := [("number", 24)]) (N := lawN) (sc := _) (by kernel_rfl)) (fun _ _ _ _ _ => pg_name (i := 24) scLaw.nd rfl (Or.inl rfl)) (fun _ _ _ _ _ => pts_one (pt_cmpR (op_inK (K := K)) (pe_op op_mod (pv 24) (pe_ix (ix_listK (K := K)) (pv 2) (pv 21) (fun _ _ => rfl))) (pe_ix (ix_listK (K := K)) (pv 3) (pv 21) (fun _ _ => rfl)) (by rfl))) (fun _ _ _ _ _ => (pv 24))))) (pg_unl rfl (pgs_cons (pg_name (i := 7) scLaw.nd rfl (.inr rfl)) (pgs_cons (pg_name (i := 8) scLaw.nd rfl (.inr rfl)) pgs_nil)))) (pss_cons (ps_for (passes_of rfl) rfl (pi_list (pe_lst (pa_cons (pe_tup (pa_cons (pv 4) (pa_cons (pv 7) pa_nil))) (pa_cons (pe_tup (pa_cons (pv 5) (pa_cons (pv 8) pa_nil))) (pa_cons (pe_tup (pa_cons (pe_k L.c_either hr (by decide) passL (pa_cons (pv 4) (pa_cons (pv 5) pa_nil))) (pa_cons (pe_callB (cr_sortedDK rfl) (by rfl) L.n_sorted (by decide +kernel) (pa_cons (pe_callTy (call_dictP rfl) (by rfl) L.n_dict (by decide +kernel) (pa_cons (pe_lc (own := [("number", 24)]) (g := gName 24) (tt := tYes) rfl scLaw.nd (pi_list (pe_op op_cat (pv 7) (pv 8))) (blkOk_by (own := [("number", 24)]) (N := lawN) (sc := (defScope sLaw)) (by decide +kernel)) (fun _ _ _ _ _ => pg_name (i := 24) scLaw.nd rfl (Or.inl rfl)) (fun _ _ _ _ _ => pts_nil) (fun _ _ _ _ _ => (pe_tup (pa_cons (pv 24) (pa_cons pe_int pa_nil))))) pa_nil)) pa_nil)) pa_nil))) (pa_cons (pe_tup (pa_cons (pe_k L.c_common_to hr (by decide) passL (pa_cons (pv 4) (pa_cons (pv 5) pa_nil))) (pa_cons (pe_lc (own := [("number", 24)]) (g := gName 24) (tt := _) rfl scLaw.nd (pi_list (pv 7)) (blkOk_by (own := [("number", 24)]) (N := lawN) (sc := (defScope sLaw)) (by decide +kernel)) (fun _ _ _ _ _ => pg_name (i := 24) scLaw.nd rfl (Or.inl rfl)) (fun _ _ _ _ _ => pts_one (pt_cmpR (op_inK (K := K)) (pv 24) (pv 8) (by rfl))) (fun _ _ _ _ _ => (pv 24))) pa_nil))) (pa_cons (pe_tup (pa_cons (pe_k L.c_opposite hr (by decide) passL (pa_cons (pv 4) pa_nil)) (pa_cons (pe_lc (own := [("number", 24)]) (g := gName 24) (tt := _) rfl scLaw.nd (pi_list (pv 6)) (blkOk_by (own := [("number", 24)]) (N := lawN) (sc := (defScope sLaw)) (by decide +kernel)) (fun _ _ _ _ _ => pg_name (i := 24) scLaw.nd rfl (Or.inl rfl)) (fun _ _ _ _ _ => pts_one (pt_cmpR (op_notInK (K := K)) (pv 24) (pv 7) (by rfl))) (fun _ _ _ _ _ => (pv 24))) pa_nil))) pa_nil))))))) (pg_tup rfl (pgs_cons (pg_name (i := 9) scLaw.nd rfl (Or.inr rfl)) (pgs_cons (pg_name (i := 10) scLaw.nd rfl (Or.inr rfl)) pgs_nil))) (pss_cons (ps_if (pt_cmpR (op_neD hr.units) (pe_lc (own := [("number", 24)]) (g := gName 24) (tt := _) rfl scLaw.nd (pi_list (pv 6)) (blkOk_by (own := [("number", 24)]) (N := lawN) (sc := (defScope sLaw)) (by decide +kernel)) (fun _ _ _ _ _ => pg_name (i := 24) scLaw.nd rfl (Or.inl rfl)) (fun _ _ _ _ _ => pts_one (pt_cmpR op_ne (pe_mk L.m_has hr (by decide) passL (pv 9) (pa_cons (pv 24) pa_nil)) (pe_cmpR (op_inK (K := K)) (pv 24) (pv 10) (by rfl)) (nomark _))) (fun _ _ _ _ _ => (pv 24))) (pe_lst pa_nil) (nomark _)) (pss_one (ps_ret pe_bl)) (pss_nil)) (pss_cons (ps_setLc (own := [("number", 24)]) (i := 11) (g := gName 24) (tt := _) rfl scLaw.nd rfl rfl (sw_true rfl rfl rfl (by decide +kernel)) (pi_list (pv 10)) (blkOk_by (own := [("number", 24)]) (N := lawN) (sc := defScope sLaw) (by decide +kernel)) (fun _ _ _ _ _ => pg_name (i := 24) scLaw.nd rfl (Or.inl rfl)) (fun _ _ _ _ _ => pts_one (pt_cmpR op_ge (pv 24) pe_int (nomark _))) (fun _ _ _ _ _ => (pv 24))) (pss_cons (ps_set (i := 12) scLaw.nd rfl (.inr rfl) (pe_k L.roll hr (by decide) passL (pa_cons (pv 1) (pa_cons pe_int pa_nil)))) (pss_cons (ps_if (PW.pt (pw_or (pt_cmpR op_ne (pe_mk L.m_ahead hr (by decide) passL (pv 9) (pa_cons (pv 12) pa_nil)) (pe_callB call_len_seq (by rfl) B.len (by decide +kernel) (pa_cons (pe_lc (own := [("number", 24)]) (g := gName 24) (tt := _) rfl scLaw.nd (pi_list (pv 11)) (blkOk_by (own := [("number", 24)]) (N := lawN) (sc := (defScope sLaw)) (by decide +kernel)) (fun _ _ _ _ _ => pg_name (i := 24) scLaw.nd rfl (Or.inl rfl)) (fun _ _ _ _ _ => pts_one (pt_cmpR op_lt (pv 24) (pv 12) (nomark _))) (fun _ _ _ _ _ => (pv 24))) pa_nil)) (nomark _)) (pw_or1 (pt_cmpR op_ne (pe_mk L.m_ahead hr (by decide) passL (pv 9) (pa_cons (pe_op op_sub pe_int (pv 12)) pa_nil)) (pe_op op_sub pe_int (pe_callB call_len_seq (by rfl) B.len (by decide +kernel) (pa_cons (pe_lc (own := [("number", 24)]) (g := gName 24) (tt := _) rfl scLaw.nd (pi_list (pv 10)) (blkOk_by (own := [("number", 24)]) (N := lawN) (sc := (defScope sLaw)) (by decide +kernel)) (fun _ _ _ _ _ => pg_name (i := 24) scLaw.nd rfl (Or.inl rfl)) (fun _ _ _ _ _ => pts_one (pt_chain op_le op_lt (pe_op op_sub pe_int (pv 12)) (pv 24) pe_int)) (fun _ _ _ _ _ => (pv 24))) pa_nil))) (nomark _))))) (pss_one (ps_ret pe_bl)) (pss_nil)) (pss_cons (ps_if (PW.pt (pw_and (pt_cmpR (op_neD hr.units) (pv 11) (pe_lst pa_nil) (nomark _)) (pw_and1 (PW.pt (pw_or (pt_cmpR op_ne (pe_mk L.m_at hr (by decide) passL (pv 9) (pa_cons pe_int pa_nil)) (pe_ix ix_list (pv 11) pe_int (fun _ _ => rfl)) (nomark _)) (pw_or1 (pt_cmpR op_ne (pe_mk L.m_next hr (by decide) passL (pv 9) (pa_cons (pv 12) pa_nil)) (pe_ix ix_list (pe_lc (own := [("number", 24)]) (g := gName 24) (tt := _) rfl scLaw.nd (pi_list (pv 11)) (blkOk_by (own := [("number", 24)]) (N := lawN) (sc := (defScope sLaw)) (by decide +kernel)) (fun _ _ _ _ _ => pg_name (i := 24) scLaw.nd rfl (Or.inl rfl)) (fun _ _ _ _ _ => pts_one (pt_cmpR op_ge (pv 24) (pv 12) (nomark _))) (fun _ _ _ _ _ => (pv 24))) pe_int (fun _ _ => rfl)) (nomark _)))))))) (pss_one (ps_ret pe_bl)) (pss_nil)) (pss_one (ps_if (PW.pt (pw_or (PW.pt (pw_and (pt_cmpR (op_eqD hr.units) (pv 10) (pe_lst pa_nil) (nomark _)) (pw_and1 (pt_cmpR op_ne (pe_toldC (c := cl) (k := 8) L.exs hmT kpT lkT hcT bT hr (pa_cons (pe_lamC (T := [(PT, LQ)]) (LamX.lamS_by (sc := defScope sLaw) (by decide +kernel)) TB rfl (List.mem_singleton.mpr rfl) (fun p hp _ => by rw [List.mem_singleton.mp hp]) rfl) pa_nil)) pe_str (nomark _))))) (pw_or1 (pt_cmpR op_ne (pe_k L.c_many_between hr (by decide) passL (pa_cons (pv 9) (pa_cons (pe_op op_sub pe_int (pv 12)) (pa_cons (pv 12) pa_nil)))) (pe_callB call_len_seq (by rfl) B.len (by decide +kernel) (pa_cons (pe_lc (own := [("number", 24)]) (g := gName 24) (tt := _) rfl scLaw.nd (pi_list (pv 10)) (blkOk_by (own := [("number", 24)]) (N := lawN) (sc := (defScope sLaw)) (by decide +kernel)) (fun _ _ _ _ _ => pg_name (i := 24) scLaw.nd rfl (Or.inl rfl)) (fun _ _ _ _ _ => pts_one (pt_chain op_le op_lt (pe_op op_sub pe_int (pv 12)) (pv 24) (pv 12))) (fun _ _ _ _ _ => (pv 24))) pa_nil)) (nomark _))))) (pss_one (ps_ret pe_bl)) (pss_nil))))))))) (pss_cons (ps_set (i := 13) scLaw.nd rfl (.inr rfl) (pe_op op_sub (pe_k L.roll hr (by decide) passL (pa_cons (pv 1) (pa_cons pe_int pa_nil))) pe_int)) (pss_cons (ps_if (PW.pt (pw_or (pt_cmpR (op_neD hr.units) (pe_lc (own := [("number", 24)]) (g := gName 24) (tt := _) rfl scLaw.nd (pi_range1 rfl B.range (pa_cons pe_int pa_nil)) (blkOk_by (own := [("number", 24)]) (N := lawN) (sc := (defScope sLaw)) (by decide +kernel)) (fun _ _ _ _ _ => pg_name (i := 24) scLaw.nd rfl (Or.inl rfl)) (fun _ _ _ _ _ => pts_one (pt_cmpR op_ne (pe_mk L.m_has hr (by decide) passL (pe_k L.c_shifted hr (by decide) passL (pa_cons (pv 4) (pa_cons (pv 13) pa_nil))) (pa_cons (pv 24) pa_nil)) (pe_mk L.m_has hr (by decide) passL (pv 4) (pa_cons (pe_op op_sub (pv 24) (pv 13)) pa_nil)) (nomark _))) (fun _ _ _ _ _ => (pv 24))) (pe_lst pa_nil) (nomark _)) (pw_or (pt_cmpR op_isnot_bl (pe_k L.c_same hr (by decide) passL (pa_cons (pv 4) (pa_cons (pe_k L.c_widened hr (by decide) passL (pa_cons (pv 4) (pa_cons pe_int pa_nil))) pa_nil))) pe_bl (nomark _)) (pw_or1 (pt_cmpR op_ne (pe_k L.c_same hr (by decide) passL (pa_cons (pv 4) (pa_cons (pv 5) pa_nil))) (pe_cmpR (op_eqD hr.units) (pv 7) (pv 8) (nomark _)) (nomark _)))))) (pss_one (ps_ret pe_bl)) (pss_nil)) (pss_cons (ps_set (i := 14) scLaw.nd rfl (.inr rfl) (pe_k L.c_least hr (by decide) passL (pa_cons (pe_k L.c_widened hr (by decide) passL (pa_cons (pv 4) (pa_cons pe_int pa_nil))) pa_nil))) (pss_cons (ps_if (PW.pt (pw_or (pt_cmpR (op_neD hr.units) (pe_lc (own := [("number", 24)]) (g := gName 24) (tt := _) rfl scLaw.nd (pi_range1 rfl B.range (pa_cons pe_int pa_nil)) (blkOk_by (own := [("number", 24)]) (N := lawN) (sc := (defScope sLaw)) (by decide +kernel)) (fun _ _ _ _ _ => pg_name (i := 24) scLaw.nd rfl (Or.inl rfl)) (fun _ _ _ _ _ => pts_one (pt_cmpR op_ne (pe_mk L.m_has hr (by decide) passL (pv 14) (pa_cons (pv 24) pa_nil)) (pe_mk L.m_has hr (by decide) passL (pv 4) (pa_cons (pv 24) pa_nil)) (nomark _))) (fun _ _ _ _ _ => (pv 24))) (pe_lst pa_nil) (nomark _)) (pw_or (pt_cmpR op_gt (pe_fld (pv 14) rfl) (pe_ix ix_list (pv 2) pe_int (fun _ _ => rfl)) (nomark _)) (pw_or1 (pt_cmpR (op_neD hr.units) (pe_lc (own := [("k", 21)]) (g := gName 21) (tt := _) rfl scLaw.nd (pi_range2 rfl B.range (pa_cons pe_int (pa_cons (pe_fld (pv 14) rfl) pa_nil))) (blkOk_by (own := [("k", 21)]) (N := lawN) (sc := (defScope sLaw)) (by decide +kernel)) (fun _ _ _ _ _ => pg_name (i := 21) scLaw.nd rfl (Or.inr rfl)) (fun _ _ _ _ _ => pts_one (PW.pt (pw_and (pt_cmpR op_eq (pe_op op_mod (pe_fldK (K := K) (pv 14) rfl) (pv 21)) pe_int (nomark _)) (pw_and1 (pt_cmpR (op_eqDK (K := K) hr.units) (pe_lc (own := [("n", 25)]) (g := gName 25) (tt := _) rfl scLaw.nd (pi_range1 rfl B.range (pa_cons pe_int pa_nil)) (blkOk_by (own := [("n", 25)]) (N := lawN) (sc := _) (by kernel_rfl)) (fun _ _ _ _ _ => pg_name (i := 25) scLaw.nd rfl (Or.inl rfl)) (fun _ _ _ _ _ => pts_one (pt_cmpR op_ne (pe_mk L.m_has hr (by decide) passL (pv 4) (pa_cons (pv 25) pa_nil)) (pe_mk L.m_has hr (by decide) passL (pv 4) (pa_cons (pe_op op_add (pv 25) (pv 21)) pa_nil)) (nomark _))) (fun _ _ _ _ _ => (pv 25))) (pe_lst pa_nil) (nomark _)))))) (fun _ _ _ _ _ => (pv 21))) (pe_lst pa_nil) (nomark _)))))) (pss_one (ps_ret pe_bl)) (pss_nil)) (pss_cons (ps_set (i := 15) scLaw.nd rfl (.inl rfl) (pe_k L.c_paired hr (by decide) passL (pa_cons (pv 4) (pa_cons (pv 5) pa_nil)))) (pss_cons (ps_if (PW.pt (pw_or (pt_cmpR op_ne (pe_fld (pe_ix ix_tup (pv 15) pe_int (fun _ _ => rfl)) rfl) (pe_fld (pe_ix ix_tup (pv 15) pe_int (fun _ _ => rfl)) rfl) (nomark _)) (pw_or (pt_cmpR op_ne (pe_op op_mod (pe_fld (pe_ix ix_tup (pv 15) pe_int (fun _ _ => rfl)) rfl) (pe_ix ix_list (pv 2) pe_int (fun _ _ => rfl))) pe_int (nomark _)) (pw_or1 (pt_cmpR op_ne (pe_op op_mod (pe_fld (pe_ix ix_tup (pv 15) pe_int (fun _ _ => rfl)) rfl) (pe_ix ix_list (pv 2) pe_int (fun _ _ => rfl))) pe_int (nomark _)))))) (pss_one (ps_ret pe_bl)) (pss_nil)) (pss_cons (ps_asg (pe_tup (pa_cons (pe_k L.roll hr (by decide) passL (pa_cons (pv 1) (pa_cons pe_int pa_nil))) (pa_cons (pe_k L.roll hr (by decide) passL (pa_cons (pv 1) (pa_cons pe_int pa_nil))) pa_nil))) (pg_tup rfl (pgs_cons (pg_name (i := 16) scLaw.nd rfl (.inr rfl)) (pgs_cons (pg_name (i := 17) scLaw.nd rfl (.inr rfl)) pgs_nil)))) (pss_cons (ps_setLc (own := [("number", 24)]) (i := 18) (g := gName 24) (tt := _) rfl scLaw.nd rfl rfl (sw_true rfl rfl rfl (by decide +kernel)) (pi_range1 rfl B.range (pa_cons (pe_op op_mul (pe_ix ix_list (pv 2) pe_int (fun _ _ => rfl)) (pe_ix ix_list (pv 2) pe_int (fun _ _ => rfl))) pa_nil)) (blkOk_by (own := [("number", 24)]) (N := lawN) (sc := defScope sLaw) (by decide +kernel)) (fun _ _ _ _ _ => pg_name (i := 24) scLaw.nd rfl (Or.inl rfl)) (fun _ _ _ _ _ => pts_one (PW.pt (pw_and (pt_cmpR op_eq (pe_op op_mod (pe_op op_sub (pv 24) (pv 16)) (pe_ix (ix_listK (K := K)) (pv 2) pe_int (fun _ _ => rfl))) pe_int (nomark _)) (pw_and1 (pt_cmpR op_eq (pe_op op_mod (pe_op op_sub (pv 24) (pv 17)) (pe_ix (ix_listK (K := K)) (pv 2) pe_int (fun _ _ => rfl))) pe_int (nomark _)))))) (fun _ _ _ _ _ => (pv 24))) (pss_cons (ps_set (i := 19) scLaw.nd rfl (.inl rfl) (pe_k L.c_meeting hr (by decide) passL (pa_cons (pv 16) (pa_cons (pe_ix ix_list (pv 2) pe_int (fun _ _ => rfl)) (pa_cons (pv 17) (pa_cons (pe_ix ix_list (pv 2) pe_int (fun _ _ => rfl)) pa_nil)))))) (pss_one (ps_if (pt_cmpR (op_eqD hr.units) (pv 18) (pe_lst pa_nil) (nomark _)) (pss_one (ps_if (pt_cmpR op_notN (pv 19) pe_non (nomark _)) (pss_one (ps_ret pe_bl)) (pss_nil))) (pss_one (ps_if (pt_cmpR (op_neD hr.units) (pv 19) (pe_tup (pa_cons (pe_ix ix_list (pv 18) pe_int (fun _ _ => rfl)) (pa_cons (pe_op op_sub (pe_ix ix_list (pe_op op_cat (pv 18) (pe_lst (pa_cons (pe_op op_add (pe_ix ix_list (pv 18) pe_int (fun _ _ => rfl)) (pe_fld (pe_ix ix_tup (pv 15) pe_int (fun _ _ => rfl)) rfl)) pa_nil))) pe_int (fun _ _ => rfl)) (pe_ix ix_list (pv 18) pe_int (fun _ _ => rfl))) pa_nil))) (nomark _)) (pss_one (ps_ret pe_bl)) (pss_nil))))))))))))))))))))) (pss_cons (ps_set (i := 20) scLaw.nd rfl (.inl rfl) (pe_lst (pa_cons (pe_tup (pa_cons (pe_lamC (T := [(PT, LQ)]) (LamX.lamS_by (sc := defScope sLaw) (by decide +kernel)) TB rfl (List.mem_singleton.mpr rfl) (fun p hp _ => by rw [List.mem_singleton.mp hp]) rfl) (pa_cons pe_str pa_nil))) (pa_cons (pe_tup (pa_cons (pe_lamC (T := [(PT, LQ)]) (LamX.lamS_by (sc := defScope sLaw) (by decide +kernel)) TB rfl (List.mem_singleton.mpr rfl) (fun p hp _ => by rw [List.mem_singleton.mp hp]) rfl) (pa_cons pe_str pa_nil))) (pa_cons (pe_tup (pa_cons (pe_lamC (T := [(PT, LQ)]) (LamX.lamS_by (sc := defScope sLaw) (by decide +kernel)) TB rfl (List.mem_singleton.mpr rfl) (fun p hp _ => by rw [List.mem_singleton.mp hp]) rfl) (pa_cons pe_str pa_nil))) (pa_cons (pe_tup (pa_cons (pe_lamC (T := [(PT, LQ)]) (LamX.lamS_by (sc := defScope sLaw) (by decide +kernel)) TB rfl (List.mem_singleton.mpr rfl) (fun p hp _ => by rw [List.mem_singleton.mp hp]) rfl) (pa_cons pe_str pa_nil))) pa_nil)))))) (pss_one (ps_ret (pe_cmpR (op_eqD hr.units) (pe_lcK (own := [("pair", 15)]) (g := gName 15) rfl scLaw.nd (pi_list (pv 20)) (blkOk_by (own := [("pair", 15)]) (N := lawN) (sc := defScope sLaw) (by decide +kernel)) (fun _ _ _ _ _ => pg_name (i := 15) scLaw.nd rfl (Or.inl rfl)) (fun ps2 σ2 s2 H2 C2 cl2 fp2 I2 fo2 => pts_one (pt_cmpR op_ne (pe_toldB (k := 8) I2 fo2 L.exs hmT kpT lkT hcT bT hr (pa_cons (pe_ix (ix_tupK (K := K)) (pv 15) pe_int (fun _ _ => rfl)) pa_nil)) (pe_ix (ix_tupK (K := K)) (pv 15) pe_int (fun _ _ => rfl)) (nomark _))) (fun _ _ _ _ _ _ _ _ _ => pv 15)) (pe_lst pa_nil) (nomark _))))), ?_⟩
    refine q_dice2 (a := sc) (ns := ns) (PT := PT) (LQ := LQ) (ea_cons (ev_var rfl) (ea_cons ev_c ea_nil)) hS hT (fun σ => ∃ l1 l2 l3 l4 l5 l6 l7 l8 l9 l10 l11 l12 l13 l14 l15 l16 l17 l18 l19 l20 l21 l22 l23 l24 l25, σ = [some (.ref sc), l1, l2, l3, l4, l5, l6, l7, l8, l9, l10, l11, l12, l13, l14, l15, l16, l17, l18, l19, l20, l21, l22, l23, l24, l25]) ⟨_, _, _, _, _, _, _, _, _, _, _, _, _, _, _, _, _, _, _, _, _, _, _, _, _, rfl⟩ (fun d z0 σ' H0 hσ w0 Nx nx => ?_) (fun d z0 σ' H0 hσ w0 => ?_)
    · obtain ⟨l1, l2, l3, l4, l5, l6, l7, l8, l9, l10, l11, l12, l13, l14, l15, l16, l17, l18, l19, l20, l21, l22, l23, l24, l25, rfl⟩ := hσ
      have o0 := o0 z0
      unfold m_lawB at o0
      refine nrm (σ' := [some (.ref sc), some (.ref d), l2, l3, l4, l5, l6, l7, l8, l9, l10, l11, l12, l13, l14, l15, l16, l17, l18, l19, l20, l21, l22, l23, l24, l25]) rfl ?_
      refine g_asg (E := E0) (cl := cl) (i := 2) (t := (kL K kI)) (x := (runE (fun (x_1 : Int) (z_11 : Dice) => (true, z_11)) (fun (x_1 : Int) (z_15 : Dice) => (((1 : Int) + (roll z_15 (8 : Int)).1), (roll z_15 (8 : Int)).2)) (rng 0 (2 : Int)) z0).1) w0 o0 (em_lcE (K := K) (u := kI) (ct := (fun (x_1 : Int) (z_11 : Dice) => (true, z_11))) (f := (fun (x_1 : Int) (z_15 : Dice) => (((1 : Int) + (roll z_15 (8 : Int)).1), (roll z_15 (8 : Int)).2))) (Sx := (fun q => [cDice d q, cTab PT LQ])) (s0 := z0) (ei_R1 (em_cons em_int em_nil) (by refine ⟨by omega, by omega⟩)) (by rw [rng_len]; omega) (fun _ => rfl) eg_name (fun _ _ _ b => by obtain ⟨_, rfl, rfl⟩ := b; rfl) (fun _ _ _ _ _ _ _ _ _ => gt_yes) (fun D_9 acc_10 I_2 x_1 z_11 s_6 e_3 m_4 c_12 b_5 => by obtain ⟨_, rfl, rfl⟩ := b_5; rw [rng_mem] at m_4; exact (em_op em_int (em_roll (n := 1) (em_cons (em_var (t := kPtr d) (v := .ref d) (x := ()) rfl rfl) (em_cons em_int em_nil)) rfl (by omega)) o_I))) (fun sizes_16 v_17 H_18 hx_19 o_20 g_21 w_22 r_23 => ?_)
      refine nrm (σ' := [some (.ref sc), some (.ref d), some v_17, l3, l4, l5, l6, l7, l8, l9, l10, l11, l12, l13, l14, l15, l16, l17, l18, l19, l20, l21, l22, l23, l24, l25]) rfl ?_
      obtain ⟨a, b, szE, hA, hB⟩ := sz_ok z0
      rw [szE] at hx_19
      subst hx_19
      refine g_asg (E := E0) (cl := cl) (i := 3) (t := (kL K (kL K kI))) (x := (runE (fun (x_25 : Int) (z_35 : Dice) => (true, z_35)) (fun (x_25 : Int) (z_69 : Dice) => ((runE (fun (x_54 : Int) (z_64 : Dice) => ((decide ((roll z_64 (2 : Int)).1 = (0 : Int))), (roll z_64 (2 : Int)).2)) (fun (x_54 : Int) (z_68 : Dice) => (x_54, z_68)) (rng 0 x_25) z_69).1, (runE (fun (x_54 : Int) (z_64 : Dice) => ((decide ((roll z_64 (2 : Int)).1 = (0 : Int))), (roll z_64 (2 : Int)).2)) (fun (x_54 : Int) (z_68 : Dice) => (x_54, z_68)) (rng 0 x_25) z_69).2)) [a, b] (runE (fun (x_1 : Int) (z_11 : Dice) => (true, z_11)) (fun (x_1 : Int) (z_15 : Dice) => (((1 : Int) + (roll z_15 (8 : Int)).1), (roll z_15 (8 : Int)).2)) (rng 0 (2 : Int)) z0).2).1) w_22 o_20 (em_lcE (K := K) (u := (kL K kI)) (ct := (fun (x_25 : Int) (z_35 : Dice) => (true, z_35))) (f := (fun (x_25 : Int) (z_69 : Dice) => ((runE (fun (x_54 : Int) (z_64 : Dice) => ((decide ((roll z_64 (2 : Int)).1 = (0 : Int))), (roll z_64 (2 : Int)).2)) (fun (x_54 : Int) (z_68 : Dice) => (x_54, z_68)) (rng 0 x_25) z_69).1, (runE (fun (x_54 : Int) (z_64 : Dice) => ((decide ((roll z_64 (2 : Int)).1 = (0 : Int))), (roll z_64 (2 : Int)).2)) (fun (x_54 : Int) (z_68 : Dice) => (x_54, z_68)) (rng 0 x_25) z_69).2))) (Sx := (fun q => [cDice d q, cTab PT LQ])) (s0 := (runE (fun (x_1 : Int) (z_11 : Dice) => (true, z_11)) (fun (x_1 : Int) (z_15 : Dice) => (((1 : Int) + (roll z_15 (8 : Int)).1), (roll z_15 (8 : Int)).2)) (rng 0 (2 : Int)) z0).2) (ei_L (em_var (t := (kL K kI)) (v := v_17) (x := [a, b]) rfl r_23)) (by show 2 ≤ 100000 - 1; decide) (fun _ => rfl) eg_name (fun _ _ _ b => by obtain ⟨_, rfl, rfl⟩ := b; rfl) (fun _ _ _ _ _ _ _ _ _ => gt_yes) (fun D_33 acc_34 I_26 x_25 z_35 s_30 e_27 m_28 c_36 b_29 => by obtain ⟨_, rfl, rfl⟩ := b_29; have xB := mem2 hA hB m_28; exact (em_lcE (K := K) (u := kI) (ct := (fun (x_54 : Int) (z_64 : Dice) => ((decide ((roll z_64 (2 : Int)).1 = (0 : Int))), (roll z_64 (2 : Int)).2))) (f := (fun (x_54 : Int) (z_68 : Dice) => (x_54, z_68))) (Sx := (fun q => [cL D_33 (kL K kI) acc_34, cDice d q, cTab PT LQ])) (s0 := z_35) (ei_R1 (em_cons (em_var (t := kI) (v := (.int x_25)) (x := x_25) rfl rfl) em_nil) (by refine ⟨by omega, by omega⟩)) (by rw [rng_len]; omega) (fun _ => rfl) eg_name (fun _ _ _ b => by obtain ⟨_, rfl, rfl⟩ := b; rfl) (fun D_62 acc_63 I_55 x_54 z_64 s_59 e_56 m_57 b_58 => by obtain ⟨_, rfl, rfl⟩ := b_58; rw [rng_mem] at m_57; exact (gt_test (em_op (em_roll (n := 2) (em_cons (em_var (t := kPtr d) (v := .ref d) (x := ()) rfl rfl) (em_cons em_int em_nil)) rfl (by omega)) em_int o_eqI))) (fun D_62 acc_63 I_55 x_54 z_64 s_59 e_56 m_57 c_65 b_58 => by obtain ⟨_, rfl, rfl⟩ := b_58; rw [rng_mem] at m_57; exact (em_var (t := kI) (v := (.int x_54)) (x := x_54) rfl rfl))))) (fun sets_70 v_71 H_72 hx_73 o_74 g_75 w_76 r_77 => ?_)
      have r_78 := (kL K kI).up g_75.im r_23
      refine nrm (σ' := [some (.ref sc), some (.ref d), some v_17, some v_71, l4, l5, l6, l7, l8, l9, l10, l11, l12, l13, l14, l15, l16, l17, l18, l19, l20, l21, l22, l23, l24, l25]) rfl ?_
      obtain ⟨p, q, stE, hP, hQ⟩ := st_ok a b (runE (fun (x : Int) (z : Dice) => (true, z)) (fun (_ : Int) (z : Dice) => (1 + (roll z 8).1, (roll z 8).2)) (rng 0 2) z0).2
      have hx_73b : sets_70 = [p, q] := hx_73.trans stE
      subst hx_73b
      refine g_asgG (E := E0) (cl := cl) (t := kL2 K (k_Rg K CR)) (x := ((a, p, p), (b, q, q))) w_76 eg_u2 o_74 (em_L2 (em_eq (em_eq (em_lc (K := K) (u := (k_Rg K CR)) (fun _ => true) (fun x_79 => (mkR ((atI [a, b] x_79).getD 0) ((atI [p, q] x_79).getD []))) (ei_R1 (em_cons em_int em_nil) (by refine ⟨by omega, by omega⟩)) (by rw [rng_len]; omega) eg_name (fun _ _ _ b => by obtain ⟨_, rfl, rfl⟩ := b; rfl) (fun _ _ _ _ _ _ _ _ => gt_yes) (fun M_85 S_86 I_80 x_79 s_84 e_81 m_82 c_90 b_83 => by obtain ⟨_, rfl, rfl⟩ := b_83; rw [rng_mem] at m_82; have szk := szk hA hB hP hQ m_82; obtain ⟨sz1, sz2, sz3⟩ := szk; exact (em_mkObP (a := (((atI [a, b] x_79).getD 0), ((atI [p, q] x_79).getD []), ())) (pre := pre_Ring_init) (f := f_Ring_init) (Rr := R_Rg K) (up := fun e h => R_Rg_up e h) (em_cons (em_op (em_var (t := (kL K kI)) (v := v_17) (x := [a, b]) rfl ((kL K kI).up e_81 r_78)) (em_var (t := kI) (v := (.int x_79)) (x := x_79) rfl rfl) (o_ixLI (at_in (by show _ ∧ _ < (2 : Int); omega)))) (em_cons (em_op (em_var (t := (kL K (kL K kI))) (v := v_71) (x := [p, q]) rfl ((kL K (kL K kI)).up e_81 r_77)) (em_var (t := kI) (v := (.int x_79)) (x := x_79) rfl rfl) (o_ixLI (at_inG (by show _ ∧ _ < (2 : Int); omega)))) em_nil)) args_id upA_Rg (by exact ring_pre (by exact sz1) (by omega) (by omega)) (ring_ok (by exact sz1) (by omega))))) (by rw [filter_yes])) (by exact two_rings hA hB hP hQ))) (fun p_93 σ_94 H_95 hx_96 o_97 g_98 w_99 b => ?_)
      subst hx_96
      have r_104 := (kL K kI).up g_98.im r_78
      have r_105 := (kL K (kL K kI)).up g_98.im r_77
      obtain ⟨va_100, vb_101, ra_102, rb_103, rfl⟩ := b
      refine nrm (σ' := [some (.ref sc), some (.ref d), some v_17, some v_71, some va_100, some vb_101, l6, l7, l8, l9, l10, l11, l12, l13, l14, l15, l16, l17, l18, l19, l20, l21, l22, l23, l24, l25]) rfl ?_
      refine g_asg (E := E0) (cl := cl) (i := 6) (t := (kL K kI)) (x := (rng ((0 : Int) - (60 : Int)) (121 : Int))) w_99 o_97 (em_XL (em_listRg (em_op em_int em_int o_I) em_int (by omega))) (fun span_106 v_107 H_108 hx_109 o_110 g_111 w_112 r_113 => ?_)
      subst hx_109
      have r_114 := (kL K kI).up g_111.im r_104
      have r_115 := (kL K (kL K kI)).up g_111.im r_105
      have r_116 := (k_Rg K CR).up g_111.im ra_102
      have r_117 := (k_Rg K CR).up g_111.im rb_103
      refine nrm (σ' := [some (.ref sc), some (.ref d), some v_17, some v_71, some va_100, some vb_101, some v_107, l7, l8, l9, l10, l11, l12, l13, l14, l15, l16, l17, l18, l19, l20, l21, l22, l23, l24, l25]) rfl ?_
      refine g_asgG (E := E0) (cl := cl) (t := kL2 K (kX kI)) (x := ((flt a p), (flt b q))) w_112 eg_u2 o_110 (em_L2 (em_eq (em_eq (em_lc (K := K) (u := (kX kI)) (fun _ => true) (fun x_118 => (((rng ((0 : Int) - (60 : Int)) (121 : Int)).filter (fun x_132 => (decide ((x_132 % ((atI [a, b] x_118).getD 0)) ∈ ((atI [p, q] x_118).getD []))))).map (fun x_132 => x_132))) (ei_R1 (em_cons em_int em_nil) (by refine ⟨by omega, by omega⟩)) (by rw [rng_len]; omega) eg_name (fun _ _ _ b => by obtain ⟨_, rfl, rfl⟩ := b; rfl) (fun _ _ _ _ _ _ _ _ => gt_yes) (fun M_124 S_125 I_119 x_118 s_123 e_120 m_121 c_129 b_122 => by obtain ⟨_, rfl, rfl⟩ := b_122; rw [rng_mem] at m_121; have szk := szk hA hB hP hQ m_121; obtain ⟨sz1, sz2, sz3⟩ := szk; exact (em_lcX (u := kI) (fun x_132 => (decide ((x_132 % ((atI [a, b] x_118).getD 0)) ∈ ((atI [p, q] x_118).getD [])))) (fun x_132 => x_132) (ei_L (em_var (t := (kL K kI)) (v := v_107) (x := (rng ((0 : Int) - (60 : Int)) (121 : Int))) rfl ((kL K kI).up e_120 r_113))) (by rw [rng_len]; decide) eg_name (fun _ _ _ b => by obtain ⟨_, rfl, rfl⟩ := b; rfl) (fun M_138 S_139 I_133 x_132 s_137 e_134 m_135 b_136 => by obtain ⟨_, rfl, rfl⟩ := b_136; rw [rng_mem] at m_135; exact (gt_test (em_op (em_op (em_var (t := kI) (v := (.int x_132)) (x := x_132) rfl rfl) (em_op (em_var (t := (kL K kI)) (v := v_17) (x := [a, b]) rfl ((kL K kI).up e_134 ((kL K kI).up e_120 r_114))) (em_var (t := kI) (v := (.int x_118)) (x := x_118) rfl rfl) (o_ixLI (at_in (by show _ ∧ _ < (2 : Int); omega)))) (o_IC (C := fun _ j => 0 < j) (by show (0 : Int) < _; omega))) (em_op (em_var (t := (kL K (kL K kI))) (v := v_71) (x := [p, q]) rfl ((kL K (kL K kI)).up e_134 ((kL K (kL K kI)).up e_120 r_115))) (em_var (t := kI) (v := (.int x_118)) (x := x_118) rfl rfl) (o_ixLI (at_inG (by show _ ∧ _ < (2 : Int); omega)))) (o_inI (neg := false))))) (fun M_138 S_139 I_133 x_132 s_137 e_134 m_135 c_143 b_136 => by obtain ⟨_, rfl, rfl⟩ := b_136; rw [rng_mem] at m_135; exact (em_var (t := kI) (v := (.int x_132)) (x := x_132) rfl rfl))))) (by rw [filter_yes])) (by exact two_flts))) (fun p_146 σ_147 H_148 hx_149 o_150 g_151 w_152 b => ?_)
      subst hx_149
      have r_157 := (kL K kI).up g_151.im r_114
      have r_158 := (kL K (kL K kI)).up g_151.im r_115
      have r_159 := (k_Rg K CR).up g_151.im r_116
      have r_160 := (k_Rg K CR).up g_151.im r_117
      have r_161 := (kL K kI).up g_151.im r_113
      obtain ⟨va_153, vb_154, ra_155, rb_156, rfl⟩ := b
      refine nrm (σ' := [some (.ref sc), some (.ref d), some v_17, some v_71, some va_100, some vb_101, some v_107, some va_153, some vb_154, l9, l10, l11, l12, l13, l14, l15, l16, l17, l18, l19, l20, l21, l22, l23, l24, l25]) rfl ?_
      refine g_for (E := E0) (cl := cl) (xs := ([((a, p, p), (flt a p)), ((b, q, q), (flt b q)), ((v_either ((a, p, p), (b, q, q), ())), (setL ((dictP (((flt a p) ++ (flt b q)).map (fun x_204 => (x_204, (1 : Int))))).map (·.1)))), ((v_common_to ((a, p, p), (b, q, q), ())), (((flt a p).filter (fun x_218 => (decide (x_218 ∈ (flt b q))))).map (fun x_218 => x_218))), ((v_opposite ((a, p, p), ())), (((rng ((0 : Int) - (60 : Int)) (121 : Int)).filter (fun x_232 => (!decide (x_232 ∈ (flt a p))))).map (fun x_232 => x_232)))] : List ((Int × List Int × List Int) × (List Int)))) (s0 := ((runE (fun (x_25 : Int) (z_35 : Dice) => (true, z_35)) (fun (x_25 : Int) (z_69 : Dice) => ((runE (fun (x_54 : Int) (z_64 : Dice) => ((decide ((roll z_64 (2 : Int)).1 = (0 : Int))), (roll z_64 (2 : Int)).2)) (fun (x_54 : Int) (z_68 : Dice) => (x_54, z_68)) (rng 0 x_25) z_69).1, (runE (fun (x_54 : Int) (z_64 : Dice) => ((decide ((roll z_64 (2 : Int)).1 = (0 : Int))), (roll z_64 (2 : Int)).2)) (fun (x_54 : Int) (z_68 : Dice) => (x_54, z_68)) (rng 0 x_25) z_69).2)) [a, b] (runE (fun (x_1 : Int) (z_11 : Dice) => (true, z_11)) (fun (x_1 : Int) (z_15 : Dice) => (((1 : Int) + (roll z_15 (8 : Int)).1), (roll z_15 (8 : Int)).2)) (rng 0 (2 : Int)) z0).2).2)) (Sx := (fun s : (Dice) => [cDice d (s), cTab PT LQ])) (fun (I : Hp) (rs : List ((Int × List Int × List Int) × (List Int))) (s : (Dice)) (σ : L2.St) => ∃ (l9 : Option V) (l10 : Option V) (l11 : Option V) (l12 : Option V), σ = [some (.ref sc), some (.ref d), some v_17, some v_71, some va_100, some vb_101, some v_107, some va_153, some vb_154, l9, l10, l11, l12, l13, l14, l15, l16, l17, l18, l19, l20, l21, l22, l23, l24, l25]) w_152 o_150 (ei_L (em_lst K (t := (k2 K (k_Rg K CR) (kL K kI))) (em_consL (em_t2 K (em_cons (em_var (t := (k_Rg K CR)) (v := va_100) (x := (a, p, p)) rfl r_159) (em_cons (em_XL (em_var (t := (kX kI)) (v := va_153) (x := (flt a p)) rfl ra_155)) em_nil))) (em_consL (em_t2 K (em_cons (em_var (t := (k_Rg K CR)) (v := vb_101) (x := (b, q, q)) rfl r_160) (em_cons (em_XL (em_var (t := (kX kI)) (v := vb_154) (x := (flt b q)) rfl rb_156)) em_nil))) (em_consL (em_t2 K (em_cons (em_callP (y := (v_either ((a, p, p), (b, q, q), ()))) (a := ((a, p, p), (b, q, q), ())) (em_cons (em_var (t := (k_Rg K CR)) (v := va_100) (x := (a, p, p)) rfl r_159) (em_cons (em_var (t := (k_Rg K CR)) (v := vb_101) (x := (b, q, q)) rfl r_160) em_nil)) args_id (by show a ≤ (8 : Int) ∧ b ≤ (8 : Int); omega) (by exact is_either _)) (em_cons (em_cb (em_cons (em_cb (em_cons (em_eq (em_lc (K := K) (u := (k2 K kI kI)) (fun _ => true) (fun x_204 => (x_204, (1 : Int))) (ei_L (em_kXL2 (em_op ((em_var (t := (kX kI)) (v := va_153) (x := (flt a p)) rfl ra_155)) ((em_var (t := (kX kI)) (v := vb_154) (x := (flt b q)) rfl rb_156)) (o_catX (by have q1 := flt_few (a := a) (p := p); have q2 := flt_few (a := b) (p := q); omega))))) (by rw [List.length_append]; have q1 := flt_few (a := a) (p := p); have q2 := flt_few (a := b) (p := q); omega) eg_name (fun _ _ _ b => by obtain ⟨_, rfl, rfl⟩ := b; rfl) (fun _ _ _ _ _ _ _ _ => gt_yes) (fun M_210 S_211 I_205 x_204 s_209 e_206 m_207 c_215 b_208 => by obtain ⟨_, rfl, rfl⟩ := b_208; exact (em_t2 K (em_cons (em_var (t := kI) (v := (.int x_204)) (x := x_204) rfl rfl) (em_cons em_int em_nil))))) (by rw [filter_yes])) em_nil) o_dictPr) em_nil) (o_sortDK (dictP_keys _).1 (by refine Nat.le_trans (dictP_len _) ?_; rw [List.length_map, List.length_append]; have q1 := flt_few (a := a) (p := p); have q2 := flt_few (a := b) (p := q); omega))) em_nil))) (em_consL (em_t2 K (em_cons (em_callP (y := (v_common_to ((a, p, p), (b, q, q), ()))) (a := ((a, p, p), (b, q, q), ())) (em_cons (em_var (t := (k_Rg K CR)) (v := va_100) (x := (a, p, p)) rfl r_159) (em_cons (em_var (t := (k_Rg K CR)) (v := vb_101) (x := (b, q, q)) rfl r_160) em_nil)) args_id (by show a ≤ (8 : Int) ∧ b ≤ (8 : Int); omega) (by exact is_common_to _)) (em_cons (em_lc (K := K) (u := kI) (fun x_218 => (decide (x_218 ∈ (flt b q)))) (fun x_218 => x_218) (ei_L (em_XL (em_var (t := (kX kI)) (v := va_153) (x := (flt a p)) rfl ra_155))) (by exact flt_len) eg_name (fun _ _ _ b => by obtain ⟨_, rfl, rfl⟩ := b; rfl) (fun M_224 S_225 I_219 x_218 s_223 e_220 m_221 b_222 => by obtain ⟨_, rfl, rfl⟩ := b_222; exact (gt_test (em_op (em_var (t := kI) (v := (.int x_218)) (x := x_218) rfl rfl) (em_XL (em_var (t := (kX kI)) (v := vb_154) (x := (flt b q)) rfl ((kX kI).up e_220 rb_156))) (o_inI (neg := false))))) (fun M_224 S_225 I_219 x_218 s_223 e_220 m_221 c_229 b_222 => by obtain ⟨_, rfl, rfl⟩ := b_222; exact (em_var (t := kI) (v := (.int x_218)) (x := x_218) rfl rfl))) em_nil))) (em_consL (em_t2 K (em_cons (em_callP (y := (v_opposite ((a, p, p), ()))) (a := ((a, p, p), ())) (em_cons (em_var (t := (k_Rg K CR)) (v := va_100) (x := (a, p, p)) rfl r_159) em_nil) args_id (by show a ≤ (63 : Int); omega) (by exact is_opposite _)) (em_cons (em_lc (K := K) (u := kI) (fun x_232 => (!decide (x_232 ∈ (flt a p)))) (fun x_232 => x_232) (ei_L (em_var (t := (kL K kI)) (v := v_107) (x := (rng ((0 : Int) - (60 : Int)) (121 : Int))) rfl r_161)) (by rw [rng_len]; decide) eg_name (fun _ _ _ b => by obtain ⟨_, rfl, rfl⟩ := b; rfl) (fun M_238 S_239 I_233 x_232 s_237 e_234 m_235 b_236 => by obtain ⟨_, rfl, rfl⟩ := b_236; rw [rng_mem] at m_235; exact (gt_test (em_op (em_var (t := kI) (v := (.int x_232)) (x := x_232) rfl rfl) (em_XL (em_var (t := (kX kI)) (v := va_153) (x := (flt a p)) rfl ((kX kI).up e_234 ra_155))) (o_inI (neg := true))))) (fun M_238 S_239 I_233 x_232 s_237 e_234 m_235 c_243 b_236 => by obtain ⟨_, rfl, rfl⟩ := b_236; rw [rng_mem] at m_235; exact (em_var (t := kI) (v := (.int x_232)) (x := x_232) rfl rfl))) em_nil))) em_nilL))))) (by simp))) (fun _ => rfl) (fun _ => eg_2) (fun _ g => ⟨_, _, _, _, rfl⟩) (fun s_527 σ_528 H_529 g_530 w_531 rv_532 o_533 => ?_) (fun hd_262 x_246 s_247 σ_248 σ_249 I_250 H_251 rest_252 hm_253 g_254 w_255 ei_256 rv_257 b_258 o_259 Nx_260 nx_261 => ?_)
      · have r_535 := (kL K kI).up g_530.im r_157
        have r_536 := (kL K (kL K kI)).up g_530.im r_158
        have r_537 := (k_Rg K CR).up g_530.im r_159
        have r_538 := (k_Rg K CR).up g_530.im r_160
        have r_539 := (kL K kI).up g_530.im r_161
        have r_540 := (kX kI).up g_530.im ra_155
        have r_541 := (kX kI).up g_530.im rb_156
        obtain ⟨l_542, l_543, l_544, l_545, rfl⟩ := rv_532
        refine nrm (σ' := [some (.ref sc), some (.ref d), some v_17, some v_71, some va_100, some vb_101, some v_107, some va_153, some vb_154, l_542, l_543, l_544, l_545, l13, l14, l15, l16, l17, l18, l19, l20, l21, l22, l23, l24, l25]) rfl ?_
        refine g_asg (E := E0) (cl := cl) (i := 13) (t := kI) (x := ((roll s_527 (20 : Int)).1 - (10 : Int))) w_531 o_533 (em_op (em_roll (n := 0) (em_cons (em_var (t := kPtr d) (v := .ref d) (x := ()) rfl rfl) (em_cons em_int em_nil)) rfl (by omega)) em_int o_I) (fun by_547 v_548 H_549 hx_550 o_551 g_552 w_553 r_554 => ?_)
        have r_555 := (kL K kI).up g_552.im r_535
        have r_556 := (kL K (kL K kI)).up g_552.im r_536
        have r_557 := (k_Rg K CR).up g_552.im r_537
        have r_558 := (k_Rg K CR).up g_552.im r_538
        have r_559 := (kL K kI).up g_552.im r_539
        have r_560 := (kX kI).up g_552.im r_540
        have r_561 := (kX kI).up g_552.im r_541
        obtain rfl : v_548 = (.int by_547) := r_554
        refine nrm (σ' := [some (.ref sc), some (.ref d), some v_17, some v_71, some va_100, some vb_101, some v_107, some va_153, some vb_154, l_542, l_543, l_544, l_545, some (.int by_547), l14, l15, l16, l17, l18, l19, l20, l21, l22, l23, l24, l25]) rfl ?_
        refine g_when (E := E0) (cl := cl) (b := ((!decide ((((rng 0 (40 : Int)).filter (fun x_562 => (!decide ((v_Ring_has ((v_shifted ((a, p, p), by_547, ())), x_562, ())) = (v_Ring_has ((a, p, p), (x_562 - by_547), ())))))).map (fun x_562 => x_562)) = ([] : List Int))) || ((!decide ((v_same ((a, p, p), (v_widened ((a, p, p), (3 : Int), ())), ())) = true)) || (!decide ((v_same ((a, p, p), (b, q, q), ())) = (decide ((flt a p) = (flt b q)))))))) w_553 o_551 (gt_or (gt_test (em_op (em_lc (K := K) (u := kI) (fun x_562 => (!decide ((v_Ring_has ((v_shifted ((a, p, p), by_547, ())), x_562, ())) = (v_Ring_has ((a, p, p), (x_562 - by_547), ()))))) (fun x_562 => x_562) (ei_R1 (em_cons em_int em_nil) (by refine ⟨by omega, by omega⟩)) (by rw [rng_len]; omega) eg_name (fun _ _ _ b => by obtain ⟨_, rfl, rfl⟩ := b; rfl) (fun M_568 S_569 I_563 x_562 s_567 e_564 m_565 b_566 => by obtain ⟨_, rfl, rfl⟩ := b_566; rw [rng_mem] at m_565; exact (gt_test (em_op (em_methP (y := (v_Ring_has ((v_shifted ((a, p, p), by_547, ())), x_562, ()))) (b := (x_562, ())) (em_callP (y := (v_shifted ((a, p, p), by_547, ()))) (a := ((a, p, p), by_547, ())) (em_cons (em_var (t := (k_Rg K CR)) (v := va_100) (x := (a, p, p)) rfl ((k_Rg K CR).up e_564 r_557)) (em_cons (em_var (t := kI) (v := (.int by_547)) (x := by_547) rfl rfl) em_nil)) args_id (by show a ≤ (63 : Int); omega) (by exact is_shifted _)) (ob_Rg fun _ _ _ => rfl) (em_cons (em_var (t := kI) (v := (.int x_562)) (x := x_562) rfl rfl) em_nil) args_mG (by exact trivial) (by exact is_Ring_has _)) (em_methP (y := (v_Ring_has ((a, p, p), (x_562 - by_547), ()))) (b := ((x_562 - by_547), ())) (em_var (t := (k_Rg K CR)) (v := va_100) (x := (a, p, p)) rfl ((k_Rg K CR).up e_564 r_557)) (ob_Rg fun _ _ _ => rfl) (em_cons (em_op (em_var (t := kI) (v := (.int x_562)) (x := x_562) rfl rfl) (em_var (t := kI) (v := (.int by_547)) (x := by_547) rfl rfl) o_I) em_nil) args_mG (by exact trivial) (by exact is_Ring_has _)) o_neB))) (fun M_568 S_569 I_563 x_562 s_567 e_564 m_565 c_573 b_566 => by obtain ⟨_, rfl, rfl⟩ := b_566; rw [rng_mem] at m_565; exact (em_var (t := kI) (v := (.int x_562)) (x := x_562) rfl rfl))) (em_lst K (t := kI) em_nilL (by simp)) (o_neD (dL dI) (by decide)))) (fun h_576 => (gt_or (gt_test (em_op (em_callP (y := (v_same ((a, p, p), (v_widened ((a, p, p), (3 : Int), ())), ()))) (a := ((a, p, p), (v_widened ((a, p, p), (3 : Int), ())), ())) (em_cons (em_var (t := (k_Rg K CR)) (v := va_100) (x := (a, p, p)) rfl r_557) (em_cons (em_callP (y := (v_widened ((a, p, p), (3 : Int), ()))) (a := ((a, p, p), (3 : Int), ())) (em_cons (em_var (t := (k_Rg K CR)) (v := va_100) (x := (a, p, p)) rfl r_557) (em_cons em_int em_nil)) args_id (by show 1 ≤ a * (3 : Int) ∧ a * (3 : Int) ≤ 63; omega) (by exact is_widened _)) em_nil)) args_id (by show a ≤ (63 : Int) ∧ _ ≤ (63 : Int); exact ⟨by omega, by show a * 3 ≤ (63 : Int); omega⟩) (by exact is_same _)) em_bl o_isnB)) (fun h_577 => (gt_test (em_op (em_callP (y := (v_same ((a, p, p), (b, q, q), ()))) (a := ((a, p, p), (b, q, q), ())) (em_cons (em_var (t := (k_Rg K CR)) (v := va_100) (x := (a, p, p)) rfl r_557) (em_cons (em_var (t := (k_Rg K CR)) (v := vb_101) (x := (b, q, q)) rfl r_558) em_nil)) args_id (by show a ≤ (63 : Int) ∧ _ ≤ (63 : Int); exact ⟨by omega, by show b ≤ (63 : Int); omega⟩) (by exact is_same _)) (em_op (em_XL (em_var (t := (kX kI)) (v := va_153) (x := (flt a p)) rfl r_560)) (em_XL (em_var (t := (kX kI)) (v := vb_154) (x := (flt b q)) rfl r_561)) (o_eqD (dL dI) (by decide))) o_neB)))))) (fun hb_580 o_581 H_579 g_582 w_583 => ?_) (fun hb_585 o_586 H_584 g_587 w_588 => ?_)
        · try simp only [decide_eq_true_eq, decide_eq_false_iff_not, Bool.and_eq_true, Bool.or_eq_true, Bool.and_eq_false_iff, Bool.or_eq_false_iff, Bool.not_eq_true', Bool.not_eq_false'] at hb_580
          have r_589 := (kL K kI).up g_582.im r_555
          have r_590 := (kL K (kL K kI)).up g_582.im r_556
          have r_591 := (k_Rg K CR).up g_582.im r_557
          have r_592 := (k_Rg K CR).up g_582.im r_558
          have r_593 := (kL K kI).up g_582.im r_559
          have r_594 := (kX kI).up g_582.im r_560
          have r_595 := (kX kI).up g_582.im r_561
          exact absurd o_581 Bool.false_ne_true
        · try simp only [decide_eq_true_eq, decide_eq_false_iff_not, Bool.and_eq_true, Bool.or_eq_true, Bool.and_eq_false_iff, Bool.or_eq_false_iff, Bool.not_eq_true', Bool.not_eq_false'] at hb_585
          have r_596 := (kL K kI).up g_587.im r_555
          have r_597 := (kL K (kL K kI)).up g_587.im r_556
          have r_598 := (k_Rg K CR).up g_587.im r_557
          have r_599 := (k_Rg K CR).up g_587.im r_558
          have r_600 := (kL K kI).up g_587.im r_559
          have r_601 := (kX kI).up g_587.im r_560
          have r_602 := (kX kI).up g_587.im r_561
          refine g_asg (E := E0) (cl := cl) (i := 14) (t := (k_Rg K CR)) (x := (leastV ((v_widened ((a, p, p), (2 : Int), ()))).1 ((v_widened ((a, p, p), (2 : Int), ()))).2.1)) w_588 o_586 (em_callP (y := (leastV ((v_widened ((a, p, p), (2 : Int), ()))).1 ((v_widened ((a, p, p), (2 : Int), ()))).2.1)) (a := ((v_widened ((a, p, p), (2 : Int), ())), ())) (em_cons (em_callP (y := (v_widened ((a, p, p), (2 : Int), ()))) (a := ((a, p, p), (2 : Int), ())) (em_cons (em_var (t := (k_Rg K CR)) (v := va_100) (x := (a, p, p)) rfl r_598) (em_cons em_int em_nil)) args_id (by show 1 ≤ a * (2 : Int) ∧ a * (2 : Int) ≤ 63; omega) (by exact is_widened _)) em_nil) args_id (by show a * 2 ≤ (63 : Int); omega) (by exact least_eq ((v_widened ((a, p, p), (2 : Int), ()))).1 ((v_widened ((a, p, p), (2 : Int), ()))).2.1 ((v_widened ((a, p, p), (2 : Int), ()))).2.2)) (fun small_603 v_604 H_605 hx_606 o_607 g_608 w_609 r_610 => ?_)
          have r_611 := (kL K kI).up g_608.im r_596
          have r_612 := (kL K (kL K kI)).up g_608.im r_597
          have r_613 := (k_Rg K CR).up g_608.im r_598
          have r_614 := (k_Rg K CR).up g_608.im r_599
          have r_615 := (kL K kI).up g_608.im r_600
          have r_616 := (kX kI).up g_608.im r_601
          have r_617 := (kX kI).up g_608.im r_602
          refine nrm (σ' := [some (.ref sc), some (.ref d), some v_17, some v_71, some va_100, some vb_101, some v_107, some va_153, some vb_154, l_542, l_543, l_544, l_545, some (.int by_547), some v_604, l15, l16, l17, l18, l19, l20, l21, l22, l23, l24, l25]) rfl ?_
          have smB := small_le hA hP
          rw [← hx_606] at smB
          refine g_when (E := E0) (cl := cl) (b := ((!decide ((((rng 0 (40 : Int)).filter (fun x_618 => (!decide ((v_Ring_has (small_603, x_618, ())) = (v_Ring_has ((a, p, p), x_618, ())))))).map (fun x_618 => x_618)) = ([] : List Int))) || ((decide (a < (small_603).1)) || (!decide ((((rng (1 : Int) (small_603).1).filter (fun x_634 => ((decide (((small_603).1 % x_634) = (0 : Int))) && (decide ((((rng 0 (60 : Int)).filter (fun x_649 => (!decide ((v_Ring_has ((a, p, p), x_649, ())) = (v_Ring_has ((a, p, p), (x_649 + x_634), ())))))).map (fun x_649 => x_649)) = ([] : List Int)))))).map (fun x_634 => x_634)) = ([] : List Int)))))) w_609 o_607 (gt_or (gt_test (em_op (em_lc (K := K) (u := kI) (fun x_618 => (!decide ((v_Ring_has (small_603, x_618, ())) = (v_Ring_has ((a, p, p), x_618, ()))))) (fun x_618 => x_618) (ei_R1 (em_cons em_int em_nil) (by refine ⟨by omega, by omega⟩)) (by rw [rng_len]; omega) eg_name (fun _ _ _ b => by obtain ⟨_, rfl, rfl⟩ := b; rfl) (fun M_624 S_625 I_619 x_618 s_623 e_620 m_621 b_622 => by obtain ⟨_, rfl, rfl⟩ := b_622; rw [rng_mem] at m_621; exact (gt_test (em_op (em_methP (y := (v_Ring_has (small_603, x_618, ()))) (b := (x_618, ())) (em_var (t := (k_Rg K CR)) (v := v_604) (x := small_603) rfl ((k_Rg K CR).up e_620 r_610)) (ob_Rg fun _ _ _ => rfl) (em_cons (em_var (t := kI) (v := (.int x_618)) (x := x_618) rfl rfl) em_nil) args_mG (by exact trivial) (by exact is_Ring_has _)) (em_methP (y := (v_Ring_has ((a, p, p), x_618, ()))) (b := (x_618, ())) (em_var (t := (k_Rg K CR)) (v := va_100) (x := (a, p, p)) rfl ((k_Rg K CR).up e_620 r_613)) (ob_Rg fun _ _ _ => rfl) (em_cons (em_var (t := kI) (v := (.int x_618)) (x := x_618) rfl rfl) em_nil) args_mG (by exact trivial) (by exact is_Ring_has _)) o_neB))) (fun M_624 S_625 I_619 x_618 s_623 e_620 m_621 c_629 b_622 => by obtain ⟨_, rfl, rfl⟩ := b_622; rw [rng_mem] at m_621; exact (em_var (t := kI) (v := (.int x_618)) (x := x_618) rfl rfl))) (em_lst K (t := kI) em_nilL (by simp)) (o_neD (dL dI) (by decide)))) (fun h_632 => (gt_or (gt_test (em_op (em_Rg_period L.T_Rg (em_var (t := (k_Rg K CR)) (v := v_604) (x := small_603) rfl r_610)) (em_eq (x' := a) (em_op (em_var (t := (kL K kI)) (v := v_17) (x := [a, b]) rfl r_611) em_int (o_ixLI (at_in (by show _ ∧ _ < (2 : Int); omega)))) rfl) o_IB)) (fun h_633 => (gt_test (em_op (em_lc (K := K) (u := kI) (fun x_634 => ((decide (((small_603).1 % x_634) = (0 : Int))) && (decide ((((rng 0 (60 : Int)).filter (fun x_649 => (!decide ((v_Ring_has ((a, p, p), x_649, ())) = (v_Ring_has ((a, p, p), (x_649 + x_634), ())))))).map (fun x_649 => x_649)) = ([] : List Int))))) (fun x_634 => x_634) (ei_R2 (em_cons em_int (em_cons (em_Rg_period L.T_Rg (em_var (t := (k_Rg K CR)) (v := v_604) (x := small_603) rfl r_610)) em_nil)) (by refine ⟨by omega, by omega, by omega, by omega⟩)) (by rw [rng_len]; omega) eg_name (fun _ _ _ b => by obtain ⟨_, rfl, rfl⟩ := b; rfl) (fun M_640 S_641 I_635 x_634 s_639 e_636 m_637 b_638 => by obtain ⟨_, rfl, rfl⟩ := b_638; rw [rng_mem] at m_637; exact (gt_and (gt_test (em_op (em_op (em_Rg_period L.T_Rg (em_var (t := (k_Rg K CR)) (v := v_604) (x := small_603) rfl ((k_Rg K CR).up e_636 r_610))) (em_var (t := kI) (v := (.int x_634)) (x := x_634) rfl rfl) (o_IC (C := fun _ j => 0 < j) (by show (0 : Int) < _; omega))) em_int o_eqI)) (fun h_648 => (gt_test (em_op (em_lc (K := K) (u := kI) (fun x_649 => (!decide ((v_Ring_has ((a, p, p), x_649, ())) = (v_Ring_has ((a, p, p), (x_649 + x_634), ()))))) (fun x_649 => x_649) (ei_R1 (em_cons em_int em_nil) (by refine ⟨by omega, by omega⟩)) (by rw [rng_len]; omega) eg_name (fun _ _ _ b => by obtain ⟨_, rfl, rfl⟩ := b; rfl) (fun M_655 S_656 I_650 x_649 s_654 e_651 m_652 b_653 => by obtain ⟨_, rfl, rfl⟩ := b_653; rw [rng_mem] at m_652; exact (gt_test (em_op (em_methP (y := (v_Ring_has ((a, p, p), x_649, ()))) (b := (x_649, ())) (em_var (t := (k_Rg K CR)) (v := va_100) (x := (a, p, p)) rfl ((k_Rg K CR).up e_651 ((k_Rg K CR).up e_636 r_613))) (ob_Rg fun _ _ _ => rfl) (em_cons (em_var (t := kI) (v := (.int x_649)) (x := x_649) rfl rfl) em_nil) args_mG (by exact trivial) (by exact is_Ring_has _)) (em_methP (y := (v_Ring_has ((a, p, p), (x_649 + x_634), ()))) (b := ((x_649 + x_634), ())) (em_var (t := (k_Rg K CR)) (v := va_100) (x := (a, p, p)) rfl ((k_Rg K CR).up e_651 ((k_Rg K CR).up e_636 r_613))) (ob_Rg fun _ _ _ => rfl) (em_cons (em_op (em_var (t := kI) (v := (.int x_649)) (x := x_649) rfl rfl) (em_var (t := kI) (v := (.int x_634)) (x := x_634) rfl rfl) o_I) em_nil) args_mG (by exact trivial) (by exact is_Ring_has _)) o_neB))) (fun M_655 S_656 I_650 x_649 s_654 e_651 m_652 c_660 b_653 => by obtain ⟨_, rfl, rfl⟩ := b_653; rw [rng_mem] at m_652; exact (em_var (t := kI) (v := (.int x_649)) (x := x_649) rfl rfl))) (em_lst K (t := kI) em_nilL (by simp)) (o_eqD (dL dI) (by decide))))))) (fun M_640 S_641 I_635 x_634 s_639 e_636 m_637 c_645 b_638 => by obtain ⟨_, rfl, rfl⟩ := b_638; rw [rng_mem] at m_637; exact (em_var (t := kI) (v := (.int x_634)) (x := x_634) rfl rfl))) (em_lst K (t := kI) em_nilL (by simp)) (o_neD (dL dI) (by decide)))))))) (fun hb_666 o_667 H_665 g_668 w_669 => ?_) (fun hb_671 o_672 H_670 g_673 w_674 => ?_)
          · try simp only [decide_eq_true_eq, decide_eq_false_iff_not, Bool.and_eq_true, Bool.or_eq_true, Bool.and_eq_false_iff, Bool.or_eq_false_iff, Bool.not_eq_true', Bool.not_eq_false'] at hb_666
            have r_675 := (kL K kI).up g_668.im r_611
            have r_676 := (kL K (kL K kI)).up g_668.im r_612
            have r_677 := (k_Rg K CR).up g_668.im r_613
            have r_678 := (k_Rg K CR).up g_668.im r_614
            have r_679 := (kL K kI).up g_668.im r_615
            have r_680 := (kX kI).up g_668.im r_616
            have r_681 := (kX kI).up g_668.im r_617
            have r_682 := (k_Rg K CR).up g_668.im r_610
            exact absurd o_667 Bool.false_ne_true
          · try simp only [decide_eq_true_eq, decide_eq_false_iff_not, Bool.and_eq_true, Bool.or_eq_true, Bool.and_eq_false_iff, Bool.or_eq_false_iff, Bool.not_eq_true', Bool.not_eq_false'] at hb_671
            have r_683 := (kL K kI).up g_673.im r_611
            have r_684 := (kL K (kL K kI)).up g_673.im r_612
            have r_685 := (k_Rg K CR).up g_673.im r_613
            have r_686 := (k_Rg K CR).up g_673.im r_614
            have r_687 := (kL K kI).up g_673.im r_615
            have r_688 := (kX kI).up g_673.im r_616
            have r_689 := (kX kI).up g_673.im r_617
            have r_690 := (k_Rg K CR).up g_673.im r_610
            refine g_asg (E := E0) (cl := cl) (i := 15) (t := (k2 K (k_Rg K CR) (k_Rg K CR))) (x := (v_paired ((a, p, p), (b, q, q), ()))) w_674 o_672 (em_callP (y := (v_paired ((a, p, p), (b, q, q), ()))) (a := ((a, p, p), (b, q, q), ())) (em_cons (em_var (t := (k_Rg K CR)) (v := va_100) (x := (a, p, p)) rfl r_685) (em_cons (em_var (t := (k_Rg K CR)) (v := vb_101) (x := (b, q, q)) rfl r_686) em_nil)) args_id (by show a ≤ (8 : Int) ∧ b ≤ (8 : Int); omega) (by exact is_paired _)) (fun pair_691 v_692 H_693 hx_694 o_695 g_696 w_697 r_698 => ?_)
            have r_699 := (kL K kI).up g_696.im r_683
            have r_700 := (kL K (kL K kI)).up g_696.im r_684
            have r_701 := (k_Rg K CR).up g_696.im r_685
            have r_702 := (k_Rg K CR).up g_696.im r_686
            have r_703 := (kL K kI).up g_696.im r_687
            have r_704 := (kX kI).up g_696.im r_688
            have r_705 := (kX kI).up g_696.im r_689
            have r_706 := (k_Rg K CR).up g_696.im r_690
            refine nrm (σ' := [some (.ref sc), some (.ref d), some v_17, some v_71, some va_100, some vb_101, some v_107, some va_153, some vb_154, l_542, l_543, l_544, l_545, some (.int by_547), some v_604, some v_692, l16, l17, l18, l19, l20, l21, l22, l23, l24, l25]) rfl ?_
            refine g_when (E := E0) (cl := cl) (b := ((!decide (((pair_691).1).1 = ((pair_691).2).1)) || ((!decide ((((pair_691).1).1 % a) = (0 : Int))) || (!decide ((((pair_691).1).1 % b) = (0 : Int)))))) w_697 o_695 (gt_or (gt_test (em_op (em_Rg_period L.T_Rg (em_op (em_var (t := (k2 K (k_Rg K CR) (k_Rg K CR))) (v := v_692) (x := pair_691) rfl r_698) em_int o_ix20)) (em_Rg_period L.T_Rg (em_op (em_var (t := (k2 K (k_Rg K CR) (k_Rg K CR))) (v := v_692) (x := pair_691) rfl r_698) em_int o_ix21)) o_neI)) (fun h_707 => (gt_or (gt_test (em_op (em_op (em_Rg_period L.T_Rg (em_op (em_var (t := (k2 K (k_Rg K CR) (k_Rg K CR))) (v := v_692) (x := pair_691) rfl r_698) em_int o_ix20)) (em_eq (x' := a) (em_op (em_var (t := (kL K kI)) (v := v_17) (x := [a, b]) rfl r_699) em_int (o_ixLI (at_in (by show _ ∧ _ < (2 : Int); omega)))) rfl) (o_IC (C := fun _ j => 0 < j) (by show (0 : Int) < _; omega))) em_int o_neI)) (fun h_708 => (gt_test (em_op (em_op (em_Rg_period L.T_Rg (em_op (em_var (t := (k2 K (k_Rg K CR) (k_Rg K CR))) (v := v_692) (x := pair_691) rfl r_698) em_int o_ix20)) (em_eq (x' := b) (em_op (em_var (t := (kL K kI)) (v := v_17) (x := [a, b]) rfl r_699) em_int (o_ixLI (at_in (by show _ ∧ _ < (2 : Int); omega)))) rfl) (o_IC (C := fun _ j => 0 < j) (by show (0 : Int) < _; omega))) em_int o_neI)))))) (fun hb_711 o_712 H_710 g_713 w_714 => ?_) (fun hb_716 o_717 H_715 g_718 w_719 => ?_)
            · try simp only [decide_eq_true_eq, decide_eq_false_iff_not, Bool.and_eq_true, Bool.or_eq_true, Bool.and_eq_false_iff, Bool.or_eq_false_iff, Bool.not_eq_true', Bool.not_eq_false'] at hb_711
              have r_720 := (kL K kI).up g_713.im r_699
              have r_721 := (kL K (kL K kI)).up g_713.im r_700
              have r_722 := (k_Rg K CR).up g_713.im r_701
              have r_723 := (k_Rg K CR).up g_713.im r_702
              have r_724 := (kL K kI).up g_713.im r_703
              have r_725 := (kX kI).up g_713.im r_704
              have r_726 := (kX kI).up g_713.im r_705
              have r_727 := (k_Rg K CR).up g_713.im r_706
              have r_728 := (k2 K (k_Rg K CR) (k_Rg K CR)).up g_713.im r_698
              exact absurd o_712 Bool.false_ne_true
            · try simp only [decide_eq_true_eq, decide_eq_false_iff_not, Bool.and_eq_true, Bool.or_eq_true, Bool.and_eq_false_iff, Bool.or_eq_false_iff, Bool.not_eq_true', Bool.not_eq_false'] at hb_716
              have r_729 := (kL K kI).up g_718.im r_699
              have r_730 := (kL K (kL K kI)).up g_718.im r_700
              have r_731 := (k_Rg K CR).up g_718.im r_701
              have r_732 := (k_Rg K CR).up g_718.im r_702
              have r_733 := (kL K kI).up g_718.im r_703
              have r_734 := (kX kI).up g_718.im r_704
              have r_735 := (kX kI).up g_718.im r_705
              have r_736 := (k_Rg K CR).up g_718.im r_706
              have r_737 := (k2 K (k_Rg K CR) (k_Rg K CR)).up g_718.im r_698
              refine g_tup2 (E := E0) (cl := cl) (i := 16) (j := 17) (t := kI) (u := kI) (x := (roll (roll s_527 (20 : Int)).2 (9 : Int)).1) (y := (roll (roll (roll s_527 (20 : Int)).2 (9 : Int)).2 (9 : Int)).1) w_719 o_717 (em_cons (em_roll (n := 0) (em_cons (em_var (t := kPtr d) (v := .ref d) (x := ()) rfl rfl) (em_cons em_int em_nil)) rfl (by omega)) (em_cons (em_roll (n := 0) (em_cons (em_var (t := kPtr d) (v := .ref d) (x := ()) rfl rfl) (em_cons em_int em_nil)) rfl (by omega)) em_nil)) (fun first_738 second_739 v_740 v_741 H_744 hx_748 hx_749 o_745 g_746 w_747 r_742 r_743 => ?_)
              have r_750 := (kL K kI).up g_746.im r_729
              have r_751 := (kL K (kL K kI)).up g_746.im r_730
              have r_752 := (k_Rg K CR).up g_746.im r_731
              have r_753 := (k_Rg K CR).up g_746.im r_732
              have r_754 := (kL K kI).up g_746.im r_733
              have r_755 := (kX kI).up g_746.im r_734
              have r_756 := (kX kI).up g_746.im r_735
              have r_757 := (k_Rg K CR).up g_746.im r_736
              have r_758 := (k2 K (k_Rg K CR) (k_Rg K CR)).up g_746.im r_737
              obtain rfl : v_740 = (.int first_738) := r_742
              obtain rfl : v_741 = (.int second_739) := r_743
              refine nrm (σ' := [some (.ref sc), some (.ref d), some v_17, some v_71, some va_100, some vb_101, some v_107, some va_153, some vb_154, l_542, l_543, l_544, l_545, some (.int by_547), some v_604, some v_692, some (.int first_738), some (.int second_739), l18, l19, l20, l21, l22, l23, l24, l25]) rfl ?_
              have abB := mul_le8 hA hB
              have fsB : (0 ≤ first_738 ∧ first_738 < 9) ∧ (0 ≤ second_739 ∧ second_739 < 9) := ⟨by rw [hx_748]; exact roll_in _ (by decide), by rw [hx_749]; exact roll_in _ (by decide)⟩
              refine g_asg (E := E0) (cl := cl) (i := 18) (t := (kX kI)) (x := (((rng 0 (a * b)).filter (fun x_759 => ((decide (((x_759 - first_738) % a) = (0 : Int))) && (decide (((x_759 - second_739) % b) = (0 : Int)))))).map (fun x_759 => x_759))) w_747 o_745 (em_lcX (u := kI) (fun x_759 => ((decide (((x_759 - first_738) % a) = (0 : Int))) && (decide (((x_759 - second_739) % b) = (0 : Int))))) (fun x_759 => x_759) (ei_R1 (em_cons (em_op (em_eq (x' := a) (em_op (em_var (t := (kL K kI)) (v := v_17) (x := [a, b]) rfl r_750) em_int (o_ixLI (at_in (by show _ ∧ _ < (2 : Int); omega)))) rfl) (em_eq (x' := b) (em_op (em_var (t := (kL K kI)) (v := v_17) (x := [a, b]) rfl r_750) em_int (o_ixLI (at_in (by show _ ∧ _ < (2 : Int); omega)))) rfl) (o_IC (by exact .inl ⟨by omega, by omega⟩))) em_nil) (by refine ⟨by omega, by omega⟩)) (by rw [rng_len]; omega) eg_name (fun _ _ _ b => by obtain ⟨_, rfl, rfl⟩ := b; rfl) (fun M_765 S_766 I_760 x_759 s_764 e_761 m_762 b_763 => by obtain ⟨_, rfl, rfl⟩ := b_763; rw [rng_mem] at m_762; exact (gt_and (gt_test (em_op (em_op (em_op (em_var (t := kI) (v := (.int x_759)) (x := x_759) rfl rfl) (em_var (t := kI) (v := (.int first_738)) (x := first_738) rfl rfl) o_I) (em_eq (x' := a) (em_op (em_var (t := (kL K kI)) (v := v_17) (x := [a, b]) rfl ((kL K kI).up e_761 r_750)) em_int (o_ixLI (at_in (by show _ ∧ _ < (2 : Int); omega)))) rfl) (o_IC (C := fun _ j => 0 < j) (by show (0 : Int) < _; omega))) em_int o_eqI)) (fun h_773 => (gt_test (em_op (em_op (em_op (em_var (t := kI) (v := (.int x_759)) (x := x_759) rfl rfl) (em_var (t := kI) (v := (.int second_739)) (x := second_739) rfl rfl) o_I) (em_eq (x' := b) (em_op (em_var (t := (kL K kI)) (v := v_17) (x := [a, b]) rfl ((kL K kI).up e_761 r_750)) em_int (o_ixLI (at_in (by show _ ∧ _ < (2 : Int); omega)))) rfl) (o_IC (C := fun _ j => 0 < j) (by show (0 : Int) < _; omega))) em_int o_eqI))))) (fun M_765 S_766 I_760 x_759 s_764 e_761 m_762 c_770 b_763 => by obtain ⟨_, rfl, rfl⟩ := b_763; rw [rng_mem] at m_762; exact (em_var (t := kI) (v := (.int x_759)) (x := x_759) rfl rfl))) (fun good_775 v_776 H_777 hx_778 o_779 g_780 w_781 r_782 => ?_)
              have r_783 := (kL K kI).up g_780.im r_750
              have r_784 := (kL K (kL K kI)).up g_780.im r_751
              have r_785 := (k_Rg K CR).up g_780.im r_752
              have r_786 := (k_Rg K CR).up g_780.im r_753
              have r_787 := (kL K kI).up g_780.im r_754
              have r_788 := (kX kI).up g_780.im r_755
              have r_789 := (kX kI).up g_780.im r_756
              have r_790 := (k_Rg K CR).up g_780.im r_757
              have r_791 := (k2 K (k_Rg K CR) (k_Rg K CR)).up g_780.im r_758
              refine nrm (σ' := [some (.ref sc), some (.ref d), some v_17, some v_71, some va_100, some vb_101, some v_107, some va_153, some vb_154, l_542, l_543, l_544, l_545, some (.int by_547), some v_604, some v_692, some (.int first_738), some (.int second_739), some v_776, l19, l20, l21, l22, l23, l24, l25]) rfl ?_
              have gdL : good_775.length ≤ 100 := by rw [hx_778, List.length_map]; exact Nat.le_trans (List.length_filter_le _ _) (by rw [rng_len]; omega)
              refine g_asg (E := E0) (cl := cl) (i := 19) (t := (kO (k2 K kI kI))) (x := (meetV first_738 a second_739 b)) w_781 o_779 (em_callP (y := (meetV first_738 a second_739 b)) (a := (first_738, a, second_739, b, ())) (em_cons (em_var (t := kI) (v := (.int first_738)) (x := first_738) rfl rfl) (em_cons (em_eq (x' := a) (em_op (em_var (t := (kL K kI)) (v := v_17) (x := [a, b]) rfl r_783) em_int (o_ixLI (at_in (by show _ ∧ _ < (2 : Int); omega)))) rfl) (em_cons (em_var (t := kI) (v := (.int second_739)) (x := second_739) rfl rfl) (em_cons (em_eq (x' := b) (em_op (em_var (t := (kL K kI)) (v := v_17) (x := [a, b]) rfl r_783) em_int (o_ixLI (at_in (by show _ ∧ _ < (2 : Int); omega)))) rfl) em_nil)))) args_id (by exact ⟨by omega, by omega, by omega, by omega⟩) (by exact meet_eq (by omega) (by omega) (by omega) (by omega))) (fun told_now_792 v_793 H_794 hx_795 o_796 g_797 w_798 r_799 => ?_)
              have r_800 := (kL K kI).up g_797.im r_783
              have r_801 := (kL K (kL K kI)).up g_797.im r_784
              have r_802 := (k_Rg K CR).up g_797.im r_785
              have r_803 := (k_Rg K CR).up g_797.im r_786
              have r_804 := (kL K kI).up g_797.im r_787
              have r_805 := (kX kI).up g_797.im r_788
              have r_806 := (kX kI).up g_797.im r_789
              have r_807 := (k_Rg K CR).up g_797.im r_790
              have r_808 := (k2 K (k_Rg K CR) (k_Rg K CR)).up g_797.im r_791
              have r_809 := (kX kI).up g_797.im r_782
              refine nrm (σ' := [some (.ref sc), some (.ref d), some v_17, some v_71, some va_100, some vb_101, some v_107, some va_153, some vb_154, l_542, l_543, l_544, l_545, some (.int by_547), some v_604, some v_692, some (.int first_738), some (.int second_739), some v_776, some v_793, l20, l21, l22, l23, l24, l25]) rfl ?_
              refine g_ifL (E := E0) (cl := cl) (b := (decide (good_775 = ([] : List Int)))) w_798 o_796 (gt_test (em_op (em_XL (em_var (t := (kX kI)) (v := v_776) (x := good_775) rfl r_809)) (em_lst K (t := kI) em_nilL (by simp)) (o_eqD (dL dI) (by decide)))) (fun hb_811 o_812 H_810 g_813 w_814 => ?_) (fun hb_816 o_817 H_815 g_818 w_819 => ?_)
              · try simp only [decide_eq_true_eq, decide_eq_false_iff_not, Bool.and_eq_true, Bool.or_eq_true, Bool.and_eq_false_iff, Bool.or_eq_false_iff, Bool.not_eq_true', Bool.not_eq_false'] at hb_811
                have r_820 := (kL K kI).up g_813.im r_800
                have r_821 := (kL K (kL K kI)).up g_813.im r_801
                have r_822 := (k_Rg K CR).up g_813.im r_802
                have r_823 := (k_Rg K CR).up g_813.im r_803
                have r_824 := (kL K kI).up g_813.im r_804
                have r_825 := (kX kI).up g_813.im r_805
                have r_826 := (kX kI).up g_813.im r_806
                have r_827 := (k_Rg K CR).up g_813.im r_807
                have r_828 := (k2 K (k_Rg K CR) (k_Rg K CR)).up g_813.im r_808
                have r_829 := (kX kI).up g_813.im r_809
                have r_830 := (kO (k2 K kI kI)).up g_813.im r_799
                refine g_ifL (E := E0) (cl := cl) (b := (told_now_792.isSome)) w_814 o_812 (gt_test (em_op (em_var (t := (kO (k2 K kI kI))) (v := v_793) (x := told_now_792) rfl r_830) (em_c (t := kN) (x := ()) rfl) o_notN)) (fun hb_832 o_833 H_831 g_834 w_835 => ?_) (fun hb_837 o_838 H_836 g_839 w_840 => ?_)
                · try simp only [decide_eq_true_eq, decide_eq_false_iff_not, Bool.and_eq_true, Bool.or_eq_true, Bool.and_eq_false_iff, Bool.or_eq_false_iff, Bool.not_eq_true', Bool.not_eq_false'] at hb_832
                  have r_841 := (kL K kI).up g_834.im r_820
                  have r_842 := (kL K (kL K kI)).up g_834.im r_821
                  have r_843 := (k_Rg K CR).up g_834.im r_822
                  have r_844 := (k_Rg K CR).up g_834.im r_823
                  have r_845 := (kL K kI).up g_834.im r_824
                  have r_846 := (kX kI).up g_834.im r_825
                  have r_847 := (kX kI).up g_834.im r_826
                  have r_848 := (k_Rg K CR).up g_834.im r_827
                  have r_849 := (k2 K (k_Rg K CR) (k_Rg K CR)).up g_834.im r_828
                  have r_850 := (kX kI).up g_834.im r_829
                  have r_851 := (kO (k2 K kI kI)).up g_834.im r_830
                  exact absurd o_833 Bool.false_ne_true
                · try simp only [decide_eq_true_eq, decide_eq_false_iff_not, Bool.and_eq_true, Bool.or_eq_true, Bool.and_eq_false_iff, Bool.or_eq_false_iff, Bool.not_eq_true', Bool.not_eq_false'] at hb_837
                  have r_852 := (kL K kI).up g_839.im r_820
                  have r_853 := (kL K (kL K kI)).up g_839.im r_821
                  have r_854 := (k_Rg K CR).up g_839.im r_822
                  have r_855 := (k_Rg K CR).up g_839.im r_823
                  have r_856 := (kL K kI).up g_839.im r_824
                  have r_857 := (kX kI).up g_839.im r_825
                  have r_858 := (kX kI).up g_839.im r_826
                  have r_859 := (k_Rg K CR).up g_839.im r_827
                  have r_860 := (k2 K (k_Rg K CR) (k_Rg K CR)).up g_839.im r_828
                  have r_861 := (kX kI).up g_839.im r_829
                  have r_862 := (kO (k2 K kI kI)).up g_839.im r_830
                  exact nx _ _ _ ⟨_, _, _, _, _, _, _, _, _, _, _, _, _, _, _, _, _, _, _, _, _, _, _, _, _, rfl⟩ (Gr.cast ((((((((((((((((g_21.then g_75 rfl).then g_98 rfl).then g_111 rfl).then g_151 rfl).then g_530 rfl).then g_552 rfl).then g_587 rfl).then g_608 rfl).then g_673 rfl).then g_696 rfl).then g_718 rfl).then g_746 rfl).then g_780 rfl).then g_797 rfl).then g_813 rfl).then g_839 rfl) rfl) w_840
              · try simp only [decide_eq_true_eq, decide_eq_false_iff_not, Bool.and_eq_true, Bool.or_eq_true, Bool.and_eq_false_iff, Bool.or_eq_false_iff, Bool.not_eq_true', Bool.not_eq_false'] at hb_816
                have r_863 := (kL K kI).up g_818.im r_800
                have r_864 := (kL K (kL K kI)).up g_818.im r_801
                have r_865 := (k_Rg K CR).up g_818.im r_802
                have r_866 := (k_Rg K CR).up g_818.im r_803
                have r_867 := (kL K kI).up g_818.im r_804
                have r_868 := (kX kI).up g_818.im r_805
                have r_869 := (kX kI).up g_818.im r_806
                have r_870 := (k_Rg K CR).up g_818.im r_807
                have r_871 := (k2 K (k_Rg K CR) (k_Rg K CR)).up g_818.im r_808
                have r_872 := (kX kI).up g_818.im r_809
                have r_873 := (kO (k2 K kI kI)).up g_818.im r_799
                refine g_ifL (E := E0) (cl := cl) (b := (!decide (told_now_792 = (some (((atI good_775 (0 : Int)).getD 0), (((atI (good_775 ++ ([(((atI good_775 (0 : Int)).getD 0) + ((pair_691).1).1)] : List Int)) (1 : Int)).getD 0) - ((atI good_775 (0 : Int)).getD 0))))))) w_819 o_817 (gt_test (em_op (em_var (t := (kO (k2 K kI kI))) (v := v_793) (x := told_now_792) rfl r_873) (em_someO (nn_2) (em_t2 K (em_cons (em_op (em_XL (em_var (t := (kX kI)) (v := v_776) (x := good_775) rfl r_872)) em_int (o_ixLI (at_in (by have gl := List.length_pos_iff.mpr hb_816; omega)))) (em_cons (em_op (em_op (em_kXL2 (em_op ((em_var (t := (kX kI)) (v := v_776) (x := good_775) rfl r_872)) (em_lstX (t := kI) (em_consL (em_op (em_op (em_XL (em_var (t := (kX kI)) (v := v_776) (x := good_775) rfl r_872)) em_int (o_ixLI (at_in (by have gl := List.length_pos_iff.mpr hb_816; omega)))) (em_Rg_period L.T_Rg (em_op (em_var (t := (k2 K (k_Rg K CR) (k_Rg K CR))) (v := v_692) (x := pair_691) rfl r_871) em_int o_ix20)) o_I) em_nilL) (by simp)) (o_catX (by show _ + 1 ≤ _; omega)))) em_int (o_ixLI (at_in (by have gl := List.length_pos_iff.mpr hb_816; rw [List.length_append]; show _ ∧ (1 : Int) < ((_ + 1 : Nat) : Int); omega)))) (em_op (em_XL (em_var (t := (kX kI)) (v := v_776) (x := good_775) rfl r_872)) em_int (o_ixLI (at_in (by have gl := List.length_pos_iff.mpr hb_816; omega)))) o_I) em_nil)))) (o_neD (dO (d2 dI dI) (fun _ z => nomatch z)) (by decide)))) (fun hb_875 o_876 H_874 g_877 w_878 => ?_) (fun hb_880 o_881 H_879 g_882 w_883 => ?_)
                · try simp only [decide_eq_true_eq, decide_eq_false_iff_not, Bool.and_eq_true, Bool.or_eq_true, Bool.and_eq_false_iff, Bool.or_eq_false_iff, Bool.not_eq_true', Bool.not_eq_false'] at hb_875
                  have r_884 := (kL K kI).up g_877.im r_863
                  have r_885 := (kL K (kL K kI)).up g_877.im r_864
                  have r_886 := (k_Rg K CR).up g_877.im r_865
                  have r_887 := (k_Rg K CR).up g_877.im r_866
                  have r_888 := (kL K kI).up g_877.im r_867
                  have r_889 := (kX kI).up g_877.im r_868
                  have r_890 := (kX kI).up g_877.im r_869
                  have r_891 := (k_Rg K CR).up g_877.im r_870
                  have r_892 := (k2 K (k_Rg K CR) (k_Rg K CR)).up g_877.im r_871
                  have r_893 := (kX kI).up g_877.im r_872
                  have r_894 := (kO (k2 K kI kI)).up g_877.im r_873
                  exact absurd o_876 Bool.false_ne_true
                · try simp only [decide_eq_true_eq, decide_eq_false_iff_not, Bool.and_eq_true, Bool.or_eq_true, Bool.and_eq_false_iff, Bool.or_eq_false_iff, Bool.not_eq_true', Bool.not_eq_false'] at hb_880
                  have r_895 := (kL K kI).up g_882.im r_863
                  have r_896 := (kL K (kL K kI)).up g_882.im r_864
                  have r_897 := (k_Rg K CR).up g_882.im r_865
                  have r_898 := (k_Rg K CR).up g_882.im r_866
                  have r_899 := (kL K kI).up g_882.im r_867
                  have r_900 := (kX kI).up g_882.im r_868
                  have r_901 := (kX kI).up g_882.im r_869
                  have r_902 := (k_Rg K CR).up g_882.im r_870
                  have r_903 := (k2 K (k_Rg K CR) (k_Rg K CR)).up g_882.im r_871
                  have r_904 := (kX kI).up g_882.im r_872
                  have r_905 := (kO (k2 K kI kI)).up g_882.im r_873
                  exact nx _ _ _ ⟨_, _, _, _, _, _, _, _, _, _, _, _, _, _, _, _, _, _, _, _, _, _, _, _, _, rfl⟩ (Gr.cast ((((((((((((((((g_21.then g_75 rfl).then g_98 rfl).then g_111 rfl).then g_151 rfl).then g_530 rfl).then g_552 rfl).then g_587 rfl).then g_608 rfl).then g_673 rfl).then g_696 rfl).then g_718 rfl).then g_746 rfl).then g_780 rfl).then g_797 rfl).then g_818 rfl).then g_882 rfl) rfl) w_883
      · obtain ⟨l_268, l_269, l_270, l_271, rfl⟩ := rv_257
        have r_273 := (kL K kI).up g_254.im r_157
        have r_274 := (kL K (kL K kI)).up g_254.im r_158
        have r_275 := (k_Rg K CR).up g_254.im r_159
        have r_276 := (k_Rg K CR).up g_254.im r_160
        have r_277 := (kL K kI).up g_254.im r_161
        have r_278 := (kX kI).up g_254.im ra_155
        have r_279 := (kX kI).up g_254.im rb_156
        obtain ⟨v_263, v_265, r_264, r_266, rfl⟩ := b_258
        obtain ⟨dE, p63⟩ := five_ok hA hB hP hQ hm_253
        have dueL : (x_246.2).length ≤ 200 := by rw [dE]; exact Nat.le_trans (List.length_filter_le _ _) (by rw [rng_len]; decide)
        refine nrm (σ' := [some (.ref sc), some (.ref d), some v_17, some v_71, some va_100, some vb_101, some v_107, some va_153, some vb_154, some v_263, some v_265, l_270, l_271, l13, l14, l15, l16, l17, l18, l19, l20, l21, l22, l23, l24, l25]) rfl ?_
        refine g_when (E := E0) (cl := cl) (b := (!decide ((((rng ((0 : Int) - (60 : Int)) (121 : Int)).filter (fun x_280 => (!decide ((v_Ring_has (x_246.1, x_280, ())) = (decide (x_280 ∈ x_246.2)))))).map (fun x_280 => x_280)) = ([] : List Int)))) w_255 o_259 (gt_test (em_op (em_lc (K := K) (u := kI) (fun x_280 => (!decide ((v_Ring_has (x_246.1, x_280, ())) = (decide (x_280 ∈ x_246.2))))) (fun x_280 => x_280) (ei_L (em_var (t := (kL K kI)) (v := v_107) (x := (rng ((0 : Int) - (60 : Int)) (121 : Int))) rfl r_277)) (by rw [rng_len]; decide) eg_name (fun _ _ _ b => by obtain ⟨_, rfl, rfl⟩ := b; rfl) (fun M_286 S_287 I_281 x_280 s_285 e_282 m_283 b_284 => by obtain ⟨_, rfl, rfl⟩ := b_284; rw [rng_mem] at m_283; exact (gt_test (em_op (em_methP (y := (v_Ring_has (x_246.1, x_280, ()))) (b := (x_280, ())) (em_var (t := (k_Rg K CR)) (v := v_263) (x := x_246.1) rfl ((k_Rg K CR).up e_282 r_264)) (ob_Rg fun _ _ _ => rfl) (em_cons (em_var (t := kI) (v := (.int x_280)) (x := x_280) rfl rfl) em_nil) args_mG (by exact trivial) (by exact is_Ring_has _)) (em_op (em_var (t := kI) (v := (.int x_280)) (x := x_280) rfl rfl) (em_var (t := (kL K kI)) (v := v_265) (x := x_246.2) rfl ((kL K kI).up e_282 r_266)) (o_inI (neg := false))) o_neB))) (fun M_286 S_287 I_281 x_280 s_285 e_282 m_283 c_291 b_284 => by obtain ⟨_, rfl, rfl⟩ := b_284; rw [rng_mem] at m_283; exact (em_var (t := kI) (v := (.int x_280)) (x := x_280) rfl rfl))) (em_lst K (t := kI) em_nilL (by simp)) (o_neD (dL dI) (by decide)))) (fun hb_295 o_296 H_294 g_297 w_298 => ?_) (fun hb_300 o_301 H_299 g_302 w_303 => ?_)
        · try simp only [decide_eq_true_eq, decide_eq_false_iff_not, Bool.and_eq_true, Bool.or_eq_true, Bool.and_eq_false_iff, Bool.or_eq_false_iff, Bool.not_eq_true', Bool.not_eq_false'] at hb_295
          have r_304 := (kL K kI).up g_297.im r_273
          have r_305 := (kL K (kL K kI)).up g_297.im r_274
          have r_306 := (k_Rg K CR).up g_297.im r_275
          have r_307 := (k_Rg K CR).up g_297.im r_276
          have r_308 := (kL K kI).up g_297.im r_277
          have r_309 := (kX kI).up g_297.im r_278
          have r_310 := (kX kI).up g_297.im r_279
          have r_311 := (k_Rg K CR).up g_297.im r_264
          have r_312 := (kL K kI).up g_297.im r_266
          exact absurd o_296 Bool.false_ne_true
        · try simp only [decide_eq_true_eq, decide_eq_false_iff_not, Bool.and_eq_true, Bool.or_eq_true, Bool.and_eq_false_iff, Bool.or_eq_false_iff, Bool.not_eq_true', Bool.not_eq_false'] at hb_300
          have r_313 := (kL K kI).up g_302.im r_273
          have r_314 := (kL K (kL K kI)).up g_302.im r_274
          have r_315 := (k_Rg K CR).up g_302.im r_275
          have r_316 := (k_Rg K CR).up g_302.im r_276
          have r_317 := (kL K kI).up g_302.im r_277
          have r_318 := (kX kI).up g_302.im r_278
          have r_319 := (kX kI).up g_302.im r_279
          have r_320 := (k_Rg K CR).up g_302.im r_264
          have r_321 := (kL K kI).up g_302.im r_266
          refine g_asg (E := E0) (cl := cl) (i := 11) (t := (kL K kI)) (x := ((x_246.2.filter (fun x_322 => (decide ((0 : Int) ≤ x_322)))).map (fun x_322 => x_322))) w_303 o_301 (em_lc (K := K) (u := kI) (fun x_322 => (decide ((0 : Int) ≤ x_322))) (fun x_322 => x_322) (ei_L (em_var (t := (kL K kI)) (v := v_265) (x := x_246.2) rfl r_321)) (by omega) eg_name (fun _ _ _ b => by obtain ⟨_, rfl, rfl⟩ := b; rfl) (fun M_328 S_329 I_323 x_322 s_327 e_324 m_325 b_326 => by obtain ⟨_, rfl, rfl⟩ := b_326; exact (gt_test (em_op (em_var (t := kI) (v := (.int x_322)) (x := x_322) rfl rfl) em_int o_IB))) (fun M_328 S_329 I_323 x_322 s_327 e_324 m_325 c_333 b_326 => by obtain ⟨_, rfl, rfl⟩ := b_326; exact (em_var (t := kI) (v := (.int x_322)) (x := x_322) rfl rfl))) (fun from_nought_336 v_337 H_338 hx_339 o_340 g_341 w_342 r_343 => ?_)
          have r_344 := (kL K kI).up g_341.im r_313
          have r_345 := (kL K (kL K kI)).up g_341.im r_314
          have r_346 := (k_Rg K CR).up g_341.im r_315
          have r_347 := (k_Rg K CR).up g_341.im r_316
          have r_348 := (kL K kI).up g_341.im r_317
          have r_349 := (kX kI).up g_341.im r_318
          have r_350 := (kX kI).up g_341.im r_319
          have r_351 := (k_Rg K CR).up g_341.im r_320
          have r_352 := (kL K kI).up g_341.im r_321
          refine nrm (σ' := [some (.ref sc), some (.ref d), some v_17, some v_71, some va_100, some vb_101, some v_107, some va_153, some vb_154, some v_263, some v_265, some v_337, l_271, l13, l14, l15, l16, l17, l18, l19, l20, l21, l22, l23, l24, l25]) rfl ?_
          have fnL : from_nought_336.length ≤ 200 := by rw [hx_339, List.length_map]; exact Nat.le_trans (List.length_filter_le _ _) dueL
          refine g_asg (E := E0) (cl := cl) (i := 12) (t := kI) (x := (roll s_247 (50 : Int)).1) w_342 o_340 (em_roll (n := 0) (em_cons (em_var (t := kPtr d) (v := .ref d) (x := ()) rfl rfl) (em_cons em_int em_nil)) rfl (by omega)) (fun spot_353 v_354 H_355 hx_356 o_357 g_358 w_359 r_360 => ?_)
          have r_361 := (kL K kI).up g_358.im r_344
          have r_362 := (kL K (kL K kI)).up g_358.im r_345
          have r_363 := (k_Rg K CR).up g_358.im r_346
          have r_364 := (k_Rg K CR).up g_358.im r_347
          have r_365 := (kL K kI).up g_358.im r_348
          have r_366 := (kX kI).up g_358.im r_349
          have r_367 := (kX kI).up g_358.im r_350
          have r_368 := (k_Rg K CR).up g_358.im r_351
          have r_369 := (kL K kI).up g_358.im r_352
          have r_370 := (kL K kI).up g_358.im r_343
          obtain rfl : v_354 = (.int spot_353) := r_360
          refine nrm (σ' := [some (.ref sc), some (.ref d), some v_17, some v_71, some va_100, some vb_101, some v_107, some va_153, some vb_154, some v_263, some v_265, some v_337, some (.int spot_353), l13, l14, l15, l16, l17, l18, l19, l20, l21, l22, l23, l24, l25]) rfl ?_
          have spB : 0 ≤ spot_353 ∧ spot_353 < 50 := by rw [hx_356]; exact roll_in _ (by decide)
          have rgk : RgOk x_246.1 := rg_ok (inv_Rg r_368) p63
          have nonE := fn_ok rgk dE hx_339 spB
          have l0E := l0_ok rgk dE
          refine g_when (E := E0) (cl := cl) (b := ((!decide ((v_Ring_ahead (x_246.1, spot_353, ())) = (((from_nought_336.filter (fun x_371 => (decide (x_371 < spot_353)))).map (fun x_371 => x_371)).length : Int))) || (!decide ((v_Ring_ahead (x_246.1, ((0 : Int) - spot_353), ())) = ((0 : Int) - (((x_246.2.filter (fun x_386 => ((decide (((0 : Int) - spot_353) ≤ x_386)) && (decide (x_386 < (0 : Int)))))).map (fun x_386 => x_386)).length : Int)))))) w_359 o_357 (gt_or (gt_test (em_op (em_methP (y := (v_Ring_ahead (x_246.1, spot_353, ()))) (b := (spot_353, ())) (em_var (t := (k_Rg K CR)) (v := v_263) (x := x_246.1) rfl r_368) (ob_Rg fun _ _ _ => rfl) (em_cons (em_var (t := kI) (v := (.int spot_353)) (x := spot_353) rfl rfl) em_nil) args_mG (by exact trivial) (by exact is_Ring_ahead _)) (em_cb (em_cons (em_lc (K := K) (u := kI) (fun x_371 => (decide (x_371 < spot_353))) (fun x_371 => x_371) (ei_L (em_var (t := (kL K kI)) (v := v_337) (x := from_nought_336) rfl r_370)) (by omega) eg_name (fun _ _ _ b => by obtain ⟨_, rfl, rfl⟩ := b; rfl) (fun M_377 S_378 I_372 x_371 s_376 e_373 m_374 b_375 => by obtain ⟨_, rfl, rfl⟩ := b_375; exact (gt_test (em_op (em_var (t := kI) (v := (.int x_371)) (x := x_371) rfl rfl) (em_var (t := kI) (v := (.int spot_353)) (x := spot_353) rfl rfl) o_IB))) (fun M_377 S_378 I_372 x_371 s_376 e_373 m_374 c_382 b_375 => by obtain ⟨_, rfl, rfl⟩ := b_375; exact (em_var (t := kI) (v := (.int x_371)) (x := x_371) rfl rfl))) em_nil) o_lenL) o_neI)) (fun h_385 => (gt_test (em_op (em_methP (y := (v_Ring_ahead (x_246.1, ((0 : Int) - spot_353), ()))) (b := (((0 : Int) - spot_353), ())) (em_var (t := (k_Rg K CR)) (v := v_263) (x := x_246.1) rfl r_368) (ob_Rg fun _ _ _ => rfl) (em_cons (em_op em_int (em_var (t := kI) (v := (.int spot_353)) (x := spot_353) rfl rfl) o_I) em_nil) args_mG (by exact trivial) (by exact is_Ring_ahead _)) (em_op em_int (em_cb (em_cons (em_lc (K := K) (u := kI) (fun x_386 => ((decide (((0 : Int) - spot_353) ≤ x_386)) && (decide (x_386 < (0 : Int))))) (fun x_386 => x_386) (ei_L (em_var (t := (kL K kI)) (v := v_265) (x := x_246.2) rfl r_369)) (by omega) eg_name (fun _ _ _ b => by obtain ⟨_, rfl, rfl⟩ := b; rfl) (fun M_392 S_393 I_387 x_386 s_391 e_388 m_389 b_390 => by obtain ⟨_, rfl, rfl⟩ := b_390; exact (gt_test (em_chain (em_op em_int (em_var (t := kI) (v := (.int spot_353)) (x := spot_353) rfl rfl) o_I) (em_var (t := kI) (v := (.int x_386)) (x := x_386) rfl rfl) (fun _ => em_int) o_IB o_IB))) (fun M_392 S_393 I_387 x_386 s_391 e_388 m_389 c_397 b_390 => by obtain ⟨_, rfl, rfl⟩ := b_390; exact (em_var (t := kI) (v := (.int x_386)) (x := x_386) rfl rfl))) em_nil) o_lenL) o_I) o_neI)))) (fun hb_402 o_403 H_401 g_404 w_405 => ?_) (fun hb_407 o_408 H_406 g_409 w_410 => ?_)
          · try simp only [decide_eq_true_eq, decide_eq_false_iff_not, Bool.and_eq_true, Bool.or_eq_true, Bool.and_eq_false_iff, Bool.or_eq_false_iff, Bool.not_eq_true', Bool.not_eq_false'] at hb_402
            have r_411 := (kL K kI).up g_404.im r_361
            have r_412 := (kL K (kL K kI)).up g_404.im r_362
            have r_413 := (k_Rg K CR).up g_404.im r_363
            have r_414 := (k_Rg K CR).up g_404.im r_364
            have r_415 := (kL K kI).up g_404.im r_365
            have r_416 := (kX kI).up g_404.im r_366
            have r_417 := (kX kI).up g_404.im r_367
            have r_418 := (k_Rg K CR).up g_404.im r_368
            have r_419 := (kL K kI).up g_404.im r_369
            have r_420 := (kL K kI).up g_404.im r_370
            exact absurd o_403 Bool.false_ne_true
          · try simp only [decide_eq_true_eq, decide_eq_false_iff_not, Bool.and_eq_true, Bool.or_eq_true, Bool.and_eq_false_iff, Bool.or_eq_false_iff, Bool.not_eq_true', Bool.not_eq_false'] at hb_407
            have r_421 := (kL K kI).up g_409.im r_361
            have r_422 := (kL K (kL K kI)).up g_409.im r_362
            have r_423 := (k_Rg K CR).up g_409.im r_363
            have r_424 := (k_Rg K CR).up g_409.im r_364
            have r_425 := (kL K kI).up g_409.im r_365
            have r_426 := (kX kI).up g_409.im r_366
            have r_427 := (kX kI).up g_409.im r_367
            have r_428 := (k_Rg K CR).up g_409.im r_368
            have r_429 := (kL K kI).up g_409.im r_369
            have r_430 := (kL K kI).up g_409.im r_370
            refine g_when (E := E0) (cl := cl) (b := ((!decide (from_nought_336 = ([] : List Int))) && ((!decide ((atV x_246.1 (0 : Int)) = ((atI from_nought_336 (0 : Int)).getD 0))) || (!decide ((nextV x_246.1 spot_353) = ((atI ((from_nought_336.filter (fun x_433 => (decide (spot_353 ≤ x_433)))).map (fun x_433 => x_433)) (0 : Int)).getD 0)))))) w_410 o_408 (gt_and (gt_test (em_op (em_var (t := (kL K kI)) (v := v_337) (x := from_nought_336) rfl r_430) (em_lst K (t := kI) em_nilL (by simp)) (o_neD (dL dI) (by decide)))) (fun h_431 => (gt_or (gt_test (em_op (em_methP (y := (atV x_246.1 (0 : Int))) (b := ((0 : Int), ())) (em_var (t := (k_Rg K CR)) (v := v_263) (x := x_246.1) rfl r_428) (ob_Rg fun _ _ _ => rfl) (em_cons em_int em_nil) args_mG (by exact trivial) (by exact at_ok (nonE (fn_ne h_431)).1)) (em_op (em_var (t := (kL K kI)) (v := v_337) (x := from_nought_336) rfl r_430) em_int (o_ixLI (at_in (by have q := (nonE (fn_ne h_431)).2.1; omega)))) o_neI)) (fun h_432 => (gt_test (em_op (em_methP (y := (nextV x_246.1 spot_353)) (b := (spot_353, ())) (em_var (t := (k_Rg K CR)) (v := v_263) (x := x_246.1) rfl r_428) (ob_Rg fun _ _ _ => rfl) (em_cons (em_var (t := kI) (v := (.int spot_353)) (x := spot_353) rfl rfl) em_nil) args_mG (by exact trivial) (by exact next_ok (nonE (fn_ne h_431)).1)) (em_op (em_lc (K := K) (u := kI) (fun x_433 => (decide (spot_353 ≤ x_433))) (fun x_433 => x_433) (ei_L (em_var (t := (kL K kI)) (v := v_337) (x := from_nought_336) rfl r_430)) (by omega) eg_name (fun _ _ _ b => by obtain ⟨_, rfl, rfl⟩ := b; rfl) (fun M_439 S_440 I_434 x_433 s_438 e_435 m_436 b_437 => by obtain ⟨_, rfl, rfl⟩ := b_437; exact (gt_test (em_op (em_var (t := kI) (v := (.int x_433)) (x := x_433) rfl rfl) (em_var (t := kI) (v := (.int spot_353)) (x := spot_353) rfl rfl) o_IB))) (fun M_439 S_440 I_434 x_433 s_438 e_435 m_436 c_444 b_437 => by obtain ⟨_, rfl, rfl⟩ := b_437; exact (em_var (t := kI) (v := (.int x_433)) (x := x_433) rfl rfl))) em_int (o_ixLI (at_in (by have q := (nonE (fn_ne h_431)).2.2; omega)))) o_neI)))))) (fun hb_450 o_451 H_449 g_452 w_453 => ?_) (fun hb_455 o_456 H_454 g_457 w_458 => ?_)
            · try simp only [decide_eq_true_eq, decide_eq_false_iff_not, Bool.and_eq_true, Bool.or_eq_true, Bool.and_eq_false_iff, Bool.or_eq_false_iff, Bool.not_eq_true', Bool.not_eq_false'] at hb_450
              have r_459 := (kL K kI).up g_452.im r_421
              have r_460 := (kL K (kL K kI)).up g_452.im r_422
              have r_461 := (k_Rg K CR).up g_452.im r_423
              have r_462 := (k_Rg K CR).up g_452.im r_424
              have r_463 := (kL K kI).up g_452.im r_425
              have r_464 := (kX kI).up g_452.im r_426
              have r_465 := (kX kI).up g_452.im r_427
              have r_466 := (k_Rg K CR).up g_452.im r_428
              have r_467 := (kL K kI).up g_452.im r_429
              have r_468 := (kL K kI).up g_452.im r_430
              exact absurd o_451 Bool.false_ne_true
            · try simp only [decide_eq_true_eq, decide_eq_false_iff_not, Bool.and_eq_true, Bool.or_eq_true, Bool.and_eq_false_iff, Bool.or_eq_false_iff, Bool.not_eq_true', Bool.not_eq_false'] at hb_455
              have r_469 := (kL K kI).up g_457.im r_421
              have r_470 := (kL K (kL K kI)).up g_457.im r_422
              have r_471 := (k_Rg K CR).up g_457.im r_423
              have r_472 := (k_Rg K CR).up g_457.im r_424
              have r_473 := (kL K kI).up g_457.im r_425
              have r_474 := (kX kI).up g_457.im r_426
              have r_475 := (kX kI).up g_457.im r_427
              have r_476 := (k_Rg K CR).up g_457.im r_428
              have r_477 := (kL K kI).up g_457.im r_429
              have r_478 := (kL K kI).up g_457.im r_430
              refine g_ifL (E := E0) (cl := cl) (b := (((decide (x_246.2 = ([] : List Int))) && (!decide ((kindName 9) = "no day"))) || (!decide ((v_Ring_ahead (x_246.1, spot_353, ()) - v_Ring_ahead (x_246.1, ((0 : Int) - spot_353), ())) = (((x_246.2.filter (fun x_482 => ((decide (((0 : Int) - spot_353) ≤ x_482)) && (decide (x_482 < spot_353))))).map (fun x_482 => x_482)).length : Int))))) w_458 o_456 (gt_or (gt_and (gt_test (em_op (em_var (t := (kL K kI)) (v := v_265) (x := x_246.2) rfl r_477) (em_lst K (t := kI) em_nilL (by simp)) (o_eqD (dL dI) (by decide)))) (fun h_479 => (gt_test (em_op (em_reS0 (i := 9) (by exact next_er (l0E (of_decide_eq_true h_479))) (em_toldR (ag := fun σ2 => σ2 = _) (em_cons (em_lamC (n := 1) (t := kLam (lawX P w K mg base f cc A outer s H E) cl 8 (fun σ2 => σ2 = _) kI) (x := (f_Ring_next (x_246.1, spot_353, ()))) rfl (nc_cons (nc_cons nc_nil nc_tab) nc_dice) (lam_r (LamX.lamS_by (sc := defScope sLaw) (by decide +kernel)) (fun _ _ _ => rfl) (fun f2 cc2 A2 outer2 s2 H2 E2 hr2 => (pe_mk L.m_next hr2 (by decide) (passE (E := E2)) (pv 9) (pa_cons (pv 12) pa_nil))) (fun i h => by rw [show (f_Ring_next (x_246.1, spot_353, ())) = .er 9 from by exact next_er (l0E (of_decide_eq_true h_479))] at h; cases h; decide) (fun E2 M2 S2 σ2 I2 e ag => by subst ag; exact (em_meth (b := (spot_353, ())) (em_var (t := (k_Rg K CR)) (v := v_263) (x := x_246.1) rfl ((k_Rg K CR).up e r_476)) (ob_Rg fun _ _ _ => rfl) (em_cons (em_var (t := kI) (v := (.int spot_353)) (x := spot_353) rfl rfl) em_nil) args_mG (by exact trivial))))) em_nil) rfl)) em_str o_neS)))) (fun h_481 => (gt_test (em_op (em_callP (y := (v_Ring_ahead (x_246.1, spot_353, ()) - v_Ring_ahead (x_246.1, ((0 : Int) - spot_353), ()))) (a := (x_246.1, ((0 : Int) - spot_353), spot_353, ())) (em_cons (em_var (t := (k_Rg K CR)) (v := v_263) (x := x_246.1) rfl r_476) (em_cons (em_op em_int (em_var (t := kI) (v := (.int spot_353)) (x := spot_353) rfl rfl) o_I) (em_cons (em_var (t := kI) (v := (.int spot_353)) (x := spot_353) rfl rfl) em_nil))) args_id (by exact trivial) (by exact mb_ok (by omega))) (em_cb (em_cons (em_lc (K := K) (u := kI) (fun x_482 => ((decide (((0 : Int) - spot_353) ≤ x_482)) && (decide (x_482 < spot_353)))) (fun x_482 => x_482) (ei_L (em_var (t := (kL K kI)) (v := v_265) (x := x_246.2) rfl r_477)) (by omega) eg_name (fun _ _ _ b => by obtain ⟨_, rfl, rfl⟩ := b; rfl) (fun M_488 S_489 I_483 x_482 s_487 e_484 m_485 b_486 => by obtain ⟨_, rfl, rfl⟩ := b_486; exact (gt_test (em_chain (em_op em_int (em_var (t := kI) (v := (.int spot_353)) (x := spot_353) rfl rfl) o_I) (em_var (t := kI) (v := (.int x_482)) (x := x_482) rfl rfl) (fun _ => (em_var (t := kI) (v := (.int spot_353)) (x := spot_353) rfl rfl)) o_IB o_IB))) (fun M_488 S_489 I_483 x_482 s_487 e_484 m_485 c_493 b_486 => by obtain ⟨_, rfl, rfl⟩ := b_486; exact (em_var (t := kI) (v := (.int x_482)) (x := x_482) rfl rfl))) em_nil) o_lenL) o_neI)))) (fun hb_498 o_499 H_497 g_500 w_501 => ?_) (fun hb_503 o_504 H_502 g_505 w_506 => ?_)
              · try simp only [decide_eq_true_eq, decide_eq_false_iff_not, Bool.and_eq_true, Bool.or_eq_true, Bool.and_eq_false_iff, Bool.or_eq_false_iff, Bool.not_eq_true', Bool.not_eq_false'] at hb_498
                have r_507 := (kL K kI).up g_500.im r_469
                have r_508 := (kL K (kL K kI)).up g_500.im r_470
                have r_509 := (k_Rg K CR).up g_500.im r_471
                have r_510 := (k_Rg K CR).up g_500.im r_472
                have r_511 := (kL K kI).up g_500.im r_473
                have r_512 := (kX kI).up g_500.im r_474
                have r_513 := (kX kI).up g_500.im r_475
                have r_514 := (k_Rg K CR).up g_500.im r_476
                have r_515 := (kL K kI).up g_500.im r_477
                have r_516 := (kL K kI).up g_500.im r_478
                exact absurd o_499 Bool.false_ne_true
              · try simp only [decide_eq_true_eq, decide_eq_false_iff_not, Bool.and_eq_true, Bool.or_eq_true, Bool.and_eq_false_iff, Bool.or_eq_false_iff, Bool.not_eq_true', Bool.not_eq_false'] at hb_503
                have r_517 := (kL K kI).up g_505.im r_469
                have r_518 := (kL K (kL K kI)).up g_505.im r_470
                have r_519 := (k_Rg K CR).up g_505.im r_471
                have r_520 := (k_Rg K CR).up g_505.im r_472
                have r_521 := (kL K kI).up g_505.im r_473
                have r_522 := (kX kI).up g_505.im r_474
                have r_523 := (kX kI).up g_505.im r_475
                have r_524 := (k_Rg K CR).up g_505.im r_476
                have r_525 := (kL K kI).up g_505.im r_477
                have r_526 := (kL K kI).up g_505.im r_478
                exact nx_261 ((roll s_247 (50 : Int)).2) _ _ o_504 (Gr.cast (((((g_302.then g_341 rfl).then g_358 rfl).then g_409 rfl).then g_457 rfl).then g_505 rfl) rfl) w_506 ⟨_, _, _, _, rfl⟩
    · obtain ⟨l1, l2, l3, l4, l5, l6, l7, l8, l9, l10, l11, l12, l13, l14, l15, l16, l17, l18, l19, l20, l21, l22, l23, l24, l25, rfl⟩ := hσ
      let ag_906 : L2.St → Prop := fun σ2 => ∃ lw : Option V, σ2 = [some (.ref sc), l1, l2, l3, l4, l5, l6, l7, l8, l9, l10, l11, l12, l13, l14, l15, l16, l17, l18, l19, lw, l21, l22, l23, l24, l25]
      have nc_907 : NoCode [d, PT] [cDice d z0, cTab PT LQ] := (nc_cons (nc_cons nc_nil nc_tab) nc_dice)
      refine g_asg (E := E0) (cl := cl) (P := Pt) (k := fun _ => true) (i := 20) (t := (kL K (k2 K (kTold (lawX P w K mg base f cc A outer s H E) cl 8 ag_906) kS))) (x := ([(kindName 5, ("size" : Str)), (kindName 5, ("size" : Str)), (kindName 5, ("size" : Str)), (kindName 5, ("size" : Str))] : List (Str × Str))) w0 rfl (em_lst K (em_consL (em_t2 K (em_cons (em_lamC (n := 1) (t := kTold (lawX P w K mg base f cc A outer s H E) cl 8 ag_906) (x := kindName 5) rfl nc_907 (told_r (LamX.lamS_by (sc := defScope sLaw) (by decide +kernel)) (fun _ _ _ => rfl) (fun f2 cc2 A2 outer2 s2 H2 E2 hr2 => (pe_nw L.nR hr2 (by decide) (passE (E := E2)) (pa_cons pe_int (pa_cons (pe_lst pa_nil) pa_nil)))) (by decide) (fun E2 M2 S2 σ2 I2 e ag => by obtain ⟨lw, rfl⟩ := ag; exact (em_toEr (i := 5) (em_mkOb (a := ((0 : Int), ([] : List Int), ())) (pre := pre_Ring_init) (f := f_Ring_init) (Rr := R_Rg K) (up := fun e h => R_Rg_up e h) (em_cons em_int (em_cons (em_lst K (t := kI) em_nilL (by simp)) em_nil)) args_id upA_Rg (by exact ⟨by decide, by decide, trivial, by decide⟩)) (by exact (by decide +kernel)))))) (em_cons em_str em_nil))) (em_consL (em_t2 K (em_cons (em_lamC (n := 1) (t := kTold (lawX P w K mg base f cc A outer s H E) cl 8 ag_906) (x := kindName 5) rfl nc_907 (told_r (LamX.lamS_by (sc := defScope sLaw) (by decide +kernel)) (fun _ _ _ => rfl) (fun f2 cc2 A2 outer2 s2 H2 E2 hr2 => (pe_nw L.nR hr2 (by decide) (passE (E := E2)) (pa_cons pe_int (pa_cons (pe_lst pa_nil) pa_nil)))) (by decide) (fun E2 M2 S2 σ2 I2 e ag => by obtain ⟨lw, rfl⟩ := ag; exact (em_toEr (i := 5) (em_mkOb (a := ((5001 : Int), ([] : List Int), ())) (pre := pre_Ring_init) (f := f_Ring_init) (Rr := R_Rg K) (up := fun e h => R_Rg_up e h) (em_cons em_int (em_cons (em_lst K (t := kI) em_nilL (by simp)) em_nil)) args_id upA_Rg (by exact ⟨by decide, by decide, trivial, by decide⟩)) (by exact (by decide +kernel)))))) (em_cons em_str em_nil))) (em_consL (em_t2 K (em_cons (em_lamC (n := 1) (t := kTold (lawX P w K mg base f cc A outer s H E) cl 8 ag_906) (x := kindName 5) rfl nc_907 (told_r (LamX.lamS_by (sc := defScope sLaw) (by decide +kernel)) (fun _ _ _ => rfl) (fun f2 cc2 A2 outer2 s2 H2 E2 hr2 => (pe_k L.c_meeting hr2 (by decide) (passE (E := E2)) (pa_cons pe_int (pa_cons pe_int (pa_cons pe_int (pa_cons pe_int pa_nil)))))) (by decide) (fun E2 M2 S2 σ2 I2 e ag => by obtain ⟨lw, rfl⟩ := ag; exact (em_toEr (i := 5) (em_call (a := ((0 : Int), (0 : Int), (0 : Int), (1 : Int), ()) ) (em_cons em_int (em_cons em_int (em_cons em_int (em_cons em_int em_nil)))) args_id (by exact ⟨by decide, by decide, by decide, by decide⟩)) (by rfl))))) (em_cons em_str em_nil))) (em_consL (em_t2 K (em_cons (em_lamC (n := 1) (t := kTold (lawX P w K mg base f cc A outer s H E) cl 8 ag_906) (x := kindName 5) rfl nc_907 (told_r (LamX.lamS_by (sc := defScope sLaw) (by decide +kernel)) (fun _ _ _ => rfl) (fun f2 cc2 A2 outer2 s2 H2 E2 hr2 => (pe_k L.c_many_between hr2 (by decide) (passE (E := E2)) (pa_cons (pe_nw L.nR hr2 (by decide) passL (pa_cons pe_int (pa_cons (pe_lst (pa_cons pe_int pa_nil)) pa_nil))) (pa_cons pe_int (pa_cons pe_int pa_nil))))) (by decide) (fun E2 M2 S2 σ2 I2 e ag => by obtain ⟨lw, rfl⟩ := ag; exact (em_toEr (i := 5) (em_call (a := ((mkR (1 : Int) ([(0 : Int)] : List Int)), (2 : Int), (1 : Int), ()) ) (em_cons (em_mkObP (a := ((1 : Int), ([(0 : Int)] : List Int), ())) (pre := pre_Ring_init) (f := f_Ring_init) (Rr := R_Rg K) (up := fun e h => R_Rg_up e h) (em_cons em_int (em_cons (em_lst K (t := kI) (em_consL em_int em_nilL) (by simp)) em_nil)) args_id upA_Rg (by exact ring_pre (by omega) (by omega) (by decide)) (ring_ok (by omega) (by omega))) (em_cons em_int (em_cons em_int em_nil))) args_id (by exact trivial)) (by rfl))))) (em_cons em_str em_nil))) em_nilL)))) (by decide)) (fun wrong_908 v_909 H_910 hx_911 o_912 g_913 w_914 r_915 => ?_)
      have none_916 : (wrong_908.filter fun q => !decide (q.1 = q.2)) = [] := by rw [hx_911]; decide +kernel
      refine g_ret (E := E0) (cl := cl) (t := kB) (x := true) w_914 (em_op (em_eq (em_lcK (em_lc (K := K) (u := k2 K (kTold (lawX P w K mg base f cc A outer s H E) cl 8 ag_906) kS) (fun q => !decide (q.1 = q.2)) (fun q => q) (ei_L (em_var rfl r_915)) (by rw [hx_911]; decide) eg_name (fun _ _ _ b => by obtain ⟨_, _, rfl⟩ := b; rfl) (fun M2 S2 I2 q σ2 e hq b => by obtain ⟨v2, r2, rfl⟩ := b; exact gt_test (em_op (em_toldB (em_cons (em_op (em_var rfl r2) em_int o_ix20) em_nil) (⟨_, rfl⟩ : ag_906 _)) (em_op (em_var rfl r2) em_int o_ix21) o_neS)) (fun M2 S2 I2 q σ2 e hq hc b => by obtain ⟨v2, r2, rfl⟩ := b; exact em_var rfl r2))) (show _ = [] by simp only [List.map_id']; exact none_916)) (em_noneL (t := k2 K (kTold (lawX P w K mg base f cc A outer s H E) cl 8 ag_906) kS)) o_eqNil) (fun v_917 H_918 g_919 w_920 r_921 => ?_)
      obtain rfl : v_917 = .bl true := r_921
      exact q _
end
end Rw
namespace Rw
open PySem PySem.Spec PyProof.Rows L2 Evl
theorem lt_true {α : Type} {x : α} {k : α → Bool} (h : k x = true) : lt x k = true := h
theorem forK_tr {α τ : Type} {b : α → τ → (τ → Bool) → (τ → Bool) → Bool} {kn : τ → Bool} (hk : ∀ s, kn s = true) : ∀ {xs : List α} {s : τ}, (∀ x ∈ xs, ∀ s, ∀ k1 k2 : τ → Bool, (∀ s, k1 s = true) → b x s k1 k2 = true) → forK b kn xs s = true
  | [], s, _ => hk s
  | x :: xs, s, h => h x List.mem_cons_self s _ _ fun s => forK_tr hk fun y hy => h y (List.mem_cons_of_mem _ hy)
theorem fnil {l : List Int} {f : Int → Bool} (h : ∀ x ∈ l, f x = false) : (l.filter f).map (fun x => x) = [] := by
  rw [map_i, List.filter_eq_nil_iff]
  intro x hx z
  rw [h x hx] at z
  cases z
section
variable {r : RT} (k : RgOk r) {due : List Int} {s : Int} (dE : due = (rng ((0 : Int) - 60) 121).filter (fun n => hasR r n)) (hs : 0 ≤ s ∧ s < 50)
include k dE hs
theorem t1 : (((rng ((0 : Int) - 60) 121).filter fun n => !decide (hasR r n = decide (n ∈ due))).map fun n => n) = [] := fnil fun x hx => by
  apply nd
  rw [dE]
  cases c : hasR r x with
  | true => exact (decide_eq_true (List.mem_filter.mpr ⟨hx, c⟩)).symm
  | false => exact (decide_eq_false fun z => by rw [(List.mem_filter.mp z).2] at c; cases c).symm
theorem t2 : ahR r s = (((((due.filter fun n => decide ((0 : Int) ≤ n)).map fun n => n).filter fun n => decide (n < s)).map fun n => n).length : Int) := by
  rw [map_i, fn_is dE rfl, List.filter_filter]
  rw [filter_cut (lo := 0) (hi := s) (q := fun n => hasR r n) (by omega) (by omega) (by omega) fun x h1 h2 => by
    congr 1
    exact decide_eq_decide.mpr ⟨fun h => ⟨h1, h⟩, fun h => h.2⟩]
  have := ah_count k hs.1
  rw [ah_zero k] at this
  omega
theorem t3 : ahR r ((0 : Int) - s) = (0 : Int) - (((due.filter fun n => (decide (((0 : Int) - s) ≤ n)) && (decide (n < (0 : Int)))).map fun n => n).length : Int) := by
  rw [map_i, dE, List.filter_filter]
  rw [filter_cut (lo := 0 - s) (hi := 0) (q := fun n => hasR r n) (by omega) (by omega) (by omega) fun x h1 h2 => by
    congr 1
    rw [← Bool.decide_and]]
  have := ah_count k (show 0 - s ≤ 0 by omega)
  rw [ah_zero k] at this
  omega
theorem t5 : ahR r s - ahR r ((0 : Int) - s) = (((due.filter fun n => (decide (((0 : Int) - s) ≤ n)) && (decide (n < s))).map fun n => n).length : Int) := by
  rw [map_i, dE, List.filter_filter]
  rw [filter_cut (lo := 0 - s) (hi := s) (q := fun n => hasR r n) (by omega) (by omega) (by omega) fun x h1 h2 => by
    congr 1
    rw [← Bool.decide_and]]
  exact ah_count k (by omega)
theorem t4 (h : ((due.filter fun n => decide ((0 : Int) ≤ n)).map fun n => n) ≠ []) : atV r 0 = (atI ((due.filter fun n => decide ((0 : Int) ≤ n)).map fun n => n) 0).getD 0 ∧ nextV r s = (atI ((((due.filter fun n => decide ((0 : Int) ≤ n)).map fun n => n).filter fun n => decide (s ≤ n)).map fun n => n) 0).getD 0 := by
  have hl := (fn_ok k dE rfl hs h).1
  have p63 := k.p63
  have nz : nextV r 0 = atV r 0 := by unfold nextV; rw [ah_zero k]
  have hd : ∀ {m : Int} {t : List Int}, (atI (m :: t) 0).getD 0 = m := fun {m t} => by
    rw [atI_le (by omega) (by rw [List.length_cons]; omega)]
    rfl
  obtain ⟨n1, n2, n3, n4⟩ := next_has k hl 0
  obtain ⟨t, ht⟩ := hd_is (f := fun n => hasR r n) (b := 121) ⟨n2, by omega⟩ n1 n3
  obtain ⟨m1, m2, m3, m4⟩ := next_has k hl s
  obtain ⟨t', ht'⟩ := hd_is (f := fun n => hasR r n) (b := 121) ⟨m2, by omega⟩ m1 m3
  rw [late_is hs (fn_is dE rfl), fn_is dE rfl, ht, ht', hd, hd]
  exact ⟨nz.symm, rfl⟩
end
section
variable {a b : Int} {p q : List Int} (hA : 1 ≤ a ∧ a ≤ 8) (hB : 1 ≤ b ∧ b ≤ 8) (hP : p.Sublist (rng 0 a)) (hQ : q.Sublist (rng 0 b))
include hA hP
theorem u1 (d : Int) : (((rng 0 40).filter fun x => !decide (hasR (v_shifted ((a, p, p), d, ())) x = hasR (a, p, p) (x - d))).map fun x => x) = [] := fnil fun x _ => nd (sh_ok hA hP d x)
theorem same_is {r s : RT} (k : RgOk r) (k2 : RgOk s) (h : ∀ n, hasR r n = hasR s n) : v_same (r, s, ()) = true := by
  obtain ⟨c1, e1⟩ := can_w k
  obtain ⟨c2, e2⟩ := can_w k2
  have e : v_same (r, s, ()) = decide (v_Ring_shown (leastV r.1 r.2.1, ()) = v_Ring_shown (leastV s.1 s.2.1, ())) := by
    obtain ⟨x, y, z⟩ := r
    obtain ⟨x2, y2, z2⟩ := s
    rfl
  rw [e]
  exact decide_eq_true (least_same c1 c2 fun n => by rw [← e1, ← e2]; exact h n)
theorem u2 : v_same ((a, p, p), v_widened ((a, p, p), 3, ()), ()) = true := by
  have w1 : 1 ≤ a * 3 ∧ a * 3 ≤ 63 := by omega
  exact same_is hA hP (one_ok hA hP) (w_ok (r := (a, p, p)) (t := 3) w1.1 w1.2) fun n => (w_has (one_ok hA hP) w1.1 w1.2 n).symm
include hB hQ
theorem u3 : v_same ((a, p, p), (b, q, q), ()) = decide (flt a p = flt b q) := by
  have k1 := one_ok hA hP
  have k2 := one_ok hB hQ
  have ab := mul_le8 hA hB
  by_cases e : flt a p = flt b q
  · rw [decide_eq_true e]
    refine same_is hA hP k1 k2 fun n => ?_
    have h0 := Int.emod_nonneg n (b := a * b) (by omega)
    have h1 := Int.emod_lt_of_pos n (b := a * b) (by omega)
    have r1 : hasR (a, p, p) n = hasR (a, p, p) (n % (a * b)) := has_eq (by rw [has_iff k1, has_iff k1]; show n % a ∈ p ↔ n % (a * b) % a ∈ p; rw [mod_of])
    have r2 : hasR (b, q, q) n = hasR (b, q, q) (n % (a * b)) := has_eq (by rw [has_iff k2, has_iff k2]; show n % b ∈ q ↔ n % (a * b) % b ∈ q; rw [Int.mul_comm a b, mod_of])
    rw [r1, r2]
    apply has_eq
    have m1 := flt_has (a := a) (p := p) (n := n % (a * b))
    have m2 := flt_has (a := b) (p := q) (n := n % (a * b))
    rw [e] at m1
    constructor
    · intro z; exact (m2.mp (m1.mpr ⟨⟨by omega, by omega⟩, z⟩)).2
    · intro z; exact (m1.mp (m2.mpr ⟨⟨by omega, by omega⟩, z⟩)).2
  · rw [decide_eq_false e]
    show decide (v_Ring_shown (leastV a p, ()) = v_Ring_shown (leastV b q, ())) = false
    apply decide_eq_false
    intro z
    obtain ⟨d, e1, g1, _, _, _, _, hh1, _⟩ := least_ok k1
    obtain ⟨d2, e2, g2, _, _, _, _, hh2, _⟩ := least_ok k2
    have s : ∀ r : RT, v_Ring_shown (r, ()) = (r.1, r.2.1) := fun r => by obtain ⟨a, b, c⟩ := r; rfl
    rw [s, s] at z
    have z1 := congrArg Prod.fst z
    have z2 := congrArg Prod.snd z
    dsimp only at z1 z2
    apply e
    unfold flt
    apply List.filter_congr
    intro x _
    show hasR (a, p, p) x = hasR (b, q, q) x
    rw [← hh1, ← hh2]
    apply has_eq
    rw [has_iff g1, has_iff g2, z1, z2]
omit hB hQ
theorem u4 : (((rng 0 40).filter fun x => !decide (hasR (leastV (v_widened ((a, p, p), 2, ())).1 (v_widened ((a, p, p), 2, ())).2.1) x = hasR (a, p, p) x)).map fun x => x) = [] := fnil fun x _ => nd (by
  have w1 : 1 ≤ a * 2 ∧ a * 2 ≤ 63 := by omega
  obtain ⟨kc, ec⟩ := can_w (w_ok (r := (a, p, p)) (t := 2) w1.1 w1.2)
  obtain ⟨d, e1, g1, a1, b1, c1, pr1, hh1, m1⟩ := least_ok kc
  rw [hh1, ← ec]
  exact w_has (one_ok hA hP) w1.1 w1.2 x)
theorem u6 {sm : RT} (hs : sm = leastV (v_widened ((a, p, p), 2, ())).1 (v_widened ((a, p, p), 2, ())).2.1) : (((rng 1 sm.1).filter fun x => (decide ((sm.1 % x) = 0)) && (decide ((((rng 0 60).filter fun n => !decide (hasR (a, p, p) n = hasR (a, p, p) (n + x))).map fun n => n) = ([] : List Int)))).map fun x => x) = [] := fnil fun x hx => by
  rw [rng_mem] at hx
  have k1 := one_ok hA hP
  have w1 : 1 ≤ a * 2 ∧ a * 2 ≤ 63 := by omega
  obtain ⟨kc, ec⟩ := can_w (w_ok (r := (a, p, p)) (t := 2) w1.1 w1.2)
  obtain ⟨d, e1, g1, a1, b1, c1, pr1, hh1, m1⟩ := least_ok kc
  rw [hs, e1] at hx
  rw [hs, e1]
  by_cases c : d % x = 0
  · rw [decide_eq_true c, Bool.true_and]
    apply decide_eq_false
    intro z
    rw [map_i, List.filter_eq_nil_iff] at z
    have near : ∀ n, 0 ≤ n → n < 60 → hasR (a, p, p) n = hasR (a, p, p) (n + x) := fun n h1 h2 => by
      have := z n (rng_mem.mpr ⟨h1, h2⟩)
      by_cases e : hasR (a, p, p) n = hasR (a, p, p) (n + x)
      · exact e
      · rw [decide_eq_false e] at this
        exact absurd rfl this
    refine m1 x hx.1 hx.2 ?_ ?_
    · exact Int.emod_eq_zero_of_dvd (Int.dvd_trans (Int.dvd_of_emod_eq_zero c) (Int.dvd_of_emod_eq_zero c1))
    · intro n
      rw [← ec, w_has k1 w1.1 w1.2, w_has k1 w1.1 w1.2]
      have h0 := Int.emod_nonneg n (b := a) (by omega)
      have h1 := Int.emod_lt_of_pos n (b := a) (by omega)
      have r1 : hasR (a, p, p) n = hasR (a, p, p) (n % a) := has_eq (by rw [has_iff k1, has_iff k1]; show n % a ∈ p ↔ n % a % a ∈ p; rw [Int.emod_emod_of_dvd n ⟨1, (Int.mul_one _).symm⟩])
      have r2 : hasR (a, p, p) (n + x) = hasR (a, p, p) (n % a + x) := has_eq (by rw [has_iff k1, has_iff k1]; show (n + x) % a ∈ p ↔ (n % a + x) % a ∈ p; rw [Int.emod_add_emod])
      rw [r1, r2]
      exact (near _ h0 (by omega)).symm
  · rw [decide_eq_false c, Bool.false_and]
include hB hQ
theorem u7 : (v_paired ((a, p, p), (b, q, q), ())).1.1 = (v_paired ((a, p, p), (b, q, q), ())).2.1 ∧ (v_paired ((a, p, p), (b, q, q), ())).1.1 % a = 0 ∧ (v_paired ((a, p, p), (b, q, q), ())).1.1 % b = 0 := by
  obtain ⟨k1, k2, e1, e2, h1, h2⟩ := pa_ok hA hB hP hQ
  refine ⟨e1, by rw [e2]; exact Int.mul_emod_right .., ?_⟩
  rw [e2, pair_swap hA.1 hA.2 hB.1 hB.2]
  exact Int.mul_emod_right ..
end
def goodV (a b f s : Int) : List Int := ((rng 0 (a * b)).filter fun x => ((decide (((x - f) % a) = 0)) && (decide (((x - s) % b) = 0)))).map fun x => x
def meetOk (a b f s : Int) : Bool := cond (decide (goodV a b f s = [])) (cond (meetV f a s b).isSome false true)
  (cond (!decide (meetV f a s b = some (((atI (goodV a b f s) 0).getD 0), ((atI (goodV a b f s ++ [((atI (goodV a b f s) 0).getD 0) + a * (b / ((Int.gcd a b : Nat) : Int))]) 1).getD 0) - ((atI (goodV a b f s) 0).getD 0)))) false true)
theorem meet_all : ∀ a : Fin 8, ∀ b : Fin 8, ∀ f : Fin 9, ∀ s : Fin 9, meetOk ((a.val : Int) + 1) ((b.val : Int) + 1) (f.val : Int) (s.val : Int) = true := by decide +kernel
theorem meet_ok {a b f s : Int} (hA : 1 ≤ a ∧ a ≤ 8) (hB : 1 ≤ b ∧ b ≤ 8) (hF : 0 ≤ f ∧ f < 9) (hS : 0 ≤ s ∧ s < 9) : meetOk a b f s = true := by
  have := meet_all ⟨(a - 1).toNat, by omega⟩ ⟨(b - 1).toNat, by omega⟩ ⟨f.toNat, by omega⟩ ⟨s.toNat, by omega⟩
  simp only at this
  rwa [show (((a - 1).toNat : Nat) : Int) + 1 = a by omega, show (((b - 1).toNat : Nat) : Int) + 1 = b by omega, show ((f.toNat : Nat) : Int) = f by omega, show ((s.toNat : Nat) : Int) = s by omega] at this
theorem m_lawB_ok (z0 : Dice) : Pt (m_lawB z0) := by
  obtain ⟨a, b, szE, hA, hB⟩ := sz_ok z0
  unfold Pt m_lawB
  rw [szE]
  refine lt_true ?_
  dsimp only [List.headD, List.tail]
  generalize (runE (fun (x : Int) (z : Dice) => (true, z)) (fun (x : Int) (z : Dice) => (((1 : Int) + (roll z (8 : Int)).1), (roll z (8 : Int)).2)) (rng 0 (2 : Int)) z0).2 = z1
  obtain ⟨p, q, stE, hP, hQ⟩ := st_ok a b z1
  unfold rolled at stE
  rw [stE]
  refine lt_true ?_
  dsimp only [List.headD, List.tail, lt]
  have k1 := one_ok hA hP
  have k2 := one_ok hB hQ
  refine forK_tr (fun s => ?_) fun x hx s f1 f2 hk => ?_
  · have r1 := roll_in (roll s 20).2 (m := 9) (by decide)
    have r2 := roll_in (roll (roll s 20).2 9).2 (m := 9) (by decide)
    have u7' := u7 hA hB hP hQ
    obtain ⟨_, _, _, e2, _, _⟩ := pa_ok hA hB hP hQ
    refine cf (or_ff (nd (u1 hA hP _)) (or_ff (nd (u2 hA hP)) (nd (u3 hA hB hP hQ)))) ?_
    refine cf (or_ff (nd (u4 hA hP)) (or_ff (decide_eq_false (by have := (small_le hA hP).2; omega)) (nd (u6 hA hP rfl)))) ?_
    refine cf (or_ff (nd u7'.1) (or_ff (nd u7'.2.1) (nd u7'.2.2))) ?_
    have m := meet_ok hA hB r1 r2
    unfold meetOk goodV at m
    rw [e2]
    exact m
  · obtain ⟨dE, p63⟩ := five_ok hA hB hP hQ hx
    have kx : RgOk x.1 := five_rg hA hB hP hQ hx
    have hs := roll_in s (m := 50) (by decide)
    refine cf (nd (t1 kx dE hs)) ?_
    refine cf (or_ff (nd (t2 kx dE hs)) (nd (t3 kx dE hs))) ?_
    refine cf ?_ (cf (or_ff ?_ (nd (t5 kx dE hs))) (hk _))
    · by_cases e : ((x.2.filter fun n => decide ((0 : Int) ≤ n)).map fun n => n) = []
      · rw [decide_eq_true e]; rfl
      · obtain ⟨v1, v2⟩ := t4 kx dE hs e
        rw [nd v1, nd v2, Bool.or_false, Bool.and_false]
    · rw [show (!decide ((kindName 9) = ("no day" : Str))) = false from by decide +kernel, Bool.and_false]
end Rw
namespace Rw
open PySem PySem.Spec PyProof.Rows L2 Evl
local macro_rules | `(tactic| walk_at "sq") => `(tactic| first | assumption | exact SqL.of (by assumption) | exact SqT.of (by assumption))
local macro_rules | `(tactic| walk_at "at") => `(tactic| first | exact atI_nat (j := 0) rfl | exact atI_nat (j := 1) rfl | exact atI_nat (j := 2) rfl | exact atI_nat (j := 3) rfl)
local macro_rules | `(tactic| walk_at "rv") => `(tactic| first
  | with_reducible exact rv_I0
  | ((with_reducible refine' rv_I ?k1); (case k1 => first | (show (0 : Int) < _; omega) | exact ⟨by omega, by omega⟩ | exact .inr ⟨by omega, by omega⟩ | exact .inl ⟨by omega, by omega⟩ | exact ⟨by decide, by decide, by decide⟩))
  | ((with_reducible refine' rv_eq ?k1); (case k1 => exact rfl))
  | ((with_reducible refine' rv_ne ?k1); (case k1 => exact rfl))
  | (refine' rv_ixL ?k1 ?k2; (case k1 => walk_at "sq"); (case k2 => walk_at "at"))
  | (refine' rv_ixT ?k1 ?k2; (case k1 => walk_at "sq"); (case k2 => walk_at "at")))
local macro_rules | `(tactic| walk_at "rc") => `(tactic| first | exact rc_int1 | exact rc_int1b | exact rc_abs)
local macro_rules | `(tactic| walk_at "ea") => `(tactic| first
  | with_reducible exact ea_nil
  | ((with_reducible refine' ea_cons ?k1 ?k2); (case k1 => walk_at "ev"); (case k2 => walk_at "ea")))
local macro_rules | `(tactic| walk_at "ev") => `(tactic| first
  | with_reducible exact ev_c
  | ((with_reducible refine' ev_var ?k1); (case k1 => exact rfl))
  | ((with_reducible refine' ev_op ?k1 ?k2 ?k3); (case k1 => walk_at "ev"); (case k2 => walk_at "ev"); (case k3 => walk_at "rv"))
  | ((with_reducible refine' et_chain ?k1 ?k2 ?k3 ?k4 ?k5); (case k1 => walk_at "ev"); (case k2 => walk_at "ev"); (case k3 => (intro _; walk_at "ev")); (case k4 => walk_at "rv"); (case k5 => (intro _; walk_at "rv")))
  | ((with_reducible refine' ev_cb ?k1 ?k2); (case k1 => walk_at "ea"); (case k2 => walk_at "rc")))
local macro_rules | `(tactic| walk_at "et") => `(tactic| first
  | ((with_reducible refine' et_test ?k1); (case k1 => walk_at "ev"))
  | ((with_reducible refine' et_B ?k1); (case k1 => walk_at "ev"))
  | ((with_reducible refine' et_and ?k1 ?k2); (case k1 => walk_at "et"); (case k2 => (intro _; walk_at "et")))
  | ((with_reducible refine' et_or ?k1 ?k2); (case k1 => walk_at "et"); (case k2 => (intro _; walk_at "et")))
  | ((with_reducible refine' et_not ?k1); (case k1 => walk_at "et")))
section
variable {P : Program} {w : World} {K : PySem.W.Frag} {mg : Str → Option Value} {base : Heap}
theorem ok_rollX {f : Addr} {fd : FuncData} (F : Fun K "_law_roll" "_law_roll" sRoll f fd) (B : Blt mg) : FnOk P w K mg base (L2.CX P w) 1 f fd ["dice", "many"] spRollX := by
  refine F.okX scRoll (fun vs H Q E h => ?_) (fun cdv A outer s H vs Q E hr h => ?_)
  · obtain ⟨d, x, m, rfl, _⟩ := h
    rfl
  · obtain ⟨d, ⟨a, b, c⟩, m, rfl, hd, h0, h1, q⟩ := h
    have hd : H d = some (.lst [.int a, .int b, .int c]) := hd
    refine ⟨_, pss_cons (ps_if (PW.pt (pw_or (pt_cmpR op_eq (pe_ix ix_list (pv 0) pe_int (fun _ _ => rfl)) pe_int (nomark _)) (pw_or1 (PW.pt (pw_and (pt_cmpR op_eq (pe_ix ix_list (pv 0) pe_int (fun _ _ => rfl)) pe_int (nomark _)) (pw_and1 (pt_cmpR op_gt (pe_ix ix_list (pv 0) pe_int (fun _ _ => rfl)) pe_int (nomark _))))))))
        (pss_cons (ps_set (i := 2) scRoll.nd rfl (.inl rfl) (pe_op op_mod (pe_callTy call_int1 (by rfl) B.int (by decide +kernel) (pa_cons (pe_ix ix_list (pv 0) pe_int (fun _ _ => rfl)) pa_nil)) (pv 1)))
        (pss_cons (ps_asg (pe_op op_fdiv (pe_ix ix_list (pv 0) pe_int (fun _ _ => rfl)) (pv 1)) (pg_sub (pv 0) pe_int set_list))
        (pss_one (ps_ret (pv 2))))) pss_nil)
      (pss_cons (ps_asg pe_int (pg_sub (pv 0) pe_int set_list))
      (pss_cons (ps_asg (pe_op op_mod (pe_callTy call_int1 (by rfl) B.int (by decide +kernel) (pa_cons (pe_op op_add (pe_op op_add (pe_op op_mul (pe_ix ix_list (pv 0) pe_int (fun _ _ => rfl)) pe_int) (pe_op op_mul (pe_ix ix_list (pv 0) pe_int (fun _ _ => rfl)) pe_int)) pe_int) pa_nil)) pe_int) (pg_sub (pv 0) pe_int set_list))
      (pss_cons (ps_asg (pe_op op_add (pe_ix ix_list (pv 0) pe_int (fun _ _ => rfl)) pe_int) (pg_sub (pv 0) pe_int set_list))
      (pss_one (ps_ret (pe_op op_mod (pe_callTy call_int1 (by rfl) B.int (by decide +kernel) (pa_cons (pe_op op_add (pe_op op_fdiv (pe_ix ix_list (pv 0) pe_int (fun _ _ => rfl)) pe_int) (pe_ix ix_list (pv 0) pe_int (fun _ _ => rfl))) pa_nil)) (pv 1))))))), ?_⟩
    refine q_when (b := decide (c = 2) || (decide (c = 1) && decide (0 < a))) (et_is (by walk_at "et") (by congr 1 <;> simp)) (fun hb H1 e1 => ?_) (fun hb H1 e1 => ?_)
    · have hd1 := e1 d _ hd
      refine q_asg (by walk_at "ev") fun H2 e2 => ?_
      have hd2 := e2 d _ hd1
      refine q_setL (j := 0) hd2 (by walk_at "ev") (by walk_at "ev") (by exact ev_c) (by show 0 < 3; decide) fun H3 e3 => ?_
      refine s_ret (by walk_at "ev") fun H4 e4 => ?_
      have er : roll (a, b, c) m = (a % m, (a / m, b, c)) := by unfold roll; rw [if_pos hb]
      rw [er] at q
      exact q H4 (((ExB.of ((e1.trans e2).trans e3)).upd).ex e4) (e4 d _ upd_same)
    · have hd1 := e1 d _ hd
      refine q_setL (j := 2) hd1 (by walk_at "ev") (by walk_at "ev") (by exact ev_c) (by show 2 < 3; decide) fun H2 e2 => ?_
      have hd2 : upd H2 d (.lst [.int a, .int b, .int 0]) d = some _ := upd_same
      refine q_setL (xs := [.int a, .int b, .int 0]) (j := 0) hd2 (by walk_at "ev") (by walk_at "ev") (by exact ev_c) (by show 0 < 3; decide) fun H3 e3 => ?_
      have b1 : ExB d H (upd H2 d (.lst [.int a, .int b, .int 0])) := (ExB.of (e1.trans e2)).upd
      generalize hz : (a * 48271 + b * 69621 + 11) % 2147483647 = z
      have hd3 : upd H3 d (.lst [.int z, .int b, .int 0]) d = some _ := upd_same
      refine q_setL (xs := [.int z, .int b, .int 0]) (j := 1) hd3 (by walk_at "ev") (by walk_at "ev") (by exact ev_c) (by show 1 < 3; decide) fun H4 e4 => ?_
      have b2 : ExB d H (upd H3 d (.lst [.int z, .int b, .int 0])) := (b1.ex e3).upd
      have hd4 : upd H4 d (.lst [.int z, .int (b + 1), .int 0]) d = some _ := upd_same
      have b3 : ExB d H (upd H4 d (.lst [.int z, .int (b + 1), .int 0])) := (b2.ex e4).upd
      refine s_ret (v := .int ((z / 7 + z) % m)) (by walk_at "ev") fun H5 e5 => ?_
      have er : roll (a, b, c) m = ((z / 7 + z) % m, (z, b + 1, 0)) := by unfold roll; rw [if_neg (by rw [hb]; decide), ← hz]
      rw [er] at q
      exact q H5 (b3.ex e5) (e5 d _ hd4)
end
end Rw
namespace Rw
open PySem PySem.Spec PyProof.Rows L2 Evl
/-- an error of the class at S is what «except S» names, and none of the classes before it -/
def exRow (K : PySem.W.Frag) (C : Addr) (before : List Addr) : Bool := decide (PySem.W.exmOne K (.ref C) (.ref C) = some true) && before.all fun b => decide (PySem.W.exmOne K (.ref C) (.ref b) = some false)
def cOf (l : List Addr) (i : Nat) : Addr := l.getD i 0
theorem exRow_self {K : PySem.W.Frag} {C : Addr} {l : List Addr} (h : exRow K C l = true) : PySem.W.exmOne K (.ref C) (.ref C) = some true := by
  unfold exRow at h
  exact of_decide_eq_true (Bool.and_eq_true_iff.mp h).1
theorem exRow_mem {K : PySem.W.Frag} {C b : Addr} {l : List Addr} (h : exRow K C l = true) (hb : b ∈ l) : PySem.W.exmOne K (.ref C) (.ref b) = some false := by
  unfold exRow at h
  exact of_decide_eq_true (List.all_eq_true.mp (Bool.and_eq_true_iff.mp h).2 b hb)
section
variable {P : Program} {w : World} {K : PySem.W.Frag} {mg : Str → Option Value} {base : Heap}
theorem cal_of {x : Str} {k : Nat} {sp : Sp} {st : Stmt} {f : Addr} {fd : FuncData} {ps : List Str} (F : Fun K x x st f fd) (hm : mg x = some (.ref f)) (ok : FnOk P w K mg base (L2.CX P w) k f fd ps sp) (b : Binds K fd ps []) : Cal P w K mg base k x sp [] :=
  ⟨f, fd, ps, [], hm, F.kp, ok, b, .nil⟩
theorem mt_of {m q : Str} {k : Nat} {C : Addr} {sp : Sp} {st : Stmt} {f : Addr} {fd : FuncData} {ps : List Str} (c : Cls K C) (me : Meth K C m f) (F : Fun K m q st f fd) (ok : FnOk P w K mg base (L2.CX P w) k f fd ps sp) (b : Binds K fd ps []) : Mt P w K mg base k C m sp [] :=
  ⟨f, fd, ps, [], c, me, ok, b, .nil⟩
theorem nw_of {x m q : Str} {k : Nat} {C : Addr} {sp : Sp} {st : Stmt} {f : Addr} {fd : FuncData} {ps : List Str} (M : Mk K C f) (hm : mg x = some (.ref C)) (F : Fun K m q st f fd) (ok : FnOk P w K mg base (L2.CX P w) k f fd ps sp) (b : Binds K fd ps []) : Nw P w K mg base k x C sp [] :=
  ⟨f, fd, ps, [], M, hm, ok, b, .nil⟩
end
theorem all_mk {P : Program} {w : World} {K : PySem.W.Frag} {h : Heap} {mg : Str → Option Value} {C0 C1 C2 C3 C4 C5 C6 C7 C8 C9 C10 f_count_below f_shared f_widened f_least f_paired f_either f_common_to f_opposite f_shifted f_same f_opposite_of f_meeting f_many_between f__law_dice f__law_roll f__law_rounds f__law_told CR f_Ring_init f_Ring_has f_Ring_ahead f_Ring_at f_Ring_next f_Ring_shown fL fa : Addr} (X : K.In h) (G : h.Ns mainGlobals mg) (hfa : mg "law" = some (.ref fa)) (own : LamX.OwnTab K fa h)
    {od_count_below an_count_below : Option Addr} {sl_count_below : Array (Option Value)} {oc_count_below kV_count_below dc_count_below pm_count_below cd_count_below ct_count_below : Value}
    {od_shared an_shared : Option Addr} {sl_shared : Array (Option Value)} {oc_shared kV_shared dc_shared pm_shared cd_shared ct_shared : Value}
    {od_widened an_widened : Option Addr} {sl_widened : Array (Option Value)} {oc_widened kV_widened dc_widened pm_widened cd_widened ct_widened : Value}
    {od_least an_least : Option Addr} {sl_least : Array (Option Value)} {oc_least kV_least dc_least pm_least cd_least ct_least : Value}
    {od_paired an_paired : Option Addr} {sl_paired : Array (Option Value)} {oc_paired kV_paired dc_paired pm_paired cd_paired ct_paired : Value}
    {od_either an_either : Option Addr} {sl_either : Array (Option Value)} {oc_either kV_either dc_either pm_either cd_either ct_either : Value}
    {od_common_to an_common_to : Option Addr} {sl_common_to : Array (Option Value)} {oc_common_to kV_common_to dc_common_to pm_common_to cd_common_to ct_common_to : Value}
    {od_opposite an_opposite : Option Addr} {sl_opposite : Array (Option Value)} {oc_opposite kV_opposite dc_opposite pm_opposite cd_opposite ct_opposite : Value}
    {od_shifted an_shifted : Option Addr} {sl_shifted : Array (Option Value)} {oc_shifted kV_shifted dc_shifted pm_shifted cd_shifted ct_shifted : Value}
    {od_same an_same : Option Addr} {sl_same : Array (Option Value)} {oc_same kV_same dc_same pm_same cd_same ct_same : Value}
    {od_opposite_of an_opposite_of : Option Addr} {sl_opposite_of : Array (Option Value)} {oc_opposite_of kV_opposite_of dc_opposite_of pm_opposite_of cd_opposite_of ct_opposite_of : Value}
    {od_meeting an_meeting : Option Addr} {sl_meeting : Array (Option Value)} {oc_meeting kV_meeting dc_meeting pm_meeting cd_meeting ct_meeting : Value}
    {od_many_between an_many_between : Option Addr} {sl_many_between : Array (Option Value)} {oc_many_between kV_many_between dc_many_between pm_many_between cd_many_between ct_many_between : Value}
    {od__law_dice an__law_dice : Option Addr} {sl__law_dice : Array (Option Value)} {oc__law_dice kV__law_dice dc__law_dice pm__law_dice cd__law_dice ct__law_dice : Value}
    {od__law_roll an__law_roll : Option Addr} {sl__law_roll : Array (Option Value)} {oc__law_roll kV__law_roll dc__law_roll pm__law_roll cd__law_roll ct__law_roll : Value}
    {od__law_rounds an__law_rounds : Option Addr} {sl__law_rounds : Array (Option Value)} {oc__law_rounds kV__law_rounds dc__law_rounds pm__law_rounds cd__law_rounds ct__law_rounds : Value}
    {od__law_told an__law_told : Option Addr} {sl__law_told : Array (Option Value)} {oc__law_told kV__law_told dc__law_told pm__law_told cd__law_told ct__law_told : Value}
    {od_Ring_init an_Ring_init : Option Addr} {sl_Ring_init : Array (Option Value)} {oc_Ring_init kV_Ring_init dc_Ring_init pm_Ring_init cd_Ring_init ct_Ring_init : Value}
    {od_Ring_has an_Ring_has : Option Addr} {sl_Ring_has : Array (Option Value)} {oc_Ring_has kV_Ring_has dc_Ring_has pm_Ring_has cd_Ring_has ct_Ring_has : Value}
    {od_Ring_ahead an_Ring_ahead : Option Addr} {sl_Ring_ahead : Array (Option Value)} {oc_Ring_ahead kV_Ring_ahead dc_Ring_ahead pm_Ring_ahead cd_Ring_ahead ct_Ring_ahead : Value}
    {od_Ring_at an_Ring_at : Option Addr} {sl_Ring_at : Array (Option Value)} {oc_Ring_at kV_Ring_at dc_Ring_at pm_Ring_at cd_Ring_at ct_Ring_at : Value}
    {od_Ring_next an_Ring_next : Option Addr} {sl_Ring_next : Array (Option Value)} {oc_Ring_next kV_Ring_next dc_Ring_next pm_Ring_next cd_Ring_next ct_Ring_next : Value}
    {od_Ring_shown an_Ring_shown : Option Addr} {sl_Ring_shown : Array (Option Value)} {oc_Ring_shown kV_Ring_shown dc_Ring_shown pm_Ring_shown cd_Ring_shown ct_Ring_shown : Value}
    {tk_MOST : Tok}
    {od_L an_L : Option Addr} {sl_L : Array (Option Value)} {oc_L kV_L dc_L pm_L ct_L : Value} {cc PT : Addr} {eC : Value} {dC : Option Addr} {vC : Array Value} {sC : Array (Option Value)}
    (e0 : PySem.W.nsIn K mainGlobals "BadCalendar" = some (some (.ref C0)))
    (ex0 : PySem.W.excIn K C0 [.type "ValueError", .type "Exception", .type "BaseException", .type "object"] "ValueError.__new__" = true)
    (ek0 : PySem.W.keepIn K (.ref C0) = true)
    (eb0 : PySem.W.subIn K (.ref C0) (.type "BaseException") = some true)
    (et0 : PySem.W.typeIn K (.ref C0) = some (.type "type"))
    (e1 : PySem.W.nsIn K mainGlobals "BadDay" = some (some (.ref C1)))
    (ex1 : PySem.W.excIn K C1 [.type "ValueError", .type "Exception", .type "BaseException", .type "object"] "ValueError.__new__" = true)
    (ek1 : PySem.W.keepIn K (.ref C1) = true)
    (eb1 : PySem.W.subIn K (.ref C1) (.type "BaseException") = some true)
    (et1 : PySem.W.typeIn K (.ref C1) = some (.type "type"))
    (e2 : PySem.W.nsIn K mainGlobals "BadTime" = some (some (.ref C2)))
    (ex2 : PySem.W.excIn K C2 [.type "ValueError", .type "Exception", .type "BaseException", .type "object"] "ValueError.__new__" = true)
    (ek2 : PySem.W.keepIn K (.ref C2) = true)
    (eb2 : PySem.W.subIn K (.ref C2) (.type "BaseException") = some true)
    (et2 : PySem.W.typeIn K (.ref C2) = some (.type "type"))
    (e3 : PySem.W.nsIn K mainGlobals "BadRule" = some (some (.ref C3)))
    (ex3 : PySem.W.excIn K C3 [.type "ValueError", .type "Exception", .type "BaseException", .type "object"] "ValueError.__new__" = true)
    (ek3 : PySem.W.keepIn K (.ref C3) = true)
    (eb3 : PySem.W.subIn K (.ref C3) (.type "BaseException") = some true)
    (et3 : PySem.W.typeIn K (.ref C3) = some (.type "type"))
    (e4 : PySem.W.nsIn K mainGlobals "BadZone" = some (some (.ref C4)))
    (ex4 : PySem.W.excIn K C4 [.type "ValueError", .type "Exception", .type "BaseException", .type "object"] "ValueError.__new__" = true)
    (ek4 : PySem.W.keepIn K (.ref C4) = true)
    (eb4 : PySem.W.subIn K (.ref C4) (.type "BaseException") = some true)
    (et4 : PySem.W.typeIn K (.ref C4) = some (.type "type"))
    (e5 : PySem.W.nsIn K mainGlobals "BadSize" = some (some (.ref C5)))
    (ex5 : PySem.W.excIn K C5 [.type "ValueError", .type "Exception", .type "BaseException", .type "object"] "ValueError.__new__" = true)
    (ek5 : PySem.W.keepIn K (.ref C5) = true)
    (eb5 : PySem.W.subIn K (.ref C5) (.type "BaseException") = some true)
    (et5 : PySem.W.typeIn K (.ref C5) = some (.type "type"))
    (e6 : PySem.W.nsIn K mainGlobals "BadPaper" = some (some (.ref C6)))
    (ex6 : PySem.W.excIn K C6 [.type "ValueError", .type "Exception", .type "BaseException", .type "object"] "ValueError.__new__" = true)
    (ek6 : PySem.W.keepIn K (.ref C6) = true)
    (eb6 : PySem.W.subIn K (.ref C6) (.type "BaseException") = some true)
    (et6 : PySem.W.typeIn K (.ref C6) = some (.type "type"))
    (e7 : PySem.W.nsIn K mainGlobals "BadText" = some (some (.ref C7)))
    (ex7 : PySem.W.excIn K C7 [.type "ValueError", .type "Exception", .type "BaseException", .type "object"] "ValueError.__new__" = true)
    (ek7 : PySem.W.keepIn K (.ref C7) = true)
    (eb7 : PySem.W.subIn K (.ref C7) (.type "BaseException") = some true)
    (et7 : PySem.W.typeIn K (.ref C7) = some (.type "type"))
    (e8 : PySem.W.nsIn K mainGlobals "BadStore" = some (some (.ref C8)))
    (ex8 : PySem.W.excIn K C8 [.type "ValueError", .type "Exception", .type "BaseException", .type "object"] "ValueError.__new__" = true)
    (ek8 : PySem.W.keepIn K (.ref C8) = true)
    (eb8 : PySem.W.subIn K (.ref C8) (.type "BaseException") = some true)
    (et8 : PySem.W.typeIn K (.ref C8) = some (.type "type"))
    (e9 : PySem.W.nsIn K mainGlobals "NoDay" = some (some (.ref C9)))
    (ex9 : PySem.W.excIn K C9 [.type "ValueError", .type "Exception", .type "BaseException", .type "object"] "ValueError.__new__" = true)
    (ek9 : PySem.W.keepIn K (.ref C9) = true)
    (eb9 : PySem.W.subIn K (.ref C9) (.type "BaseException") = some true)
    (et9 : PySem.W.typeIn K (.ref C9) = some (.type "type"))
    (e10 : PySem.W.nsIn K mainGlobals "NoSuch" = some (some (.ref C10)))
    (ex10 : PySem.W.excIn K C10 [.type "ValueError", .type "Exception", .type "BaseException", .type "object"] "ValueError.__new__" = true)
    (ek10 : PySem.W.keepIn K (.ref C10) = true)
    (eb10 : PySem.W.subIn K (.ref C10) (.type "BaseException") = some true)
    (et10 : PySem.W.typeIn K (.ref C10) = some (.type "type"))
    (em0 : exRow K C0 [] = true)
    (em1 : exRow K C1 [C0] = true)
    (em2 : exRow K C2 [C0, C1] = true)
    (em3 : exRow K C3 [C0, C1, C2] = true)
    (em4 : exRow K C4 [C0, C1, C2, C3] = true)
    (em5 : exRow K C5 [C0, C1, C2, C3, C4] = true)
    (em6 : exRow K C6 [C0, C1, C2, C3, C4, C5] = true)
    (em7 : exRow K C7 [C0, C1, C2, C3, C4, C5, C6] = true)
    (em8 : exRow K C8 [C0, C1, C2, C3, C4, C5, C6, C7] = true)
    (em9 : exRow K C9 [C0, C1, C2, C3, C4, C5, C6, C7, C8] = true)
    (em10 : exRow K C10 [C0, C1, C2, C3, C4, C5, C6, C7, C8, C9] = true)
    (a_count_below : PySem.W.nsIn K mainGlobals "count_below" = some (some (.ref f_count_below)))
    (l_count_below : K.lookup f_count_below = some ⟨oc_count_below, od_count_below, .func (PySem.W.fnOf "count_below" "count_below" (defArgs s_count_below) (defBody s_count_below) (defScope s_count_below) .none kV_count_below dc_count_below pm_count_below an_count_below cd_count_below ct_count_below), sl_count_below⟩)
    (c_count_below : PySem.W.codeIn K cd_count_below "count_below" = true)
    (k_count_below : PySem.W.keepIn K (.ref f_count_below) = true)
    (a_shared : PySem.W.nsIn K mainGlobals "shared" = some (some (.ref f_shared)))
    (l_shared : K.lookup f_shared = some ⟨oc_shared, od_shared, .func (PySem.W.fnOf "shared" "shared" (defArgs s_shared) (defBody s_shared) (defScope s_shared) .none kV_shared dc_shared pm_shared an_shared cd_shared ct_shared), sl_shared⟩)
    (c_shared : PySem.W.codeIn K cd_shared "shared" = true)
    (k_shared : PySem.W.keepIn K (.ref f_shared) = true)
    (a_widened : PySem.W.nsIn K mainGlobals "widened" = some (some (.ref f_widened)))
    (l_widened : K.lookup f_widened = some ⟨oc_widened, od_widened, .func (PySem.W.fnOf "widened" "widened" (defArgs s_widened) (defBody s_widened) (defScope s_widened) .none kV_widened dc_widened pm_widened an_widened cd_widened ct_widened), sl_widened⟩)
    (c_widened : PySem.W.codeIn K cd_widened "widened" = true)
    (k_widened : PySem.W.keepIn K (.ref f_widened) = true)
    (a_least : PySem.W.nsIn K mainGlobals "least" = some (some (.ref f_least)))
    (l_least : K.lookup f_least = some ⟨oc_least, od_least, .func (PySem.W.fnOf "least" "least" (defArgs s_least) (defBody s_least) (defScope s_least) .none kV_least dc_least pm_least an_least cd_least ct_least), sl_least⟩)
    (c_least : PySem.W.codeIn K cd_least "least" = true)
    (k_least : PySem.W.keepIn K (.ref f_least) = true)
    (a_paired : PySem.W.nsIn K mainGlobals "paired" = some (some (.ref f_paired)))
    (l_paired : K.lookup f_paired = some ⟨oc_paired, od_paired, .func (PySem.W.fnOf "paired" "paired" (defArgs s_paired) (defBody s_paired) (defScope s_paired) .none kV_paired dc_paired pm_paired an_paired cd_paired ct_paired), sl_paired⟩)
    (c_paired : PySem.W.codeIn K cd_paired "paired" = true)
    (k_paired : PySem.W.keepIn K (.ref f_paired) = true)
    (a_either : PySem.W.nsIn K mainGlobals "either" = some (some (.ref f_either)))
    (l_either : K.lookup f_either = some ⟨oc_either, od_either, .func (PySem.W.fnOf "either" "either" (defArgs s_either) (defBody s_either) (defScope s_either) .none kV_either dc_either pm_either an_either cd_either ct_either), sl_either⟩)
    (c_either : PySem.W.codeIn K cd_either "either" = true)
    (k_either : PySem.W.keepIn K (.ref f_either) = true)
    (a_common_to : PySem.W.nsIn K mainGlobals "common_to" = some (some (.ref f_common_to)))
    (l_common_to : K.lookup f_common_to = some ⟨oc_common_to, od_common_to, .func (PySem.W.fnOf "common_to" "common_to" (defArgs s_common_to) (defBody s_common_to) (defScope s_common_to) .none kV_common_to dc_common_to pm_common_to an_common_to cd_common_to ct_common_to), sl_common_to⟩)
    (c_common_to : PySem.W.codeIn K cd_common_to "common_to" = true)
    (k_common_to : PySem.W.keepIn K (.ref f_common_to) = true)
    (a_opposite : PySem.W.nsIn K mainGlobals "opposite" = some (some (.ref f_opposite)))
    (l_opposite : K.lookup f_opposite = some ⟨oc_opposite, od_opposite, .func (PySem.W.fnOf "opposite" "opposite" (defArgs s_opposite) (defBody s_opposite) (defScope s_opposite) .none kV_opposite dc_opposite pm_opposite an_opposite cd_opposite ct_opposite), sl_opposite⟩)
    (c_opposite : PySem.W.codeIn K cd_opposite "opposite" = true)
    (k_opposite : PySem.W.keepIn K (.ref f_opposite) = true)
    (a_shifted : PySem.W.nsIn K mainGlobals "shifted" = some (some (.ref f_shifted)))
    (l_shifted : K.lookup f_shifted = some ⟨oc_shifted, od_shifted, .func (PySem.W.fnOf "shifted" "shifted" (defArgs s_shifted) (defBody s_shifted) (defScope s_shifted) .none kV_shifted dc_shifted pm_shifted an_shifted cd_shifted ct_shifted), sl_shifted⟩)
    (c_shifted : PySem.W.codeIn K cd_shifted "shifted" = true)
    (k_shifted : PySem.W.keepIn K (.ref f_shifted) = true)
    (a_same : PySem.W.nsIn K mainGlobals "same" = some (some (.ref f_same)))
    (l_same : K.lookup f_same = some ⟨oc_same, od_same, .func (PySem.W.fnOf "same" "same" (defArgs s_same) (defBody s_same) (defScope s_same) .none kV_same dc_same pm_same an_same cd_same ct_same), sl_same⟩)
    (c_same : PySem.W.codeIn K cd_same "same" = true)
    (k_same : PySem.W.keepIn K (.ref f_same) = true)
    (a_opposite_of : PySem.W.nsIn K mainGlobals "opposite_of" = some (some (.ref f_opposite_of)))
    (l_opposite_of : K.lookup f_opposite_of = some ⟨oc_opposite_of, od_opposite_of, .func (PySem.W.fnOf "opposite_of" "opposite_of" (defArgs s_opposite_of) (defBody s_opposite_of) (defScope s_opposite_of) .none kV_opposite_of dc_opposite_of pm_opposite_of an_opposite_of cd_opposite_of ct_opposite_of), sl_opposite_of⟩)
    (c_opposite_of : PySem.W.codeIn K cd_opposite_of "opposite_of" = true)
    (k_opposite_of : PySem.W.keepIn K (.ref f_opposite_of) = true)
    (a_meeting : PySem.W.nsIn K mainGlobals "meeting" = some (some (.ref f_meeting)))
    (l_meeting : K.lookup f_meeting = some ⟨oc_meeting, od_meeting, .func (PySem.W.fnOf "meeting" "meeting" (defArgs s_meeting) (defBody s_meeting) (defScope s_meeting) .none kV_meeting dc_meeting pm_meeting an_meeting cd_meeting ct_meeting), sl_meeting⟩)
    (c_meeting : PySem.W.codeIn K cd_meeting "meeting" = true)
    (k_meeting : PySem.W.keepIn K (.ref f_meeting) = true)
    (a_many_between : PySem.W.nsIn K mainGlobals "many_between" = some (some (.ref f_many_between)))
    (l_many_between : K.lookup f_many_between = some ⟨oc_many_between, od_many_between, .func (PySem.W.fnOf "many_between" "many_between" (defArgs s_many_between) (defBody s_many_between) (defScope s_many_between) .none kV_many_between dc_many_between pm_many_between an_many_between cd_many_between ct_many_between), sl_many_between⟩)
    (c_many_between : PySem.W.codeIn K cd_many_between "many_between" = true)
    (k_many_between : PySem.W.keepIn K (.ref f_many_between) = true)
    (a__law_dice : PySem.W.nsIn K mainGlobals "_law_dice" = some (some (.ref f__law_dice)))
    (l__law_dice : K.lookup f__law_dice = some ⟨oc__law_dice, od__law_dice, .func (PySem.W.fnOf "_law_dice" "_law_dice" (defArgs sDice) (defBody sDice) (defScope sDice) .none kV__law_dice dc__law_dice pm__law_dice an__law_dice cd__law_dice ct__law_dice), sl__law_dice⟩)
    (c__law_dice : PySem.W.codeIn K cd__law_dice "_law_dice" = true)
    (k__law_dice : PySem.W.keepIn K (.ref f__law_dice) = true)
    (a__law_roll : PySem.W.nsIn K mainGlobals "_law_roll" = some (some (.ref f__law_roll)))
    (l__law_roll : K.lookup f__law_roll = some ⟨oc__law_roll, od__law_roll, .func (PySem.W.fnOf "_law_roll" "_law_roll" (defArgs sRoll) (defBody sRoll) (defScope sRoll) .none kV__law_roll dc__law_roll pm__law_roll an__law_roll cd__law_roll ct__law_roll), sl__law_roll⟩)
    (c__law_roll : PySem.W.codeIn K cd__law_roll "_law_roll" = true)
    (k__law_roll : PySem.W.keepIn K (.ref f__law_roll) = true)
    (a__law_rounds : PySem.W.nsIn K mainGlobals "_law_rounds" = some (some (.ref f__law_rounds)))
    (l__law_rounds : K.lookup f__law_rounds = some ⟨oc__law_rounds, od__law_rounds, .func (PySem.W.fnOf "_law_rounds" "_law_rounds" (defArgs sRounds) (defBody sRounds) (defScope sRounds) .none kV__law_rounds dc__law_rounds pm__law_rounds an__law_rounds cd__law_rounds ct__law_rounds), sl__law_rounds⟩)
    (c__law_rounds : PySem.W.codeIn K cd__law_rounds "_law_rounds" = true)
    (k__law_rounds : PySem.W.keepIn K (.ref f__law_rounds) = true)
    (a__law_told : PySem.W.nsIn K mainGlobals "_law_told" = some (some (.ref f__law_told)))
    (l__law_told : K.lookup f__law_told = some ⟨oc__law_told, od__law_told, .func (PySem.W.fnOf "_law_told" "_law_told" (defArgs sTold) (defBody sTold) (defScope sTold) .none kV__law_told dc__law_told pm__law_told an__law_told cd__law_told ct__law_told), sl__law_told⟩)
    (c__law_told : PySem.W.codeIn K cd__law_told "_law_told" = true)
    (k__law_told : PySem.W.keepIn K (.ref f__law_told) = true)
    (a_Ring : PySem.W.nsIn K mainGlobals "Ring" = some (some (.ref CR)))
    (pg_Ring : PySem.W.plainGet K CR Str.empty = true)
    (hd_Ring : PySem.W.hasDictIn K CR = true)
    (po_Ring : PySem.W.plainOver K CR = true)
    (sa_Ring : PySem.W.findIn K (.ref CR) "__setattr__" = some (some (.builtin "object.__setattr__")))
    (kc_Ring : PySem.W.keepIn K (.ref CR) = true)
    (mk_Ring : PySem.W.makesIn K CR = true)
    (n_Ring_period : PySem.W.findIn K (.ref CR) "period" = some none)
    (n_Ring_places : PySem.W.findIn K (.ref CR) "places" = some none)
    (n_Ring_there : PySem.W.findIn K (.ref CR) "there" = some none)
    (m_Ring_init : PySem.W.findIn K (.ref CR) "__init__" = some (some (.ref f_Ring_init)))
    (i_Ring_init : PySem.W.isFn K (.ref f_Ring_init) = true)
    (l_Ring_init : K.lookup f_Ring_init = some ⟨oc_Ring_init, od_Ring_init, .func (PySem.W.fnOf "__init__" "Ring.__init__" (defArgs s_Ring_init) (defBody s_Ring_init) (defScope s_Ring_init) .none kV_Ring_init dc_Ring_init pm_Ring_init an_Ring_init cd_Ring_init ct_Ring_init), sl_Ring_init⟩)
    (c_Ring_init : PySem.W.codeIn K cd_Ring_init "Ring.__init__" = true)
    (k_Ring_init : PySem.W.keepIn K (.ref f_Ring_init) = true)
    (m_Ring_has : PySem.W.findIn K (.ref CR) "has" = some (some (.ref f_Ring_has)))
    (i_Ring_has : PySem.W.isFn K (.ref f_Ring_has) = true)
    (l_Ring_has : K.lookup f_Ring_has = some ⟨oc_Ring_has, od_Ring_has, .func (PySem.W.fnOf "has" "Ring.has" (defArgs s_Ring_has) (defBody s_Ring_has) (defScope s_Ring_has) .none kV_Ring_has dc_Ring_has pm_Ring_has an_Ring_has cd_Ring_has ct_Ring_has), sl_Ring_has⟩)
    (c_Ring_has : PySem.W.codeIn K cd_Ring_has "Ring.has" = true)
    (k_Ring_has : PySem.W.keepIn K (.ref f_Ring_has) = true)
    (m_Ring_ahead : PySem.W.findIn K (.ref CR) "ahead" = some (some (.ref f_Ring_ahead)))
    (i_Ring_ahead : PySem.W.isFn K (.ref f_Ring_ahead) = true)
    (l_Ring_ahead : K.lookup f_Ring_ahead = some ⟨oc_Ring_ahead, od_Ring_ahead, .func (PySem.W.fnOf "ahead" "Ring.ahead" (defArgs s_Ring_ahead) (defBody s_Ring_ahead) (defScope s_Ring_ahead) .none kV_Ring_ahead dc_Ring_ahead pm_Ring_ahead an_Ring_ahead cd_Ring_ahead ct_Ring_ahead), sl_Ring_ahead⟩)
    (c_Ring_ahead : PySem.W.codeIn K cd_Ring_ahead "Ring.ahead" = true)
    (k_Ring_ahead : PySem.W.keepIn K (.ref f_Ring_ahead) = true)
    (m_Ring_at : PySem.W.findIn K (.ref CR) "at" = some (some (.ref f_Ring_at)))
    (i_Ring_at : PySem.W.isFn K (.ref f_Ring_at) = true)
    (l_Ring_at : K.lookup f_Ring_at = some ⟨oc_Ring_at, od_Ring_at, .func (PySem.W.fnOf "at" "Ring.at" (defArgs s_Ring_at) (defBody s_Ring_at) (defScope s_Ring_at) .none kV_Ring_at dc_Ring_at pm_Ring_at an_Ring_at cd_Ring_at ct_Ring_at), sl_Ring_at⟩)
    (c_Ring_at : PySem.W.codeIn K cd_Ring_at "Ring.at" = true)
    (k_Ring_at : PySem.W.keepIn K (.ref f_Ring_at) = true)
    (m_Ring_next : PySem.W.findIn K (.ref CR) "next" = some (some (.ref f_Ring_next)))
    (i_Ring_next : PySem.W.isFn K (.ref f_Ring_next) = true)
    (l_Ring_next : K.lookup f_Ring_next = some ⟨oc_Ring_next, od_Ring_next, .func (PySem.W.fnOf "next" "Ring.next" (defArgs s_Ring_next) (defBody s_Ring_next) (defScope s_Ring_next) .none kV_Ring_next dc_Ring_next pm_Ring_next an_Ring_next cd_Ring_next ct_Ring_next), sl_Ring_next⟩)
    (c_Ring_next : PySem.W.codeIn K cd_Ring_next "Ring.next" = true)
    (k_Ring_next : PySem.W.keepIn K (.ref f_Ring_next) = true)
    (m_Ring_shown : PySem.W.findIn K (.ref CR) "shown" = some (some (.ref f_Ring_shown)))
    (i_Ring_shown : PySem.W.isFn K (.ref f_Ring_shown) = true)
    (l_Ring_shown : K.lookup f_Ring_shown = some ⟨oc_Ring_shown, od_Ring_shown, .func (PySem.W.fnOf "shown" "Ring.shown" (defArgs s_Ring_shown) (defBody s_Ring_shown) (defScope s_Ring_shown) .none kV_Ring_shown dc_Ring_shown pm_Ring_shown an_Ring_shown cd_Ring_shown ct_Ring_shown), sl_Ring_shown⟩)
    (c_Ring_shown : PySem.W.codeIn K cd_Ring_shown "Ring.shown" = true)
    (k_Ring_shown : PySem.W.keepIn K (.ref f_Ring_shown) = true)
    (n_int : PySem.W.nsIn K mainGlobals "int" = some none)
    (n_abs : PySem.W.nsIn K mainGlobals "abs" = some none)
    (n_len : PySem.W.nsIn K mainGlobals "len" = some none)
    (n_sum : PySem.W.nsIn K mainGlobals "sum" = some none)
    (n_min : PySem.W.nsIn K mainGlobals "min" = some none)
    (n_max : PySem.W.nsIn K mainGlobals "max" = some none)
    (n_tuple : PySem.W.nsIn K mainGlobals "tuple" = some none)
    (n_range : PySem.W.nsIn K mainGlobals "range" = some none)
    (n_divmod : PySem.W.nsIn K mainGlobals "divmod" = some none)
    (n_list : PySem.W.nsIn K mainGlobals "list" = some none)
    (n_dict : PySem.W.nsIn K mainGlobals "dict" = some none)
    (n_set : PySem.W.nsIn K mainGlobals "set" = some none)
    (n_sorted : PySem.W.nsIn K mainGlobals "sorted" = some none)
    (gi_MOST : PySem.W.nsIn K mainGlobals "MOST" = some (some (.int 5000 tk_MOST)))
    (aL : PySem.W.nsIn K mainGlobals "law" = some (some (.ref fL)))
    (lL : K.lookup fL = some ⟨oc_L, od_L, .func (PySem.W.fnOf "law" "law" (defArgs sLaw) (defBody sLaw) (defScope sLaw) .none kV_L dc_L pm_L an_L (.ref cc) ct_L), sl_L⟩)
    (cL : PySem.W.codeIn K (.ref cc) "law" = true)
    (lC : K.lookup cc = some ⟨eC, dC, .fields vC, sC⟩)
    (vP : vC[11]? = some (.ref PT))
    (nP : K.lookup PT = none)
    (hC : PySem.W.codeHdIn K cc PT = true) :
    ∃ (fd : FuncData) (cs : List (Addr × Addr)) (sp : Sp), (∀ p ∈ cs, h.get? p.2 = some { cls := .none, data := .fields #[] }) ∧ (∀ p ∈ cs, K.lookup p.2 = none) ∧ (∀ p ∈ cs, PySem.W.CodeHd h p.1 p.2) ∧ (∀ (s : Shared) (u : Value), BindsTo s fd ⟨[u], []⟩ [("script", u)]) ∧
    (∀ (H : Hp) (a : Addr) (ns : List Int), ns.length ≤ 63 → (∀ z ∈ ns, Builtin.Int.intBits z ≤ 1048576) → (∀ p ∈ cs, H p.2 = some (.tbl #[])) → SqL K H a (ns.map V.int) → sp [.ref a] H (fun v _ => v = .bl true) fun _ _ _ => False) ∧
    ∀ base : Heap, K.In base → base.Ns mainGlobals mg → (∀ p ∈ cs, LamX.TabB base mg p.1 p.2) → FnOk P w K mg base (L2.CX P w) 11 fa fd ["script"] sp := by
  have e := hfa.symm.trans (PySem.W.mg_of X G aL)
  cases e
  have tab : h.get? PT = some { cls := .none, data := .fields #[] } := own cc PT _ _ _ _ _ _ lL rfl rfl lC vP
  refine ⟨PySem.W.fnOf "law" "law" (defArgs sLaw) (defBody sLaw) (defScope sLaw) .none kV_L dc_L pm_L an_L (.ref cc) ct_L, [(cc, PT)], spLaw K PT, fun p hp => (by rw [List.mem_singleton.mp hp]; exact tab), fun p hp => (by rw [List.mem_singleton.mp hp]; exact nP), fun p hp => (by rw [List.mem_singleton.mp hp]; exact PySem.W.codeHd_of_K X hC), fun s u => .of_eq (by rfl), fun H a ns _ _ hT hS => ⟨a, ns, rfl, hS, hT _ (List.mem_singleton.mpr rfl), fun _ => rfl⟩, fun base KB GB TB => ?_⟩
  have g : ∀ {x : Str} {v : Value}, PySem.W.nsIn K mainGlobals x = some (some v) → mg x = some v := fun e => PySem.W.mg_of X G e
  have g0 : ∀ {x : Str}, PySem.W.nsIn K mainGlobals x = some none → mg x = none := fun e => PySem.W.mg_none_of X G e
  have EX : Exs K mg (cOf [C0, C1, C2, C3, C4, C5, C6, C7, C8, C9, C10]) := by
    constructor
    · intro i hi
      match i, hi with
      | 0, _ => exact ⟨g e0, ex0, ek0, eb0, et0⟩
      | 1, _ => exact ⟨g e1, ex1, ek1, eb1, et1⟩
      | 2, _ => exact ⟨g e2, ex2, ek2, eb2, et2⟩
      | 3, _ => exact ⟨g e3, ex3, ek3, eb3, et3⟩
      | 4, _ => exact ⟨g e4, ex4, ek4, eb4, et4⟩
      | 5, _ => exact ⟨g e5, ex5, ek5, eb5, et5⟩
      | 6, _ => exact ⟨g e6, ex6, ek6, eb6, et6⟩
      | 7, _ => exact ⟨g e7, ex7, ek7, eb7, et7⟩
      | 8, _ => exact ⟨g e8, ex8, ek8, eb8, et8⟩
      | 9, _ => exact ⟨g e9, ex9, ek9, eb9, et9⟩
      | 10, _ => exact ⟨g e10, ex10, ek10, eb10, et10⟩
      | i + 11, hi => exact absurd hi (by omega)
    · intro i j hi hj
      match i, hi with
      | 0, _ =>
        match j, hj with
        | 0, _ => exact exRow_self em0
        | j + 1, hj => exact absurd hj (by omega)
      | 1, _ =>
        match j, hj with
        | 0, _ => exact exRow_mem (b := C0) em1 (by simp)
        | 1, _ => exact exRow_self em1
        | j + 2, hj => exact absurd hj (by omega)
      | 2, _ =>
        match j, hj with
        | 0, _ => exact exRow_mem (b := C0) em2 (by simp)
        | 1, _ => exact exRow_mem (b := C1) em2 (by simp)
        | 2, _ => exact exRow_self em2
        | j + 3, hj => exact absurd hj (by omega)
      | 3, _ =>
        match j, hj with
        | 0, _ => exact exRow_mem (b := C0) em3 (by simp)
        | 1, _ => exact exRow_mem (b := C1) em3 (by simp)
        | 2, _ => exact exRow_mem (b := C2) em3 (by simp)
        | 3, _ => exact exRow_self em3
        | j + 4, hj => exact absurd hj (by omega)
      | 4, _ =>
        match j, hj with
        | 0, _ => exact exRow_mem (b := C0) em4 (by simp)
        | 1, _ => exact exRow_mem (b := C1) em4 (by simp)
        | 2, _ => exact exRow_mem (b := C2) em4 (by simp)
        | 3, _ => exact exRow_mem (b := C3) em4 (by simp)
        | 4, _ => exact exRow_self em4
        | j + 5, hj => exact absurd hj (by omega)
      | 5, _ =>
        match j, hj with
        | 0, _ => exact exRow_mem (b := C0) em5 (by simp)
        | 1, _ => exact exRow_mem (b := C1) em5 (by simp)
        | 2, _ => exact exRow_mem (b := C2) em5 (by simp)
        | 3, _ => exact exRow_mem (b := C3) em5 (by simp)
        | 4, _ => exact exRow_mem (b := C4) em5 (by simp)
        | 5, _ => exact exRow_self em5
        | j + 6, hj => exact absurd hj (by omega)
      | 6, _ =>
        match j, hj with
        | 0, _ => exact exRow_mem (b := C0) em6 (by simp)
        | 1, _ => exact exRow_mem (b := C1) em6 (by simp)
        | 2, _ => exact exRow_mem (b := C2) em6 (by simp)
        | 3, _ => exact exRow_mem (b := C3) em6 (by simp)
        | 4, _ => exact exRow_mem (b := C4) em6 (by simp)
        | 5, _ => exact exRow_mem (b := C5) em6 (by simp)
        | 6, _ => exact exRow_self em6
        | j + 7, hj => exact absurd hj (by omega)
      | 7, _ =>
        match j, hj with
        | 0, _ => exact exRow_mem (b := C0) em7 (by simp)
        | 1, _ => exact exRow_mem (b := C1) em7 (by simp)
        | 2, _ => exact exRow_mem (b := C2) em7 (by simp)
        | 3, _ => exact exRow_mem (b := C3) em7 (by simp)
        | 4, _ => exact exRow_mem (b := C4) em7 (by simp)
        | 5, _ => exact exRow_mem (b := C5) em7 (by simp)
        | 6, _ => exact exRow_mem (b := C6) em7 (by simp)
        | 7, _ => exact exRow_self em7
        | j + 8, hj => exact absurd hj (by omega)
      | 8, _ =>
        match j, hj with
        | 0, _ => exact exRow_mem (b := C0) em8 (by simp)
        | 1, _ => exact exRow_mem (b := C1) em8 (by simp)
        | 2, _ => exact exRow_mem (b := C2) em8 (by simp)
        | 3, _ => exact exRow_mem (b := C3) em8 (by simp)
        | 4, _ => exact exRow_mem (b := C4) em8 (by simp)
        | 5, _ => exact exRow_mem (b := C5) em8 (by simp)
        | 6, _ => exact exRow_mem (b := C6) em8 (by simp)
        | 7, _ => exact exRow_mem (b := C7) em8 (by simp)
        | 8, _ => exact exRow_self em8
        | j + 9, hj => exact absurd hj (by omega)
      | 9, _ =>
        match j, hj with
        | 0, _ => exact exRow_mem (b := C0) em9 (by simp)
        | 1, _ => exact exRow_mem (b := C1) em9 (by simp)
        | 2, _ => exact exRow_mem (b := C2) em9 (by simp)
        | 3, _ => exact exRow_mem (b := C3) em9 (by simp)
        | 4, _ => exact exRow_mem (b := C4) em9 (by simp)
        | 5, _ => exact exRow_mem (b := C5) em9 (by simp)
        | 6, _ => exact exRow_mem (b := C6) em9 (by simp)
        | 7, _ => exact exRow_mem (b := C7) em9 (by simp)
        | 8, _ => exact exRow_mem (b := C8) em9 (by simp)
        | 9, _ => exact exRow_self em9
        | j + 10, hj => exact absurd hj (by omega)
      | 10, _ =>
        match j, hj with
        | 0, _ => exact exRow_mem (b := C0) em10 (by simp)
        | 1, _ => exact exRow_mem (b := C1) em10 (by simp)
        | 2, _ => exact exRow_mem (b := C2) em10 (by simp)
        | 3, _ => exact exRow_mem (b := C3) em10 (by simp)
        | 4, _ => exact exRow_mem (b := C4) em10 (by simp)
        | 5, _ => exact exRow_mem (b := C5) em10 (by simp)
        | 6, _ => exact exRow_mem (b := C6) em10 (by simp)
        | 7, _ => exact exRow_mem (b := C7) em10 (by simp)
        | 8, _ => exact exRow_mem (b := C8) em10 (by simp)
        | 9, _ => exact exRow_mem (b := C9) em10 (by simp)
        | 10, _ => exact exRow_self em10
        | j + 11, hj => exact absurd hj (by omega)
      | i + 11, hi => exact absurd hi (by omega)
  let CL : Nat → Addr := cOf [C0, C1, C2, C3, C4, C5, C6, C7, C8, C9, C10]
  have xBadCalendar : Exc1 K mg "BadCalendar" (CL 0) := ⟨g e0, ex0, ek0, eb0, et0⟩
  have xBadDay : Exc1 K mg "BadDay" (CL 1) := ⟨g e1, ex1, ek1, eb1, et1⟩
  have xBadTime : Exc1 K mg "BadTime" (CL 2) := ⟨g e2, ex2, ek2, eb2, et2⟩
  have xBadRule : Exc1 K mg "BadRule" (CL 3) := ⟨g e3, ex3, ek3, eb3, et3⟩
  have xBadZone : Exc1 K mg "BadZone" (CL 4) := ⟨g e4, ex4, ek4, eb4, et4⟩
  have xBadSize : Exc1 K mg "BadSize" (CL 5) := ⟨g e5, ex5, ek5, eb5, et5⟩
  have xBadPaper : Exc1 K mg "BadPaper" (CL 6) := ⟨g e6, ex6, ek6, eb6, et6⟩
  have xBadText : Exc1 K mg "BadText" (CL 7) := ⟨g e7, ex7, ek7, eb7, et7⟩
  have xBadStore : Exc1 K mg "BadStore" (CL 8) := ⟨g e8, ex8, ek8, eb8, et8⟩
  have xNoDay : Exc1 K mg "NoDay" (CL 9) := ⟨g e9, ex9, ek9, eb9, et9⟩
  have xNoSuch : Exc1 K mg "NoSuch" (CL 10) := ⟨g e10, ex10, ek10, eb10, et10⟩
  have F_count_below := fun_mk (x := "count_below") (qual := "count_below") (st := s_count_below) l_count_below c_count_below k_count_below
  have b_count_below := F_count_below.binds (ps := ["numbers", "bound"]) fun _ _ _ _ _ _ us hl => match us, hl with | [_, _], _ => rfl
  have F_shared := fun_mk (x := "shared") (qual := "shared") (st := s_shared) l_shared c_shared k_shared
  have b_shared := F_shared.binds (ps := ["one", "other"]) fun _ _ _ _ _ _ us hl => match us, hl with | [_, _], _ => rfl
  have F_widened := fun_mk (x := "widened") (qual := "widened") (st := s_widened) l_widened c_widened k_widened
  have b_widened := F_widened.binds (ps := ["ring", "times"]) fun _ _ _ _ _ _ us hl => match us, hl with | [_, _], _ => rfl
  have F_least := fun_mk (x := "least") (qual := "least") (st := s_least) l_least c_least k_least
  have b_least := F_least.binds (ps := ["ring"]) fun _ _ _ _ _ _ us hl => match us, hl with | [_], _ => rfl
  have F_paired := fun_mk (x := "paired") (qual := "paired") (st := s_paired) l_paired c_paired k_paired
  have b_paired := F_paired.binds (ps := ["one", "other"]) fun _ _ _ _ _ _ us hl => match us, hl with | [_, _], _ => rfl
  have F_either := fun_mk (x := "either") (qual := "either") (st := s_either) l_either c_either k_either
  have b_either := F_either.binds (ps := ["one", "other"]) fun _ _ _ _ _ _ us hl => match us, hl with | [_, _], _ => rfl
  have F_common_to := fun_mk (x := "common_to") (qual := "common_to") (st := s_common_to) l_common_to c_common_to k_common_to
  have b_common_to := F_common_to.binds (ps := ["one", "other"]) fun _ _ _ _ _ _ us hl => match us, hl with | [_, _], _ => rfl
  have F_opposite := fun_mk (x := "opposite") (qual := "opposite") (st := s_opposite) l_opposite c_opposite k_opposite
  have b_opposite := F_opposite.binds (ps := ["ring"]) fun _ _ _ _ _ _ us hl => match us, hl with | [_], _ => rfl
  have F_shifted := fun_mk (x := "shifted") (qual := "shifted") (st := s_shifted) l_shifted c_shifted k_shifted
  have b_shifted := F_shifted.binds (ps := ["ring", "many"]) fun _ _ _ _ _ _ us hl => match us, hl with | [_, _], _ => rfl
  have F_same := fun_mk (x := "same") (qual := "same") (st := s_same) l_same c_same k_same
  have b_same := F_same.binds (ps := ["one", "other"]) fun _ _ _ _ _ _ us hl => match us, hl with | [_, _], _ => rfl
  have F_opposite_of := fun_mk (x := "opposite_of") (qual := "opposite_of") (st := s_opposite_of) l_opposite_of c_opposite_of k_opposite_of
  have b_opposite_of := F_opposite_of.binds (ps := ["number", "size"]) fun _ _ _ _ _ _ us hl => match us, hl with | [_, _], _ => rfl
  have F_meeting := fun_mk (x := "meeting") (qual := "meeting") (st := s_meeting) l_meeting c_meeting k_meeting
  have b_meeting := F_meeting.binds (ps := ["first", "period", "second", "other"]) fun _ _ _ _ _ _ us hl => match us, hl with | [_, _, _, _], _ => rfl
  have F_many_between := fun_mk (x := "many_between") (qual := "many_between") (st := s_many_between) l_many_between c_many_between k_many_between
  have b_many_between := F_many_between.binds (ps := ["ring", "first", "last"]) fun _ _ _ _ _ _ us hl => match us, hl with | [_, _, _], _ => rfl
  have F__law_dice := fun_mk (x := "_law_dice") (qual := "_law_dice") (st := sDice) l__law_dice c__law_dice k__law_dice
  have b__law_dice := F__law_dice.binds (ps := ["cell"]) fun _ _ _ _ _ _ us hl => match us, hl with | [_], _ => rfl
  have F__law_roll := fun_mk (x := "_law_roll") (qual := "_law_roll") (st := sRoll) l__law_roll c__law_roll k__law_roll
  have b__law_roll := F__law_roll.binds (ps := ["dice", "many"]) fun _ _ _ _ _ _ us hl => match us, hl with | [_, _], _ => rfl
  have F__law_rounds := fun_mk (x := "_law_rounds") (qual := "_law_rounds") (st := sRounds) l__law_rounds c__law_rounds k__law_rounds
  have b__law_rounds := F__law_rounds.binds (ps := ["script", "most"]) fun _ _ _ _ _ _ us hl => match us, hl with | [_, _], _ => rfl
  have F__law_told := fun_mk (x := "_law_told") (qual := "_law_told") (st := sTold) l__law_told c__law_told k__law_told
  have b__law_told := F__law_told.binds (ps := ["what"]) fun _ _ _ _ _ _ us hl => match us, hl with | [_], _ => rfl
  have cls_Ring : Cls K CR := ⟨pg_Ring, hd_Ring, po_Ring, sa_Ring⟩
  have F_Ring_init := fun_mk (x := "__init__") (qual := "Ring.__init__") (st := s_Ring_init) l_Ring_init c_Ring_init k_Ring_init
  have b_Ring_init := F_Ring_init.binds (ps := ["self", "period", "places"]) fun _ _ _ _ _ _ us hl => match us, hl with | [_, _, _], _ => rfl
  have make_Ring : Mk K CR f_Ring_init := ⟨mk_Ring, m_Ring_init, i_Ring_init, kc_Ring⟩
  have F_Ring_has := fun_mk (x := "has") (qual := "Ring.has") (st := s_Ring_has) l_Ring_has c_Ring_has k_Ring_has
  have b_Ring_has := F_Ring_has.binds (ps := ["self", "number"]) fun _ _ _ _ _ _ us hl => match us, hl with | [_, _], _ => rfl
  have meth_Ring_has : Meth K CR "has" f_Ring_has := ⟨m_Ring_has, i_Ring_has, k_Ring_has⟩
  have F_Ring_ahead := fun_mk (x := "ahead") (qual := "Ring.ahead") (st := s_Ring_ahead) l_Ring_ahead c_Ring_ahead k_Ring_ahead
  have b_Ring_ahead := F_Ring_ahead.binds (ps := ["self", "number"]) fun _ _ _ _ _ _ us hl => match us, hl with | [_, _], _ => rfl
  have meth_Ring_ahead : Meth K CR "ahead" f_Ring_ahead := ⟨m_Ring_ahead, i_Ring_ahead, k_Ring_ahead⟩
  have F_Ring_at := fun_mk (x := "at") (qual := "Ring.at") (st := s_Ring_at) l_Ring_at c_Ring_at k_Ring_at
  have b_Ring_at := F_Ring_at.binds (ps := ["self", "count"]) fun _ _ _ _ _ _ us hl => match us, hl with | [_, _], _ => rfl
  have meth_Ring_at : Meth K CR "at" f_Ring_at := ⟨m_Ring_at, i_Ring_at, k_Ring_at⟩
  have F_Ring_next := fun_mk (x := "next") (qual := "Ring.next") (st := s_Ring_next) l_Ring_next c_Ring_next k_Ring_next
  have b_Ring_next := F_Ring_next.binds (ps := ["self", "number"]) fun _ _ _ _ _ _ us hl => match us, hl with | [_, _], _ => rfl
  have meth_Ring_next : Meth K CR "next" f_Ring_next := ⟨m_Ring_next, i_Ring_next, k_Ring_next⟩
  have F_Ring_shown := fun_mk (x := "shown") (qual := "Ring.shown") (st := s_Ring_shown) l_Ring_shown c_Ring_shown k_Ring_shown
  have b_Ring_shown := F_Ring_shown.binds (ps := ["self"]) fun _ _ _ _ _ _ us hl => match us, hl with | [_], _ => rfl
  have meth_Ring_shown : Meth K CR "shown" f_Ring_shown := ⟨m_Ring_shown, i_Ring_shown, k_Ring_shown⟩
  have T_Rg : Tt_Rg K CR := ⟨cls_Ring, n_Ring_period, n_Ring_places, n_Ring_there⟩
  have gi_MOST : ∃ t, mg "MOST" = some (.int 5000 t) := ⟨_, g gi_MOST⟩
  have n_tuple := g0 n_tuple
  have n_set := g0 n_set
  have n_sorted := g0 n_sorted
  have BL : Blt mg := ⟨g0 n_int, g0 n_abs⟩
  have B : BD mg := ⟨g0 n_len, g0 n_min, g0 n_max, g0 n_range, g0 n_divmod, g0 n_sum, g0 n_int, g0 n_abs⟩
  have oI := (ok_Ring_init (P := P) (w := w) (mg := mg) (base := base) (cl := CL) F_Ring_init T_Rg B n_tuple n_set n_sorted gi_MOST xBadSize)
  have oIT := (ok_Ring_initT (P := P) (w := w) (mg := mg) (base := base) (cl := CL) F_Ring_init T_Rg B n_tuple n_set n_sorted gi_MOST xBadSize)
  have nR := nw_of make_Ring (g a_Ring) F_Ring_init oI b_Ring_init
  have nRT := nw_of make_Ring (g a_Ring) F_Ring_init oIT b_Ring_init
  have c_count_below := cal_of F_count_below (g a_count_below) (ok_count_below (P := P) (w := w) (mg := mg) (base := base) (cl := CL) F_count_below B) b_count_below
  have m_has := mt_of cls_Ring meth_Ring_has F_Ring_has (ok_Ring_has (P := P) (w := w) (mg := mg) (base := base) (cl := CL) F_Ring_has T_Rg) b_Ring_has
  have m_ahead := mt_of cls_Ring meth_Ring_ahead F_Ring_ahead (ok_Ring_ahead (P := P) (w := w) (mg := mg) (base := base) (cl := CL) F_Ring_ahead T_Rg B c_count_below) b_Ring_ahead
  have m_at := mt_of cls_Ring meth_Ring_at F_Ring_at (ok_Ring_at (P := P) (w := w) (mg := mg) (base := base) (cl := CL) F_Ring_at T_Rg B xNoDay) b_Ring_at
  have m_next := mt_of cls_Ring meth_Ring_next F_Ring_next (ok_Ring_next (P := P) (w := w) (mg := mg) (base := base) (cl := CL) F_Ring_next T_Rg m_at m_ahead) b_Ring_next
  have m_shown := mt_of cls_Ring meth_Ring_shown F_Ring_shown (ok_Ring_shown (P := P) (w := w) (mg := mg) (base := base) (cl := CL) F_Ring_shown T_Rg) b_Ring_shown
  have c_shared := cal_of F_shared (g a_shared) (ok_shared (P := P) (w := w) (mg := mg) (base := base) (cl := CL) F_shared B) b_shared
  have c_opposite_of := cal_of F_opposite_of (g a_opposite_of) (ok_opposite_of (P := P) (w := w) (mg := mg) (base := base) (cl := CL) F_opposite_of ) b_opposite_of
  have c_widened := cal_of F_widened (g a_widened) (ok_widened (P := P) (w := w) (mg := mg) (base := base) (cl := CL) F_widened T_Rg B gi_MOST nR m_has) b_widened
  have c_opposite := cal_of F_opposite (g a_opposite) (ok_opposite (P := P) (w := w) (mg := mg) (base := base) (cl := CL) F_opposite T_Rg B nR m_has) b_opposite
  have c_shifted := cal_of F_shifted (g a_shifted) (ok_shifted (P := P) (w := w) (mg := mg) (base := base) (cl := CL) F_shifted T_Rg B nR) b_shifted
  have c_many_between := cal_of F_many_between (g a_many_between) (ok_many_between (P := P) (w := w) (mg := mg) (base := base) (cl := CL) F_many_between m_ahead xBadSize) b_many_between
  have c_paired := cal_of F_paired (g a_paired) (ok_paired (P := P) (w := w) (mg := mg) (base := base) (cl := CL) F_paired T_Rg c_shared c_widened) b_paired
  have c_either := cal_of F_either (g a_either) (ok_either (P := P) (w := w) (mg := mg) (base := base) (cl := CL) F_either T_Rg c_paired nRT) b_either
  have c_common_to := cal_of F_common_to (g a_common_to) (ok_common_to (P := P) (w := w) (mg := mg) (base := base) (cl := CL) F_common_to T_Rg c_paired nR m_has) b_common_to
  have c_least := cal_of F_least (g a_least) (ok_least (P := P) (w := w) (mg := mg) (base := base) (cl := CL) F_least T_Rg B nR nRT c_widened) b_least
  have c_same := cal_of F_same (g a_same) (ok_same (P := P) (w := w) (mg := mg) (base := base) (cl := CL) F_same c_least m_shown) b_same
  have c_meeting := cal_of F_meeting (g a_meeting) (ok_meeting (P := P) (w := w) (mg := mg) (base := base) (cl := CL) F_meeting c_shared c_opposite_of xBadSize) b_meeting
  have cDi := cal_of F__law_dice (g a__law_dice) (ok_dice (P := P) (w := w) (base := base) F__law_dice BL) b__law_dice
  have roll := cal_of F__law_roll (g a__law_roll) (ok_rollX (P := P) (w := w) (base := base) F__law_roll BL) b__law_roll
  have rounds := cal_of F__law_rounds (g a__law_rounds) (ok_rounds F__law_rounds cDi) b__law_rounds
  have tF : ToldF K mg := ⟨_, _, _, _, _, _, _, _, _, _, g a__law_told, k__law_told, l__law_told, c__law_told, b__law_told⟩
  exact ok_law (CR := CR) (cl := CL) lL cL (TB _ (List.mem_singleton.mpr rfl)) ⟨T_Rg, g0 n_list, g0 n_dict, n_sorted, roll, rounds, nR, m_has, m_ahead, m_at, m_next, c_widened, c_opposite, c_shifted, c_paired, c_either, c_common_to, c_least, c_same, c_meeting, c_many_between, EX, tF⟩ B fun z => m_lawB_ok z
end Rw
open PySem PySem.W PyProof.Rows
set_option maxRecDepth 100000 in
set_option maxHeartbeats 0 in
theorem PySem.Challenge.cw_recurwright_k18_numbers_that_come_again_holds : PySem.Challenge.rw_recurwright_k18_numbers_that_come_again.Holds := by
  w_on; o_law; k_head; (case hw => w_witness2)
  k_fill
  refine LamX.walk_ofOwn (l := PySem.Challenge.rw_recurwright_k18_numbers_that_come_again) (n := 63) (k := 11) (x := "script") (CX := fun w => L2.CX PySem.Challenge.pw_recurwright_k18_numbers_that_come_again w) rfl (by decide) rfl ⟨rfl, by decide, by decide⟩ (by decide +kernel) (fun w h Y => by first | exact PySem.W.km_in_of Y | exact PySem.W.kIn_of Y) ?F ?C
  case F =>
    intro w mg fa h Y KX G hmg own
    refine' Rw.all_mk KX G hmg own ?e0 ?ex0 ?ek0 ?eb0 ?et0 ?e1 ?ex1 ?ek1 ?eb1 ?et1 ?e2 ?ex2 ?ek2 ?eb2 ?et2 ?e3 ?ex3 ?ek3 ?eb3 ?et3 ?e4 ?ex4 ?ek4 ?eb4 ?et4 ?e5 ?ex5 ?ek5 ?eb5 ?et5 ?e6 ?ex6 ?ek6 ?eb6 ?et6 ?e7 ?ex7 ?ek7 ?eb7 ?et7 ?e8 ?ex8 ?ek8 ?eb8 ?et8 ?e9 ?ex9 ?ek9 ?eb9 ?et9 ?e10 ?ex10 ?ek10 ?eb10 ?et10 ?em0 ?em1 ?em2 ?em3 ?em4 ?em5 ?em6 ?em7 ?em8 ?em9 ?em10 ?a_count_below ?l_count_below ?c_count_below ?k_count_below ?a_shared ?l_shared ?c_shared ?k_shared ?a_widened ?l_widened ?c_widened ?k_widened ?a_least ?l_least ?c_least ?k_least ?a_paired ?l_paired ?c_paired ?k_paired ?a_either ?l_either ?c_either ?k_either ?a_common_to ?l_common_to ?c_common_to ?k_common_to ?a_opposite ?l_opposite ?c_opposite ?k_opposite ?a_shifted ?l_shifted ?c_shifted ?k_shifted ?a_same ?l_same ?c_same ?k_same ?a_opposite_of ?l_opposite_of ?c_opposite_of ?k_opposite_of ?a_meeting ?l_meeting ?c_meeting ?k_meeting ?a_many_between ?l_many_between ?c_many_between ?k_many_between ?a__law_dice ?l__law_dice ?c__law_dice ?k__law_dice ?a__law_roll ?l__law_roll ?c__law_roll ?k__law_roll ?a__law_rounds ?l__law_rounds ?c__law_rounds ?k__law_rounds ?a__law_told ?l__law_told ?c__law_told ?k__law_told ?a_Ring ?pg_Ring ?hd_Ring ?po_Ring ?sa_Ring ?kc_Ring ?mk_Ring ?n_Ring_period ?n_Ring_places ?n_Ring_there ?m_Ring_init ?i_Ring_init ?l_Ring_init ?c_Ring_init ?k_Ring_init ?m_Ring_has ?i_Ring_has ?l_Ring_has ?c_Ring_has ?k_Ring_has ?m_Ring_ahead ?i_Ring_ahead ?l_Ring_ahead ?c_Ring_ahead ?k_Ring_ahead ?m_Ring_at ?i_Ring_at ?l_Ring_at ?c_Ring_at ?k_Ring_at ?m_Ring_next ?i_Ring_next ?l_Ring_next ?c_Ring_next ?k_Ring_next ?m_Ring_shown ?i_Ring_shown ?l_Ring_shown ?c_Ring_shown ?k_Ring_shown ?n_int ?n_abs ?n_len ?n_sum ?n_min ?n_max ?n_tuple ?n_range ?n_divmod ?n_list ?n_dict ?n_set ?n_sorted ?gi_MOST ?aL ?lL ?cL ?lC ?vP ?nP ?hC
    (case e0 => k_is)
    (case ex0 => k_exc)
    (case ek0 => k_is)
    (case eb0 => k_is)
    (case et0 => k_is)
    (case e1 => k_is)
    (case ex1 => k_exc)
    (case ek1 => k_is)
    (case eb1 => k_is)
    (case et1 => k_is)
    (case e2 => k_is)
    (case ex2 => k_exc)
    (case ek2 => k_is)
    (case eb2 => k_is)
    (case et2 => k_is)
    (case e3 => k_is)
    (case ex3 => k_exc)
    (case ek3 => k_is)
    (case eb3 => k_is)
    (case et3 => k_is)
    (case e4 => k_is)
    (case ex4 => k_exc)
    (case ek4 => k_is)
    (case eb4 => k_is)
    (case et4 => k_is)
    (case e5 => k_is)
    (case ex5 => k_exc)
    (case ek5 => k_is)
    (case eb5 => k_is)
    (case et5 => k_is)
    (case e6 => k_is)
    (case ex6 => k_exc)
    (case ek6 => k_is)
    (case eb6 => k_is)
    (case et6 => k_is)
    (case e7 => k_is)
    (case ex7 => k_exc)
    (case ek7 => k_is)
    (case eb7 => k_is)
    (case et7 => k_is)
    (case e8 => k_is)
    (case ex8 => k_exc)
    (case ek8 => k_is)
    (case eb8 => k_is)
    (case et8 => k_is)
    (case e9 => k_is)
    (case ex9 => k_exc)
    (case ek9 => k_is)
    (case eb9 => k_is)
    (case et9 => k_is)
    (case e10 => k_is)
    (case ex10 => k_exc)
    (case ek10 => k_is)
    (case eb10 => k_is)
    (case et10 => k_is)
    (case em0 => kernel_rfl)
    (case em1 => kernel_rfl)
    (case em2 => kernel_rfl)
    (case em3 => kernel_rfl)
    (case em4 => kernel_rfl)
    (case em5 => kernel_rfl)
    (case em6 => kernel_rfl)
    (case em7 => kernel_rfl)
    (case em8 => kernel_rfl)
    (case em9 => kernel_rfl)
    (case em10 => kernel_rfl)
    (case a_count_below => k_is)
    (case l_count_below => k_is)
    (case c_count_below => k_is)
    (case k_count_below => k_is)
    (case a_shared => k_is)
    (case l_shared => k_is)
    (case c_shared => k_is)
    (case k_shared => k_is)
    (case a_widened => k_is)
    (case l_widened => k_is)
    (case c_widened => k_is)
    (case k_widened => k_is)
    (case a_least => k_is)
    (case l_least => k_is)
    (case c_least => k_is)
    (case k_least => k_is)
    (case a_paired => k_is)
    (case l_paired => k_is)
    (case c_paired => k_is)
    (case k_paired => k_is)
    (case a_either => k_is)
    (case l_either => k_is)
    (case c_either => k_is)
    (case k_either => k_is)
    (case a_common_to => k_is)
    (case l_common_to => k_is)
    (case c_common_to => k_is)
    (case k_common_to => k_is)
    (case a_opposite => k_is)
    (case l_opposite => k_is)
    (case c_opposite => k_is)
    (case k_opposite => k_is)
    (case a_shifted => k_is)
    (case l_shifted => k_is)
    (case c_shifted => k_is)
    (case k_shifted => k_is)
    (case a_same => k_is)
    (case l_same => k_is)
    (case c_same => k_is)
    (case k_same => k_is)
    (case a_opposite_of => k_is)
    (case l_opposite_of => k_is)
    (case c_opposite_of => k_is)
    (case k_opposite_of => k_is)
    (case a_meeting => k_is)
    (case l_meeting => k_is)
    (case c_meeting => k_is)
    (case k_meeting => k_is)
    (case a_many_between => k_is)
    (case l_many_between => k_is)
    (case c_many_between => k_is)
    (case k_many_between => k_is)
    (case a__law_dice => k_is)
    (case l__law_dice => k_is)
    (case c__law_dice => k_is)
    (case k__law_dice => k_is)
    (case a__law_roll => k_is)
    (case l__law_roll => k_is)
    (case c__law_roll => k_is)
    (case k__law_roll => k_is)
    (case a__law_rounds => k_is)
    (case l__law_rounds => k_is)
    (case c__law_rounds => k_is)
    (case k__law_rounds => k_is)
    (case a__law_told => k_is)
    (case l__law_told => k_is)
    (case c__law_told => k_is)
    (case k__law_told => k_is)
    (case a_Ring => k_is)
    (case pg_Ring => k_is)
    (case hd_Ring => k_is)
    (case po_Ring => k_is)
    (case sa_Ring => k_is)
    (case kc_Ring => k_is)
    (case mk_Ring => k_is)
    (case n_Ring_period => k_is)
    (case n_Ring_places => k_is)
    (case n_Ring_there => k_is)
    (case m_Ring_init => k_is)
    (case i_Ring_init => k_is)
    (case l_Ring_init => k_is)
    (case c_Ring_init => k_is)
    (case k_Ring_init => k_is)
    (case m_Ring_has => k_is)
    (case i_Ring_has => k_is)
    (case l_Ring_has => k_is)
    (case c_Ring_has => k_is)
    (case k_Ring_has => k_is)
    (case m_Ring_ahead => k_is)
    (case i_Ring_ahead => k_is)
    (case l_Ring_ahead => k_is)
    (case c_Ring_ahead => k_is)
    (case k_Ring_ahead => k_is)
    (case m_Ring_at => k_is)
    (case i_Ring_at => k_is)
    (case l_Ring_at => k_is)
    (case c_Ring_at => k_is)
    (case k_Ring_at => k_is)
    (case m_Ring_next => k_is)
    (case i_Ring_next => k_is)
    (case l_Ring_next => k_is)
    (case c_Ring_next => k_is)
    (case k_Ring_next => k_is)
    (case m_Ring_shown => k_is)
    (case i_Ring_shown => k_is)
    (case l_Ring_shown => k_is)
    (case c_Ring_shown => k_is)
    (case k_Ring_shown => k_is)
    (case n_int => k_is)
    (case n_abs => k_is)
    (case n_len => k_is)
    (case n_sum => k_is)
    (case n_min => k_is)
    (case n_max => k_is)
    (case n_tuple => k_is)
    (case n_range => k_is)
    (case n_divmod => k_is)
    (case n_list => k_is)
    (case n_dict => k_is)
    (case n_set => k_is)
    (case n_sorted => k_is)
    (case gi_MOST => k_is)
    (case aL => k_is)
    (case lL => k_is)
    (case cL => k_is)
    (case lC => k_is)
    (case vP => exact rfl)
    (case nP => kernel_rfl)
    (case hC => kernel_rfl)
  case C =>
    intro w H s e s' z
    unfold L2.CX at z
    simp at z
