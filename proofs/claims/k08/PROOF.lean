import PyProof.Rows.All
import Wide.All
import OpenK.AllK
import Wide.FinOn
import HandS.ForMost
import HandS.EndTab
import HandS.AnyAll
import HandS.GenList
import HandS.IsInst
import HandS.More
import HandS.Conv
import HandS.Strs
import HandS.Codes
import KE.GoesEnum
import KE.GoesMore
import HandS.TupMul
import HandS.WideBits
import HandS.TupAny
import HandS.SetBool
import HandS.SetFor
import HandS.DictComp
import HandS.Zip
import HandS.Dict
import KE.KDictCopyH
import KE.KTupTabMore
import HandS.Small
import HandS.Star
import PySem.Challenge.RW_anyvalues_k08_whole_answers_hang_on_the
set_option Elab.async false
set_option linter.all false
set_option maxRecDepth 100000
set_option maxHeartbeats 4000000
/-! any, all of a generator expression whose element calls defs: its own frame, walked as a context of its own. -/
namespace Gx
open PySem PySem.Spec PyProof.Rows L2 GenW GxR

/-- the context of a generator expression's frame -/
def gcx (X : Cx) (N' : List Str) (fp : List Addr) (env : Env) (A' : Around) (s : Shared) (H : Hp) : Cx :=
  { X with A := A', N := N', s_0 := s, H_0 := H, env := env, outer := X.stack, stack := env :: X.stack, ex := fp, fn := fun _ => false, calm := true, pn := [], xe := fun _ _ => False }

theorem over_loopG {A : Around} {e : Expr} {gens : List Comprehension} {sc : Scope} {p : Pos} {it acc : Value} {env : Env} : A.over (.compLoop (.GeneratorExp e gens sc p) 0 it acc env) [] = A.deeper env := by
  first
    | rfl
    | (obtain ⟨hd, d, fr, gs, u⟩ := A; simp [Around.over, Around.deeper, marksOver, frameCount, unitsOf, envsOf, guardsOf, pushEnvs, pushGuards, Code.envs, Code.env?, Code.isFrame, Code.guards, Code.isGuard, Code.weight, Code.frames, Code.isCreation, Code.isCaller, Code.cUnits])
theorem over_startG {A : Around} {e : Expr} {gens : List Comprehension} {sc : Scope} {p : Pos} {it acc : Value} {env : Env} : A.over (.compStart (.GeneratorExp e gens sc p) 0 it acc env) [] = A.deeper env := by
  first
    | rfl
    | (obtain ⟨hd, d, fr, gs, u⟩ := A; simp [Around.over, Around.deeper, marksOver, frameCount, unitsOf, envsOf, guardsOf, pushEnvs, pushGuards, Code.envs, Code.env?, Code.isFrame, Code.guards, Code.isGuard, Code.weight, Code.frames, Code.isCreation, Code.isCaller, Code.cUnits])

/-- the names of the expression's frame: captured ones with their place among the def's names -/
abbrev Ents := List (Str × Option Nat)
def capSt (es : Ents) (σ : L2.St) : L2.St := es.map fun e => match e.2 with | none => none | some i => (σ[i]?).getD none
def capsOk (N : List Str) (sc : Scope) (es : Ents) : Bool := es.all fun e => match e.2 with | none => true | some i => N[i]? == some e.1 && sc.names.lookup e.1 == some NameKind.free
def freeOk (sc scope : Scope) : Bool := scope.names.all fun y => y.2 != .cell && (y.2 != .free || (sc.names.lookup y.1 == some NameKind.cell || sc.names.lookup y.1 == some NameKind.free))
structure GSc (sc scope : Scope) (N : List Str) (es : Ents) : Prop where
  kind : scope.kind = .function
  co : scope.isCoroutine = false
  dot : scope.names.lookup (".0" : Str) = some NameKind.local
  free : freeOk sc scope = true
  caps : capsOk N scope es = true
theorem GSc.cell {sc scope : Scope} {N : List Str} {es : Ents} (S : GSc sc scope N es) : ∀ y ∈ scope.names, y.2 ≠ .cell := fun y hy => by
  have h := List.all_eq_true.mp S.free y hy
  rw [Bool.and_eq_true] at h
  intro e
  rw [e] at h
  exact absurd h.1 (by decide)
theorem GSc.fre {sc scope : Scope} {N : List Str} {es : Ents} (S : GSc sc scope N es) : ∀ y ∈ scope.names, y.2 = .free → sc.names.lookup y.1 = some .cell ∨ sc.names.lookup y.1 = some .free := fun y hy e => by
  have h := List.all_eq_true.mp S.free y hy
  rw [Bool.and_eq_true] at h
  have h2 := h.2
  rw [e] at h2
  simpa using h2

section
variable {X : Cx} {N' : List Str} {fp : List Addr} {env : Env} {A' : Around} {s0 : Shared} {H0 : Hp} {go : Addr × Obj} {tn : Nat → Heap → Prop} {Pv : Nat → Nat → L2.St → Hp → Prop} {fin : Bool} {Qe Qs : Hp → Prop}

/-- what is handed out: a truth value; the consumer stops at fin -/
def GProt (X' : Cx) (fp : List Addr) (go : Addr × Obj) (tn : Nat → Heap → Prop) (Pv : Nat → Nat → L2.St → Hp → Prop) (fin : Bool) (Qs : Hp → Prop) : Protocol := fun n _ v s kap =>
  ∃ σ H b, v = .bool b ∧ Inv X' [go] σ H s ∧
    (if b = fin then Qs H else ∃ i m, n = m + 1 ∧ Pv i m σ H ∧ tn i s.heap ∧ (∀ b ∈ fp, H b = none) ∧
      ∀ s'' : Shared, s''.heap = s.heap → s''.os = s.os → AllBare s''.gens → kap (.send .none) s'')
def GRet (X' : Cx) (go : Addr × Obj) (Qe : Hp → Prop) : GenEnd := fun n s₀ r s => ((r = .ok (.ret .none) ∨ r = .ok .next) ∧ (∃ σ H, Inv X' [go] σ H s ∧ Qe H)) ∨ ∃ e, r = .error e ∧ False

theorem _root_.L2.Inv.again' {X' : Cx} {pins : List (Addr × Obj)} {σ : L2.St} {H : Hp} {s s'' : Shared} (I : Inv X' pins σ H s) (h : s''.heap = s.heap) (o : s''.os = s.os) (b : AllBare s''.gens) : Inv X' pins σ H s'' :=
  I.call' (ch := []) o (by rw [h]; exact Un.refl) (by rw [h]; exact I.hok) b fun b z => absurd z (by simp)

/-- the turns of the expression -/
theorem seg_turns {A : Around} {elt tg iter : Expr} {scope : Scope} {pos : Pos} {it : Addr} {J : It} {g : TG} {t : TE}
    (hA : A' = A.deeper env) (hco : env.scope.isCoroutine = false) (T : Turn X.prog X.w X.K tg J fp it tn)
    (hgt : PG (gcx X N' fp env A' s0 H0) tg g) (helt : PE (gcx X N' fp env A' s0 H0) elt t)
    (hfp : ∀ b ∈ fp, b ≠ env.locals ∧ b ∉ frs X.stack ∧ (∀ x c, env.cells.lookup x = some c → c ≠ b) ∧ go.1 ≠ b)
    (turn : ∀ i m σ' H', Pv i m σ' H' → (J.stop i H' ∧ Qe H') ∨ (J.go i H' ∧ ∀ x H'', J.yld i H' x H'' → g x σ' H'' fun σ2 H3 => t σ2 H3 fun v H4 => ∃ b, v = .bl b ∧ if b = fin then Qs H4 else ∃ m', m = m' + 1 ∧ Pv (i + 1) m' σ2 H4)) :
    ∀ (m i : Nat) (s₀ s : Shared) (σ : L2.St) (H : Hp), Pv i m σ H → Inv (gcx X N' fp env A' s0 H0) [go] σ H s → tn i s.heap → (∀ b ∈ fp, H b = none) →
      Seg (model X.prog X.w) A (GRet (gcx X N' fp env A' s0 H0) go Qe) (GProt (gcx X N' fp env A' s0 H0) fp go tn Pv fin Qs) (m + 1) s₀
        (.compLoop (.GeneratorExp elt [⟨tg, iter, [], 0⟩] scope pos) 0 (.ref it) .none env)
        ((model X.prog X.w).den (.compLoop (.GeneratorExp elt [⟨tg, iter, [], 0⟩] scope pos) 0 (.ref it) .none env)) [] s := by
  have hov : A.over (.compLoop (.GeneratorExp elt [⟨tg, iter, [], 0⟩] scope pos) 0 (.ref it) .none env) [] = (gcx X N' fp env A' s0 H0).A := over_loopG.trans hA.symm
  have stat : ∀ {H' : Hp}, (∀ b ∈ fp, H' b = none) → ∀ b ∈ fp, FpOk (gcx X N' fp env A' s0 H0) [go] H' b := fun hn b hb => by
    obtain ⟨h1, h2, h3, h4⟩ := hfp b hb
    exact ⟨hn b hb, h1, h2, .inl hb, h3, fun p hp => by rw [List.mem_singleton.mp (show p ∈ [go] from hp)]; exact h4⟩
  have hy : ∀ v, yieldOut env v = yieldValue v := fun v => by simp only [yieldOut, hco, Bool.false_eq_true, if_false]
  -- one turn, whatever the measure; K: what follows where the walk goes on
  have one : ∀ (m i : Nat) (s₀ s : Shared) (σ : L2.St) (H : Hp), Pv i m σ H → Inv (gcx X N' fp env A' s0 H0) [go] σ H s → tn i s.heap → (∀ b ∈ fp, H b = none) →
      (∀ m', m = m' + 1 → ∀ (i : Nat) (s₀ s : Shared) (σ : L2.St) (H : Hp), Pv i m' σ H → Inv (gcx X N' fp env A' s0 H0) [go] σ H s → tn i s.heap → (∀ b ∈ fp, H b = none) →
        Seg (model X.prog X.w) A (GRet (gcx X N' fp env A' s0 H0) go Qe) (GProt (gcx X N' fp env A' s0 H0) fp go tn Pv fin Qs) (m' + 1) s₀
          (.compLoop (.GeneratorExp elt [⟨tg, iter, [], 0⟩] scope pos) 0 (.ref it) .none env)
          ((model X.prog X.w).den (.compLoop (.GeneratorExp elt [⟨tg, iter, [], 0⟩] scope pos) 0 (.ref it) .none env)) [] s) →
      Seg (model X.prog X.w) A (GRet (gcx X N' fp env A' s0 H0) go Qe) (GProt (gcx X N' fp env A' s0 H0) fp go tn Pv fin Qs) (m + 1) s₀
        (.compLoop (.GeneratorExp elt [⟨tg, iter, [], 0⟩] scope pos) 0 (.ref it) .none env)
        ((model X.prog X.w).den (.compLoop (.GeneratorExp elt [⟨tg, iter, [], 0⟩] scope pos) 0 (.ref it) .none env)) [] s := by
    intro m i s₀ s σ H pv I st fr later
    show Seg _ A _ _ _ s₀ _ ((compTurn (.GeneratorExp elt [⟨tg, iter, [], 0⟩] scope pos) 0 (.ref it) .none env).onRaise (leaving env)) [] s
    rw [compTurn_gen, Sem.onRaise_eq_wrap]
    refine seg_bind_wrap (wpAny_standAt ?_)
    rcases turn i m σ H pv with ⟨stop, q⟩ | ⟨gg, step⟩
    · refine seg_bind_wrap ?_
      rw [hov]
      refine thn (T.done (gcx X N' fp env A' s0 H0) rfl rfl rfl rfl i [go] s σ H _ I (stat fr) st stop) fun r s1 ⟨hr, I1⟩ => ?_
      subst hr
      exact seg_end (.ok .next) (.inl ⟨.inr rfl, σ, H, I1, q⟩)
    · refine seg_bind_wrap ?_
      rw [hov]
      refine thn (T.item (gcx X N' fp env A' s0 H0) rfl rfl rfl rfl i [go] s σ H _ I (stat fr) st gg) fun r s1 ⟨u, hr, h1⟩ => ?_
      subst hr
      refine seg_bind_wrap ?_
      rw [hov]
      refine wpAny_mono h1 (fun _ s2 ⟨x, H2, I2, r2, y2, st2, fr2⟩ => ?_) fun _ _ e => e
      have I2' := I2.pinned (stat fr2) (T.obj _ _ st2)
      refine seg_bind_wrap ?_
      rw [hov]
      refine wpAny_mono (hgt.run _ s2 σ H2 x u _ I2' r2 (step x H2 y2)) (fun _ s3 ⟨σ3, H3, I3, q3⟩ => ?_) fun _ _ e => e.elim
      refine seg_bind_wrap (wpAny_of_eq (by rw [List.forIn_nil]) ?_)
      simp only [if_true]
      simp only [hy]
      rw [Sem.bind_eq_wrap', Sem.bind_eq_wrap', Sem.wrap_wrap, Sem.wrap_wrap]
      refine seg_wrap ?_
      rw [hov]
      refine wpAny_mono (helt.run _ s3 σ3 H3 _ I3 q3) (fun y s4 ⟨v, H4, I4, r4, q4⟩ => ?_) fun _ _ e => e.elim
      obtain ⟨b, rfl, q4⟩ := q4
      obtain rfl : y = .bool b := r4
      refine seg_at (seg_yield rfl rfl rfl ⟨σ3, H4, b, rfl, I4.unpinned, ?_⟩)
      by_cases hb : b = fin
      · rw [if_pos hb] at q4 ⊢
        exact q4
      · rw [if_neg hb] at q4 ⊢
        obtain ⟨m', hm, pv4⟩ := q4
        have tn4 : tn (i + 1) s4.heap := T.keep _ _ _ st2 fun b hb o e => (I4.pin (b, o) (List.mem_append_right _ (List.mem_append_right _ (mem_pinsAt hb e)))).1
        have fr4 : ∀ b ∈ fp, H4 b = none := fun b hb => by
          obtain ⟨o, e, d⟩ := T.obj _ _ st2 b hb
          exact (I4.pin (b, o) (List.mem_append_right _ (List.mem_append_right _ (mem_pinsAt hb e)))).2.1
        refine ⟨i + 1, m', hm, pv4, tn4, fr4, fun s'' eh eo eb => ?_⟩
        subst hm
        refine seg_again rfl (later m' rfl (i + 1) s'' s'' σ3 H4 pv4 (I4.unpinned.again' eh eo eb) (by rw [eh]; exact tn4) fr4)
  intro m
  induction m with
  | zero => exact fun i s₀ s σ H pv I st fr => one 0 i s₀ s σ H pv I st fr fun m' e => by omega
  | succ m ih =>
    intro i s₀ s σ H pv I st fr
    refine one (m + 1) i s₀ s σ H pv I st fr fun m' e => ?_
    obtain rfl : m = m' := by omega
    exact ih

theorem seg_first {A : Around} {elt tg iter : Expr} {scope : Scope} {pos : Pos} {it : Addr} {J : It} {g : TG} {t : TE}
    (hA : A' = A.deeper env) (hco : env.scope.isCoroutine = false) (T : Turn X.prog X.w X.K tg J fp it tn)
    (hgt : PG (gcx X N' fp env A' s0 H0) tg g) (helt : PE (gcx X N' fp env A' s0 H0) elt t)
    (hfp : ∀ b ∈ fp, b ≠ env.locals ∧ b ∉ frs X.stack ∧ (∀ x c, env.cells.lookup x = some c → c ≠ b) ∧ go.1 ≠ b)
    (turn : ∀ i m σ' H', Pv i m σ' H' → (J.stop i H' ∧ Qe H') ∨ (J.go i H' ∧ ∀ x H'', J.yld i H' x H'' → g x σ' H'' fun σ2 H3 => t σ2 H3 fun v H4 => ∃ b, v = .bl b ∧ if b = fin then Qs H4 else ∃ m', m = m' + 1 ∧ Pv (i + 1) m' σ2 H4))
    (m : Nat) (s₀ s : Shared) (σ : L2.St) (H : Hp) (pv : Pv 0 m σ H) (I : Inv (gcx X N' fp env A' s0 H0) [go] σ H s) (st : tn 0 s.heap) (fr : ∀ b ∈ fp, H b = none) :
      Seg (model X.prog X.w) A (GRet (gcx X N' fp env A' s0 H0) go Qe) (GProt (gcx X N' fp env A' s0 H0) fp go tn Pv fin Qs) (m + 1) s₀
        (.compStart (.GeneratorExp elt [⟨tg, iter, [], 0⟩] scope pos) 0 (.ref it) .none env)
        ((model X.prog X.w).den (.compStart (.GeneratorExp elt [⟨tg, iter, [], 0⟩] scope pos) 0 (.ref it) .none env)) [] s := by
  have loop := seg_turns (iter := iter) (scope := scope) (pos := pos) hA hco T hgt helt hfp turn m 0 s₀ s σ H pv I st fr
  show Seg _ A _ _ _ s₀ _ ((compStart (.GeneratorExp elt [⟨tg, iter, [], 0⟩] scope pos) 0 (.ref it) .none env).onRaise (leaving env)) [] s
  unfold compStart
  rw [Sem.onRaise_eq_wrap]
  show Seg _ A _ _ _ s₀ _ ((ask >>= _).wrap _ _ _ _) [] s
  refine seg_bind_wrap (wpAny_askSetting ?_)
  split
  · exact seg_again rfl loop
  · first
      | exact seg_bind_wrap (wpAny_rule (seg_bind_wrap (wpAny_standAt (seg_bind_wrap (T.self _ 0 s _ _ st (seg_again rfl loop))))))
      | (refine seg_bind_wrap (wpAny_rule ?_); show Seg _ A _ _ _ s₀ _ ((standAt iter.pos >>= _).wrap _ _ _ _) [] s; exact seg_bind_wrap (wpAny_standAt (seg_bind_wrap (T.self _ 0 s _ _ st (seg_again rfl loop)))))
end

/-! ### the consumers -/
section
variable {X' : Cx} {fp : List Addr} {go : Addr × Obj} {tn : Nat → Heap → Prop} {Pv : Nat → Nat → L2.St → Hp → Prop} {Qe Qs : Hp → Prop} {A : Around} {g : Nat} {R : Result → Shared → Prop}
theorem all_loop (hh : A.handled = none) (hd : A.depth < recursionLimit) (hgen : ∀ h : Heap, h.get? go.1 = some go.2 → h.IsGen go.1 g)
    (hend : ∀ s' σ H, Inv X' [go] σ H s' → Qe H → R (.ok (.ret (.bool true))) s') (hstop : ∀ s' σ H, Inv X' [go] σ H s' → Qs H → R (.ok (.ret (.bool false))) s') :
    ∀ (m : Nat) (s : Shared), s.heap.IsGen go.1 g → s.heap.NoLimit →
      (∃ gs, s.gens[g]? = some gs ∧ gs.Goes (model X'.prog X'.w) A.in1.in1 (GRet X' go Qe) (GProt X' fp go tn Pv false Qs) (m + 1) (.send .none) (s.setGen g .running)) →
      codeAny (model X'.prog X'.w) A (.builtin "all.loop" ⟨[.ref go.1], []⟩) R s := by
  intro m
  induction m with
  | zero =>
    intro s hg hl ⟨gs, hgs, hgo⟩
    refine codeAny_builtin F.entry_all_loop ?_
    rw [Around.under_plainId F.plain_all_loop _]
    show wpAny _ A.in1 (pyNext (.ref go.1) >>= _) _ _ s
    refine wpAny_bind (next_genG (A := A.in1) (F := fun _ _ s => ∃ σ H, Inv X' [go] σ H s ∧ Qe H) (Er := fun _ _ => False) hh hl hd hg hgs hgo (fun v s₁ gs' hbare hv => ?_) (fun s₁ hp h' hk => ?_) fun e s₁ he => he.elim)
    · obtain ⟨σ, H, b, rfl, I, hif⟩ := hv
      refine wpAny_bind (wpAny_holding (wpAny_truthy_bool ?_))
      refine wpAny_bind (wpAny_letGo ?_)
      cases b with
      | true =>
        rw [if_neg (by decide)] at hif
        obtain ⟨i, m', e, _⟩ := hif
        exact absurd e (by omega)
      | false =>
        rw [if_pos rfl] at hif
        simp only [Bool.false_eq_true, if_false]
        refine wpAny_bind (wpAny_rule (wpAny_pure ?_))
        exact hstop _ σ H (I.again' (by rfl) rfl (allBare_setGen I.bare hbare)) hif
    · obtain ⟨σ, H, I, q⟩ := hp
      refine wpAny_bind (wpAny_rule (wpAny_pure ?_))
      refine hend _ σ H ?_ q
      exact I.call' (ch := []) rfl (Un.kept hk) (I.hok.kept hk) (allBare_setGen I.bare rfl) fun b z => absurd z (by simp)
  | succ m ih =>
    intro s hg hl ⟨gs, hgs, hgo⟩
    have hgl : g < s.gens.size := (Array.getElem?_eq_some_iff.mp hgs).1
    refine codeAny_builtin F.entry_all_loop ?_
    rw [Around.under_plainId F.plain_all_loop _]
    show wpAny _ A.in1 (pyNext (.ref go.1) >>= _) _ _ s
    refine wpAny_bind (wpAny_gsz (n := g + 1) hgl (next_genG (A := A.in1) (F := fun _ _ s => ∃ σ H, Inv X' [go] σ H s ∧ Qe H) (Er := fun _ _ => False) hh hl hd hg hgs hgo (fun v s₁ gs' hbare hv => ?_) (fun s₁ hp h' hk => ?_) fun e s₁ he => he.elim))
    · intro hsz
      obtain ⟨σ, H, b, rfl, I, hif⟩ := hv
      refine wpAny_bind (wpAny_holding (wpAny_truthy_bool ?_))
      refine wpAny_bind (wpAny_letGo ?_)
      cases b with
      | true =>
        rw [if_neg (by decide)] at hif
        obtain ⟨i, m', e, pv, tnm, fr, hk⟩ := hif
        obtain rfl : m = m' := by omega
        simp only [if_true]
        have hsz1 : g < s₁.gens.size := by
          have q : (s₁.setGen g gs').gens.size = s₁.gens.size := setGen_size _ _ _
          have hsz' : g + 1 ≤ (s₁.setGen g gs').gens.size := hsz
          omega
        refine wpAny_pure ⟨plainId_quiet F.plain_all_loop _, ih _ (hgen _ (I.pin go (List.mem_append_right _ (List.mem_singleton.mpr rfl))).1) I.nolimit ⟨gs', setGen_at hsz1, ?_⟩⟩
        exact hk _ rfl rfl (allBare_setGen (s := s₁.setGen g gs') (allBare_setGen I.bare hbare) rfl)
      | false =>
        rw [if_pos rfl] at hif
        simp only [Bool.false_eq_true, if_false]
        refine wpAny_bind (wpAny_rule (wpAny_pure ?_))
        exact hstop _ σ H (I.again' (by rfl) rfl (allBare_setGen I.bare hbare)) hif
    · intro hsz
      obtain ⟨σ, H, I, q⟩ := hp
      refine wpAny_bind (wpAny_rule (wpAny_pure ?_))
      refine hend _ σ H ?_ q
      exact I.call' (ch := []) rfl (Un.kept hk) (I.hok.kept hk) (allBare_setGen I.bare rfl) fun b z => absurd z (by simp)
theorem any_loop (hh : A.handled = none) (hd : A.depth < recursionLimit) (hgen : ∀ h : Heap, h.get? go.1 = some go.2 → h.IsGen go.1 g)
    (hend : ∀ s' σ H, Inv X' [go] σ H s' → Qe H → R (.ok (.ret (.bool false))) s') (hstop : ∀ s' σ H, Inv X' [go] σ H s' → Qs H → R (.ok (.ret (.bool true))) s') :
    ∀ (m : Nat) (s : Shared), s.heap.IsGen go.1 g → s.heap.NoLimit →
      (∃ gs, s.gens[g]? = some gs ∧ gs.Goes (model X'.prog X'.w) A.in1.in1 (GRet X' go Qe) (GProt X' fp go tn Pv true Qs) (m + 1) (.send .none) (s.setGen g .running)) →
      codeAny (model X'.prog X'.w) A (.builtin "any.loop" ⟨[.ref go.1], []⟩) R s := by
  intro m
  induction m with
  | zero =>
    intro s hg hl ⟨gs, hgs, hgo⟩
    refine codeAny_builtin F.entry_any_loop ?_
    rw [Around.under_plainId F.plain_any_loop _]
    show wpAny _ A.in1 (pyNext (.ref go.1) >>= _) _ _ s
    refine wpAny_bind (next_genG (A := A.in1) (F := fun _ _ s => ∃ σ H, Inv X' [go] σ H s ∧ Qe H) (Er := fun _ _ => False) hh hl hd hg hgs hgo (fun v s₁ gs' hbare hv => ?_) (fun s₁ hp h' hk => ?_) fun e s₁ he => he.elim)
    · obtain ⟨σ, H, b, rfl, I, hif⟩ := hv
      refine wpAny_bind (wpAny_holding (wpAny_truthy_bool ?_))
      refine wpAny_bind (wpAny_letGo ?_)
      cases b with
      | false =>
        rw [if_neg (by decide)] at hif
        obtain ⟨i, m', e, _⟩ := hif
        exact absurd e (by omega)
      | true =>
        rw [if_pos rfl] at hif
        simp only [if_true]
        refine wpAny_bind (wpAny_rule (wpAny_pure ?_))
        exact hstop _ σ H (I.again' (by rfl) rfl (allBare_setGen I.bare hbare)) hif
    · obtain ⟨σ, H, I, q⟩ := hp
      refine wpAny_bind (wpAny_rule (wpAny_pure ?_))
      refine hend _ σ H ?_ q
      exact I.call' (ch := []) rfl (Un.kept hk) (I.hok.kept hk) (allBare_setGen I.bare rfl) fun b z => absurd z (by simp)
  | succ m ih =>
    intro s hg hl ⟨gs, hgs, hgo⟩
    have hgl : g < s.gens.size := (Array.getElem?_eq_some_iff.mp hgs).1
    refine codeAny_builtin F.entry_any_loop ?_
    rw [Around.under_plainId F.plain_any_loop _]
    show wpAny _ A.in1 (pyNext (.ref go.1) >>= _) _ _ s
    refine wpAny_bind (wpAny_gsz (n := g + 1) hgl (next_genG (A := A.in1) (F := fun _ _ s => ∃ σ H, Inv X' [go] σ H s ∧ Qe H) (Er := fun _ _ => False) hh hl hd hg hgs hgo (fun v s₁ gs' hbare hv => ?_) (fun s₁ hp h' hk => ?_) fun e s₁ he => he.elim))
    · intro hsz
      obtain ⟨σ, H, b, rfl, I, hif⟩ := hv
      refine wpAny_bind (wpAny_holding (wpAny_truthy_bool ?_))
      refine wpAny_bind (wpAny_letGo ?_)
      cases b with
      | false =>
        rw [if_neg (by decide)] at hif
        obtain ⟨i, m', e, pv, tnm, fr, hk⟩ := hif
        obtain rfl : m = m' := by omega
        simp only [Bool.false_eq_true, if_false]
        have hsz1 : g < s₁.gens.size := by
          have q : (s₁.setGen g gs').gens.size = s₁.gens.size := setGen_size _ _ _
          have hsz' : g + 1 ≤ (s₁.setGen g gs').gens.size := hsz
          omega
        refine wpAny_pure ⟨plainId_quiet F.plain_any_loop _, ih _ (hgen _ (I.pin go (List.mem_append_right _ (List.mem_singleton.mpr rfl))).1) I.nolimit ⟨gs', setGen_at hsz1, ?_⟩⟩
        exact hk _ rfl rfl (allBare_setGen (s := s₁.setGen g gs') (allBare_setGen I.bare hbare) rfl)
      | true =>
        rw [if_pos rfl] at hif
        simp only [if_true]
        refine wpAny_bind (wpAny_rule (wpAny_pure ?_))
        exact hstop _ σ H (I.again' (by rfl) rfl (allBare_setGen I.bare hbare)) hif
    · intro hsz
      obtain ⟨σ, H, I, q⟩ := hp
      refine wpAny_bind (wpAny_rule (wpAny_pure ?_))
      refine hend _ σ H ?_ q
      exact I.call' (ch := []) rfl (Un.kept hk) (I.hok.kept hk) (allBare_setGen I.bare rfl) fun b z => absurd z (by simp)
end

/-! ### the making -/
theorem clo_look {cells : List (Str × Addr)} {names : List (Str × NameKind)} (hf : ∀ y ∈ names, y.2 = .free → ∃ c, cells.lookup y.1 = some c) {x : Str} {c : Addr} (h : (cloFrom cells names []).lookup x = some c) : cells.lookup x = some c := by
  rcases cloFrom_mem (PySem.mem_of_lookup h) with z | ⟨h1, h2⟩
  · cases z
  · obtain ⟨c', e⟩ := hf _ h1 rfl
    rw [show cells.lookup x = some c' from e] at h2 ⊢
    rw [h2]
    all_goals rfl
theorem clo_has {cells : List (Str × Addr)} {names : List (Str × NameKind)} {x : Str} (h : names.lookup x = some .free) : ∃ c, (cloFrom cells names []).lookup x = some c :=
  mem_lookup (cloFrom_has (PySem.mem_of_lookup h))
theorem capSt_at {es : Ents} {σ : L2.St} {i : Nat} {v : V} (h : (capSt es σ)[i]? = some (some v)) : ∃ x j, es[i]? = some (x, some j) ∧ σ[j]? = some (some v) := by
  unfold capSt at h
  rw [List.getElem?_map] at h
  cases e : es[i]? with
  | none => rw [e] at h; cases h
  | some p =>
    obtain ⟨x, o⟩ := p
    rw [e] at h
    cases o with
    | none => cases h
    | some j =>
      refine ⟨x, j, rfl, ?_⟩
      have h' : (σ[j]?).getD none = some v := Option.some.inj h
      cases e2 : σ[j]? with
      | none => rw [e2] at h'; cases h'
      | some w => rw [e2] at h'; exact congrArg some h'

section
variable {X : Cx} {pins : List (Addr × Obj)} {σ : L2.St} {H : Hp} {s : Shared}

/-- the frame of the expression, as it is made -/
theorem inv_gen {sc scope : Scope} {es : Ents} {fp : List Addr} {A' : Around} {code : Value} {go : Addr × Obj} {s4 s5 : Shared} {itv : Value} (hsc : X.env.scope = sc) (S : GSc sc scope X.N es) (hhd : A'.handled = none)
    (hfr : A'.frames = some (genEnv scope (cloFrom X.env.cells scope.names []) s4.heap.objs.size code builtinsNs X.env :: X.stack))
    (I : Inv X pins σ H s4) (hf : ∀ b ∈ fp, FpOk X pins H b) (hlt : ∀ b ∈ fp, b < s4.heap.objs.size) (os : s5.os = s4.os) (bare : AllBare s5.gens) (kp : ∀ b o, s4.heap.get? b = some o → s5.heap.get? b = some o)
    (ns : s5.heap.Ns s4.heap.objs.size (fun y => if y = ".0" then some itv else none)) (hgo : s5.heap.get? go.1 = some go.2) (hgs : s4.heap.objs.size < go.1) (hgd : ∀ v, go.2.data ≠ .cell v) :
    Inv (gcx X (es.map (·.1)) fp (genEnv scope (cloFrom X.env.cells scope.names []) s4.heap.objs.size code builtinsNs X.env) A' s4 H) [go] (capSt es σ) H s5 := by
  subst hsc
  have hfree : ∀ y ∈ scope.names, y.2 = .free → ∃ c, X.env.cells.lookup y.1 = some c := fun y hy e => I.ok.has y.1 (S.fre y hy e)
  have gone : ∀ a, s4.heap.objs.size ≤ a → H a = none := fun a ha => I.hok.fresh ha
  have hCf : ∀ b, b ∈ frs X.stack → b < s4.heap.objs.size := fun b hb => by
    rcases List.mem_cons.mp (I.stkSub b hb) with z | z
    · rw [z]; exact I.lt
    · obtain ⟨_, o, ho, _⟩ := I.funs.mem z
      exact Heap.lt_size ho
  refine ⟨⟨I.ok.mod, S.kind, I.ok.glob, rfl, Nat.le_refl _, fun x y c h1 h2 => I.ok.inj x y c (clo_look hfree h1) (clo_look hfree h2), fun x hx => ?_, fun x c h => (by cases h), fun _ => hhd, hfr, .inr ⟨rfl, rfl⟩, fun b hb => ⟨Nat.ne_of_lt (hlt b hb), fun x c h => (hf b hb).2.2.2.2.1 x c (clo_look hfree h)⟩,
    fun b o e => I.bs b o e, Nat.le_trans I.ok.bsz I.sz, fun b o e hb => ?_, fun b hb hm => ?_, I.stack, I.stkFree⟩,
    os, bare, Un.kept kp, ⟨_, ns, fun i x v h1 h2 h3 => ?_⟩, fun x c h => ?_, gone _ (Nat.le_refl _), fun x c h => I.freeC x c (clo_look hfree h), fun p hp => ?_, I.hok.kept kp, ?_⟩
  · have hx : scope.names.lookup x = some .cell ∨ scope.names.lookup x = some .free := hx
    rcases hx with hx | hx
    · exact absurd rfl (S.cell _ (PySem.mem_of_lookup hx))
    · exact clo_has hx
  · rcases (hf b hb).2.2.2.1 with z | z
    · exact I.ok.noex b o e z
    · exact absurd (Nat.lt_of_lt_of_le (Heap.lt_size e) (Nat.le_trans I.ok.bsz z)) (Nat.lt_irrefl _)
  · obtain ⟨h1, h2, h3, _⟩ := hf b hb
    rcases List.mem_cons.mp (I.stkSub b hm) with z | z
    · exact h2 z
    · exact h3 z
  · obtain ⟨x', j, h4, h5⟩ := capSt_at h2
    have hx' : x' = x := by
      have h1' : (es.map (·.1))[i]? = some x := h1
      rw [List.getElem?_map, h4] at h1'
      exact Option.some.inj h1'
    subst hx'
    have hc := List.all_eq_true.mp S.caps (x', some j) (List.mem_of_getElem? h4)
    simp only [Bool.and_eq_true, beq_iff_eq] at hc
    obtain ⟨hN, hfr'⟩ := hc
    have hk := S.fre (x', .free) (PySem.mem_of_lookup hfr') rfl
    obtain ⟨m, hn, hl⟩ := I.loc
    obtain ⟨u, r, l⟩ := hl j x' v hN h5 (.inr hk)
    refine ⟨u, r, ?_⟩
    rcases l with ⟨hk', _⟩ | ⟨_, c, hcell, hat⟩
    · exfalso
      have hk'' : X.env.scope.names.lookup x' = some .local := hk'
      rcases hk with z | z <;> (rw [show X.env.scope.names.lookup x' = _ from z] at hk''; cases hk'')
    · obtain ⟨c', hc'⟩ := clo_has (cells := X.env.cells) hfr'
      have e := clo_look hfree hc'
      rw [hcell] at e
      cases e
      obtain ⟨o, ho, hd⟩ := hat
      exact .inr ⟨.inr hfr', c, hc', o, kp _ _ ho, hd⟩
  · obtain ⟨v, o, ho, hd⟩ := I.cell x c (clo_look hfree h)
    exact ⟨v, o, kp _ _ ho, hd⟩
  · have e : p = go := List.mem_singleton.mp (show p ∈ [go] from hp)
    subst e
    refine ⟨hgo, gone _ (Nat.le_of_lt hgs), Nat.ne_of_gt hgs, fun hb => ?_, hgd⟩
    exact absurd (Nat.lt_trans hgs (hCf _ hb)) (Nat.lt_irrefl _)
  · show (capSt es σ).length = (es.map (·.1)).length
    unfold capSt
    rw [List.length_map, List.length_map]
end

/-- the reading: Pv, by the turn and what is left of turns; fin: the value that ends the walk -/
def tGen (fin : Bool) (P : Addr) (es : Ents) (wi : TI) (g : TG) (t : TE) : TE := fun σ H Q => wi σ H fun J H1 => TabG H1 P ∧ ∀ H2, Tabbed P H1 H2 → ∃ Pv : Nat → Nat → L2.St → Hp → Prop, (∃ m, Pv 0 m (capSt es σ) H2) ∧
  ∀ i m σ' H', Pv i m σ' H' → (J.stop i H' ∧ Q (.bl (!fin)) H') ∨ (J.go i H' ∧ ∀ x H'', J.yld i H' x H'' → g x σ' H'' fun σ2 H3 => t σ2 H3 fun v H4 => ∃ b, v = .bl b ∧ if b = fin then Q (.bl fin) H4 else ∃ m', m = m' + 1 ∧ Pv (i + 1) m' σ2 H4)

/-- a generator that has not begun -/
def Ready (X : Cx) (pins : List (Addr × Obj)) (σ : L2.St) (fin : Bool) (Q : VK) (u : Value) (s' : Shared) : Prop :=
  ∃ (X' : Cx) (fp : List Addr) (go : Addr × Obj) (g : Nat) (tn : Nat → Heap → Prop) (Pv : Nat → Nat → L2.St → Hp → Prop) (m : Nat), X'.prog = X.prog ∧ X'.w = X.w ∧ u = .ref go.1 ∧ s'.heap.IsGen go.1 g ∧ s'.heap.NoLimit ∧ (∀ h : Heap, h.get? go.1 = some go.2 → h.IsGen go.1 g) ∧
    (∃ gs, s'.gens[g]? = some gs ∧ gs.Goes (model X.prog X.w) X.A.in1.in1 (GRet X' go (Q (.bl (!fin)))) (GProt X' fp go tn Pv fin (Q (.bl fin))) (m + 1) (.send .none) (s'.setGen g .running)) ∧
    ∀ σ' H' s'', Inv X' [go] σ' H' s'' → Inv X pins σ H' s''

theorem gen_made {k : Nat} {c P : Addr} {elt tg iter : Expr} {gpos : Pos} {scope : Scope} {es : Ents} {wi : TI} {g : TG} {t : TE} {fin : Bool} {pins : List (Addr × Obj)} {s : Shared} {σ : L2.St} {H : Hp} {Q : VK} {X : Cx}
    (hr : Room (k + 1) X.A) (TB : TabB X.base X.mg c P) (hcode : X.env.code = .ref c) (S : GSc X.env.scope scope X.N es) (hi : PI X tg iter wi)
    (hgt : ∀ fp cl C code A' s H, PG (gcx X (es.map (·.1)) fp (genEnv scope cl C code builtinsNs X.env) A' s H) tg g)
    (helt : ∀ fp cl C code A' s H, Room k A' → PE (gcx X (es.map (·.1)) fp (genEnv scope cl C code builtinsNs X.env) A' s H) elt t)
    (hs : ∀ v, genFold iter X.env v = pure v) (I : Inv X pins σ H s) (h : tGen fin P es wi g t σ H Q) :
    wpAny (model X.prog X.w) X.A (eval (.GeneratorExp elt [⟨tg, iter, [], 0⟩] scope gpos) X.env) (Ready X pins σ fin Q) X.xe s := by
  have hfree : ∀ y ∈ scope.names, y.2 = .free → ∃ c, X.env.cells.lookup y.1 = some c := fun y hy e => I.ok.has y.1 (S.fre y hy e)
  refine wpAny_GeneratorExp_make S.co (closure_ok hfree) S.cell S.dot S.kind (by have := hr.dp; omega) ?_ hs
  refine thn (hi.run pins s σ H _ I h) fun xv s1 h1 => thn h1 fun itv s2 hp => ?_
  obtain ⟨it, fp, tn, J, H1, rfl, I1, T, st, hf, ⟨ps, hP, ht⟩, hR⟩ := hp
  have hPs : s2.heap.get? P = some { cls := .none, data := .fields ps } := I1.hok P _ hP
  have cd : PySem.W.CodeHd s2.heap c P := TB.code.keeps fun b u e => I1.bk b u e
  have nP : ∀ b, H1 b = none → b ≠ P := fun b e z => by rw [z, hP] at e; cases e
  refine ⟨I1.nolimit, ?_⟩
  have cont : ∀ (code : Value) (h3 : Heap) (tk : Nat) (ps' : Array Value), Heap.ExtBut P s2.heap h3 → s2.heap.objs.size ≤ h3.objs.size → h3.get? P = some { cls := .none, data := .fields ps' } → (∃ more, ps' = ps ++ more) → TriplesOk ps'.toList →
      wpAny (model X.prog X.w) X.A (builtinsFor X.env.globals X.env.builtins) (fun bi s₄ =>
        ∀ h', h'.Ns s₄.heap.objs.size (fun y => if y = ".0" then some (.ref it) else none) → Heap.SameBut s₄.heap.objs.size (s₄.heap.push { cls := .type "frame", data := .dict #[] }) h' →
          Ready X pins σ fin Q (.ref h'.objs.size) { s₄ with
            gens := s₄.gens.push (.fresh (.compStart (.GeneratorExp elt [⟨tg, iter, [], 0⟩] scope gpos) 0 (.ref it) .none (genEnv scope (cloFrom X.env.cells scope.names []) s₄.heap.objs.size code bi X.env))),
            toks := s₄.toks + 1 + 1 + 1,
            heap := h'.push { cls := .type "generator", data := .fields #[.int s₄.gens.size 0, .str "<genexpr>" (s₄.toks + 1), .str (X.env.qual ++ "<genexpr>") (s₄.toks + 1 + 1)] } }) X.xe { s2 with heap := h3, toks := tk } := by
    intro code h3 tk ps' hx hsz hP3 hmore ht3
    obtain ⟨more, em⟩ := hmore
    subst em
    obtain ⟨bm, ob, e1, e2, e3, e4, e5, e6, e7, e8⟩ := TB.bm
    have keep3 : ∀ b u, b ≠ P → s2.heap.get? b = some u → h3.get? b = some u := fun b u hb e => hx b u hb e
    have I4 : Inv X pins σ (upd H1 P (.tbl (ps ++ more))) { s2 with heap := h3, toks := tk } := inv_tab (g' := s2.gens) (d' := s2.drawn) (t' := tk) I1 hP keep3 hP3 I1.bare
    have hTb : Tabbed P H1 (upd H1 P (.tbl (ps ++ more))) := ⟨⟨_, upd_same, ht3⟩, fun b hb => upd_ne hb⟩
    obtain ⟨Pv, ⟨m, pv⟩, turn⟩ := hR _ hTb
    have hf4 : ∀ b ∈ fp, FpOk X pins (upd H1 P (.tbl (ps ++ more))) b := fun b hb => by
      obtain ⟨f0, fr⟩ := hf b hb
      exact ⟨by rw [upd_ne (nP b f0)]; exact f0, fr⟩
    have st4 : tn 0 h3 := T.keep _ _ _ st fun b hb o e => keep3 b o (nP b (hf b hb).1) e
    have lt4 : ∀ b ∈ fp, b < h3.objs.size := fun b hb => by
      obtain ⟨o, ho, _⟩ := T.obj _ _ st4 b hb
      exact Heap.lt_size ho
    refine wpAny_builtinsFor (m := X.mg) (by rw [I1.ok.glob]; exact (I1.mod.glob.keeps I1.bk).extBut hx TB.gP) e1 e2 (keep3 _ _ e4 (I1.bk _ _ e5)) e6 e7 e8 ?_
    intro h' hn' hs'
    have hsz' : h'.objs.size = h3.objs.size + 1 := by rw [hs'.1]; exact Heap.size_push ..
    have keep' : ∀ b o, h3.get? b = some o → h'.get? b = some o := fun b o e => hs'.extBut b o (Nat.ne_of_lt (Heap.lt_size e)) (Heap.get?_push_of_some _ e)
    have main : ∀ (go : Obj) (nm qn : Value) (tk5 : Nat) (GS : Array GenState), go.cls = .type "generator" → go.data = .fields #[.int s2.gens.size 0, nm, qn] → go.slots = #[] → (∀ h : Heap, (h.push go).get? h.objs.size = some go) → AllBare GS →
        GS[s2.gens.size]? = some (.fresh (.compStart (.GeneratorExp elt [⟨tg, iter, [], 0⟩] scope gpos) 0 (.ref it) .none (genEnv scope (cloFrom X.env.cells scope.names []) h3.objs.size code builtinsNs X.env))) →
        Ready X pins σ fin Q (.ref h'.objs.size) { s2 with gens := GS, toks := tk5, heap := h'.push go } := by
      intro go nm qn tk5 GS hgc hgd hgsl hgp hGb hGS
      have hgen : ∀ h : Heap, h.get? h'.objs.size = some go → h.IsGen h'.objs.size s2.gens.size := fun h e => ⟨go, nm, qn, e, hgc, hgd, hgsl⟩
      have keep5 : ∀ b o, h3.get? b = some o → (h'.push go).get? b = some o := fun b o e => Heap.get?_push_of_some _ (keep' b o e)
      have kO : ∀ A' : Around, A' = X.A.in1.in1.deeper (genEnv scope (cloFrom X.env.cells scope.names []) h3.objs.size code builtinsNs X.env) → A'.frames = some (genEnv scope (cloFrom X.env.cells scope.names []) h3.objs.size code builtinsNs X.env :: X.stack) := fun A' e => by
        rw [e]
        exact Around.frames_deeper (A := X.A.in1.in1) I1.ok.frames
      have I5 : ∀ s5 : Shared, s5.os = s2.os → AllBare s5.gens → s5.heap = h'.push go → Inv (gcx X (es.map (·.1)) fp (genEnv scope (cloFrom X.env.cells scope.names []) h3.objs.size code builtinsNs X.env) (X.A.in1.in1.deeper (genEnv scope (cloFrom X.env.cells scope.names []) h3.objs.size code builtinsNs X.env)) { s2 with heap := h3, toks := tk } (upd H1 P (.tbl (ps ++ more))))
          [(h'.objs.size, go)] (capSt es σ) (upd H1 P (.tbl (ps ++ more))) s5 := fun s5 o5 b5 e5 =>
        inv_gen (s4 := { s2 with heap := h3, toks := tk }) rfl S hr.hd (kO _ rfl) I4 hf4 lt4 o5 b5 (by rw [e5]; exact keep5) (by rw [e5]; exact hn'.push _) (by rw [e5]; exact hgp h') (by show h3.objs.size < h'.objs.size; omega) (fun v q => by rw [hgd] at q; cases q)
      refine ⟨gcx X (es.map (·.1)) fp (genEnv scope (cloFrom X.env.cells scope.names []) h3.objs.size code builtinsNs X.env) (X.A.in1.in1.deeper (genEnv scope (cloFrom X.env.cells scope.names []) h3.objs.size code builtinsNs X.env)) { s2 with heap := h3, toks := tk } (upd H1 P (.tbl (ps ++ more))), fp, (h'.objs.size, go), s2.gens.size, tn, Pv, m, rfl, rfl, rfl, hgen _ (hgp h'), I4.nolimit.keeps keep5, hgen, ⟨_, hGS, rfl, ?_⟩, fun σ' H' s'' I' => ?_⟩
      · refine seg_first (A := X.A.in1.in1) (X := X) (N' := es.map (·.1)) (fp := fp) (env := genEnv scope (cloFrom X.env.cells scope.names []) h3.objs.size code builtinsNs X.env) (s0 := { s2 with heap := h3, toks := tk }) (H0 := upd H1 P (.tbl (ps ++ more))) (fin := fin) (Qe := Q (.bl (!fin))) (Qs := Q (.bl fin)) rfl S.co T
          (hgt ..) (helt _ _ _ _ _ _ _ ⟨hr.hd, ?_, ?_⟩) (fun b hb => ?_) turn m _ (({ s2 with gens := GS, toks := tk5, heap := h'.push go } : Shared).setGen s2.gens.size .running) _ _ pv (I5 (({ s2 with gens := GS, toks := tk5, heap := h'.push go } : Shared).setGen s2.gens.size .running) rfl (allBare_setGen (s := { s2 with gens := GS, toks := tk5, heap := h'.push go }) hGb rfl) rfl) (T.keep _ _ _ st4 fun b _ o e => keep5 b o e) fun b hb => (hf4 b hb).1
        · have := hr.dp
          show X.A.depth + 1 + 3 * k + 5 < _
          omega
        · have := hr.un
          show X.A.units + 1 + 1 + 3 + 16 * k + 200 < _
          omega
        · obtain ⟨f0, f1, f2, f3, f4, f5⟩ := hf4 b hb
          refine ⟨Nat.ne_of_lt (lt4 b hb), fun hm => ?_, fun x c h => f4 x c (clo_look hfree h), fun z => ?_⟩
          · rcases List.mem_cons.mp (I4.stkSub b hm) with z | z
            · exact f1 z
            · exact f2 z
          · have z' : h'.objs.size = b := z
            have q := lt4 b hb
            rw [← z', hsz'] at q
            exact absurd q (Nat.not_lt_of_le (Nat.le_succ _))
      · refine I4.call' (ch := fp) I'.os I'.base I'.hok I'.bare fun b hb => ?_
        obtain ⟨f0, f1, f2, f3, f4, f5⟩ := hf4 b hb
        exact ⟨f3, f1, f4, f5⟩
    exact main _ _ _ _ _ rfl rfl rfl (fun h => Heap.get?_push_size _ rfl) (AllBare.push I1.bare rfl) (Array.getElem?_push_size ..)
  cases hfd : codeAmong gpos ps.toList with
  | none =>
    refine wpAny_genexprCodeX hcode (cd.code hPs ht) (cd.tab hPs) hfd fun c' h' tk hx hge hlt hco' _ htab' _ => ?_
    obtain ⟨o1, vs, f1, tf, fl, tg', inF, tx, tt, op, _, _, _, _, _, _, _, _, _, htr, _⟩ := hco'
    exact cont _ h' tk _ hx (Nat.le_trans hge (Nat.le_of_lt hlt)) htab'.2 ⟨_, rfl⟩ htr
  | some cv =>
    refine wpAny_genexprCode_hit hcode (cd.code hPs ht) hfd ?_
    exact cont cv s2.heap s2.toks ps (Heap.ExtBut.refl _ _) (Nat.le_refl _) hPs ⟨#[], by simp⟩ ht

section
variable {k : Nat} {c P : Addr} {elt tg iter : Expr} {p pos gpos : Pos} {scope : Scope} {es : Ents} {wi : TI} {g : TG} {t : TE} {X : Cx}
theorem pe_allG (hr : Room (k + 1) X.A) (hg : Gl X "all") (hm : X.mg "all" = none) (TB : TabB X.base X.mg c P) (hcode : X.env.code = .ref c) (S : GSc X.env.scope scope X.N es) (hi : PI X tg iter wi)
    (hgt : ∀ fp cl C code A' s H, PG (gcx X (es.map (·.1)) fp (genEnv scope cl C code builtinsNs X.env) A' s H) tg g)
    (helt : ∀ fp cl C code A' s H, Room k A' → PE (gcx X (es.map (·.1)) fp (genEnv scope cl C code builtinsNs X.env) A' s H) elt t)
    (hs : ∀ v, genFold iter X.env v = pure v := by intro _; rfl) (hb : bootBuiltins "all" = some (.builtin "all") := by decide +kernel)
    (he : starEach [.GeneratorExp elt [⟨tg, iter, [], 0⟩] scope gpos] X.env = (false, eval (.GeneratorExp elt [⟨tg, iter, [], 0⟩] scope gpos) X.env) :: starEach [] X.env := by rfl) :
    PE X (.Call (.Name "all" p) [.GeneratorExp elt [⟨tg, iter, [], 0⟩] scope gpos] [] pos) (tGen false P es wi g t) := by
  refine ⟨fun pins s σ H Q I h => ?_⟩
  refine wpAny_Call_Name_kw (ld_blt I hg hm hb ?_)
  refine PyProof.Rows.callWith_builtin1 ?_ he (by rfl)
  rw [he]
  show wpAny _ _ (spliced ((false, eval (.GeneratorExp elt [⟨tg, iter, [], 0⟩] scope gpos) X.env) :: backTo pos (starEach [] X.env))) _ _ s
  refine Calls.spliced_cons (thn (gen_made hr TB hcode S hi hgt helt hs I h) fun u s1 hR => ?_)
  obtain ⟨X', fp, go, gn, tn, Pv, m, hP, hw, rfl, hg1, hl1, hgen, hgoes, hback⟩ := hR
  refine Calls.spliced_nil ?_
  refine call_function_tree F.kind_all F.plain_all F.entry_all (F.args_all1 _) ?_
  unfold Builtin.«all»
  refine wpAny_bind (m := oneArg "all" _) (wpAny_pure ?_)
  refine wpAny_bind (wpAny_pyIter_gen hg1 ?_)
  rw [← hP, ← hw] at hgoes ⊢
  refine wpAny_pure ⟨plainId_quiet F.plain_all_loop _, all_loop (Qe := Q (.bl true)) (Qs := Q (.bl false)) hr.hd (by have := hr.dp; omega) hgen (fun s' σ' H' I' q => ?_) (fun s' σ' H' I' q => ?_) m s1 hg1 hl1 hgoes⟩
  · exact ⟨.bl true, H', hback _ _ _ I', rfl, q⟩
  · exact ⟨.bl false, H', hback _ _ _ I', rfl, q⟩
theorem pe_anyG (hr : Room (k + 1) X.A) (hg : Gl X "any") (hm : X.mg "any" = none) (TB : TabB X.base X.mg c P) (hcode : X.env.code = .ref c) (S : GSc X.env.scope scope X.N es) (hi : PI X tg iter wi)
    (hgt : ∀ fp cl C code A' s H, PG (gcx X (es.map (·.1)) fp (genEnv scope cl C code builtinsNs X.env) A' s H) tg g)
    (helt : ∀ fp cl C code A' s H, Room k A' → PE (gcx X (es.map (·.1)) fp (genEnv scope cl C code builtinsNs X.env) A' s H) elt t)
    (hs : ∀ v, genFold iter X.env v = pure v := by intro _; rfl) (hb : bootBuiltins "any" = some (.builtin "any") := by decide +kernel)
    (he : starEach [.GeneratorExp elt [⟨tg, iter, [], 0⟩] scope gpos] X.env = (false, eval (.GeneratorExp elt [⟨tg, iter, [], 0⟩] scope gpos) X.env) :: starEach [] X.env := by rfl) :
    PE X (.Call (.Name "any" p) [.GeneratorExp elt [⟨tg, iter, [], 0⟩] scope gpos] [] pos) (tGen true P es wi g t) := by
  refine ⟨fun pins s σ H Q I h => ?_⟩
  refine wpAny_Call_Name_kw (ld_blt I hg hm hb ?_)
  refine PyProof.Rows.callWith_builtin1 ?_ he (by rfl)
  rw [he]
  show wpAny _ _ (spliced ((false, eval (.GeneratorExp elt [⟨tg, iter, [], 0⟩] scope gpos) X.env) :: backTo pos (starEach [] X.env))) _ _ s
  refine Calls.spliced_cons (thn (gen_made hr TB hcode S hi hgt helt hs I h) fun u s1 hR => ?_)
  obtain ⟨X', fp, go, gn, tn, Pv, m, hP, hw, rfl, hg1, hl1, hgen, hgoes, hback⟩ := hR
  refine Calls.spliced_nil ?_
  refine call_function_tree F.kind_any F.plain_any F.entry_any (F.args_any1 _) ?_
  unfold Builtin.«any»
  refine wpAny_bind (m := oneArg "any" _) (wpAny_pure ?_)
  refine wpAny_bind (wpAny_pyIter_gen hg1 ?_)
  rw [← hP, ← hw] at hgoes ⊢
  refine wpAny_pure ⟨plainId_quiet F.plain_any_loop _, any_loop (Qe := Q (.bl false)) (Qs := Q (.bl true)) hr.hd (by have := hr.dp; omega) hgen (fun s' σ' H' I' q => ?_) (fun s' σ' H' I' q => ?_) m s1 hg1 hl1 hgoes⟩
  · exact ⟨.bl false, H', hback _ _ _ I', rfl, q⟩
  · exact ⟨.bl true, H', hback _ _ _ I', rfl, q⟩
end
end Gx

/-! Plain data of any depth, and how a heap holds it. -/
namespace Dv
open PySem PySem.Spec PyProof.Rows L2 GxR Gx

inductive D where
  | non | bl (b : Bool) | int (i : Int) | str (s : Str) | tup (ds : List D)

section
variable (K : PySem.W.Frag) (H : Hp)
mutual
def At : V → D → Prop
  | v, .non => v = .non
  | v, .bl b => v = .bl b
  | v, .int i => v = .int i
  | v, .str s => v = .str s
  | v, .tup ds => ∃ a xs, v = .ref a ∧ SqT K H a xs ∧ Ats xs ds
def Ats : List V → List D → Prop
  | xs, [] => xs = []
  | xs, d :: ds => ∃ x r, xs = x :: r ∧ At x d ∧ Ats r ds
end
end

/-- H' is H but for what is new, the lists at ms, and tables, which may grow -/
structure Ex (T ms : List Addr) (H H' : Hp) : Prop where
  keep : ∀ b o, b ∉ ms → H b = some o → (∀ ps, o ≠ .tbl ps) → H' b = some o
  tups : ∀ b xs, Rd H b (.tup xs) → Rd H' b (.tup xs)
  tabs : (∀ P ∈ T, TabG H P) → ∀ P ∈ T, TabG H' P
  there : ∀ b o, H b = some o → ∃ o', H' b = some o'

section
variable {K : PySem.W.Frag} {T ms : List Addr} {H H1 H2 H' : Hp}
theorem Ex.refl : Ex T ms H H := ⟨fun _ _ _ h _ => h, fun _ _ h => h, fun h => h, fun _ o h => ⟨o, h⟩⟩
theorem Ex.trans (a : Ex T ms H H1) (b : Ex T ms H1 H2) : Ex T ms H H2 :=
  ⟨fun c o n h t => b.keep c o n (a.keep c o n h t) t, fun c xs h => b.tups c xs (a.tups c xs h), fun h => b.tabs (a.tabs h), fun c o h => let ⟨o', e⟩ := a.there c o h; b.there c o' e⟩
theorem Ex.mono {ms' : List Addr} (a : Ex T ms H H1) (h : ∀ b ∈ ms, b ∈ ms') : Ex T ms' H H1 :=
  ⟨fun c o n q t => a.keep c o (fun z => n (h c z)) q t, a.tups, a.tabs, a.there⟩
theorem Ex.nil (a : Ex T [] H H1) : Ex T ms H H1 := a.mono fun _ h => by cases h
theorem tabG_upd {P p : Addr} {o : HO} (h : TabG H P) (n : P ≠ p) : TabG (upd H p o) P := by
  obtain ⟨ps, e, t⟩ := h
  exact ⟨ps, by rw [upd_ne n]; exact e, t⟩
theorem rd_upd {b p : Addr} {xs : List V} {o : HO} (h : Rd H b (.tup xs)) (n : b ≠ p) : Rd (upd H p o) b (.tup xs) := by
  rcases h with h | ⟨ob, h⟩
  · exact .inl (by rw [upd_ne n]; exact h)
  · exact .inr ⟨ob, by rw [upd_ne n]; exact h⟩
theorem rd_ne {b p : Addr} {xs : List V} (h : Rd H b (.tup xs)) (n : H p = none) : b ≠ p := by
  rcases h with h | ⟨ob, h⟩
  · exact ne_of_none h n
  · exact ne_of_none h n
/-- a new object -/
theorem upd_there {p b : Addr} {o u : HO} (h : H b = some u) : ∃ o', upd H p o b = some o' := by
  by_cases e : b = p
  · exact ⟨o, by rw [e, upd_same]⟩
  · exact ⟨u, by rw [upd_ne e]; exact h⟩
theorem Ex.new {p : Addr} {o : HO} (n : H p = none) : Ex T ms H (upd H p o) := by
  refine ⟨fun b u _ h _ => by rw [upd_ne (ne_of_none h n)]; exact h, fun b xs h => rd_upd h (rd_ne h n), fun h P hP => ?_, fun b u h => upd_there h⟩
  obtain ⟨ps, e, t⟩ := h P hP
  exact tabG_upd ⟨ps, e, t⟩ (ne_of_none e n)
/-- an object that was new is written again -/
theorem Ex.put {p : Addr} {o : HO} (a : Ex T ms H H1) (n : H p = none) (hT : ∀ P ∈ T, TabG H P) : Ex T ms H (upd H1 p o) := by
  refine ⟨fun b u m h t => by rw [upd_ne (ne_of_none h n)]; exact a.keep b u m h t, fun b xs h => rd_upd (a.tups b xs h) (rd_ne h n), fun h P hP => ?_, fun b u h => let ⟨_, e⟩ := a.there b u h; upd_there e⟩
  obtain ⟨ps, e, t⟩ := hT P hP
  exact tabG_upd (a.tabs h P hP) (ne_of_none e n)
/-- a list at ms is written -/
theorem Ex.write {m : Addr} {o : HO} {xs : List V} (hm : m ∈ ms) (h : H m = some (.lst xs)) : Ex T ms H (upd H m o) := by
  refine ⟨fun b u n e t => by rw [upd_ne (fun z => n (by rw [z]; exact hm))]; exact e, fun b ys e => ?_, fun hh P hP => ?_, fun b u h => upd_there h⟩
  · have nb : b ≠ m := fun z => by
      subst z
      rcases e with e | ⟨ob, e⟩ <;> (rw [h] at e; cases e)
    exact rd_upd e nb
  · obtain ⟨ps, e, t⟩ := hh P hP
    exact tabG_upd ⟨ps, e, t⟩ (fun z => by subst z; rw [h] at e; cases e)
/-- a table has grown -/
theorem Ex.tab {P : Addr} (h : TabG H P) (t : Tabbed P H H') : Ex T ms H H' := by
  obtain ⟨⟨ps, e, _⟩, ht⟩ := And.intro h t
  refine ⟨fun b o _ q n => ?_, fun b xs q => ?_, fun hh Q hQ => ?_, fun b o q => ?_⟩
  · rw [ht.2 b fun z => by subst z; rw [e] at q; cases q; exact n _ rfl]; exact q
  · have nb : b ≠ P := fun z => by
      subst z
      rcases q with q | ⟨ob, q⟩ <;> (rw [e] at q; cases q)
    rcases q with q | ⟨ob, q⟩
    · exact .inl (by rw [ht.2 b nb]; exact q)
    · exact .inr ⟨ob, by rw [ht.2 b nb]; exact q⟩
  · by_cases z : Q = P
    · rw [z]; exact ht.1
    · obtain ⟨ps', e', t'⟩ := hh Q hQ
      exact ⟨ps', by rw [ht.2 Q z]; exact e', t'⟩
  · by_cases z : b = P
    · obtain ⟨ps', e', _⟩ := ht.1
      exact ⟨_, by rw [z]; exact e'⟩
    · exact ⟨o, by rw [ht.2 b z]; exact q⟩
/-- what is new behind is new ahead -/
theorem Ex.free {p : Addr} (a : Ex T ms H H1) (n : H1 p = none) : H p = none := by
  cases e : H p with
  | none => rfl
  | some o =>
    obtain ⟨o', e'⟩ := a.there p o e
    rw [n] at e'; cases e'
theorem Ex.sqT (a : Ex T ms H H1) {b : Addr} {xs : List V} (h : SqT K H b xs) : SqT K H1 b xs := h.imp (a.tups b xs) id
theorem Ex.sqL (a : Ex T ms H H1) {b : Addr} {xs : List V} (n : b ∉ ms) (h : SqL K H b xs) : SqL K H1 b xs := by
  refine h.imp (fun z => ?_) id
  rcases z with z | ⟨o, z⟩
  · exact .inl (a.keep _ _ n z fun ps e => by cases e)
  · exact .inr ⟨o, a.keep _ _ n z fun ps e => by cases e⟩

mutual
theorem At.ext (a : Ex T ms H H1) : ∀ {v : V} {d : D}, At K H v d → At K H1 v d
  | v, .non, h => by unfold At at h ⊢; exact h
  | v, .bl b, h => by unfold At at h ⊢; exact h
  | v, .int i, h => by unfold At at h ⊢; exact h
  | v, .str s, h => by unfold At at h ⊢; exact h
  | v, .tup ds, h => by
    unfold At at h ⊢
    obtain ⟨p, xs, e, q, r⟩ := h
    exact ⟨p, xs, e, a.sqT q, Ats.ext a r⟩
theorem Ats.ext (a : Ex T ms H H1) : ∀ {xs : List V} {ds : List D}, Ats K H xs ds → Ats K H1 xs ds
  | xs, [], h => by unfold Ats at h ⊢; exact h
  | xs, d :: ds, h => by
    unfold Ats at h ⊢
    obtain ⟨x, r, e, q, t⟩ := h
    exact ⟨x, r, e, At.ext a q, Ats.ext a t⟩
end
theorem at_non {v : V} : At K H v .non ↔ v = .non := by unfold At; exact Iff.rfl
theorem at_bl {v : V} {b : Bool} : At K H v (.bl b) ↔ v = .bl b := by unfold At; exact Iff.rfl
theorem at_int {v : V} {i : Int} : At K H v (.int i) ↔ v = .int i := by unfold At; exact Iff.rfl
theorem at_str {v : V} {s : Str} : At K H v (.str s) ↔ v = .str s := by unfold At; exact Iff.rfl
theorem at_tup {v : V} {ds : List D} : At K H v (.tup ds) ↔ ∃ a xs, v = .ref a ∧ SqT K H a xs ∧ Ats K H xs ds := by
  constructor
  · intro h; unfold At at h; exact h
  · intro h; unfold At; exact h
theorem ats_nil {xs : List V} : Ats K H xs [] ↔ xs = [] := by unfold Ats; exact Iff.rfl
theorem ats_cons {xs : List V} {d : D} {ds : List D} : Ats K H xs (d :: ds) ↔ ∃ x r, xs = x :: r ∧ At K H x d ∧ Ats K H r ds := by
  constructor
  · intro h; unfold Ats at h; exact h
  · intro h; unfold Ats; exact h
theorem Ats.mk_nil : Ats K H [] [] := ats_nil.mpr rfl
theorem Ats.mk {x : V} {d : D} {xs : List V} {ds : List D} (h : At K H x d) (t : Ats K H xs ds) : Ats K H (x :: xs) (d :: ds) := ats_cons.mpr ⟨x, xs, rfl, h, t⟩
theorem Ats.length : ∀ {xs : List V} {ds : List D}, Ats K H xs ds → xs.length = ds.length
  | xs, [], h => by rw [ats_nil.mp h]; rfl
  | xs, d :: ds, h => by
    obtain ⟨x, r, rfl, _, t⟩ := ats_cons.mp h
    rw [List.length_cons, List.length_cons, t.length]
theorem Ats.get : ∀ {xs : List V} {ds : List D} {i : Nat} {d : D}, Ats K H xs ds → ds[i]? = some d → ∃ x, xs[i]? = some x ∧ At K H x d
  | xs, [], i, d, h, e => by simp at e
  | xs, d' :: ds, 0, d, h, e => by
    obtain ⟨x, r, rfl, q, _⟩ := ats_cons.mp h
    obtain rfl : d' = d := by simpa using e
    exact ⟨x, rfl, q⟩
  | xs, d' :: ds, i + 1, d, h, e => by
    obtain ⟨x, r, rfl, _, t⟩ := ats_cons.mp h
    obtain ⟨y, h1, h2⟩ := t.get (i := i) (d := d) (by simpa using e)
    exact ⟨y, by simpa using h1, h2⟩
theorem Ats.get' {xs : List V} {ds : List D} {i : Nat} {x : V} (h : Ats K H xs ds) (e : xs[i]? = some x) : ∃ d, ds[i]? = some d ∧ At K H x d := by
  have hl := h.length
  have hi : i < ds.length := by rw [← hl]; exact (List.getElem?_eq_some_iff.mp e).1
  obtain ⟨y, h1, h2⟩ := h.get (List.getElem?_eq_getElem hi)
  rw [e] at h1; cases h1
  exact ⟨_, List.getElem?_eq_getElem hi, h2⟩
theorem Ats.append : ∀ {xs ys : List V} {ds es : List D}, Ats K H xs ds → Ats K H ys es → Ats K H (xs ++ ys) (ds ++ es)
  | xs, ys, [], es, h, t => by rw [ats_nil.mp h]; exact t
  | xs, ys, d :: ds, es, h, t => by
    obtain ⟨x, r, rfl, q, s⟩ := ats_cons.mp h
    exact Ats.mk q (Ats.append s t)
theorem Ats.of_forall : ∀ {xs : List V} {ds : List D}, xs.length = ds.length → (∀ (i : Nat) (x : V) (d : D), xs[i]? = some x → ds[i]? = some d → At K H x d) → Ats K H xs ds
  | [], [], _, _ => Ats.mk_nil
  | x :: xs, d :: ds, hl, h => Ats.mk (h 0 x d rfl rfl) (Ats.of_forall (by simpa using hl) fun i x d h1 h2 => h (i + 1) x d (by simpa using h1) (by simpa using h2))
/-- a new tuple of data -/
theorem At.new {p : Addr} {xs : List V} {ds : List D} (h : H p = some (.tup xs)) (r : Ats K H xs ds) : At K H (.ref p) (.tup ds) := at_tup.mpr ⟨p, xs, rfl, SqT.of h, r⟩
/-- laid at p over H -/
theorem At.laid {p : Addr} {xs : List V} {ds : List D} (n : H p = none) (r : Ats K H xs ds) : At K (upd H p (.tup xs)) (.ref p) (.tup ds) :=
  At.new upd_same (Ats.ext (T := []) (ms := []) (Ex.new n) r)
theorem At.t1 {v : V} {d1 : D} (h : At K H v (.tup [d1])) : ∃ a x1, v = .ref a ∧ SqT K H a [x1] ∧ At K H x1 d1 := by
  obtain ⟨a, xs, rfl, q, r⟩ := at_tup.mp h
  obtain ⟨x1, _, rfl, h1, r⟩ := ats_cons.mp r
  cases ats_nil.mp r
  exact ⟨a, x1, rfl, q, h1⟩
theorem At.t2 {v : V} {d1 d2 : D} (h : At K H v (.tup [d1, d2])) : ∃ a x1 x2, v = .ref a ∧ SqT K H a [x1, x2] ∧ At K H x1 d1 ∧ At K H x2 d2 := by
  obtain ⟨a, xs, rfl, q, r⟩ := at_tup.mp h
  obtain ⟨x1, _, rfl, h1, r⟩ := ats_cons.mp r
  obtain ⟨x2, _, rfl, h2, r⟩ := ats_cons.mp r
  cases ats_nil.mp r
  exact ⟨a, x1, x2, rfl, q, h1, h2⟩
theorem At.t3 {v : V} {d1 d2 d3 : D} (h : At K H v (.tup [d1, d2, d3])) : ∃ a x1 x2 x3, v = .ref a ∧ SqT K H a [x1, x2, x3] ∧ At K H x1 d1 ∧ At K H x2 d2 ∧ At K H x3 d3 := by
  obtain ⟨a, xs, rfl, q, r⟩ := at_tup.mp h
  obtain ⟨x1, _, rfl, h1, r⟩ := ats_cons.mp r
  obtain ⟨x2, _, rfl, h2, r⟩ := ats_cons.mp r
  obtain ⟨x3, _, rfl, h3, r⟩ := ats_cons.mp r
  cases ats_nil.mp r
  exact ⟨a, x1, x2, x3, rfl, q, h1, h2, h3⟩
theorem At.t4 {v : V} {d1 d2 d3 d4 : D} (h : At K H v (.tup [d1, d2, d3, d4])) : ∃ a x1 x2 x3 x4, v = .ref a ∧ SqT K H a [x1, x2, x3, x4] ∧ At K H x1 d1 ∧ At K H x2 d2 ∧ At K H x3 d3 ∧ At K H x4 d4 := by
  obtain ⟨a, xs, rfl, q, r⟩ := at_tup.mp h
  obtain ⟨x1, _, rfl, h1, r⟩ := ats_cons.mp r
  obtain ⟨x2, _, rfl, h2, r⟩ := ats_cons.mp r
  obtain ⟨x3, _, rfl, h3, r⟩ := ats_cons.mp r
  obtain ⟨x4, _, rfl, h4, r⟩ := ats_cons.mp r
  cases ats_nil.mp r
  exact ⟨a, x1, x2, x3, x4, rfl, q, h1, h2, h3, h4⟩
end

/-! ### conditions -/
inductive C where
  | tru | fls | less (a b : Int) | same (a b : Int) | emp (a : Int) | nt (c : C) | all (cs : List C) | any (cs : List C)
mutual
def encC : C → D
  | .tru => .tup [.str "true"]
  | .fls => .tup [.str "false"]
  | .less a b => .tup [.str "less", .int a, .int b]
  | .same a b => .tup [.str "same", .int a, .int b]
  | .emp a => .tup [.str "empty", .int a]
  | .nt c => .tup [.str "not", encC c]
  | .all cs => .tup [.str "all", .tup (encCs cs)]
  | .any cs => .tup [.str "any", .tup (encCs cs)]
def encCs : List C → List D
  | [] => []
  | c :: cs => encC c :: encCs cs
end
theorem encCs_length : ∀ cs : List C, (encCs cs).length = cs.length
  | [] => by unfold encCs; rfl
  | c :: cs => by unfold encCs; rw [List.length_cons, List.length_cons, encCs_length cs]
theorem encCs_get : ∀ (cs : List C) (i : Nat), (encCs cs)[i]? = (cs[i]?).map encC
  | [], i => by unfold encCs; simp
  | c :: cs, 0 => by unfold encCs; simp
  | c :: cs, i + 1 => by
    unfold encCs
    rw [List.getElem?_cons_succ, List.getElem?_cons_succ]
    exact encCs_get cs i
def worth (v : Int) (h : List (Option Int)) (p : Int) : Option Int := if p = -1 then some v else if p = -2 then none else (h[p.toNat]?).getD none
def ltO : Option Int → Option Int → Bool
  | some x, some y => decide (x < y)
  | _, _ => false
def eqO : Option Int → Option Int → Bool
  | some x, some y => decide (x = y)
  | _, _ => false
mutual
def hold (v : Int) (h : List (Option Int)) : C → Bool
  | .tru => true
  | .fls => false
  | .less a b => ltO (worth v h a) (worth v h b)
  | .same a b => eqO (worth v h a) (worth v h b)
  | .emp a => (worth v h a).isNone
  | .nt c => !hold v h c
  | .all cs => holdA v h cs
  | .any cs => holdE v h cs
def holdA (v : Int) (h : List (Option Int)) : List C → Bool
  | [] => true
  | c :: cs => hold v h c && holdA v h cs
def holdE (v : Int) (h : List (Option Int)) : List C → Bool
  | [] => false
  | c :: cs => hold v h c || holdE v h cs
end
/-- places below r; depth at most n -/
def plOk (r : Nat) (p : Int) : Prop := -1 ≤ p ∧ p < r
mutual
def okC (r : Nat) : Nat → C → Prop
  | _, .tru => True
  | _, .fls => True
  | _, .less a b => plOk r a ∧ plOk r b
  | _, .same a b => plOk r a ∧ plOk r b
  | _, .emp a => plOk r a
  | 0, .nt _ => False
  | n + 1, .nt c => okC r n c
  | 0, .all _ => False
  | n + 1, .all cs => cs.length ≤ 100000 ∧ okCs r n cs
  | 0, .any _ => False
  | n + 1, .any cs => cs.length ≤ 100000 ∧ okCs r n cs
def okCs (r : Nat) : Nat → List C → Prop
  | _, [] => True
  | n, c :: cs => okC r n c ∧ okCs r n cs
end

/-- a def whose code object stands at c -/
structure FunT (K : PySem.W.Frag) (x qual : Str) (st : Stmt) (f : Addr) (fd : FuncData) (c : Addr) : Prop where
  ex : ∃ (oc : Value) (od : Option Addr) (kV doc pm : Value) (an : Option Addr) (ct : Value) (osl : Array (Option Value)),
    fd = PySem.W.fnOf x qual (defArgs st) (defBody st) (defScope st) .none kV doc pm an (.ref c) ct ∧ K.lookup f = some ⟨oc, od, .func fd, osl⟩ ∧ PySem.W.codeIn K (.ref c) qual = true
  kp : PySem.W.keepIn K (.ref f) = true
section
variable {P : Program} {w : World} {K : PySem.W.Frag} {mg : Str → Option Value} {base : Heap}
theorem FunT.ok {x qual : Str} {st : Stmt} {f c : Addr} {fd : FuncData} {N ps : List Str} {k : Nat} {sp : Sp} (F : FunT K x qual st f fd c) (S : FnScope N ps (defScope st)) (len : ∀ vs H Q E, sp vs H Q E → vs.length = ps.length)
    (hbody : ∀ (A : Around) (outer : List Env) (s : Shared) (H : Hp) (vs : List V) (Q : VK) (E : XK), Room k (A.deeper (envOfC qual (defScope st) s.heap.objs.size f (.ref c))) → sp vs H Q E →
      ∃ t, PSs (cxOf CX0 P w K mg base N qual (defScope st) f (.ref c) A outer s H E).nox (defBody st) t ∧ t { nx := fun _ H' => Q .non H', rt := Q } (start N vs) H) : FnOk P w K mg base CX0 (k + 1) f fd ps sp := by
  obtain ⟨oc, od, kV, doc, pm, an, ct, osl, rfl, lk, hcd⟩ := F.ex
  refine fn_of lk hcd S len fun A outer s H vs Q E hr hsp => ?_
  obtain ⟨t, h, q⟩ := hbody A outer s H vs Q E hr hsp
  exact ⟨t, h.nox, q⟩
theorem FunT.fn {x qual : Str} {st : Stmt} {f c : Addr} {fd : FuncData} (F : FunT K x qual st f fd c) : Fun K x qual st f fd := by
  obtain ⟨oc, od, kV, doc, pm, an, ct, osl, h⟩ := F.ex
  exact ⟨⟨oc, od, kV, doc, pm, an, .ref c, ct, osl, h⟩, F.kp⟩
theorem funT_mk {x qual : Str} {st : Stmt} {f c : Addr} {oc : Value} {od an : Option Addr} {osl : Array (Option Value)} {kV doc pm ct : Value} (l : K.lookup f = some ⟨oc, od, .func (PySem.W.fnOf x qual (defArgs st) (defBody st) (defScope st) .none kV doc pm an (.ref c) ct), osl⟩)
    (cc : PySem.W.codeIn K (.ref c) qual = true) (k : PySem.W.keepIn K (.ref f) = true) : FunT K x qual st f (PySem.W.fnOf x qual (defArgs st) (defBody st) (defScope st) .none kV doc pm an (.ref c) ct) c := ⟨⟨oc, od, kV, doc, pm, an, ct, osl, rfl, l, cc⟩, k⟩
end

/-- the tables stand -/
def Wd (T : List Addr) (H : Hp) : Prop := ∀ P ∈ T, TabG H P
theorem Ex.wd {T ms : List Addr} {H H1 : Hp} (a : Ex T ms H H1) (h : Wd T H) : Wd T H1 := a.tabs h

/-! ### held values -/
def oV : Option Int → V
  | none => .non
  | some i => .int i
def encO : Option Int → D
  | none => .non
  | some i => .int i
def encH (h : List (Option Int)) : D := .tup (h.map encO)
theorem at_encO {K : PySem.W.Frag} {H : Hp} {v : V} {o : Option Int} : At K H v (encO o) ↔ v = oV o := by
  cases o with
  | none => exact at_non
  | some i => exact at_int
theorem ats_encO {K : PySem.W.Frag} {H : Hp} : ∀ {xs : List V} {h : List (Option Int)}, Ats K H xs (h.map encO) ↔ xs = h.map oV
  | xs, [] => ats_nil
  | xs, o :: h => by
    rw [List.map_cons, ats_cons, List.map_cons]
    constructor
    · rintro ⟨x, r, rfl, h1, h2⟩
      rw [at_encO.mp h1, ats_encO.mp h2]
    · rintro rfl
      exact ⟨_, _, rfl, at_encO.mpr rfl, ats_encO.mpr rfl⟩
theorem at_encH {K : PySem.W.Frag} {H : Hp} {v : V} {h : List (Option Int)} : At K H v (encH h) ↔ ∃ a, v = .ref a ∧ SqT K H a (h.map oV) := by
  unfold encH
  rw [at_tup]
  constructor
  · rintro ⟨a, xs, rfl, q, r⟩
    rw [ats_encO.mp r] at q
    exact ⟨a, rfl, q⟩
  · rintro ⟨a, rfl, q⟩
    exact ⟨a, _, rfl, q, ats_encO.mpr rfl⟩
theorem worth_new (v : Int) (h : List (Option Int)) : worth v h (-1) = some v := rfl
theorem worth_nothing (v : Int) (h : List (Option Int)) : worth v h (-2) = none := rfl
theorem worth_at {v : Int} {h : List (Option Int)} {p : Int} (h0 : 0 ≤ p) : worth v h p = (h[p.toNat]?).getD none := by
  unfold worth
  rw [if_neg (by omega), if_neg (by omega)]
theorem oV_at {v : Int} {h : List (Option Int)} {p : Int} (h0 : 0 ≤ p) (h1 : p < h.length) : atI (h.map oV) p = some (oV (worth v h p)) := by
  have hk : p.toNat < h.length := by omega
  have ek : p = ((p.toNat : Nat) : Int) := by omega
  rw [worth_at h0, List.getElem?_eq_getElem hk]
  have q : atI (h.map oV) ((p.toNat : Nat) : Int) = some (oV h[p.toNat]) := atI_nat (by rw [List.getElem?_map, List.getElem?_eq_getElem hk]; rfl)
  rw [← ek] at q
  exact q

theorem ifStrNe {x y : Str} {A B : Prop} (h : x ≠ y) (b : B) : if decide (V.str x = V.str y) = true then A else B := by
  rw [decide_eq_false (fun e => h (V.str.inj e)), if_neg Bool.false_ne_true]
  exact b
theorem ifStrEq {x : Str} {A B : Prop} (a : A) : if decide (V.str x = V.str x) = true then A else B := by
  rw [decide_eq_true rfl, if_pos rfl]
  exact a
theorem decStr {x y : Str} : decide (V.str x = V.str y) = decide (x = y) := by
  by_cases h : x = y
  · rw [h, decide_eq_true rfl, decide_eq_true rfl]
  · rw [decide_eq_false h, decide_eq_false fun e => h (V.str.inj e)]
theorem holdA_cons (v : Int) (h : List (Option Int)) (c : C) (cs : List C) : holdA v h (c :: cs) = (hold v h c && holdA v h cs) := by
  conv => lhs; unfold holdA
theorem holdE_cons (v : Int) (h : List (Option Int)) (c : C) (cs : List C) : holdE v h (c :: cs) = (hold v h c || holdE v h cs) := by
  conv => lhs; unfold holdE
theorem okCs_get {r n : Nat} : ∀ {cs : List C} {i : Nat} {c : C}, okCs r n cs → cs[i]? = some c → okC r n c
  | [], i, c, h, e => by simp at e
  | c' :: cs, 0, c, h, e => by
    unfold okCs at h
    obtain rfl : c' = c := by simpa using e
    exact h.1
  | c' :: cs, i + 1, c, h, e => by
    unfold okCs at h
    exact okCs_get h.2 (by simpa using e)
/-- the parts of a condition, in a tuple -/
theorem part_at {K : PySem.W.Frag} {H : Hp} {xs : List V} {cs : List C} {i : Nat} (h : Ats K H xs (encCs cs)) (hi : i < cs.length) : ∃ x, xs[i]? = some x ∧ At K H x (encC cs[i]) :=
  h.get (by rw [encCs_get, List.getElem?_eq_getElem hi]; rfl)

/-- a list of ints that is drawn from -/
def Dr (H : Hp) (dr : Addr) : Prop := ∃ ds : List Int, H dr = some (.lst (ds.map V.int))
theorem small5000 {n : Nat} (h : n ≤ 5000) : n < sizeLine := Nat.lt_of_le_of_lt h (by decide)
theorem iv_set {ns : List Int} {j : Nat} {z : Int} : (ns.map V.int).set j (.int z) = (ns.set j z).map V.int := by rw [List.map_set]
theorem iv_snoc {ns : List Int} {z : Int} : ns.map V.int ++ [.int z] = (ns ++ [z]).map V.int := by rw [List.map_append]; rfl
theorem iv_at {ns : List Int} {k : Int} (h0 : 0 ≤ k) (h1 : k < ns.length) : atI (ns.map V.int) k = some (.int (ns.getD k.toNat 0)) := by
  have hk : k.toNat < ns.length := by omega
  have ek : k = ((k.toNat : Nat) : Int) := by omega
  have q : atI (ns.map V.int) ((k.toNat : Nat) : Int) = some (.int ns[k.toNat]) := atI_nat (by rw [List.getElem?_map, List.getElem?_eq_getElem hk]; rfl)
  rw [← ek] at q
  rw [q, List.getD_eq_getElem?_getD, List.getElem?_eq_getElem hk]
  rfl
theorem ix_nat {n : Nat} {i : Int} (h0 : 0 ≤ i) (h1 : i < n) : ixN n i = some i.toNat := by
  unfold ixN
  rw [if_pos h0, if_pos h1]

theorem yesIf {σ : L2.St} {H : Hp} {A B : Hp → Prop} (h : A H) : tYes σ H (fun b H3 => if b = true then A H3 else B H3) := by
  show (if true = true then A H else B H)
  rw [if_pos rfl]
  exact h

/-- an item of a written menu -/
theorem menu_at {xs : List V} {x : Int} (h0 : 0 ≤ x) (h1 : x < xs.length) : ∃ v, v ∈ xs ∧ atI xs x = some v := by
  have hk : x.toNat < xs.length := by omega
  have ek : x = ((x.toNat : Nat) : Int) := by omega
  have q : atI xs ((x.toNat : Nat) : Int) = some xs[x.toNat] := atI_nat (List.getElem?_eq_getElem hk)
  rw [← ek] at q
  exact ⟨_, List.getElem_mem hk, q⟩
def tyN : D → String
  | .non => "NoneType"
  | .bl _ => "bool"
  | .int _ => "int"
  | .str _ => "str"
  | .tup _ => "tuple"
theorem ty_sqT {K : PySem.W.Frag} {H : Hp} {a : Addr} {xs : List V} (h : SqT K H a xs) : TyX K H (.ref a) (.type "tuple") := by
  rcases h with (h | ⟨o, h⟩) | ⟨o, its, n, h, c, _⟩
  · exact .base (.tup h)
  · exact .fTuple h
  · exact .kTuple h c
theorem ty_at {K : PySem.W.Frag} {H : Hp} {v : V} {d : D} (h : At K H v d) : TyX K H v (.type (tyN d)) := by
  cases d with
  | non => rw [at_non.mp h]; exact .base .non
  | bl b => rw [at_bl.mp h]; exact .base (.bl b)
  | int i => rw [at_int.mp h]; exact .base (.int i)
  | str x => rw [at_str.mp h]; exact .base (.str x)
  | tup ds =>
    obtain ⟨a, xs, rfl, q, _⟩ := at_tup.mp h
    exact ty_sqT q
mutual
def okD : Nat → D → Prop
  | 0, .tup _ => False
  | n + 1, .tup ds => ds.length ≤ 100000 ∧ okDs n ds
  | _, _ => True
def okDs : Nat → List D → Prop
  | _, [] => True
  | n, d :: ds => okD n d ∧ okDs n ds
end
theorem okDs_get {n : Nat} : ∀ {ds : List D} {i : Nat} {d : D}, okDs n ds → ds[i]? = some d → okD n d
  | [], i, d, h, e => by simp at e
  | d' :: ds, 0, d, h, e => by
    unfold okDs at h
    obtain rfl : d' = d := by simpa using e
    exact h.1
  | d' :: ds, i + 1, d, h, e => by
    unfold okDs at h
    exact okDs_get h.2 (by simpa using e)
theorem nat_at {xs : List V} {i : Nat} {x : V} (h : xs[i]? = some x) : atI xs (0 + (i : Int)) = some x := by
  rw [Int.zero_add]
  exact atI_nat h

theorem inV_true : ∀ bs : List Bool, inV (.bl true) (bs.map V.bl) = bs.any id
  | [] => rfl
  | b :: bs => by
    show (eqV (.bl b) (.bl true) || inV (.bl true) (bs.map V.bl)) = (id b || bs.any id)
    rw [inV_true bs]
    cases b <;> rfl
theorem inV_false : ∀ bs : List Bool, inV (.bl false) (bs.map V.bl) = !bs.all id
  | [] => rfl
  | b :: bs => by
    show (eqV (.bl b) (.bl false) || inV (.bl false) (bs.map V.bl)) = !(id b && bs.all id)
    rw [inV_false bs]
    cases b <;> simp [eqV]
theorem flat_bls : ∀ bs : List Bool, (bs.map V.bl).all flatV = true
  | [] => rfl
  | _ :: bs => flat_bls bs
theorem holdE_any (v : Int) (h : List (Option Int)) : ∀ cs : List C, (cs.map (hold v h)).any id = holdE v h cs
  | [] => by unfold holdE; rfl
  | c :: cs => by rw [holdE_cons, List.map_cons, List.any_cons, holdE_any v h cs]; rfl
theorem holdA_all (v : Int) (h : List (Option Int)) : ∀ cs : List C, (cs.map (hold v h)).all id = holdA v h cs
  | [] => by unfold holdA; rfl
  | c :: cs => by rw [holdA_cons, List.map_cons, List.all_cons, holdA_all v h cs]; rfl

mutual
theorem okC_succ {r : Nat} : ∀ {n : Nat} {c : C}, okC r n c → okC r (n + 1) c
  | _, .tru, _ => by unfold okC; trivial
  | _, .fls, _ => by unfold okC; trivial
  | _, .less a b, h => by unfold okC at h ⊢; exact h
  | _, .same a b, h => by unfold okC at h ⊢; exact h
  | _, .emp a, h => by unfold okC at h ⊢; exact h
  | 0, .nt c, h => by unfold okC at h; exact h.elim
  | n + 1, .nt c, h => by unfold okC at h ⊢; exact okC_succ h
  | 0, .all cs, h => by unfold okC at h; exact h.elim
  | n + 1, .all cs, h => by unfold okC at h ⊢; exact ⟨h.1, okCs_succ h.2⟩
  | 0, .any cs, h => by unfold okC at h; exact h.elim
  | n + 1, .any cs, h => by unfold okC at h ⊢; exact ⟨h.1, okCs_succ h.2⟩
theorem okCs_succ {r : Nat} : ∀ {n : Nat} {cs : List C}, okCs r n cs → okCs r (n + 1) cs
  | _, [], _ => by unfold okCs; trivial
  | n, c :: cs, h => by unfold okCs at h ⊢; exact ⟨okC_succ h.1, okCs_succ h.2⟩
end
theorem okC_mono {r n n' : Nat} {c : C} (h : okC r n c) (l : n ≤ n') : okC r n' c := by
  induction l with
  | refl => exact h
  | step _ ih => exact okC_succ ih
theorem okC_less {r n : Nat} {a b : Int} (ha : plOk r a) (hb : plOk r b) : okC r n (.less a b) := by unfold okC; exact ⟨ha, hb⟩
theorem okC_same {r n : Nat} {a b : Int} (ha : plOk r a) (hb : plOk r b) : okC r n (.same a b) := by unfold okC; exact ⟨ha, hb⟩
theorem okC_emp {r n : Nat} {a : Int} (ha : plOk r a) : okC r n (.emp a) := by unfold okC; exact ha
theorem okC_tru {r n : Nat} : okC r n .tru := by unfold okC; trivial
theorem okC_fls {r n : Nat} : okC r n .fls := by unfold okC; trivial
theorem okC_nt {r n : Nat} {c : C} (h : okC r n c) : okC r (n + 1) (.nt c) := by unfold okC; exact h
theorem okC_all {r n : Nat} {cs : List C} (l : cs.length ≤ 100000) (h : okCs r n cs) : okC r (n + 1) (.all cs) := by unfold okC; exact ⟨l, h⟩
theorem okC_any {r n : Nat} {cs : List C} (l : cs.length ≤ 100000) (h : okCs r n cs) : okC r (n + 1) (.any cs) := by unfold okC; exact ⟨l, h⟩
theorem okCs_nil {r n : Nat} : okCs r n [] := by unfold okCs; trivial
theorem okCs_cons {r n : Nat} {c : C} {cs : List C} (h : okC r n c) (t : okCs r n cs) : okCs r n (c :: cs) := by unfold okCs; exact ⟨h, t⟩
theorem okCs_snoc {r n : Nat} : ∀ {cs : List C} {c : C}, okCs r n cs → okC r n c → okCs r n (cs ++ [c])
  | [], c, _, h => okCs_cons h okCs_nil
  | c' :: cs, c, t, h => by
    unfold okCs at t
    exact okCs_cons t.1 (okCs_snoc t.2 h)
theorem encCs_snoc : ∀ (cs : List C) (c : C), encCs (cs ++ [c]) = encCs cs ++ [encC c]
  | [], c => by unfold encCs; simp [encCs]
  | c' :: cs, c => by
    show encCs (c' :: (cs ++ [c])) = encCs (c' :: cs) ++ [encC c]
    conv => lhs; unfold encCs
    conv => rhs; unfold encCs
    rw [encCs_snoc cs c]
    rfl
section
variable {K : PySem.W.Frag} {H : Hp} {p : Addr}
theorem at_less {v : V} {a b : Int} (h : At K H v (.tup [.str "less", .int a, .int b])) : At K H v (encC (.less a b)) := by unfold encC; exact h
theorem new_less {a b : Int} (n : H p = none) : At K (upd H p (.tup [.str "less", .int a, .int b])) (.ref p) (encC (.less a b)) := by
  unfold encC
  exact At.laid n (Ats.mk (at_str.mpr rfl) (Ats.mk (at_int.mpr rfl) (Ats.mk (at_int.mpr rfl) Ats.mk_nil)))
theorem new_same {a b : Int} (n : H p = none) : At K (upd H p (.tup [.str "same", .int a, .int b])) (.ref p) (encC (.same a b)) := by
  unfold encC
  exact At.laid n (Ats.mk (at_str.mpr rfl) (Ats.mk (at_int.mpr rfl) (Ats.mk (at_int.mpr rfl) Ats.mk_nil)))
theorem new_emp {a : Int} (n : H p = none) : At K (upd H p (.tup [.str "empty", .int a])) (.ref p) (encC (.emp a)) := by
  unfold encC
  exact At.laid n (Ats.mk (at_str.mpr rfl) (Ats.mk (at_int.mpr rfl) Ats.mk_nil))
theorem new_tru (n : H p = none) : At K (upd H p (.tup [.str "true"])) (.ref p) (encC .tru) := by
  unfold encC
  exact At.laid n (Ats.mk (at_str.mpr rfl) Ats.mk_nil)
theorem new_fls (n : H p = none) : At K (upd H p (.tup [.str "false"])) (.ref p) (encC .fls) := by
  unfold encC
  exact At.laid n (Ats.mk (at_str.mpr rfl) Ats.mk_nil)
theorem new_nt {v : V} {c : C} (n : H p = none) (h : At K H v (encC c)) : At K (upd H p (.tup [.str "not", v])) (.ref p) (encC (.nt c)) := by
  unfold encC
  exact At.laid n (Ats.mk (at_str.mpr rfl) (Ats.mk h Ats.mk_nil))
theorem new_all {v : V} {cs : List C} (n : H p = none) (h : At K H v (.tup (encCs cs))) : At K (upd H p (.tup [.str "all", v])) (.ref p) (encC (.all cs)) := by
  unfold encC
  exact At.laid n (Ats.mk (at_str.mpr rfl) (Ats.mk h Ats.mk_nil))
theorem new_any {v : V} {cs : List C} (n : H p = none) (h : At K H v (.tup (encCs cs))) : At K (upd H p (.tup [.str "any", v])) (.ref p) (encC (.any cs)) := by
  unfold encC
  exact At.laid n (Ats.mk (at_str.mpr rfl) (Ats.mk h Ats.mk_nil))
theorem ats_c1 {x : V} {c : C} (h : At K H x (encC c)) : Ats K H [x] (encCs [c]) := by
  unfold encCs encCs
  exact Ats.mk h Ats.mk_nil
theorem ats_c2 {x y : V} {c d : C} (h : At K H x (encC c)) (h2 : At K H y (encC d)) : Ats K H [x, y] (encCs [c, d]) := by
  unfold encCs encCs encCs
  exact Ats.mk h (Ats.mk h2 Ats.mk_nil)
end
theorem Dr.new {H : Hp} {dr p : Addr} {o : HO} (h : Dr H dr) (n : H p = none) : Dr (upd H p o) dr := by
  obtain ⟨ds, e⟩ := h
  exact ⟨ds, by rw [upd_ne (ne_of_none e n)]; exact e⟩
theorem Dr.put {H : Hp} {dr p : Addr} {o : HO} (h : Dr H dr) (n : dr ≠ p) : Dr (upd H p o) dr := by
  obtain ⟨ds, e⟩ := h
  exact ⟨ds, by rw [upd_ne n]; exact e⟩
theorem Dr.ne {H : Hp} {dr p : Addr} (h : Dr H dr) (n : H p = none) : p ≠ dr := by
  obtain ⟨ds, e⟩ := h
  exact (ne_of_none e n).symm
theorem Ex.lst {T ms : List Addr} {H H1 : Hp} (a : Ex T ms H H1) {p : Addr} {xs : List V} (n : p ∉ ms) (h : H p = some (.lst xs)) : H1 p = some (.lst xs) := a.keep p _ n h fun ps e => by cases e

theorem sqL_stay {K : PySem.W.Frag} {T : List Addr} {H0 H H' : Hp} {a dr : Addr} {xs : List V} (h : SqL K H0 a xs) (n : H0 dr = none) (e0 : Ex T [] H0 H) (e : Ex T [dr] H H') : SqL K H' a xs := by
  rcases h with h | h
  · have ne : a ≠ dr := by
      rcases h with h | ⟨o, h⟩
      · exact ne_of_none h n
      · exact ne_of_none h n
    exact e.sqL (by simpa using ne) (e0.sqL (by simp) (.inl h))
  · exact .inr h
theorem flat_rep {x : V} : ∀ n : Nat, (List.replicate n [x]).flatten = List.replicate n x
  | 0 => rfl
  | n + 1 => by rw [List.replicate_succ, List.flatten_cons, flat_rep n, List.replicate_succ]; rfl
theorem encCs_rep (c : C) : ∀ n : Nat, encCs (List.replicate n c) = List.replicate n (encC c)
  | 0 => by unfold encCs; rfl
  | n + 1 => by rw [List.replicate_succ, List.replicate_succ]; conv => lhs; unfold encCs; rw [encCs_rep c n]
theorem ats_rep {K : PySem.W.Frag} {H : Hp} {x : V} {d : D} (h : At K H x d) : ∀ n : Nat, Ats K H (List.replicate n x) (List.replicate n d)
  | 0 => Ats.mk_nil
  | n + 1 => by rw [List.replicate_succ, List.replicate_succ]; exact Ats.mk h (ats_rep h n)
theorem encCs_app : ∀ (cs ds : List C), encCs (cs ++ ds) = encCs cs ++ encCs ds
  | [], ds => by
    have e : encCs [] = [] := by unfold encCs; rfl
    rw [e]
    rfl
  | c :: cs, ds => by
    show encCs (c :: (cs ++ ds)) = _
    conv => lhs; unfold encCs
    conv => rhs; lhs; unfold encCs
    rw [encCs_app cs ds]
    rfl
theorem okCs_rep {r n : Nat} {c : C} (h : okC r n c) : ∀ k : Nat, okCs r n (List.replicate k c)
  | 0 => okCs_nil
  | k + 1 => by rw [List.replicate_succ]; exact okCs_cons h (okCs_rep h k)
theorem okCs_app {r n : Nat} : ∀ {cs ds : List C}, okCs r n cs → okCs r n ds → okCs r n (cs ++ ds)
  | [], ds, _, h => h
  | c :: cs, ds, t, h => by
    unfold okCs at t
    exact okCs_cons t.1 (okCs_app t.2 h)
/-- an item put into a row of one and the same -/
theorem ins_rep {K : PySem.W.Frag} {H : Hp} {x y : V} {c d : C} (hx : At K H x (encC c)) (hy : At K H y (encC d)) (n i : Nat) :
    Ats K H ((List.replicate n x).take i ++ [y] ++ (List.replicate n x).drop i) (encCs (List.replicate (min i n) c ++ [d] ++ List.replicate (n - i) c)) := by
  rw [List.take_replicate, List.drop_replicate, encCs_app, encCs_app, encCs_rep, encCs_rep]
  refine ((ats_rep hx _).append ?_).append (ats_rep hx _)
  unfold encCs encCs
  exact Ats.mk hy Ats.mk_nil
theorem ins_ok {r m : Nat} {c d : C} (hc : okC r m c) (hd : okC r m d) (n i : Nat) : okCs r m (List.replicate (min i n) c ++ [d] ++ List.replicate (n - i) c) :=
  okCs_app (okCs_app (okCs_rep hc _) (okCs_cons hd okCs_nil)) (okCs_rep hc _)
theorem ins_len {c d : C} (n i : Nat) (h : i ≤ n) : (List.replicate (min i n) c ++ [d] ++ List.replicate (n - i) c).length = n + 1 := by
  rw [List.length_append, List.length_append, List.length_replicate, List.length_replicate, List.length_singleton]
  omega
end Dv

/-! for i, x in enumerate(a tuple). -/
namespace PySem
open Sem (wp)
open AutoSeq1 (wpAny_loadPart')
theorem meets_enumT {v : Value} {o : Obj} {H : Heap → Prop} (B : Begins v o H) :
    Meets (Builtin.«enumerate.__new__» ⟨[.type "enumerate", v], []⟩) (fun _ R s => H s.heap ∧
      R (.ok (.ret (.ref (s.heap.push o).objs.size))) { s with heap := (s.heap.push o).push { cls := .type "enumerate", data := .fields #[.none, .bool false, .ref s.heap.objs.size, rawInt 0, .none, .none] } }) :=
  .of_wp fun prog w A R s h => by
    obtain ⟨hp, g, d, tk, os⟩ := s
    obtain ⟨h1, h⟩ := h
    have hsub := sub_enumerate
    have q1 : ∀ {A' : Around} {E : Value → Shared → Prop} {Q : Value → Shared → Prop}, Q (.ref hp.objs.size) ⟨hp.push o, g, d, tk, os⟩ → wpAny (model prog w) A' (pyIter v) Q E ⟨hp, g, d, tk, os⟩ :=
      fun q => B.iter prog w _ _ ⟨hp, g, d, tk, os⟩ _ h1 q
    wp_walk using q1
    refine wpAny_stack_any fun st => wpAny_pure ?_
    split
    · rename_i c _ _ _ _ _
      cases (c == Value.type "enumerate")
      all_goals
        wp_walk using q1
        exact ⟨_, rfl, h⟩
    · wp_walk using q1
      exact ⟨_, rfl, h⟩
section
variable {prog : Program} {w : World} {A : Around} {E : Value → Shared → Prop} {s : Shared}
theorem enumT_begins {v : Value} {o : Obj} {H : Heap → Prop} {Q : Value → Shared → Prop} (B : Begins v o H) (h1 : H s.heap)
    (h : ∀ h', IsEnum h' (s.heap.objs.size + 1) s.heap.objs.size 0 .none → h'.get? s.heap.objs.size = some o → (∀ b o, s.heap.get? b = some o → h'.get? b = some o) → Q (.ref (s.heap.objs.size + 1)) { s with heap := h' }) :
    wpAny (model prog w) A (call (.type "enumerate") [v]) Q E s := by
  refine callType_new F.called_enumerate (by decide) (F.typeCall_enumerate_1 _) (F.newCall_enumerate_1 _) (fun obj => F.args_object_init_2 obj _) F.entry_enumerate_new (meets_enumT B) ⟨h1, ?_⟩
  have hz : (s.heap.push o).objs.size = s.heap.objs.size + 1 := Heap.size_push ..
  show _ ∧ _
  rw [hz]
  have he : IsEnum ((s.heap.push o).push { cls := .type "enumerate", data := .fields #[.none, .bool false, .ref s.heap.objs.size, rawInt 0, .none, .none] }) (s.heap.objs.size + 1) s.heap.objs.size 0 .none := by
    have z := Heap.get?_push_size (s.heap.push o) (o := { cls := .type "enumerate", data := .fields #[.none, .bool false, .ref s.heap.objs.size, rawInt 0, .none, .none] }) rfl
    rw [hz] at z
    exact z
  exact ⟨⟨_, he, rfl⟩, h _ he (Heap.get?_push_of_some _ (Heap.get?_push_size _ B.free)) fun b o x => Heap.get?_push_of_some _ (Heap.get?_push_of_some _ x)⟩
end
end PySem
namespace Ent
open PySem PySem.Spec PyProof.Rows L2
/-- the items of the tuple at a, each in a new pair with its place -/
def IteT (K : PySem.W.Frag) (a : Addr) : It :=
  ⟨fun i H => ∃ (xs : List V) (x : V), SqT K H a xs ∧ xs[i]? = some x, fun i H v H' => ∃ T x, v = .ref T ∧ H T = none ∧ H' = upd H T (.tup [.int (i : Nat), x]) ∧ ∀ xs, SqT K H a xs → xs[i]? = some x, fun i H => ∃ xs : List V, SqT K H a xs ∧ xs.length ≤ i⟩
theorem turn_enumT {P : Program} {w : World} {K : PySem.W.Frag} {elts : List Expr} {kk : Nat} {tpos : Pos} (a e it : Addr) (hae : a ≠ e) (hai : a ≠ it) :
    Turn P w K (.Tuple elts kk tpos) (IteT K a) [e, it] e (fun i h => (∃ old, IsEnum h e it ((i : Nat) : Int) old) ∧ h.IsTupleIter it a i ∧ e ≠ it) where
  mem := by simp
  obj := fun i h st b hb => by
    obtain ⟨⟨old, he⟩, ⟨o, ho, hc, hd⟩, _⟩ := st
    have e' : b = e ∨ b = it := by simpa using hb
    rcases e' with z | z
    · rw [z]; exact ⟨_, he, fun v q => nomatch q⟩
    · rw [z]; exact ⟨o, ho, fun v q => by rw [hd] at q; cases q⟩
  keep := fun i h h' st k => let ⟨⟨old, he⟩, hi, hne⟩ := st; ⟨⟨old, k e (by simp) _ he⟩, hi.at fun o q => k it (by simp) o q, hne⟩
  item := by
    intro X hP hw hK hc i pins s σ H E I hf st hg
    subst hP hw hK
    obtain ⟨⟨old, he⟩, hit, hne⟩ := st
    obtain ⟨xs, x, hq, hx⟩ := hg
    obtain ⟨its, rv, p, hz⟩ := I.tuple hq
    obtain ⟨u, hu, ru⟩ := rv.get hx
    have hel : e < s.heap.objs.size := Heap.lt_size he
    have hil : it < s.heap.objs.size := by obtain ⟨_, q, _⟩ := hit; exact Heap.lt_size q
    have hlt : i < its.toArray.size := by
      rw [List.size_toArray]
      exact (List.getElem?_eq_some_iff.mp hu).1
    refine wpAny_pyNext_enum_itemD (Draws.tuple (A := X.A.in1) (I.ok.hd hc) it a hai its.toArray) he ⟨hit, show s.heap.IsTuple a its.toArray from p⟩ hlt hne (by simp [hne, Ne.symm hae]) fun y h' tk hy ho hst hT hsz hk => ?_
    obtain ⟨hit', _⟩ := hst
    have ey : y = u := by
      have hu' : its.toArray[i]? = some u := by simpa using hu
      rw [hy] at hu'
      exact Option.some.inj hu'
    subst ey
    refine ⟨_, rfl, wpAny_letOwnedTupleGo_enum (s := { s with heap := h', toks := tk + 1 }) ho fun h'' he' sb => ?_⟩
    have hT2 : h''.get? s.heap.objs.size = some { cls := .type "tuple", data := .seq #[.int i tk, y] } := (sb.2 _ (Nat.ne_of_gt hel)).trans hT
    have new : ObjOk X.prog X.w (upd H s.heap.objs.size (.tup [.int (i : Nat), x])) h'' s.heap.objs.size (.tup [.int (i : Nat), x]) :=
      ⟨by show 2 ≤ sizeLine; decide, [.int i tk, y], .cons ⟨_, rfl⟩ (.cons ru .nil), ⟨_, hT2, rfl, _, rfl⟩⟩
    have I1 : Inv X pins σ (upd H s.heap.objs.size (.tup [.int (i : Nat), x])) { s with heap := h'', toks := tk + 1 } :=
      I.turnedNew (ch := [e, it]) (fun b ob hb q => (sb.2 b (fun z => hb (by simp [z]))).trans (hk b ob (fun z => hb (by simp [z])) (fun z => hb (by simp [z])) q)) hf (Nat.le_refl _) new
    refine ⟨.ref s.heap.objs.size, _, I1, rfl, ⟨_, x, rfl, I.hok.fresh (Nat.le_refl _), rfl, fun ys hy => by rw [I.tuple_inj hy hq]; exact hx⟩, ⟨⟨y, ?_⟩, hit'.at fun o q => (sb.2 it (Ne.symm hne)).trans q, hne⟩, fun b hb => ?_⟩
    · have e1 : ((i + 1 : Nat) : Int) = (i : Int) + 1 := by omega
      rw [e1]
      exact he'
    · have hb' : b < s.heap.objs.size := by
        have e' : b = e ∨ b = it := by simpa using hb
        rcases e' with z | z
        · rw [z]; exact hel
        · rw [z]; exact hil
      rw [upd_ne (Nat.ne_of_lt hb')]
      exact (hf b hb).1
  done := by
    intro X hP hw hK hc i pins s σ H E I hf st hg
    subst hP hw hK
    obtain ⟨⟨old, he⟩, hit, hne⟩ := st
    obtain ⟨xs, hq, hx⟩ := hg
    obtain ⟨its, rv, p, hz⟩ := I.tuple hq
    obtain ⟨f0, f1, f2, f3, f4, f5⟩ := hf it (by simp)
    have hl := rv.length
    have D : Draws X.prog X.w X.A.in1 it [it, a] i (fun _ _ => False) (fun j h => h.IsTupleIter it a j ∧ h.IsTuple a its.toArray ∧ j = i) := {
      live := fun _ _ st => let ⟨o, ho, _⟩ := st.1; ⟨o, ho⟩
      frame := fun _ _ _ st hk => ⟨st.1.at fun o e => hk it (by simp) o e, st.2.1.at fun o e => hk a (by simp) o e, st.2.2⟩
      item := fun j s Q E hj st hQ => absurd st.2.2 (Nat.ne_of_lt hj)
      done := fun s Q E st hE => wpAny_nextOf_tuple_end (I.ok.hd hc) st.1 st.2.1 (by simp; omega) hE }
    exact wpAny_pyNext_enum_endD D he ⟨hit, show s.heap.IsTuple a its.toArray from p, rfl⟩ fun h' eb => ⟨rfl, I.turned (t' := s.toks) (fun b o hb q => eb b o hb q) f0 f1 f3 f4 f5⟩
  self := fun A i s Q E st h => let ⟨⟨_, he⟩, _⟩ := st; wpAny_pyIter_enum he h
def iEnumT (K : PySem.W.Frag) (ta : TA) : TI := fun σ H R => ta σ H fun vs H1 => ∃ a xs, vs = [.ref a] ∧ SqT K H1 a xs ∧ R (IteT K a) H1
theorem pi_enumT {X : Cx} {e : Expr} {ta : TA} {p pos tpos : Pos} {elts : List Expr} {kk : Nat} (hg : Gl X "enumerate") (hm : X.mg "enumerate" = none) (ha : PA X [e] ta) (hs : starEach [e] X.env = [(false, eval e X.env)] := by rfl) :
    PI X (.Tuple elts kk tpos) (.Call (.Name "enumerate" p) [e] [] pos) (iEnumT X.K ta) := by
  refine ⟨fun pins s σ H R I h => ?_⟩
  refine Call_ (ld_blt I hg hm boot_enumerate (PyProof.Rows.callWith_type1 (thn (ha.run pos pins s σ H _ I h) fun us s1 ⟨vs, H1, I1, r1, q1⟩ => ?_) hs rfl))
  obtain ⟨a, xs, ex, hq, q⟩ := q1
  subst ex
  cases r1 with
  | cons r rr =>
    cases rr
    cases r
    obtain ⟨its, rv, p', hz⟩ := I1.tuple hq
    have hlt : a < s1.heap.objs.size := p'.lt
    refine enumT_begins (begins_tuple a its.toArray) (show s1.heap.IsTuple a its.toArray from p') fun h' he hit hk => wpAny_pyIter_enum he ?_
    have I2 : Inv X pins σ H1 { s1 with heap := h' } := I1.kept (t' := s1.toks) hk
    refine ⟨s1.heap.objs.size + 1, [s1.heap.objs.size + 1, s1.heap.objs.size], _, _, H1, rfl, I2, turn_enumT a (s1.heap.objs.size + 1) s1.heap.objs.size (Nat.ne_of_lt (Nat.lt_succ_of_lt hlt)) (Nat.ne_of_lt hlt), ⟨⟨.none, he⟩, ⟨_, hit, rfl, rfl⟩, Nat.succ_ne_self _⟩, fun b hb => ?_, q⟩
    have e' : b = s1.heap.objs.size + 1 ∨ b = s1.heap.objs.size := by simpa using hb
    have hle : s1.heap.objs.size ≤ b := by
      rcases e' with z | z
      · rw [z]; exact Nat.le_add_right _ _
      · rw [z]; exact Nat.le_refl _
    exact I1.fpOk hle (I1.hok.fresh hle)
end Ent

/-! tuple * int, the count 0 and 1 too. -/
namespace Tm
open PySem PySem.Spec PyProof.Rows L2
open PySem.AutoSeq1 (wpAny_loadPart')
theorem mul_one (l : Addr) (items : Array Value) (n : Nat) (dd : Option Addr) (sl : Array (Option Value)) (u : Tok) :
    Meets (Builtin.«tuple.__mul__» ⟨[.ref l, .int 1 u], []⟩) (fun _ R s => s.heap.get? l = some { cls := .type "tuple", dict := dd, data := .seq items n, slots := sl } ∧ R (.ok (.ret (Value.ref l))) s) :=
  .of_wp fun prog w A R s h => by
    obtain ⟨hp, g, d, tk, os⟩ := s
    obtain ⟨hl, h⟩ := h
    have f1 := AutoSeq1.idx_int
    have c1 : (items.isEmpty || (1 : Int) == 1) = true := by simp
    wp_walk using wpAny_loadPart' hl
    repeat (first
      | (refine wpAny_ite_false (decide_eq_false (by decide)) ?_; wp_walk using wpAny_loadPart' hl)
      | (refine wpAny_ite_true (decide_eq_true c1) ?_; wp_walk using wpAny_loadPart' hl)
      | (rw [if_pos c1]; wp_walk using wpAny_loadPart' hl))
    exact ⟨_, rfl, h⟩
theorem mul_zero (l : Addr) (items : Array Value) (n : Nat) (dd : Option Addr) (sl : Array (Option Value)) (u : Tok) (hne : items.isEmpty = false) :
    Meets (Builtin.«tuple.__mul__» ⟨[.ref l, .int 0 u], []⟩) (fun _ R s => s.heap.get? l = some { cls := .type "tuple", dict := dd, data := .seq items n, slots := sl } ∧
      R (.ok (.ret (Value.ref s.heap.objs.size))) { s with heap := s.heap.push { cls := Value.type "tuple", data := Data.seq #[] }, toks := s.toks }) :=
  .of_wp fun prog w A R s h => by
    obtain ⟨hp, g, d, tk, os⟩ := s
    obtain ⟨hl, h⟩ := h
    have f1 := AutoSeq1.idx_int
    have c1 : ¬ (items.isEmpty || (0 : Int) == 1) = true := by rw [hne]; decide
    wp_walk using wpAny_loadPart' hl
    repeat (first
      | (refine wpAny_ite_false (decide_eq_false c1) ?_; wp_walk using wpAny_loadPart' hl)
      | (refine wpAny_ite_false (decide_eq_false (by decide)) ?_; wp_walk using wpAny_loadPart' hl)
      | (refine wpAny_ite_true (decide_eq_true (by simp)) ?_; wp_walk using wpAny_loadPart' hl))
    exact ⟨_, rfl, h⟩
def rRepN (K : PySem.W.Frag) : R2 := fun x y H Q => ∃ l k xs, x = .ref l ∧ y = .int k ∧ SqT K H l xs ∧ xs ≠ [] ∧ 0 ≤ k ∧ k ≤ 1000 ∧ xs.length ≤ 1000 ∧
  ∀ p H', (H' = H ∨ (H p = none ∧ H' = upd H p (.tup (List.replicate k.toNat xs).flatten))) → SqT K H' p (List.replicate k.toNat xs).flatten → Q (.ref p) H'
section
variable {X : Cx}
theorem op_repN : OpR X (binaryOp .Mult) (rRepN X.K) := by
  intro pins s σ H x y v u Q I rx ry h
  obtain ⟨l, k, xs, ex, ey, hT, hne, h0, h1, hz, q⟩ := h
  by_cases h2 : 2 ≤ k
  · exact op_repT pins s σ H x y v u Q I rx ry ⟨l, k, xs, ex, ey, hT, hne, h2, h1, hz, fun p np => q p _ (.inr ⟨np, rfl⟩) (SqT.of upd_same)⟩
  subst ex ey
  cases rx
  obtain ⟨t, rfl⟩ := ry
  obtain ⟨its, r, ⟨⟨cls, dd, data, sl⟩, ho, hc, n, hd⟩, hs⟩ := I.tuple hT
  simp only at hc hd
  subst hc hd
  have hi : its.toArray.isEmpty = false := by
    cases its with
    | nil => cases r; exact absurd rfl hne
    | cons a b => rfl
  by_cases e1 : k = 1
  · subst e1
    refine wpAny_binaryOp_repeat_ref (T := "tuple") (U := "int") (by decide) ⟨_, ho, rfl⟩ (fun s' => typeIs_int s' 1 t) noFill_tuple_mul F.fills_int_mul F.slot_int_rmul repeat_tuple F.slot_int_index.lookup
      (call_meets F.slot_int_rmul (typeIs_int s 1 t) F.entry_int_rmul (F.args_int_rmul_2 _ _) (int_rmul_tuple 1 t l its.toArray n dd sl)
        ⟨ho, rfl, ⟨_, ho, rfl⟩, call_meets F.slot_tuple_mul ⟨_, ho, rfl⟩ F.entry_tuple_mul (F.args_tuple_mul_2 _ _) (mul_one l its.toArray n dd sl t) ⟨ho, ?_⟩⟩)
    have e : (List.replicate (1 : Int).toNat xs).flatten = xs := by
      show [xs].flatten = xs
      simp
    refine ⟨.ref l, H, I, rfl, q l H (.inl rfl) ?_⟩
    rw [e]
    exact hT
  · have e0 : k = 0 := by omega
    subst e0
    refine wpAny_binaryOp_repeat_ref (T := "tuple") (U := "int") (by decide) ⟨_, ho, rfl⟩ (fun s' => typeIs_int s' 0 t) noFill_tuple_mul F.fills_int_mul F.slot_int_rmul repeat_tuple F.slot_int_index.lookup
      (call_meets F.slot_int_rmul (typeIs_int s 0 t) F.entry_int_rmul (F.args_int_rmul_2 _ _) (int_rmul_tuple 0 t l its.toArray n dd sl)
        ⟨ho, rfl, ⟨_, ho, rfl⟩, call_meets F.slot_tuple_mul ⟨_, ho, rfl⟩ F.entry_tuple_mul (F.args_tuple_mul_2 _ _) (mul_zero l its.toArray n dd sl t hi) ⟨ho, ?_⟩⟩)
    have nf : H s.heap.objs.size = none := I.hok.fresh (Nat.le_refl _)
    refine ⟨.ref s.heap.objs.size, _, I.laid (t' := s.toks) (o := .tup []) (fun b ob q => Heap.get?_push_of_some _ q) (Nat.le_refl _) ?_, rfl, q _ _ (.inr ⟨nf, rfl⟩) (SqT.of upd_same)⟩
    exact ⟨Nat.zero_le _, [], .nil, IsTup.new _ _⟩
end
end Tm

/-! Machines as data. -/
namespace Dv
open PySem PySem.Spec PyProof.Rows L2 GxR Gx

structure Case where
  cond : C
  moves : List Int
  says : List (Int × Int)
  nxt : Nat
structure M where
  tags : Nat
  regs : Nat
  steps : List (List (List Case))
def encSay (p : Int × Int) : D := .tup [.int p.1, .int p.2]
def encCase (c : Case) : D := .tup [encC c.cond, .tup (c.moves.map .int), .tup (c.says.map encSay), .int c.nxt]
def encCases (cs : List Case) : D := .tup (cs.map encCase)
def encSt (s : List (List Case)) : D := .tup (s.map encCases)
def encM (m : M) : D := .tup [.int m.tags, .int m.regs, .tup (m.steps.map encSt)]
def encCt (st : Nat) (h : List (Option Int)) : D := .tup [.int st, encH h]
def encE (e : Nat × Int) : D := .tup [.int e.1, .int e.2]
def encA1 (p : Int × Option Int) : D := .tup [.int p.1, encO p.2]
def encA (a : List (Int × Option Int)) : D := .tup (a.map encA1)

structure okCase (r S n : Nat) (c : Case) : Prop where
  cond : okC r n c.cond
  mlen : c.moves.length = r
  mv : ∀ s ∈ c.moves, -2 ≤ s ∧ s < r
  say : ∀ p ∈ c.says, 0 ≤ p.1 ∧ -2 ≤ p.2 ∧ p.2 < r
  slen : c.says.length ≤ 1000
  nxt : c.nxt < S
structure okM (n : Nat) (m : M) : Prop where
  tags : 1 ≤ m.tags
  tmax : m.tags ≤ 1000
  rmax : m.regs ≤ 1000
  some : 0 < m.steps.length
  smax : m.steps.length ≤ 1000
  all : ∀ s ∈ m.steps, s.length = m.tags
  cases : ∀ s ∈ m.steps, ∀ cs ∈ s, cs.length ≤ 1000 ∧ ∀ c ∈ cs, okCase m.regs m.steps.length n c

def M.cases (m : M) (st t : Nat) : List Case := (m.steps.getD st []).getD t []
def holdC (v : Int) (h : List (Option Int)) (c : Case) : Bool := hold v h c.cond
def idxC (v : Int) (h : List (Option Int)) (cs : List Case) : Option Nat := cs.findIdx? (holdC v h)
def saidC (v : Int) (h : List (Option Int)) (c : Case) : List (Int × Option Int) := c.says.map fun p => (p.1, worth v h p.2)
def keptC (v : Int) (h : List (Option Int)) (c : Case) : List (Option Int) := c.moves.map (worth v h)
/-- the standing, the held values and the answer behind an entry -/
def readM (m : M) (st : Nat) (h : List (Option Int)) (e : Nat × Int) : Nat × List (Option Int) × List (Int × Option Int) :=
  match (m.cases st e.1).find? (holdC e.2 h) with
  | none => (st, h, [])
  | some c => (c.nxt, keptC e.2 h c, saidC e.2 h c)
def encR (r : Nat × List (Option Int) × List (Int × Option Int)) : D := .tup [encCt r.1 r.2.1, encA r.2.2]
def oN : Option Nat → V
  | none => .non
  | some k => .int k

theorem M.cases_at {m : M} {st t : Nat} {n : Nat} (ok : okM n m) (hs : st < m.steps.length) (ht : t < m.tags) :
    ∃ s, m.steps[st]? = some s ∧ s[t]? = some (m.cases st t) ∧ (m.cases st t).length ≤ 1000 ∧ ∀ c ∈ m.cases st t, okCase m.regs m.steps.length n c := by
  have hm : m.steps[st] ∈ m.steps := List.getElem_mem hs
  have hl : t < m.steps[st].length := by rw [ok.all _ hm]; exact ht
  have e : m.cases st t = m.steps[st][t] := by
    unfold M.cases
    have e1 : m.steps.getD st [] = m.steps[st] := by
      rw [List.getD_eq_getElem?_getD, List.getElem?_eq_getElem hs]
      rfl
    rw [e1, List.getD_eq_getElem?_getD, List.getElem?_eq_getElem hl]
    rfl
  refine ⟨m.steps[st], List.getElem?_eq_getElem hs, by rw [e]; exact List.getElem?_eq_getElem hl, ?_⟩
  rw [e]
  exact ok.cases _ hm _ (List.getElem_mem hl)

section
variable {K : PySem.W.Frag} {H : Hp} {α : Type} {f : α → D}
theorem Ats.at {xs : List V} {l : List α} {i : Nat} {a : α} (h : Ats K H xs (l.map f)) (e : l[i]? = some a) : ∃ x, xs[i]? = some x ∧ At K H x (f a) :=
  h.get (by rw [List.getElem?_map, e]; rfl)
theorem Ats.len {xs : List V} {l : List α} (h : Ats K H xs (l.map f)) : xs.length = l.length := by rw [h.length, List.length_map]
theorem Ats.snoc {xs : List V} {l : List α} {x : V} {a : α} (h : Ats K H xs (l.map f)) (hx : At K H x (f a)) : Ats K H (xs ++ [x]) ((l ++ [a]).map f) := by
  rw [List.map_append]
  exact h.append (Ats.mk hx Ats.mk_nil)
theorem ats_int {xs : List V} {l : List Int} : Ats K H xs (l.map D.int) ↔ xs = l.map V.int := by
  constructor
  · intro h
    refine List.ext_getElem? fun i => ?_
    rw [List.getElem?_map]
    cases e : l[i]? with
    | none =>
      have hl := h.len
      have : l.length ≤ i := List.getElem?_eq_none_iff.mp e
      rw [List.getElem?_eq_none (by omega)]
      rfl
    | some a =>
      obtain ⟨x, h1, h2⟩ := h.at e
      rw [h1, at_int.mp h2]
      rfl
  · rintro rfl
    refine Ats.of_forall (by rw [List.length_map, List.length_map]) fun i x d h1 h2 => ?_
    rw [List.getElem?_map] at h1 h2
    cases e : l[i]? with
    | none => rw [e] at h1; cases h1
    | some a =>
      rw [e] at h1 h2
      cases h1
      cases h2
      exact at_int.mpr rfl
end
theorem at_natI {xs : List V} {i : Nat} {x : V} (h : xs[i]? = some x) : atI xs ((i : Nat) : Int) = some x := atI_nat h
theorem idxC_find (v : Int) (h : List (Option Int)) (cs : List Case) : (idxC v h cs = none ∧ cs.find? (holdC v h) = none) ∨ ∃ k c, idxC v h cs = some k ∧ cs[k]? = some c ∧ cs.find? (holdC v h) = some c := by
  unfold idxC
  induction cs with
  | nil => exact .inl ⟨rfl, rfl⟩
  | cons c cs ih =>
    rw [List.findIdx?_cons, List.find?_cons]
    cases hb : holdC v h c with
    | true => exact .inr ⟨0, c, by simp, rfl, rfl⟩
    | false =>
      rcases ih with ⟨h1, h2⟩ | ⟨k, c', h1, h2, h3⟩
      · exact .inl ⟨by simp [h1], h2⟩
      · exact .inr ⟨k + 1, c', by simp [h1], by simpa using h2, h3⟩
/-- a search that has come to i -/
theorem idxC_drop (v : Int) (h : List (Option Int)) (cs : List Case) {i : Nat} (hn : ∀ j c, j < i → cs[j]? = some c → holdC v h c = false) {c : Case} (hc : cs[i]? = some c) (hb : holdC v h c = true) : idxC v h cs = some i := by
  unfold idxC
  rw [List.findIdx?_eq_some_iff_getElem]
  obtain ⟨hi, e⟩ := List.getElem?_eq_some_iff.mp hc
  refine ⟨hi, by rw [e]; exact hb, fun j hj => ?_⟩
  rw [hn j _ hj (List.getElem?_eq_getElem (by omega))]
  exact Bool.false_ne_true
theorem idxC_none (v : Int) (h : List (Option Int)) (cs : List Case) (hn : ∀ (j : Nat) (c : Case), cs[j]? = some c → holdC v h c = false) : idxC v h cs = none := by
  unfold idxC
  rw [List.findIdx?_eq_none_iff]
  intro c hc
  obtain ⟨j, hj, e⟩ := List.getElem_of_mem hc
  exact hn j c (by rw [List.getElem?_eq_getElem hj, e])

/-! ### a list that is made item by item -/
def Col (K : PySem.W.Frag) (T ms : List Addr) (D : Addr) (H H' : Hp) (ds : List Dv.D) : Prop := Ex T ms H H' ∧ ∃ xs, H' D = some (.lst xs) ∧ Ats K H' xs ds
section
variable {K : PySem.W.Frag} {T ms : List Addr} {D : Addr} {H H0 H1 H2 : Hp} {ds : List Dv.D}
theorem Col.start (e : Ex T ms H H0) (n : H0 D = none) : Col K T ms D H (upd H0 D (.lst [])) [] := ⟨e.trans (Ex.new n), [], upd_same, Ats.mk_nil⟩
theorem Col.put (c : Col K T ms D H H1 ds) (free : H D = none) (nD : D ∉ ms) (wd : Wd T H) (e : Ex T ms H1 H2) {x : V} {d : Dv.D} (hx : At K H2 x d) (hl : ds.length ≤ 5000) :
    ∃ acc, H2 D = some (.lst acc) ∧ acc.length < sizeLine ∧ Col K T ms D H (upd H2 D (.lst (acc ++ [x]))) (ds ++ [d]) := by
  obtain ⟨ex, xs, hD, ats⟩ := c
  have hD2 : H2 D = some (.lst xs) := e.lst nD hD
  have exw : Ex T [D] H2 (upd H2 D (.lst (xs ++ [x]))) := Ex.write (by simp) hD2
  exact ⟨xs, hD2, small5000 (by rw [ats.length]; exact hl), (ex.trans e).put free wd, xs ++ [x], upd_same, ((ats.ext e).append (Ats.mk hx Ats.mk_nil)).ext exw⟩
theorem Col.ne (c : Col K T ms D H H1 ds) {p : Addr} (n : H1 p = none) : D ≠ p := by
  obtain ⟨_, xs, hD, _⟩ := c
  exact ne_of_none hD n
end
theorem Col.ext {K : PySem.W.Frag} {T ms : List Addr} {D : Addr} {H H1 H2 : Hp} {ds : List Dv.D} (c : Col K T ms D H H1 ds) (nD : D ∉ ms) (e : Ex T ms H1 H2) : Col K T ms D H H2 ds := by
  obtain ⟨ex, xs, hD, ats⟩ := c
  exact ⟨ex.trans e, xs, e.lst nD hD, ats.ext e⟩
theorem take_map {α β : Type} (f : α → β) (l : List α) {i : Nat} {a : α} (h : l[i]? = some a) : (l.take i).map f ++ [f a] = (l.take (i + 1)).map f := by
  rw [List.take_add_one, h, List.map_append]
  rfl
theorem take_len {α β : Type} (f : α → β) (l : List α) (i n : Nat) (h : l.length ≤ n) : ((l.take i).map f).length ≤ n := by
  rw [List.length_map, List.length_take]
  exact Nat.le_trans (Nat.min_le_right _ _) h
theorem oV_len {h : List (Option Int)} : (h.map oV).length = h.length := List.length_map ..
theorem wipe1 {σ : L2.St} {i : Nat} {x : Option V} : wipe ((wipe σ [i]).set i x) [i] = wipe σ [i] := by
  show (((σ.set i none).set i x).set i none) = σ.set i none
  rw [List.set_set, List.set_set]
theorem wipe2 {σ : L2.St} {i j : Nat} {x y : Option V} (h : i ≠ j) : wipe (((wipe σ [i, j]).set i x).set j y) [i, j] = wipe σ [i, j] := by
  show (((((σ.set j none).set i none).set i x).set j y).set j none).set i none = (σ.set j none).set i none
  rw [List.set_set, List.set_comm _ _ h, List.set_set, List.set_comm _ _ h, List.set_set, List.set_set]

/-! ### logs -/
abbrev Ct := Nat × List (Option Int)
def stepM (m : M) (c : Ct) (e : Nat × Int) : Ct := ((readM m c.1 c.2 e).1, (readM m c.1 c.2 e).2.1)
def contM (m : M) (c : Ct) (es : List (Nat × Int)) : Ct := es.foldl (stepM m) c
def answersM (m : M) : Ct → List (Nat × Int) → List (List (Int × Option Int))
  | _, [] => []
  | c, e :: es => (readM m c.1 c.2 e).2.2 :: answersM m (stepM m c e) es
theorem answersM_append (m : M) : ∀ (c : Ct) (es fs : List (Nat × Int)), answersM m c (es ++ fs) = answersM m c es ++ answersM m (contM m c es) fs
  | c, [], fs => rfl
  | c, e :: es, fs => by
    show _ :: answersM m (stepM m c e) (es ++ fs) = _
    rw [answersM_append m (stepM m c e) es fs]
    rfl
theorem contM_append (m : M) (c : Ct) (es fs : List (Nat × Int)) : contM m c (es ++ fs) = contM m (contM m c es) fs := List.foldl_append
theorem answersM_length (m : M) : ∀ (c : Ct) (es : List (Nat × Int)), (answersM m c es).length = es.length
  | c, [] => rfl
  | c, e :: es => by
    show (answersM m (stepM m c e) es).length + 1 = es.length + 1
    rw [answersM_length m]
structure okCt (m : M) (c : Ct) : Prop where
  st : c.1 < m.steps.length
  len : c.2.length = m.regs
theorem okCt.step {m : M} {c : Ct} {n : Nat} {e : Nat × Int} (h : okCt m c) (ok : okM n m) (ht : e.1 < m.tags) : okCt m (stepM m c e) := by
  obtain ⟨_, _, _, _, hc⟩ := M.cases_at ok h.st ht
  unfold stepM readM
  cases ef : (m.cases c.1 e.1).find? (holdC e.2 c.2) with
  | none => exact h
  | some k =>
    have okc := hc k (List.mem_of_find?_eq_some ef)
    exact ⟨okc.nxt, by show (keptC e.2 c.2 k).length = m.regs; unfold keptC; rw [List.length_map, okc.mlen]⟩
theorem okCt.cont {m : M} {n : Nat} (ok : okM n m) : ∀ {es : List (Nat × Int)} {c : Ct}, okCt m c → (∀ e ∈ es, e.1 < m.tags) → okCt m (contM m c es)
  | [], c, h, _ => h
  | e :: es, c, h, ht => okCt.cont ok (es := es) (h.step ok (ht e (by simp))) fun f hf => ht f (by simp [hf])
/-- a log that lies in a list or in a tuple -/
def Sq (K : PySem.W.Frag) (H : Hp) (a : Addr) (xs : List V) : Prop := SqL K H a xs ∨ SqT K H a xs
def Lg (K : PySem.W.Frag) (H : Hp) (v : V) (es : List (Nat × Int)) : Prop := ∃ a xs, v = .ref a ∧ Sq K H a xs ∧ Ats K H xs (es.map encE)
section
variable {K : PySem.W.Frag} {T : List Addr} {H H1 : Hp}
theorem Sq.ext {a : Addr} {xs : List V} (h : Sq K H a xs) (e : Ex T [] H H1) : Sq K H1 a xs := h.imp (e.sqL (by simp)) e.sqT
theorem Lg.ext {v : V} {es : List (Nat × Int)} (h : Lg K H v es) (e : Ex T [] H H1) : Lg K H1 v es := by
  obtain ⟨a, xs, rfl, s, t⟩ := h
  exact ⟨a, xs, rfl, s.ext e, t.ext e⟩
theorem Lg.tup {v : V} {es : List (Nat × Int)} (h : At K H v (.tup (es.map encE))) : Lg K H v es := by
  obtain ⟨a, xs, rfl, s, t⟩ := at_tup.mp h
  exact ⟨a, xs, rfl, .inr s, t⟩
end
theorem pi_or {X : Cx} {tg e : Expr} {u v : TI} (h1 : PI X tg e u) (h2 : PI X tg e v) : PI X tg e (fun σ H R => u σ H R ∨ v σ H R) :=
  ⟨fun pins s σ H R I h => h.elim (h1.run pins s σ H R I) (h2.run pins s σ H R I)⟩
end Dv

/-! == of data at any depth. -/
namespace Dv
open PySem PySem.Spec PyProof.Rows L2 GxR Gx
mutual
def toPy : D → PyData
  | .non => .none
  | .bl b => .bool b
  | .int i => .int i
  | .str s => .str s
  | .tup ds => .tuple (toPys ds)
def toPys : List D → List PyData
  | [] => []
  | d :: ds => toPy d :: toPys ds
end
mutual
def plD : Nat → D → Prop
  | 0, .tup _ => False
  | n + 1, .tup ds => plDs n ds
  | _, .str _ => False
  | _, _ => True
def plDs : Nat → List D → Prop
  | _, [] => True
  | n, d :: ds => plD n d ∧ plDs n ds
end
section
variable {K : PySem.W.Frag} {H : Hp}
mutual
theorem At.dp : ∀ {v : V} {d : D}, At K H v d → Dp K H v (toPy d)
  | v, .non, h => by rw [at_non.mp h]; unfold toPy; exact .non
  | v, .bl b, h => by rw [at_bl.mp h]; unfold toPy; exact .bl b
  | v, .int i, h => by rw [at_int.mp h]; unfold toPy; exact .int i
  | v, .str s, h => by rw [at_str.mp h]; unfold toPy; exact .str s
  | v, .tup ds, h => by
    obtain ⟨a, xs, rfl, q, r⟩ := at_tup.mp h
    unfold toPy
    exact .tup q (Ats.dp r)
theorem Ats.dp : ∀ {xs : List V} {ds : List D}, Ats K H xs ds → DpAll K H xs (toPys ds)
  | xs, [], h => by rw [ats_nil.mp h]; unfold toPys; exact .nil
  | xs, d :: ds, h => by
    obtain ⟨x, r, rfl, q, t⟩ := ats_cons.mp h
    unfold toPys
    exact .cons (At.dp q) (Ats.dp t)
end
end
mutual
theorem plD_lay : ∀ {n : Nat} {d : D}, plD n d → (toPy d).canLay0 = true ∧ (toPy d).depth ≤ n
  | n, .non, _ => by unfold toPy PyData.canLay0 PyData.depth; exact ⟨rfl, Nat.zero_le _⟩
  | n, .bl b, _ => by unfold toPy PyData.canLay0 PyData.depth; exact ⟨rfl, Nat.zero_le _⟩
  | n, .int i, _ => by unfold toPy PyData.canLay0 PyData.depth; exact ⟨rfl, Nat.zero_le _⟩
  | 0, .str s, h => by unfold plD at h; exact h.elim
  | n + 1, .str s, h => by unfold plD at h; exact h.elim
  | 0, .tup ds, h => by unfold plD at h; exact h.elim
  | n + 1, .tup ds, h => by
    unfold plD at h
    have z := plDs_lay h
    unfold toPy PyData.canLay0 PyData.depth
    exact ⟨z.1, Nat.succ_le_succ z.2⟩
theorem plDs_lay : ∀ {n : Nat} {ds : List D}, plDs n ds → PyData.canLayAll0 (toPys ds) = true ∧ PyData.depthAll (toPys ds) ≤ n
  | n, [], _ => by unfold toPys PyData.canLayAll0 PyData.depthAll; exact ⟨rfl, Nat.zero_le _⟩
  | n, d :: ds, h => by
    unfold plDs at h
    have z1 := plD_lay h.1
    have z2 := plDs_lay h.2
    unfold toPys PyData.canLayAll0 PyData.depthAll
    exact ⟨by rw [z1.1, z2.1]; rfl, Nat.max_le.mpr ⟨z1.2, z2.2⟩⟩
end
theorem plD_shaped {n : Nat} {d : D} (h : plD n d) (hn : n ≤ 64) : SeqAt.shaped (toPy d) = true := by
  have z := plD_lay h
  unfold SeqAt.shaped
  rw [z.1, decide_eq_true (Nat.le_trans z.2 hn)]
  rfl
theorem plD_refl {n : Nat} {d : D} (h : plD n d) : PyData.eqv (toPy d) (toPy d) = true := SeqAt.eqv_refl _ (plD_lay h).1
/-- equal data, compared -/
theorem eqD_same {K : PySem.W.Frag} {H : Hp} {x y : V} {d : D} {n : Nat} {Q : VK} (hx : At K H x d) (hy : At K H y d) (h : plD n d) (hn : n ≤ 64) (q : Q (.bl true) H) : rEqD K x y H Q :=
  ⟨_, _, hx.dp, hy.dp, plD_shaped h hn, plD_shaped h hn, by rw [plD_refl h]; exact q⟩
theorem neD_same {K : PySem.W.Frag} {H : Hp} {x y : V} {d : D} {n : Nat} {Q : VK} (hx : At K H x d) (hy : At K H y d) (h : plD n d) (hn : n ≤ 64) (q : Q (.bl false) H) : rNeD K x y H Q :=
  ⟨_, _, hx.dp, hy.dp, plD_shaped h hn, plD_shaped h hn, by rw [plD_refl h]; exact q⟩
theorem plDs_map {α : Type} {f : α → D} {n : Nat} : ∀ {l : List α}, (∀ a ∈ l, plD n (f a)) → plDs n (l.map f)
  | [], _ => by rw [List.map_nil]; unfold plDs; trivial
  | a :: l, h => by
    rw [List.map_cons]
    unfold plDs
    exact ⟨h a (by simp), plDs_map fun b hb => h b (by simp [hb])⟩
theorem plD_int {n : Nat} {i : Int} : plD n (.int i) := by cases n <;> (unfold plD; trivial)
theorem plD_tup {n : Nat} {ds : List D} (h : plDs n ds) : plD (n + 1) (.tup ds) := by unfold plD; exact h
theorem plDs_cons {n : Nat} {d : D} {ds : List D} (h : plD n d) (t : plDs n ds) : plDs n (d :: ds) := by unfold plDs; exact ⟨h, t⟩
theorem plDs_nil {n : Nat} : plDs n [] := by unfold plDs; trivial
theorem plD_encO {n : Nat} {o : Option Int} : plD n (encO o) := by cases o <;> cases n <;> (unfold encO plD; trivial)
theorem plD_encH {n : Nat} {h : List (Option Int)} : plD (n + 1) (encH h) := plD_tup (plDs_map fun _ _ => plD_encO)
theorem plD_encCt {n st : Nat} {h : List (Option Int)} : plD (n + 2) (encCt st h) := plD_tup (plDs_cons plD_int (plDs_cons plD_encH plDs_nil))
theorem plD_encA {n : Nat} {a : List (Int × Option Int)} : plD (n + 2) (encA a) := plD_tup (plDs_map fun _ _ => plD_tup (plDs_cons plD_int (plDs_cons plD_encO plDs_nil)))
theorem plD_answers {n : Nat} {l : List (List (Int × Option Int))} : plD (n + 3) (.tup (l.map encA)) := plD_tup (plDs_map fun _ _ => plD_encA)
theorem plD_encE {n : Nat} {e : Nat × Int} : plD (n + 1) (encE e) := plD_tup (plDs_cons plD_int (plDs_cons plD_int plDs_nil))
theorem plD_log {n : Nat} {es : List (Nat × Int)} : plD (n + 2) (.tup (es.map encE)) := plD_tup (plDs_map fun _ _ => plD_encE)
/-- a list and a list of the same data -/
theorem neD_lists {K : PySem.W.Frag} {H : Hp} {a b : Addr} {xs ys : List V} {ds : List D} {n : Nat} {Q : VK} (h1 : SqL K H a xs) (hx : Ats K H xs ds) (h2 : SqL K H b ys) (hy : Ats K H ys ds) (h : plDs n ds) (hn : n ≤ 63) (q : Q (.bl false) H) : rNeD K (.ref a) (.ref b) H Q := by
  have z := plDs_lay h
  have s : SeqAt.shaped (.list (toPys ds)) = true := by
    unfold SeqAt.shaped
    have e1 : (PyData.list (toPys ds)).canLay0 = true := by unfold PyData.canLay0; exact z.1
    have e2 : (PyData.list (toPys ds)).depth ≤ 64 := by unfold PyData.depth; omega
    rw [e1, decide_eq_true e2]
    rfl
  refine ⟨.list (toPys ds), .list (toPys ds), .lst h1 hx.dp, .lst h2 hy.dp, s, s, ?_⟩
  rw [SeqAt.eqv_refl _ (SeqAt.canLay_of_shaped s)]
  exact q
end Dv

/-! Rising changes of values, and the sizes of ints. -/
namespace Dv
open PySem PySem.Spec PyProof.Rows L2 GxR Gx

/-! ### sizes -/
def Bd (n : Nat) (x : Int) : Prop := x.natAbs < 2 ^ n
theorem Bd.mono {n m : Nat} {x : Int} (h : Bd n x) (e : n ≤ m) : Bd m x := Nat.lt_of_lt_of_le h (Nat.pow_le_pow_right (by decide) e)
theorem Bd.add {n : Nat} {x y : Int} (h : Bd n x) (g : Bd n y) : Bd (n + 1) (x + y) := by
  unfold Bd at *
  rw [Nat.pow_succ]
  have := Int.natAbs_add_le x y
  generalize 2 ^ n = z at *
  omega
theorem Bd.neg {n : Nat} {x : Int} (h : Bd n x) : Bd n (-x) := by
  unfold Bd at *
  rw [Int.natAbs_neg]
  exact h
theorem Bd.sub {n : Nat} {x y : Int} (h : Bd n x) (g : Bd n y) : Bd (n + 1) (x - y) := by
  rw [Int.sub_eq_add_neg]
  exact h.add g.neg
theorem Bd.mul {n m : Nat} {x y : Int} (h : Bd n x) (g : Bd m y) : Bd (n + m) (x * y) := wide_lt h g
theorem Bd.le {n : Nat} {x y : Int} (h : Bd n y) (g : x.natAbs ≤ y.natAbs) : Bd n x := Nat.lt_of_le_of_lt g h
theorem Bd.div {n : Nat} {x d : Int} (h : Bd n x) (hd : 0 < d) : Bd n (x / d) := h.le (by
  rcases Int.le_total 0 x with c | c
  · have h1 := Int.ediv_nonneg c (Int.le_of_lt hd)
    have h2 := Int.ediv_le_self d c
    omega
  · have h1 : x ≤ x / d := (Int.le_ediv_iff_mul_le hd).mpr (by
      have : x * d ≤ x * 1 := Int.mul_le_mul_of_nonpos_left c (by omega)
      omega)
    have h2 : x / d ≤ 0 := by
      have : x / d < 1 := Int.ediv_lt_of_lt_mul hd (by omega)
      omega
    omega)
theorem bd_small {n : Nat} {x : Int} (h : x.natAbs < 1048576) (e : 20 ≤ n) : Bd n x :=
  Nat.lt_of_lt_of_le (show x.natAbs < 2 ^ 20 from h) (Nat.pow_le_pow_right (by decide) e)
theorem bd_near {n : Nat} {x b : Int} (h : x.natAbs ≤ b.natAbs + 1009) (g : Bd n b) (e : 20 ≤ n) : Bd (n + 1) x := by
  have p : 2 ^ 20 ≤ 2 ^ n := Nat.pow_le_pow_right (by decide) e
  have q : (2 : Nat) ^ 20 = 1048576 := by decide
  unfold Bd at *
  rw [Nat.pow_succ]
  generalize 2 ^ n = z at *
  omega
theorem bd_bits {n : Nat} {x : Int} (h : Builtin.Int.intBits x ≤ n) : Bd n x := by
  unfold Builtin.Int.intBits at h
  split at h
  · rename_i z
    have : x = 0 := by simpa using z
    subst this
    exact Nat.pos_of_ne_zero (by simp)
  · exact Nat.lt_of_lt_of_le Nat.lt_log2_self (Nat.pow_le_pow_right (by decide) h)
theorem bd_sum {n : Nat} : ∀ {l : List Int}, (∀ z ∈ l, Bd n z) → Bd (n + l.length) l.sum
  | [], _ => Nat.pos_of_ne_zero (by simp)
  | z :: l, h => by
    rw [List.sum_cons]
    exact ((h z (by simp)).mono (Nat.le_add_right _ _)).add (bd_sum fun y hy => h y (by simp [hy]))

theorem cut_take {xs : List V} {av : Int} (h0 : 0 ≤ av) : cutV xs none (some av) = xs.take av.toNat := by
  obtain ⟨k, rfl⟩ := Int.eq_ofNat_of_zero_le h0
  unfold cutV
  rw [HT.sIx_nat, HT.sIx_none, Int.toNat_natCast, List.drop_zero, Nat.sub_zero]
  by_cases c : k ≤ xs.length
  · rw [Nat.min_eq_left c]
  · rw [Nat.min_eq_right (by omega), List.take_of_length_le (Nat.le_refl _), List.take_of_length_le (by omega)]
def rTupK (K : PySem.W.Frag) : List V → Hp → VK → Prop := fun xs H Q => ∃ p ys, xs = [V.ref p] ∧ ((SqL K H p ys ∧ ∀ (l : Addr), H l = none → Q (V.ref l) (upd H l (HO.tup ys))) ∨ SqT K H p ys ∧ Q (V.ref p) H)
def rLenK2 (K : PySem.W.Frag) : List V → Hp → VK → Prop := fun xs H Q => ∃ p ys, xs = [V.ref p] ∧ (SqL K H p ys ∨ SqT K H p ys) ∧ Q (V.int ys.length) H
/-! ### rising changes -/
def Rise (f : Int → Int) : Prop := ∀ x y, x < y → f x < f y
theorem Rise.lt {f : Int → Int} (h : Rise f) (x y : Int) : f x < f y ↔ x < y := by
  constructor
  · intro g
    rcases Int.lt_trichotomy x y with c | c | c
    · exact c
    · subst c; omega
    · have := h _ _ c; omega
  · exact h x y
theorem Rise.eq {f : Int → Int} (h : Rise f) (x y : Int) : f x = f y ↔ x = y := by
  constructor
  · intro g
    rcases Int.lt_trichotomy x y with c | c | c
    · have := h _ _ c; omega
    · exact c
    · have := h _ _ c; omega
  · rintro rfl; rfl
structure Ch where
  s : Int
  ss : List Int
def Ch.ok (c : Ch) : Prop := c.ss.length = 6 ∧ (∀ z ∈ c.ss, 1 ≤ z ∧ Bd 1048700 z) ∧ Bd 1048700 c.s
def Ch.f (c : Ch) (v : Int) : Int := c.s + v / 6 * c.ss.sum + (c.ss.take (v % 6).toNat).sum
theorem Ch.rise {c : Ch} (h : c.ok) : Rise c.f := by
  obtain ⟨s, ss⟩ := c
  obtain ⟨hl, hp, _⟩ := h
  match ss, hl, hp with
  | [a, b, d, e, g, i], _, hp =>
  have ha := (hp a (by simp)).1
  have hb := (hp b (by simp)).1
  have hd := (hp d (by simp)).1
  have he := (hp e (by simp)).1
  have hg := (hp g (by simp)).1
  have hi := (hp i (by simp)).1
  clear hp
  have eS : ([a, b, d, e, g, i] : List Int).sum = a + b + d + e + g + i := by simp [List.sum_cons]; omega
  have p0 : ((([a, b, d, e, g, i] : List Int).take ((0 : Int)).toNat)).sum = 0 := rfl
  have p1 : ((([a, b, d, e, g, i] : List Int).take ((1 : Int)).toNat)).sum = a := by show ([a] : List Int).sum = a; simp
  have p2 : ((([a, b, d, e, g, i] : List Int).take ((2 : Int)).toNat)).sum = a + b := by show ([a, b] : List Int).sum = _; simp
  have p3 : ((([a, b, d, e, g, i] : List Int).take ((3 : Int)).toNat)).sum = a + b + d := by show ([a, b, d] : List Int).sum = _; simp; omega
  have p4 : ((([a, b, d, e, g, i] : List Int).take ((4 : Int)).toNat)).sum = a + b + d + e := by show ([a, b, d, e] : List Int).sum = _; simp; omega
  have p5 : ((([a, b, d, e, g, i] : List Int).take ((5 : Int)).toNat)).sum = a + b + d + e + g := by show ([a, b, d, e, g] : List Int).sum = _; simp; omega
  intro x y hxy
  show s + x / 6 * ([a, b, d, e, g, i] : List Int).sum + (([a, b, d, e, g, i] : List Int).take (x % 6).toNat).sum < s + y / 6 * ([a, b, d, e, g, i] : List Int).sum + (([a, b, d, e, g, i] : List Int).take (y % 6).toNat).sum
  rw [eS]
  have hx := Int.emod_nonneg x (show (6 : Int) ≠ 0 by decide)
  have hx6 := Int.emod_lt_of_pos x (show (0 : Int) < 6 by decide)
  have hy := Int.emod_nonneg y (show (6 : Int) ≠ 0 by decide)
  have hy6 := Int.emod_lt_of_pos y (show (0 : Int) < 6 by decide)
  have dx := Int.mul_ediv_add_emod x 6
  have dy := Int.mul_ediv_add_emod y 6
  have key : x / 6 = y / 6 ∧ x % 6 < y % 6 ∨ x / 6 + 1 ≤ y / 6 := by omega
  generalize x / 6 = qx at *
  generalize y / 6 = qy at *
  generalize x % 6 = rx at *
  generalize y % 6 = ry at *
  have hmul : qx + 1 ≤ qy → qx * (a + b + d + e + g + i) + (a + b + d + e + g + i) ≤ qy * (a + b + d + e + g + i) := fun h => by
    have := Int.mul_le_mul_of_nonneg_right h (show 0 ≤ a + b + d + e + g + i by omega)
    rw [Int.add_mul, Int.one_mul] at this
    exact this
  rcases (by omega : rx = 0 ∨ rx = 1 ∨ rx = 2 ∨ rx = 3 ∨ rx = 4 ∨ rx = 5) with rfl | rfl | rfl | rfl | rfl | rfl <;>
  rcases (by omega : ry = 0 ∨ ry = 1 ∨ ry = 2 ∨ ry = 3 ∨ ry = 4 ∨ ry = 5) with rfl | rfl | rfl | rfl | rfl | rfl <;>
  (simp only [p0, p1, p2, p3, p4, p5]
   rcases key with ⟨rfl, k⟩ | k
   · omega
   · have := hmul k
     omega)
theorem Ch.bd {c : Ch} {n : Nat} {v : Int} (h : c.ok) (hv : Bd n v) : Bd (n + 1048708) (c.f v) := by
  obtain ⟨hl, hp, hs⟩ := h
  have b1 : Bd 1048706 c.ss.sum := by
    have := bd_sum (n := 1048700) (l := c.ss) fun z hz => (hp z hz).2
    rw [hl] at this
    exact this
  have b2 : Bd 1048706 (c.ss.take (v % 6).toNat).sum := by
    have := bd_sum (n := 1048700) (l := c.ss.take (v % 6).toNat) fun z hz => (hp z (List.mem_of_mem_take hz)).2
    refine this.mono ?_
    rw [List.length_take]
    omega
  have b3 := (hv.div (d := 6) (by decide)).mul b1
  unfold Ch.f
  exact ((hs.mono (by omega)).add b3).add (b2.mono (by omega))
/-- a change lies at v, apart from dr -/
def AtCh (H : Hp) (dr : Addr) (v : V) (c : Ch) : Prop := ∃ a b, v = .ref a ∧ a ≠ dr ∧ b ≠ dr ∧ H a = some (.lst [.int c.s, .ref b]) ∧ H b = some (.lst (c.ss.map V.int))
theorem AtCh.ext {H H1 : Hp} {T : List Addr} {dr : Addr} {v : V} {c : Ch} (h : AtCh H dr v c) (e : Ex T [dr] H H1) : AtCh H1 dr v c := by
  obtain ⟨a, b, rfl, na, nb, ha, hb⟩ := h
  exact ⟨a, b, rfl, na, nb, e.lst (by simpa using na) ha, e.lst (by simpa using nb) hb⟩

/-! ### machines see the order alone -/
def mapH (f : Int → Int) (h : List (Option Int)) : List (Option Int) := h.map (Option.map f)
def chE (f : Int → Int) (p : Int × Option Int) : Int × Option Int := (p.1, p.2.map f)
def chL (f : Int → Int) (e : Nat × Int) : Nat × Int := (e.1, f e.2)
def toA (e : Nat × Int) : Int × Option Int := (e.1, some e.2)
theorem mapH_len {f : Int → Int} {h : List (Option Int)} : (mapH f h).length = h.length := List.length_map ..
theorem enc_toA (es : List (Nat × Int)) : es.map encE = (es.map toA).map encA1 := by
  rw [List.map_map]
  rfl
theorem chL_toA (f : Int → Int) (es : List (Nat × Int)) : (es.map toA).map (chE f) = (es.map (chL f)).map toA := by
  rw [List.map_map, List.map_map]
  rfl
section
variable {f : Int → Int}
theorem worth_map (v : Int) (h : List (Option Int)) (p : Int) : worth (f v) (mapH f h) p = (worth v h p).map f := by
  unfold worth mapH
  split
  · rfl
  · split
    · rfl
    · rw [List.getElem?_map]
      cases h[p.toNat]? <;> rfl
theorem ltO_map (r : Rise f) (a b : Option Int) : ltO (a.map f) (b.map f) = ltO a b := by
  cases a <;> cases b <;> try rfl
  rename_i x y
  show decide (f x < f y) = decide (x < y)
  rw [decide_eq_decide]
  exact r.lt x y
theorem eqO_map (r : Rise f) (a b : Option Int) : eqO (a.map f) (b.map f) = eqO a b := by
  cases a <;> cases b <;> try rfl
  rename_i x y
  show decide (f x = f y) = decide (x = y)
  rw [decide_eq_decide]
  exact r.eq x y
mutual
theorem hold_map (r : Rise f) (v : Int) (h : List (Option Int)) : ∀ c : C, hold (f v) (mapH f h) c = hold v h c
  | .tru => by unfold hold; rfl
  | .fls => by unfold hold; rfl
  | .less a b => by unfold hold; rw [worth_map, worth_map, ltO_map r]
  | .same a b => by unfold hold; rw [worth_map, worth_map, eqO_map r]
  | .emp a => by unfold hold; rw [worth_map]; cases worth v h a <;> rfl
  | .nt c => by unfold hold; rw [hold_map r v h c]
  | .all cs => by unfold hold; exact holdA_map r v h cs
  | .any cs => by unfold hold; exact holdE_map r v h cs
theorem holdA_map (r : Rise f) (v : Int) (h : List (Option Int)) : ∀ cs : List C, holdA (f v) (mapH f h) cs = holdA v h cs
  | [] => by unfold holdA; rfl
  | c :: cs => by rw [holdA_cons, holdA_cons, hold_map r v h c, holdA_map r v h cs]
theorem holdE_map (r : Rise f) (v : Int) (h : List (Option Int)) : ∀ cs : List C, holdE (f v) (mapH f h) cs = holdE v h cs
  | [] => by unfold holdE; rfl
  | c :: cs => by rw [holdE_cons, holdE_cons, hold_map r v h c, holdE_map r v h cs]
end
theorem saidC_map (v : Int) (h : List (Option Int)) (c : Case) : saidC (f v) (mapH f h) c = (saidC v h c).map (chE f) := by
  unfold saidC
  rw [List.map_map]
  refine List.map_congr_left fun p _ => ?_
  show (p.1, worth (f v) (mapH f h) p.2) = (p.1, (worth v h p.2).map f)
  rw [worth_map]
theorem keptC_map (v : Int) (h : List (Option Int)) (c : Case) : keptC (f v) (mapH f h) c = mapH f (keptC v h c) := by
  unfold keptC
  show _ = List.map _ _
  rw [List.map_map]
  refine List.map_congr_left fun p _ => ?_
  rw [worth_map]
  rfl
theorem readM_map (r : Rise f) (m : M) (st : Nat) (h : List (Option Int)) (e : Nat × Int) :
    readM m st (mapH f h) (chL f e) = ((readM m st h e).1, mapH f (readM m st h e).2.1, (readM m st h e).2.2.map (chE f)) := by
  unfold readM
  have ef : holdC (chL f e).2 (mapH f h) = holdC e.2 h := funext fun c => hold_map r e.2 h c.cond
  rw [ef]
  show (match (m.cases st e.1).find? (holdC e.2 h) with | none => _ | some c => _) = _
  cases (m.cases st e.1).find? (holdC e.2 h) with
  | none => rfl
  | some c =>
    show (c.nxt, keptC (f e.2) (mapH f h) c, saidC (f e.2) (mapH f h) c) = _
    rw [saidC_map, keptC_map]
def mapC (f : Int → Int) (c : Ct) : Ct := (c.1, mapH f c.2)
theorem stepM_map (r : Rise f) (m : M) (c : Ct) (e : Nat × Int) : stepM m (mapC f c) (chL f e) = mapC f (stepM m c e) := by
  show ((readM m c.1 (mapH f c.2) (chL f e)).1, (readM m c.1 (mapH f c.2) (chL f e)).2.1) = _
  rw [readM_map r]
  rfl
theorem contM_map (r : Rise f) (m : M) : ∀ (c : Ct) (es : List (Nat × Int)), contM m (mapC f c) (es.map (chL f)) = mapC f (contM m c es)
  | c, [] => rfl
  | c, e :: es => by
    show contM m (stepM m (mapC f c) (chL f e)) (es.map (chL f)) = mapC f (contM m (stepM m c e) es)
    rw [stepM_map r, contM_map r m _ es]
theorem answersM_map (r : Rise f) (m : M) : ∀ (c : Ct) (es : List (Nat × Int)), answersM m (mapC f c) (es.map (chL f)) = (answersM m c es).map (List.map (chE f))
  | c, [] => rfl
  | c, e :: es => by
    show (readM m c.1 (mapH f c.2) (chL f e)).2.2 :: answersM m (stepM m (mapC f c) (chL f e)) (es.map (chL f)) = _ :: _
    rw [readM_map r, stepM_map r, answersM_map r m _ es]
theorem mapH_rep (n : Nat) : mapH f (List.replicate n none) = List.replicate n none := by
  unfold mapH
  rw [List.map_replicate]
  rfl
end
/-! ### where values come from -/
def PH (P : Int → Prop) (h : List (Option Int)) : Prop := ∀ x, some x ∈ h → P x
def PA (P : Int → Prop) (a : List (Int × Option Int)) : Prop := ∀ p ∈ a, ∀ x, p.2 = some x → P x
section
variable {P : Int → Prop}
theorem worth_P {v : Int} {h : List (Option Int)} {p : Int} (hh : PH P h) (hv : P v) {x : Int} (e : worth v h p = some x) : P x := by
  unfold worth at e
  split at e
  · cases e; exact hv
  · split at e
    · cases e
    · cases g : h[p.toNat]? with
      | none => rw [g] at e; cases e
      | some o =>
        rw [g] at e
        exact hh x (by
          have : o = some x := e
          rw [this] at g
          exact List.mem_of_getElem? g)
theorem readM_P (m : M) (st : Nat) {h : List (Option Int)} {e : Nat × Int} (hh : PH P h) (he : P e.2) : PH P (readM m st h e).2.1 ∧ PA P (readM m st h e).2.2 := by
  unfold readM
  cases (m.cases st e.1).find? (holdC e.2 h) with
  | none => exact ⟨hh, fun p hp => by cases hp⟩
  | some c =>
    refine ⟨fun x hx => ?_, fun p hp x hx => ?_⟩
    · obtain ⟨s, _, e'⟩ := List.mem_map.mp hx
      exact worth_P hh he e'
    · obtain ⟨s, _, rfl⟩ := List.mem_map.mp hp
      exact worth_P hh he hx
theorem answersM_P (m : M) : ∀ {c : Ct} {es : List (Nat × Int)}, PH P c.2 → (∀ e ∈ es, P e.2) → ∀ a ∈ answersM m c es, PA P a
  | c, [], _, _, a, h => by cases h
  | c, e :: es, hc, he, a, h => by
    have r := readM_P m c.1 hc (he e (by simp))
    rcases List.mem_cons.mp h with rfl | h
    · exact r.2
    · exact answersM_P m (c := stepM m c e) r.1 (fun f hf => he f (by simp [hf])) a h
theorem contM_P (m : M) : ∀ {c : Ct} {es : List (Nat × Int)}, PH P c.2 → (∀ e ∈ es, P e.2) → PH P (contM m c es).2
  | c, [], hc, _ => hc
  | c, e :: es, hc, he => contM_P m (c := stepM m c e) (es := es) (readM_P m c.1 hc (he e (by simp))).1 fun f hf => he f (by simp [hf])
theorem PH_rep (n : Nat) : PH P (List.replicate n none) := fun x h => by
  have := (List.mem_replicate.mp h).2
  cases this
end
theorem plogA {P : Int → Prop} {es : List (Nat × Int)} (h : ∀ e ∈ es, P e.2) : PA P (es.map toA) := fun p hp x hx => by
  obtain ⟨e, he, rfl⟩ := List.mem_map.mp hp
  cases hx
  exact h e he
theorem chL_tag {f : Int → Int} {t : Nat} {es : List (Nat × Int)} (h : ∀ e ∈ es, e.1 < t) : ∀ e ∈ es.map (chL f), e.1 < t := fun p hp => by
  obtain ⟨e, he, rfl⟩ := List.mem_map.mp hp
  exact h e he
theorem chL_P {P : Int → Prop} {f : Int → Int} {es : List (Nat × Int)} (h : ∀ e ∈ es, P (f e.2)) : ∀ e ∈ es.map (chL f), P e.2 := fun p hp => by
  obtain ⟨e, he, rfl⟩ := List.mem_map.mp hp
  exact h e he
/-- a log that was changed -/
theorem at_chL {K : PySem.W.Frag} {H : Hp} {v : V} {f : Int → Int} {es : List (Nat × Int)} (h : At K H v (.tup (((es.map toA).map (chE f)).map encA1))) : At K H v (.tup ((es.map (chL f)).map encE)) := by
  rw [chL_toA, ← enc_toA] at h
  exact h
theorem at_toA {K : PySem.W.Frag} {H : Hp} {v : V} {es : List (Nat × Int)} (h : At K H v (.tup (es.map encE))) : At K H v (.tup ((es.map toA).map encA1)) := by
  rw [← enc_toA]
  exact h
end Dv

/-! Turned machines. -/
namespace Dv
open PySem PySem.Spec PyProof.Rows L2 GxR Gx
mutual
def turnC : C → C
  | .tru => .tru
  | .fls => .fls
  | .less a b => .less b a
  | .same a b => .same a b
  | .emp a => .emp a
  | .nt c => .nt (turnC c)
  | .all cs => .all (turnCs cs)
  | .any cs => .any (turnCs cs)
def turnCs : List C → List C
  | [] => []
  | c :: cs => turnC c :: turnCs cs
end
theorem turnCs_map : ∀ cs : List C, turnCs cs = cs.map turnC
  | [] => by unfold turnCs; rfl
  | c :: cs => by unfold turnCs; rw [List.map_cons, turnCs_map cs]
theorem turnCs_len (cs : List C) : (turnCs cs).length = cs.length := by rw [turnCs_map, List.length_map]
def turnCase (c : Case) : Case := { c with cond := turnC c.cond }
def turnM (m : M) : M := { m with steps := m.steps.map (List.map (List.map turnCase)) }
mutual
theorem okC_turn {r : Nat} : ∀ {n : Nat} {c : C}, okC r n c → okC r n (turnC c)
  | n, .tru, h => by unfold turnC; exact h
  | n, .fls, h => by unfold turnC; exact h
  | n, .less a b, h => by unfold turnC; unfold okC at *; exact ⟨h.2, h.1⟩
  | n, .same a b, h => by unfold turnC; exact h
  | n, .emp a, h => by unfold turnC; exact h
  | 0, .nt c, h => by unfold okC at h; exact h.elim
  | n + 1, .nt c, h => by unfold turnC; unfold okC at *; exact okC_turn h
  | 0, .all cs, h => by unfold okC at h; exact h.elim
  | n + 1, .all cs, h => by unfold turnC; unfold okC at *; rw [turnCs_len]; exact ⟨h.1, okCs_turn h.2⟩
  | 0, .any cs, h => by unfold okC at h; exact h.elim
  | n + 1, .any cs, h => by unfold turnC; unfold okC at *; rw [turnCs_len]; exact ⟨h.1, okCs_turn h.2⟩
theorem okCs_turn {r : Nat} : ∀ {n : Nat} {cs : List C}, okCs r n cs → okCs r n (turnCs cs)
  | n, [], h => by unfold turnCs; exact h
  | n, c :: cs, h => by unfold turnCs; unfold okCs at *; exact ⟨okC_turn h.1, okCs_turn h.2⟩
end
theorem turnC_nt (c : C) : turnC (.nt c) = .nt (turnC c) := by conv => lhs; unfold turnC
theorem turnC_all (cs : List C) : turnC (.all cs) = .all (turnCs cs) := by conv => lhs; unfold turnC
theorem turnC_any (cs : List C) : turnC (.any cs) = .any (turnCs cs) := by conv => lhs; unfold turnC
theorem turnCs_cons (c : C) (cs : List C) : turnCs (c :: cs) = turnC c :: turnCs cs := by conv => lhs; unfold turnCs
mutual
theorem turnC_turn : ∀ c : C, turnC (turnC c) = c
  | .tru => by unfold turnC turnC; rfl
  | .fls => by unfold turnC turnC; rfl
  | .less a b => by unfold turnC turnC; rfl
  | .same a b => by unfold turnC turnC; rfl
  | .emp a => by unfold turnC turnC; rfl
  | .nt c => by rw [turnC_nt, turnC_nt, turnC_turn c]
  | .all cs => by rw [turnC_all, turnC_all, turnCs_turn cs]
  | .any cs => by rw [turnC_any, turnC_any, turnCs_turn cs]
theorem turnCs_turn : ∀ cs : List C, turnCs (turnCs cs) = cs
  | [] => by unfold turnCs turnCs; rfl
  | c :: cs => by rw [turnCs_cons, turnCs_cons, turnC_turn c, turnCs_turn cs]
end
theorem encCs_map : ∀ cs : List C, encCs cs = cs.map encC
  | [] => by unfold encCs; rfl
  | c :: cs => by unfold encCs; rw [List.map_cons, encCs_map cs]
theorem encCs_turn (cs : List C) : cs.map (fun c => encC (turnC c)) = encCs (turnCs cs) := by
  rw [encCs_map, turnCs_map, List.map_map]
  rfl
theorem okCase_turn {r S n : Nat} {c : Case} (h : okCase r S n c) : okCase r S n (turnCase c) := ⟨okC_turn h.cond, h.mlen, h.mv, h.say, h.slen, h.nxt⟩
theorem okM_turn {n : Nat} {m : M} (h : okM n m) : okM n (turnM m) := by
  refine ⟨h.tags, h.tmax, h.rmax, by show 0 < (List.map _ _).length; rw [List.length_map]; exact h.some, by show (List.map _ _).length ≤ _; rw [List.length_map]; exact h.smax, fun s hs => ?_, fun s hs cs hcs => ?_⟩
  · obtain ⟨s', hs', rfl⟩ := List.mem_map.mp hs
    rw [List.length_map]
    exact h.all s' hs'
  · obtain ⟨s', hs', rfl⟩ := List.mem_map.mp hs
    obtain ⟨cs', hcs', rfl⟩ := List.mem_map.mp hcs
    have r := h.cases s' hs' cs' hcs'
    refine ⟨by rw [List.length_map]; exact r.1, fun c hc => ?_⟩
    obtain ⟨c', hc', rfl⟩ := List.mem_map.mp hc
    show okCase m.regs (List.map _ m.steps).length n (turnCase c')
    rw [List.length_map]
    exact okCase_turn (r.2 c' hc')
theorem turnM_cases (m : M) (st t : Nat) : (turnM m).cases st t = (m.cases st t).map turnCase := by
  show ((m.steps.map (List.map (List.map turnCase))).getD st []).getD t [] = ((m.steps.getD st []).getD t []).map turnCase
  rw [List.getD_eq_getElem?_getD, List.getD_eq_getElem?_getD, List.getElem?_map]
  rw [List.getD_eq_getElem?_getD (l := m.steps), List.getD_eq_getElem?_getD]
  cases m.steps[st]? with
  | none => rfl
  | some s =>
    show ((List.map (List.map turnCase) s)[t]?).getD [] = ((s[t]?).getD []).map turnCase
    rw [List.getElem?_map]
    cases s[t]? <;> rfl
theorem turnM_steps (m : M) : (turnM m).steps.length = m.steps.length := List.length_map ..
theorem okCt_turn {m : M} {c : Ct} (h : okCt m c) : okCt (turnM m) c := ⟨by rw [turnM_steps]; exact h.st, h.len⟩
/-! ### falling changes -/
def Fall (f : Int → Int) : Prop := ∀ x y, x < y → f y < f x
theorem fall_neg : Fall (fun x => -x) := fun x y h => by show -y < -x; omega
section
variable {f : Int → Int}
theorem Fall.lt (h : Fall f) (x y : Int) : f y < f x ↔ x < y := by
  constructor
  · intro g
    rcases Int.lt_trichotomy x y with c | c | c
    · exact c
    · subst c; omega
    · have := h _ _ c; omega
  · exact h x y
theorem Fall.eq (h : Fall f) (x y : Int) : f x = f y ↔ x = y := by
  constructor
  · intro g
    rcases Int.lt_trichotomy x y with c | c | c
    · have := h _ _ c; omega
    · exact c
    · have := h _ _ c; omega
  · rintro rfl; rfl
theorem ltO_fall (r : Fall f) (a b : Option Int) : ltO (b.map f) (a.map f) = ltO a b := by
  cases a <;> cases b <;> try rfl
  rename_i x y
  show decide (f y < f x) = decide (x < y)
  rw [decide_eq_decide]
  exact r.lt x y
theorem eqO_fall (r : Fall f) (a b : Option Int) : eqO (a.map f) (b.map f) = eqO a b := by
  cases a <;> cases b <;> try rfl
  rename_i x y
  show decide (f x = f y) = decide (x = y)
  rw [decide_eq_decide]
  exact r.eq x y
mutual
theorem hold_turn (r : Fall f) (v : Int) (h : List (Option Int)) : ∀ c : C, hold (f v) (mapH f h) (turnC c) = hold v h c
  | .tru => by unfold turnC; unfold hold; rfl
  | .fls => by unfold turnC; unfold hold; rfl
  | .less a b => by unfold turnC; unfold hold; rw [worth_map, worth_map, ltO_fall r]
  | .same a b => by unfold turnC; unfold hold; rw [worth_map, worth_map, eqO_fall r]
  | .emp a => by unfold turnC; unfold hold; rw [worth_map]; cases worth v h a <;> rfl
  | .nt c => by unfold turnC; unfold hold; rw [hold_turn r v h c]
  | .all cs => by unfold turnC; unfold hold; exact holdA_turn r v h cs
  | .any cs => by unfold turnC; unfold hold; exact holdE_turn r v h cs
theorem holdA_turn (r : Fall f) (v : Int) (h : List (Option Int)) : ∀ cs : List C, holdA (f v) (mapH f h) (turnCs cs) = holdA v h cs
  | [] => by unfold turnCs; unfold holdA; rfl
  | c :: cs => by unfold turnCs; rw [holdA_cons, holdA_cons, hold_turn r v h c, holdA_turn r v h cs]
theorem holdE_turn (r : Fall f) (v : Int) (h : List (Option Int)) : ∀ cs : List C, holdE (f v) (mapH f h) (turnCs cs) = holdE v h cs
  | [] => by unfold turnCs; unfold holdE; rfl
  | c :: cs => by unfold turnCs; rw [holdE_cons, holdE_cons, hold_turn r v h c, holdE_turn r v h cs]
end
theorem readM_turn (r : Fall f) (m : M) (st : Nat) (h : List (Option Int)) (e : Nat × Int) :
    readM (turnM m) st (mapH f h) (chL f e) = ((readM m st h e).1, mapH f (readM m st h e).2.1, (readM m st h e).2.2.map (chE f)) := by
  unfold readM
  rw [turnM_cases, List.find?_map]
  have ef : holdC (chL f e).2 (mapH f h) ∘ turnCase = holdC e.2 h := funext fun c => hold_turn r e.2 h c.cond
  rw [ef]
  show (match ((m.cases st e.1).find? (holdC e.2 h)).map turnCase with | none => _ | some c => _) = _
  cases (m.cases st e.1).find? (holdC e.2 h) with
  | none => rfl
  | some c =>
    show (c.nxt, keptC (f e.2) (mapH f h) (turnCase c), saidC (f e.2) (mapH f h) (turnCase c)) = _
    rw [saidC_map, keptC_map]
    rfl
theorem stepM_turn (r : Fall f) (m : M) (c : Ct) (e : Nat × Int) : stepM (turnM m) (mapC f c) (chL f e) = mapC f (stepM m c e) := by
  show ((readM (turnM m) c.1 (mapH f c.2) (chL f e)).1, (readM (turnM m) c.1 (mapH f c.2) (chL f e)).2.1) = _
  rw [readM_turn r]
  rfl
theorem answersM_turn (r : Fall f) (m : M) : ∀ (c : Ct) (es : List (Nat × Int)), answersM (turnM m) (mapC f c) (es.map (chL f)) = (answersM m c es).map (List.map (chE f))
  | c, [] => rfl
  | c, e :: es => by
    show (readM (turnM m) c.1 (mapH f c.2) (chL f e)).2.2 :: answersM (turnM m) (stepM (turnM m) (mapC f c) (chL f e)) (es.map (chL f)) = _ :: _
    rw [readM_turn r, stepM_turn r, answersM_turn r m _ es]
end
theorem encCase_turn (c : Case) : encCase (turnCase c) = .tup [encC (turnC c.cond), .tup (c.moves.map .int), .tup (c.says.map encSay), .int c.nxt] := rfl
theorem wipe_get (k : Nat) : ∀ (vs : List Nat) (σ : L2.St), (wipe σ vs)[k]? = if k ∈ vs then (σ[k]?).map (fun _ => none) else σ[k]?
  | [], σ => by
    rw [if_neg (by simp)]
    rfl
  | v :: vs, σ => by
    show ((wipe σ vs).set v none)[k]? = _
    rw [List.getElem?_set]
    have ih := wipe_get k vs σ
    by_cases h : v = k
    · subst h
      simp only [List.mem_cons, true_or, if_true, wipe_length]
      by_cases hl : v < σ.length
      · simp [hl]
      · simp [hl]
    · rw [if_neg h, ih]
      have : k ∈ v :: vs ↔ k ∈ vs := by simp; exact fun e => absurd e.symm h
      simp only [this]
theorem wipe_set {vs : List Nat} {σ : L2.St} {i : Nat} {x : Option V} (h : i ∈ vs) : wipe (σ.set i x) vs = wipe σ vs := by
  refine List.ext_getElem? fun k => ?_
  rw [wipe_get, wipe_get, List.getElem?_set]
  split
  · rename_i hk
    split
    · rename_i e
      subst e
      split
      · rename_i hl
        rw [List.getElem?_eq_getElem hl]
        rfl
      · rename_i hl
        rw [List.getElem?_eq_none (Nat.le_of_not_lt hl)]
    · rfl
  · rename_i hk
    rw [if_neg (fun e => hk (by rw [← e]; exact h))]
theorem wipe_wipe {vs : List Nat} {σ : L2.St} : wipe (wipe σ vs) vs = wipe σ vs := by
  refine List.ext_getElem? fun k => ?_
  rw [wipe_get, wipe_get]
  split
  · cases σ[k]? <;> rfl
  · rfl
theorem wipe4 {vs : List Nat} {σ : L2.St} {i j k l : Nat} {x y z u : Option V} (h1 : i ∈ vs) (h2 : j ∈ vs) (h3 : k ∈ vs) (h4 : l ∈ vs) : wipe (((((wipe σ vs).set i x).set j y).set k z).set l u) vs = wipe σ vs := by
  rw [wipe_set h4, wipe_set h3, wipe_set h2, wipe_set h1, wipe_wipe]
theorem Col.put' {K : PySem.W.Frag} {T ms : List Addr} {D : Addr} {H H1 H2 : Hp} {ds : List Dv.D} (c : Col K T ms D H H1 ds) (free : H D = none) (nD : D ∉ ms) (wd : Wd T H) (e : Ex T ms H1 H2) {x : V} {d : Dv.D} (hx : At K H2 x d) (hl : ds.length ≤ 100000) :
    ∃ acc, H2 D = some (.lst acc) ∧ acc.length < sizeLine ∧ Col K T ms D H (upd H2 D (.lst (acc ++ [x]))) (ds ++ [d]) := by
  obtain ⟨ex, xs, hD, ats⟩ := c
  have hD2 : H2 D = some (.lst xs) := e.lst nD hD
  have exw : Ex T [D] H2 (upd H2 D (.lst (xs ++ [x]))) := Ex.write (by simp) hD2
  exact ⟨xs, hD2, Nat.lt_of_le_of_lt (by rw [ats.length]; exact hl) (by decide), (ex.trans e).put free wd, xs ++ [x], upd_same, ((ats.ext e).append (Ats.mk hx Ats.mk_nil)).ext exw⟩
end Dv

/-! Whether a machine is right. -/
namespace Dv
open PySem PySem.Spec PyProof.Rows L2 GxR Gx
/-- a statement that is never come to -/
theorem ps_dead {X : Cx} {st : Stmt} : PS X st (fun _ _ _ => False) := ⟨fun _ _ _ _ _ _ h => h.elim⟩
def plI (r p : Int) : Bool := decide (-1 ≤ p) && decide (p < r)
mutual
def plB (r : Int) : C → Bool
  | .tru => true
  | .fls => true
  | .less a b => plI r a && plI r b
  | .same a b => plI r a && plI r b
  | .emp a => plI r a
  | .nt c => plB r c
  | .all cs => plBs r cs
  | .any cs => plBs r cs
def plBs (r : Int) : List C → Bool
  | [] => true
  | c :: cs => plB r c && plBs r cs
end
theorem plBs_cons (r : Int) (c : C) (cs : List C) : plBs r (c :: cs) = (plB r c && plBs r cs) := by conv => lhs; unfold plBs

mutual
def dpC : Nat → C → Prop
  | 0, .nt _ => False
  | n + 1, .nt c => dpC n c
  | 0, .all _ => False
  | n + 1, .all cs => cs.length ≤ 100000 ∧ dpCs n cs
  | 0, .any _ => False
  | n + 1, .any cs => cs.length ≤ 100000 ∧ dpCs n cs
  | _, _ => True
def dpCs : Nat → List C → Prop
  | _, [] => True
  | n, c :: cs => dpC n c ∧ dpCs n cs
end
theorem dpCs_get {n : Nat} : ∀ {cs : List C} {i : Nat} {c : C}, dpCs n cs → cs[i]? = some c → dpC n c
  | [], i, c, h, e => by simp at e
  | c' :: cs, 0, c, h, e => by
    unfold dpCs at h
    obtain rfl : c' = c := by simpa using e
    exact h.1
  | c' :: cs, i + 1, c, h, e => by
    unfold dpCs at h
    exact dpCs_get h.2 (by simpa using e)
theorem pl_of {r : Nat} {p : Int} (h : plOk r p) : plI r p = true := by
  unfold plOk at h
  unfold plI
  rw [decide_eq_true h.1, decide_eq_true h.2]
  rfl
mutual
theorem okC_dp {r : Nat} : ∀ {n : Nat} {c : C}, okC r n c → dpC n c ∧ plB r c = true
  | n, .tru, h => by unfold dpC plB; cases n <;> exact ⟨trivial, rfl⟩
  | n, .fls, h => by unfold dpC plB; cases n <;> exact ⟨trivial, rfl⟩
  | n, .less a b, h => by unfold dpC plB; unfold okC at h; rw [pl_of h.1, pl_of h.2]; cases n <;> exact ⟨trivial, rfl⟩
  | n, .same a b, h => by unfold dpC plB; unfold okC at h; rw [pl_of h.1, pl_of h.2]; cases n <;> exact ⟨trivial, rfl⟩
  | n, .emp a, h => by unfold dpC plB; unfold okC at h; rw [pl_of h]; cases n <;> exact ⟨trivial, rfl⟩
  | 0, .nt c, h => by unfold okC at h; exact h.elim
  | n + 1, .nt c, h => by unfold dpC plB; unfold okC at h; exact okC_dp h
  | 0, .all cs, h => by unfold okC at h; exact h.elim
  | n + 1, .all cs, h => by unfold dpC plB; unfold okC at h; have r := okCs_dp h.2; exact ⟨⟨h.1, r.1⟩, r.2⟩
  | 0, .any cs, h => by unfold okC at h; exact h.elim
  | n + 1, .any cs, h => by unfold dpC plB; unfold okC at h; have r := okCs_dp h.2; exact ⟨⟨h.1, r.1⟩, r.2⟩
theorem okCs_dp {r : Nat} : ∀ {n : Nat} {cs : List C}, okCs r n cs → dpCs n cs ∧ plBs r cs = true
  | n, [], h => by unfold dpCs plBs; exact ⟨trivial, rfl⟩
  | n, c :: cs, h => by
    unfold okCs at h
    have r1 := okC_dp h.1
    have r2 := okCs_dp h.2
    rw [plBs_cons, r1.2, r2.2]
    unfold dpCs
    exact ⟨⟨r1.1, r2.1⟩, rfl⟩
end
/-- a condition is an atom, or not, all, any -/
theorem shapeC (r : Int) (c : C) : (∃ (wo : Str) (ps : List Int), encC c = .tup (.str wo :: ps.map .int) ∧ wo ≠ "not" ∧ inV (V.str wo) [V.str "all", V.str "any"] = false ∧ plB r c = ps.all (plI r) ∧ ps.length ≤ 2) ∨ (∃ d, c = .nt d) ∨ (∃ cs, c = .all cs) ∨ ∃ cs, c = .any cs := by
  cases c with
  | tru => exact .inl ⟨"true", [], by unfold encC; rfl, by decide +kernel, by decide +kernel, by unfold plB; rfl, by decide⟩
  | fls => exact .inl ⟨"false", [], by unfold encC; rfl, by decide +kernel, by decide +kernel, by unfold plB; rfl, by decide⟩
  | less a b => exact .inl ⟨"less", [a, b], by unfold encC; rfl, by decide +kernel, by decide +kernel, by unfold plB; simp, by simp⟩
  | same a b => exact .inl ⟨"same", [a, b], by unfold encC; rfl, by decide +kernel, by decide +kernel, by unfold plB; simp, by simp⟩
  | emp a => exact .inl ⟨"empty", [a], by unfold encC; rfl, by decide +kernel, by decide +kernel, by unfold plB; simp, by simp⟩
  | nt d => exact .inr (.inl ⟨d, rfl⟩)
  | all cs => exact .inr (.inr (.inl ⟨cs, rfl⟩))
  | any cs => exact .inr (.inr (.inr ⟨cs, rfl⟩))
theorem cut_drop2 {xs : List V} {av : Int} (h0 : 0 ≤ av) (h1 : av ≤ xs.length) : cutV xs (some av) none = xs.drop av.toNat := by
  obtain ⟨k, rfl⟩ := Int.eq_ofNat_of_zero_le h0
  have hk : k ≤ xs.length := by omega
  unfold cutV
  rw [HT.sIx_nat, HT.sIx_none, Int.toNat_natCast, Nat.min_eq_left hk, List.take_of_length_le (by rw [List.length_drop]; exact Nat.le_refl _)]
theorem slA_drop {K : PySem.W.Frag} {H : Hp} {T : List Addr} {Q : VK} {a : Addr} {xs : List V} {av : Int} (sq : SqT K H a xs) (h0 : 0 ≤ av) (h1 : av ≤ xs.length) (q : ∀ p H', SqT K H' p (xs.drop av.toNat) → Ex T [] H H' → Q (.ref p) H') : rSlA K (.ref a) (some av) none H Q := by
  refine ⟨a, xs, rfl, sq, fun hw => q a H ?_ Ex.refl, fun _ p np => q p _ (SqT.of ?_) (Ex.new np)⟩
  · obtain ⟨k, rfl⟩ := Int.eq_ofNat_of_zero_le h0
    have hk : k ≤ xs.length := by omega
    have := hw.1
    rw [HT.sIx_nat] at this
    have e : k = 0 := by omega
    subst e
    exact sq
  · rw [upd_same, cut_drop2 h0 h1]
end Dv

/-! Built machines. -/
namespace Dv
open PySem PySem.Spec PyProof.Rows L2 GxR Gx
theorem tup_new {K : PySem.W.Frag} {T : List Addr} {H : Hp} {xs : List V} {ds : List D} {Q : V → Hp → Prop} (hl : xs.length ≤ sizeLine) (r : Ats K H xs ds) (k : ∀ v H', At K H' v (.tup ds) → Ex T [] H H' → Q v H') :
    xs.length ≤ sizeLine ∧ ∀ p, H p = none → Q (.ref p) (upd H p (.tup xs)) := ⟨hl, fun p np => k _ _ (At.laid np r) (Ex.new np)⟩
theorem bd_near2 {n : Nat} {x b : Int} (h : x.natAbs ≤ b.natAbs + 100000) (g : Bd n b) (e : 20 ≤ n) : Bd (n + 1) x := by
  have p : 2 ^ 20 ≤ 2 ^ n := Nat.pow_le_pow_right (by decide) e
  have q : (2 : Nat) ^ 20 = 1048576 := by decide
  unfold Bd at *
  rw [Nat.pow_succ]
  generalize 2 ^ n = z at *
  omega
theorem answersM_rows (m : M) : ∀ (es : List (Nat × Int)) (st : Nat → Ct) (row : Nat → List (Int × Option Int)), (∀ k e, es[k]? = some e → readM m (st k).1 (st k).2 e = ((st (k + 1)).1, (st (k + 1)).2, row k)) →
    answersM m (st 0) es = (List.range es.length).map row
  | [], st, row, _ => rfl
  | e :: es, st, row, h => by
    have h0 := h 0 e rfl
    show (readM m (st 0).1 (st 0).2 e).2.2 :: answersM m (stepM m (st 0) e) es = _
    have e1 : stepM m (st 0) e = st 1 := by
      unfold stepM
      rw [h0]
    rw [e1, answersM_rows m es (fun k => st (k + 1)) (fun k => row (k + 1)) (fun k e' he => h (k + 1) e' (by simpa using he)), h0, List.length_cons, List.range_succ_eq_map, List.map_cons, List.map_map]
    rfl
theorem last_at {xs : List Int} (h : xs ≠ []) : atI (xs.map V.int) (-1) = some (.int (xs.getLast h)) := by
  have e : xs.map V.int = xs.dropLast.map V.int ++ [.int (xs.getLast h)] := by
    conv => lhs; rw [← List.dropLast_concat_getLast h]
    rw [List.map_append]
    rfl
  rw [e]
  exact atI_last _ _
def asLog (xs : List Int) : List (Nat × Int) := xs.map fun x => (0, x)
theorem asLog_get {xs : List Int} {k : Nat} {e : Nat × Int} (h : (asLog xs)[k]? = some e) : e = (0, xs.getD k 0) ∧ k < xs.length := by
  unfold asLog at h
  rw [List.getElem?_map] at h
  cases g : xs[k]? with
  | none => rw [g] at h; cases h
  | some x =>
    rw [g] at h
    cases h
    refine ⟨?_, (List.getElem?_eq_some_iff.mp g).1⟩
    rw [List.getD_eq_getElem?_getD, g]
    rfl
theorem asLog_len (xs : List Int) : (asLog xs).length = xs.length := List.length_map ..
theorem take_all {xs : List Int} {k : Nat} (h : k < xs.length) (p : Int → Bool) : (xs.take (k + 1)).all p = ((xs.take k).all p && p (xs.getD k 0)) := by
  rw [List.take_add_one, List.getElem?_eq_getElem h, List.all_append, List.getD_eq_getElem?_getD, List.getElem?_eq_getElem h]
  simp
mutual
def tuD : Nat → D → Prop
  | _, .int _ => True
  | _, .str _ => True
  | n + 1, .tup ds => ds.length ≤ 100000 ∧ tuDs n ds
  | _, _ => False
def tuDs : Nat → List D → Prop
  | _, [] => True
  | n, d :: ds => tuD n d ∧ tuDs n ds
end
theorem tuDs_get {n : Nat} : ∀ {ds : List D} {i : Nat} {d : D}, tuDs n ds → ds[i]? = some d → tuD n d
  | [], i, d, h, e => by simp at e
  | d' :: ds, 0, d, h, e => by
    unfold tuDs at h
    obtain rfl : d' = d := by simpa using e
    exact h.1
  | d' :: ds, i + 1, d, h, e => by
    unfold tuDs at h
    exact tuDs_get h.2 (by simpa using e)
theorem eqvAll_ints : ∀ xs ys : List Int, PyData.eqvAll (toPys (xs.map D.int)) (toPys (ys.map D.int)) = decide (xs = ys)
  | [], [] => by unfold toPys PyData.eqvAll; rfl
  | [], y :: ys => by rw [List.map_nil, List.map_cons]; unfold toPys PyData.eqvAll; rw [decide_eq_false (by simp)]
  | x :: xs, [] => by rw [List.map_nil, List.map_cons]; unfold toPys PyData.eqvAll; rw [decide_eq_false (by simp)]
  | x :: xs, y :: ys => by
    rw [List.map_cons, List.map_cons]
    unfold toPys PyData.eqvAll
    rw [eqvAll_ints xs ys]
    unfold toPy PyData.eqv
    by_cases h : x = y
    · subst h
      simp
    · simp [h]
theorem neD_ints {K : PySem.W.Frag} {H : Hp} {a b : Addr} {xs ys : List Int} {Q : VK} (h1 : SqL K H a (xs.map V.int)) (h2 : SqL K H b (ys.map V.int)) (q : Q (.bl (!decide (xs = ys))) H) : rNeD K (.ref a) (.ref b) H Q := by
  have sh : ∀ zs : List Int, SeqAt.shaped (.list (toPys (zs.map D.int))) = true := fun zs => by
    have z := plDs_lay (plDs_map (n := 0) (f := D.int) (l := zs) fun _ _ => plD_int)
    unfold SeqAt.shaped
    have e1 : (PyData.list (toPys (zs.map D.int))).canLay0 = true := by unfold PyData.canLay0; exact z.1
    have e2 : (PyData.list (toPys (zs.map D.int))).depth ≤ 64 := by unfold PyData.depth; omega
    rw [e1, decide_eq_true e2]
    rfl
  refine ⟨_, _, .lst h1 (ats_int.mpr rfl : Ats K H _ (xs.map D.int)).dp, .lst h2 (ats_int.mpr rfl : Ats K H _ (ys.map D.int)).dp, sh xs, sh ys, ?_⟩
  show Q (.bl (!PyData.eqvAll _ _)) H
  rw [eqvAll_ints]
  exact q
theorem rep_bool {K : PySem.W.Frag} {H : Hp} {T : List Addr} {Q : VK} {x : V} {ds : List D} {b : Bool} (hx : At K H x (.tup ds)) (hne : ds ≠ []) (hl : ds.length ≤ 1000) (q : ∀ v H', At K H' v (.tup (if b = true then ds else [])) → Ex T [] H H' → Q v H') :
    Tm.rRepN K x (.int (if b = true then 1 else 0)) H Q := by
  obtain ⟨a, xs, rfl, sq, ats⟩ := at_tup.mp hx
  have l := ats.length
  refine ⟨a, _, xs, rfl, rfl, sq, fun e => hne (by subst e; cases ds with | nil => rfl | cons => simp at l), by split <;> decide, by split <;> decide, by omega, fun p H' hH sq' => ?_⟩
  have ex : Ex T [] H H' := by
    rcases hH with rfl | ⟨n, rfl⟩
    · exact Ex.refl
    · exact Ex.new n
  refine q _ _ (at_tup.mpr ⟨p, _, rfl, sq', ?_⟩) ex
  cases b with
  | true =>
    show Ats K H' (List.replicate (1 : Int).toNat xs).flatten ds
    have e : (List.replicate (1 : Int).toNat xs).flatten = xs := by show (xs ++ []) = xs; rw [List.append_nil]
    rw [e]
    exact ats.ext ex
  | false => exact Ats.mk_nil
/-! records -/
def recM : M := ⟨1, 1, [[[⟨.any [.emp 0, .less 0 (-1)], [-1], [(0, -1)], 0⟩]]]⟩
theorem recM_ok : okM 3 recM := by
  refine ⟨by decide, by decide, by decide, by decide, by decide, fun s hs => ?_, fun s hs cs hcs => ?_⟩
  · obtain rfl := List.mem_singleton.mp hs; rfl
  · obtain rfl := List.mem_singleton.mp hs
    obtain rfl := List.mem_singleton.mp hcs
    refine ⟨by decide, fun c hc => ?_⟩
    obtain rfl := List.mem_singleton.mp hc
    refine ⟨by show okC 1 3 (.any [.emp 0, .less 0 (-1)]); simp [okC, okCs, plOk], rfl, fun s hs => ?_, fun s hs => ?_, by decide, by decide⟩
    · obtain rfl := List.mem_singleton.mp hs; decide
    · obtain rfl := List.mem_singleton.mp hs; decide
theorem recM_read (o : Option Int) (x : Int) : readM recM 0 [o] (0, x) = if (o.isNone || ltO o (some x)) = true then (0, [some x], [(0, some x)]) else (0, [o], []) := by
  have e : M.cases recM 0 0 = [⟨.any [.emp 0, .less 0 (-1)], [-1], [(0, -1)], 0⟩] := rfl
  have w0 : worth x [o] 0 = o := rfl
  have hh : hold x [o] (.any [.emp 0, .less 0 (-1)]) = (o.isNone || ltO o (some x)) := by
    unfold hold
    rw [holdE_cons, holdE_cons]
    unfold hold holdE
    rw [w0, worth_new, Bool.or_false]
  have e1 : (readM recM 0 [o] (0, x)) = (match (M.cases recM 0 0).find? (holdC x [o]) with | none => (0, [o], []) | some c => (c.nxt, keptC x [o] c, saidC x [o] c)) := rfl
  rw [e1, e]
  cases hb : (o.isNone || ltO o (some x)) with
  | true =>
    rw [List.find?_cons_of_pos (by unfold holdC; rw [hh, hb]), if_pos rfl]
    rfl
  | false =>
    rw [List.find?_cons_of_neg (by unfold holdC; rw [hh, hb]; exact Bool.false_ne_true), if_neg Bool.false_ne_true]
    rfl
def recF (o : Option Int) (z : Int) : Bool := o.isNone || ltO o (some z)
def recStep (o : Option Int) (x : Int) : Option Int := if recF o x = true then some x else o
theorem recF_step (o : Option Int) (x z : Int) : recF (recStep o x) z = (recF o z && decide (x < z)) := by
  cases o with
  | none => rfl
  | some m =>
    unfold recStep
    show recF (if decide (m < x) = true then some x else some m) z = (decide (m < z) && decide (x < z))
    by_cases c : m < x
    · rw [if_pos (decide_eq_true c)]
      show decide (x < z) = _
      by_cases d : x < z
      · rw [decide_eq_true d, decide_eq_true (by omega : m < z)]; rfl
      · rw [decide_eq_false d, Bool.and_false]
    · rw [if_neg (by rw [decide_eq_false c]; exact Bool.false_ne_true)]
      show decide (m < z) = _
      by_cases d : m < z
      · rw [decide_eq_true d, decide_eq_true (by omega : x < z)]; rfl
      · rw [decide_eq_false d, Bool.false_and]
def recO (xs : List Int) : Nat → Option Int
  | 0 => none
  | k + 1 => recStep (recO xs k) (xs.getD k 0)
def recRow (xs : List Int) (k : Nat) : List (Int × Option Int) := if (xs.take k).all (fun y => decide (y < xs.getD k 0)) = true then [(0, some (xs.getD k 0))] else []
theorem recO_all (xs : List Int) (z : Int) : ∀ k, k ≤ xs.length → (xs.take k).all (fun y => decide (y < z)) = recF (recO xs k) z
  | 0, _ => rfl
  | k + 1, h => by
    rw [take_all (by omega), recO_all xs z k (by omega)]
    exact (recF_step _ _ _).symm
def recDue (xs : List Int) : List (List (Int × Option Int)) := (List.range xs.length).map (recRow xs)
theorem rec_due (xs : List Int) : answersM recM (0, [none]) (asLog xs) = recDue xs := by
  have h := answersM_rows recM (asLog xs) (fun k => (0, [recO xs k])) (recRow xs) fun k e he => by
    obtain ⟨rfl, hk⟩ := asLog_get he
    show readM recM 0 [recO xs k] (0, xs.getD k 0) = _
    rw [recM_read]
    show (if recF (recO xs k) (xs.getD k 0) = true then _ else _) = (0, [recStep (recO xs k) (xs.getD k 0)], recRow xs k)
    unfold recStep recRow
    rw [recO_all xs _ k (by omega)]
    cases recF (recO xs k) (xs.getD k 0) <;> rfl
  rw [asLog_len] at h
  exact h
/-! band -/
def bandM : M := ⟨1, 2, [[[⟨.emp 0, [-1, -1], [(0, -1), (1, -1)], 0⟩, ⟨.less (-1) 0, [-1, 1], [(0, -1), (1, 1)], 0⟩, ⟨.less 1 (-1), [0, -1], [(0, 0), (1, -1)], 0⟩]]]⟩
def turnsM : M := ⟨1, 2, [[[⟨.all [.less 0 1, .less (-1) 1], [1, -1], [(0, 1)], 0⟩, ⟨.all [.less 1 0, .less 1 (-1)], [1, -1], [(1, 1)], 0⟩, ⟨.tru, [1, -1], [], 0⟩]]]⟩
def runsM : M := ⟨1, 2, [[[⟨.emp 0, [-1, -1], [], 0⟩, ⟨.less 1 (-1), [0, -1], [], 0⟩, ⟨.tru, [-1, -1], [(0, 0)], 0⟩]]]⟩
/-- one standing, one tag -/
theorem ok_one {r : Nat} {cs : List Case} (hr : r ≤ 1000) (hl : cs.length ≤ 1000) (h : ∀ c ∈ cs, okCase r 1 3 c) : okM 3 ⟨1, r, [[cs]]⟩ := by
  refine ⟨by show 1 ≤ 1; decide, by show 1 ≤ 1000; decide, hr, by show 0 < 1; decide, by show 1 ≤ 1000; decide, fun s hs => ?_, fun s hs ds hds => ?_⟩
  · obtain rfl := List.mem_singleton.mp hs; rfl
  · obtain rfl := List.mem_singleton.mp hs
    obtain rfl := List.mem_singleton.mp hds
    exact ⟨hl, h⟩
theorem ok_case {r : Nat} {c : C} {mv : List Int} {sy : List (Int × Int)} (h1 : okC r 3 c) (h2 : mv.length = r) (h3 : ∀ s ∈ mv, -2 ≤ s ∧ s < r) (h4 : ∀ p ∈ sy, 0 ≤ p.1 ∧ -2 ≤ p.2 ∧ p.2 < r) (h5 : sy.length ≤ 1000) : okCase r 1 3 ⟨c, mv, sy, 0⟩ :=
  ⟨h1, h2, h3, h4, h5, by show 0 < 1; decide⟩
theorem bandM_ok : okM 3 bandM := ok_one (by decide) (by decide) fun c hc => by
  simp only [List.mem_cons, List.not_mem_nil, or_false] at hc
  rcases hc with rfl | rfl | rfl <;> exact ok_case (by simp [okC, okCs, plOk]) rfl (by decide) (by decide) (by decide)
theorem turnsM_ok : okM 3 turnsM := ok_one (by decide) (by decide) fun c hc => by
  simp only [List.mem_cons, List.not_mem_nil, or_false] at hc
  rcases hc with rfl | rfl | rfl <;> exact ok_case (by simp [okC, okCs, plOk]) rfl (by decide) (by decide) (by decide)
theorem runsM_ok : okM 3 runsM := ok_one (by decide) (by decide) fun c hc => by
  simp only [List.mem_cons, List.not_mem_nil, or_false] at hc
  rcases hc with rfl | rfl | rfl <;> exact ok_case (by simp [okC, okCs, plOk]) rfl (by decide) (by decide) (by decide)
/-- the first case that holds, of one standing -/
theorem read_one (r : Nat) (cs : List Case) (h : List (Option Int)) (x : Int) : readM ⟨1, r, [[cs]]⟩ 0 h (0, x) = (match cs.find? (holdC x h) with | none => (0, h, []) | some c => (c.nxt, keptC x h c, saidC x h c)) := rfl
theorem find3 {α : Type} (p : α → Bool) (a b c : α) : [a, b, c].find? p = if p a = true then some a else if p b = true then some b else if p c = true then some c else none := by
  cases h1 : p a <;> cases h2 : p b <;> cases h3 : p c <;> simp [h1, h2, h3]
theorem band_read0 (x : Int) : readM bandM 0 [none, none] (0, x) = (0, [some x, some x], [(0, some x), (1, some x)]) := by
  have e := read_one 2 [⟨.emp 0, [-1, -1], [(0, -1), (1, -1)], 0⟩, ⟨.less (-1) 0, [-1, 1], [(0, -1), (1, 1)], 0⟩, ⟨.less 1 (-1), [0, -1], [(0, 0), (1, -1)], 0⟩] [none, none] x
  have h1 : holdC x [none, none] ⟨.emp 0, [-1, -1], [(0, -1), (1, -1)], 0⟩ = true := by unfold holdC hold; rfl
  rw [find3, if_pos h1] at e
  exact e
theorem band_read (l h x : Int) : readM bandM 0 [some l, some h] (0, x) = if x < l then (0, [some x, some h], [(0, some x), (1, some h)]) else if h < x then (0, [some l, some x], [(0, some l), (1, some x)]) else (0, [some l, some h], []) := by
  have e := read_one 2 [⟨.emp 0, [-1, -1], [(0, -1), (1, -1)], 0⟩, ⟨.less (-1) 0, [-1, 1], [(0, -1), (1, 1)], 0⟩, ⟨.less 1 (-1), [0, -1], [(0, 0), (1, -1)], 0⟩] [some l, some h] x
  have h1 : holdC x [some l, some h] ⟨.emp 0, [-1, -1], [(0, -1), (1, -1)], 0⟩ = false := by unfold holdC hold; rfl
  have h2 : holdC x [some l, some h] ⟨.less (-1) 0, [-1, 1], [(0, -1), (1, 1)], 0⟩ = decide (x < l) := by unfold holdC hold; rfl
  have h3 : holdC x [some l, some h] ⟨.less 1 (-1), [0, -1], [(0, 0), (1, -1)], 0⟩ = decide (h < x) := by unfold holdC hold; rfl
  rw [find3, h1, h2, h3, if_neg Bool.false_ne_true] at e
  by_cases c : x < l
  · rw [if_pos c]
    rw [decide_eq_true c, if_pos rfl] at e
    exact e
  · rw [if_neg c]
    rw [decide_eq_false c, if_neg Bool.false_ne_true] at e
    by_cases d : h < x
    · rw [if_pos d]
      rw [decide_eq_true d, if_pos rfl] at e
      exact e
    · rw [if_neg d]
      rw [decide_eq_false d, if_neg Bool.false_ne_true] at e
      exact e
def bandStep (o : Option (Int × Int)) (x : Int) : Option (Int × Int) :=
  match o with
  | none => some (x, x)
  | some (l, h) => if x < l then some (x, h) else if h < x then some (l, x) else some (l, h)
def bandO (xs : List Int) : Nat → Option (Int × Int)
  | 0 => none
  | k + 1 => bandStep (bandO xs k) (xs.getD k 0)
def bandSay (o : Option (Int × Int)) : List (Int × Option Int) :=
  match o with
  | none => []
  | some (l, h) => [(0, some l), (1, some h)]
def bandRow (xs : List Int) (k : Nat) : List (Int × Option Int) := if bandO xs (k + 1) = bandO xs k then [] else bandSay (bandO xs (k + 1))
def bandDue (xs : List Int) : List (List (Int × Option Int)) := (List.range xs.length).map (bandRow xs)
def bandHeld (o : Option (Int × Int)) : List (Option Int) :=
  match o with
  | none => [none, none]
  | some (l, h) => [some l, some h]
theorem band_step (o : Option (Int × Int)) (x : Int) : readM bandM 0 (bandHeld o) (0, x) = (0, bandHeld (bandStep o x), if bandStep o x = o then [] else bandSay (bandStep o x)) := by
  cases o with
  | none => exact band_read0 x
  | some p =>
    obtain ⟨l, h⟩ := p
    show readM bandM 0 [some l, some h] (0, x) = _
    rw [band_read]
    unfold bandStep
    show _ = (0, bandHeld (if x < l then some (x, h) else if h < x then some (l, x) else some (l, h)), if (if x < l then some (x, h) else if h < x then some (l, x) else some (l, h)) = some (l, h) then [] else bandSay (if x < l then some (x, h) else if h < x then some (l, x) else some (l, h)))
    by_cases c : x < l
    · rw [if_pos c, if_pos c, if_neg (by simp; omega)]
      rfl
    · rw [if_neg c, if_neg c]
      by_cases d : h < x
      · rw [if_pos d, if_pos d, if_neg (by simp; omega)]
        rfl
      · rw [if_neg d, if_neg d, if_pos rfl]
        rfl
theorem band_due (xs : List Int) : answersM bandM (0, [none, none]) (asLog xs) = bandDue xs := by
  have h := answersM_rows bandM (asLog xs) (fun k => (0, bandHeld (bandO xs k))) (bandRow xs) fun k e he => by
    obtain ⟨rfl, hk⟩ := asLog_get he
    exact band_step _ _
  rw [asLog_len] at h
  exact h
/-- the least and the greatest of the first k -/
theorem bandO_spec (xs : List Int) : ∀ k, 0 < k → k ≤ xs.length → ∃ l h, bandO xs k = some (l, h) ∧ l ∈ xs.take k ∧ h ∈ xs.take k ∧ ∀ y ∈ xs.take k, l ≤ y ∧ y ≤ h
  | 0, h0, _ => by omega
  | k + 1, _, hk => by
    have et : xs.take (k + 1) = xs.take k ++ [xs.getD k 0] := by
      rw [List.take_add_one, List.getD_eq_getElem?_getD, List.getElem?_eq_getElem (by omega : k < xs.length)]
      rfl
    rw [et]
    generalize hx : xs.getD k 0 = x
    show ∃ l h, bandStep (bandO xs k) (xs.getD k 0) = some (l, h) ∧ _
    rw [hx]
    by_cases h0 : k = 0
    · subst h0
      refine ⟨x, x, rfl, by simp, by simp, fun y hy => ?_⟩
      simp at hy
      omega
    · obtain ⟨l, h, e, hl, hh, ha⟩ := bandO_spec xs k (by omega) (by omega)
      have lh := (ha l hl).2
      rw [e]
      unfold bandStep
      show ∃ l' h', (if x < l then some (x, h) else if h < x then some (l, x) else some (l, h)) = some (l', h') ∧ _
      by_cases c : x < l
      · rw [if_pos c]
        refine ⟨x, h, rfl, by simp, by simp [hh], fun y hy => ?_⟩
        rcases List.mem_append.mp hy with hy | hy
        · have := ha y hy; omega
        · obtain rfl := List.mem_singleton.mp hy; omega
      · rw [if_neg c]
        by_cases d : h < x
        · rw [if_pos d]
          refine ⟨l, x, rfl, by simp [hl], by simp, fun y hy => ?_⟩
          rcases List.mem_append.mp hy with hy | hy
          · have := ha y hy; omega
          · obtain rfl := List.mem_singleton.mp hy; omega
        · rw [if_neg d]
          refine ⟨l, h, rfl, by simp [hl], by simp [hh], fun y hy => ?_⟩
          rcases List.mem_append.mp hy with hy | hy
          · exact ha y hy
          · obtain rfl := List.mem_singleton.mp hy; omega
/-! turning points -/
theorem turns_read (a b : Option Int) (x : Int) : readM turnsM 0 [a, b] (0, x) = (0, [b, some x], if (ltO a b && ltO (some x) b) = true then [(0, b)] else if (ltO b a && ltO b (some x)) = true then [(1, b)] else []) := by
  have e := read_one 2 [⟨.all [.less 0 1, .less (-1) 1], [1, -1], [(0, 1)], 0⟩, ⟨.all [.less 1 0, .less 1 (-1)], [1, -1], [(1, 1)], 0⟩, ⟨.tru, [1, -1], [], 0⟩] [a, b] x
  have h1 : holdC x [a, b] ⟨.all [.less 0 1, .less (-1) 1], [1, -1], [(0, 1)], 0⟩ = (ltO a b && ltO (some x) b) := by
    unfold holdC hold
    rw [holdA_cons, holdA_cons]
    unfold hold holdA
    rw [Bool.and_true]
    rfl
  have h2 : holdC x [a, b] ⟨.all [.less 1 0, .less 1 (-1)], [1, -1], [(1, 1)], 0⟩ = (ltO b a && ltO b (some x)) := by
    unfold holdC hold
    rw [holdA_cons, holdA_cons]
    unfold hold holdA
    rw [Bool.and_true]
    rfl
  have h3 : holdC x [a, b] ⟨.tru, [1, -1], [], 0⟩ = true := by unfold holdC hold; rfl
  rw [find3, h1, h2, h3] at e
  refine e.trans ?_
  cases (ltO a b && ltO (some x) b) <;> cases (ltO b a && ltO b (some x)) <;> rfl
def turnsO (xs : List Int) : Nat → List (Option Int)
  | 0 => [none, none]
  | 1 => [none, some (xs.getD 0 0)]
  | k + 2 => [some (xs.getD k 0), some (xs.getD (k + 1) 0)]
def turnsRow (xs : List Int) (k : Nat) : List (Int × Option Int) :=
  if k < 2 then [] else if xs.getD (k - 2) 0 < xs.getD (k - 1) 0 ∧ xs.getD k 0 < xs.getD (k - 1) 0 then [(0, some (xs.getD (k - 1) 0))]
  else if xs.getD (k - 1) 0 < xs.getD (k - 2) 0 ∧ xs.getD (k - 1) 0 < xs.getD k 0 then [(1, some (xs.getD (k - 1) 0))] else []
def turnsDue (xs : List Int) : List (List (Int × Option Int)) := (List.range xs.length).map (turnsRow xs)
theorem turns_due (xs : List Int) : answersM turnsM (0, [none, none]) (asLog xs) = turnsDue xs := by
  have h := answersM_rows turnsM (asLog xs) (fun k => (0, turnsO xs k)) (turnsRow xs) fun k e he => by
    obtain ⟨rfl, hk⟩ := asLog_get he
    match k with
    | 0 => exact turns_read none none _
    | 1 => exact turns_read none (some _) _
    | k + 2 =>
      show readM turnsM 0 [some (xs.getD k 0), some (xs.getD (k + 1) 0)] (0, xs.getD (k + 2) 0) = (0, [some (xs.getD (k + 1) 0), some (xs.getD (k + 2) 0)], turnsRow xs (k + 2))
      rw [turns_read]
      unfold turnsRow
      rw [if_neg (show ¬ k + 2 < 2 by omega)]
      show (0, _, (if (decide (xs.getD k 0 < xs.getD (k + 1) 0) && decide (xs.getD (k + 2) 0 < xs.getD (k + 1) 0)) = true then _ else if (decide (xs.getD (k + 1) 0 < xs.getD k 0) && decide (xs.getD (k + 1) 0 < xs.getD (k + 2) 0)) = true then _ else _)) = (0, _, (if xs.getD k 0 < xs.getD (k + 1) 0 ∧ xs.getD (k + 2) 0 < xs.getD (k + 1) 0 then _ else if xs.getD (k + 1) 0 < xs.getD k 0 ∧ xs.getD (k + 1) 0 < xs.getD (k + 2) 0 then _ else _))
      simp only [Bool.and_eq_true, decide_eq_true_eq]
      rfl
  rw [asLog_len] at h
  exact h
/-! runs -/
theorem runs_read0 (x : Int) : readM runsM 0 [none, none] (0, x) = (0, [some x, some x], []) := by
  have e := read_one 2 [⟨.emp 0, [-1, -1], [], 0⟩, ⟨.less 1 (-1), [0, -1], [], 0⟩, ⟨.tru, [-1, -1], [(0, 0)], 0⟩] [none, none] x
  have h1 : holdC x [none, none] ⟨.emp 0, [-1, -1], [], 0⟩ = true := by unfold holdC hold; rfl
  rw [find3, if_pos h1] at e
  exact e
theorem runs_read (f p x : Int) : readM runsM 0 [some f, some p] (0, x) = if p < x then (0, [some f, some x], []) else (0, [some x, some x], [(0, some f)]) := by
  have e := read_one 2 [⟨.emp 0, [-1, -1], [], 0⟩, ⟨.less 1 (-1), [0, -1], [], 0⟩, ⟨.tru, [-1, -1], [(0, 0)], 0⟩] [some f, some p] x
  have h1 : holdC x [some f, some p] ⟨.emp 0, [-1, -1], [], 0⟩ = false := by unfold holdC hold; rfl
  have h2 : holdC x [some f, some p] ⟨.less 1 (-1), [0, -1], [], 0⟩ = decide (p < x) := by unfold holdC hold; rfl
  have h3 : holdC x [some f, some p] ⟨.tru, [-1, -1], [(0, 0)], 0⟩ = true := by unfold holdC hold; rfl
  rw [find3, h1, h2, h3, if_neg Bool.false_ne_true] at e
  by_cases c : p < x
  · rw [if_pos c]
    rw [decide_eq_true c, if_pos rfl] at e
    exact e
  · rw [if_neg c]
    rw [decide_eq_false c, if_neg Bool.false_ne_true, if_pos rfl] at e
    exact e
def firstI (xs : List Int) : Nat → Nat
  | 0 => 0
  | k + 1 => if 0 < k ∧ xs.getD k 0 ≤ xs.getD (k - 1) 0 then k else firstI xs k
def runsRow (xs : List Int) (k : Nat) : List (Int × Option Int) := if 0 < k ∧ xs.getD k 0 ≤ xs.getD (k - 1) 0 then [(0, some (xs.getD (firstI xs k) 0))] else []
def runsDue (xs : List Int) : List (List (Int × Option Int)) := (List.range xs.length).map (runsRow xs)
def runsO (xs : List Int) : Nat → List (Option Int)
  | 0 => [none, none]
  | k + 1 => [some (xs.getD (firstI xs (k + 1)) 0), some (xs.getD k 0)]
theorem firstI_lt (xs : List Int) : ∀ k, firstI xs k ≤ k
  | 0 => Nat.le_refl _
  | k + 1 => by
    unfold firstI
    have := firstI_lt xs k
    split <;> omega
theorem runs_due (xs : List Int) : answersM runsM (0, [none, none]) (asLog xs) = runsDue xs := by
  have h := answersM_rows runsM (asLog xs) (fun k => (0, runsO xs k)) (runsRow xs) fun k e he => by
    obtain ⟨rfl, hk⟩ := asLog_get he
    match k with
    | 0 => exact runs_read0 _
    | k + 1 =>
      show readM runsM 0 [some (xs.getD (firstI xs (k + 1)) 0), some (xs.getD k 0)] (0, xs.getD (k + 1) 0) = (0, [some (xs.getD (firstI xs (k + 2)) 0), some (xs.getD (k + 1) 0)], runsRow xs (k + 1))
      rw [runs_read]
      unfold runsRow
      have ef : firstI xs (k + 2) = if 0 < k + 1 ∧ xs.getD (k + 1) 0 ≤ xs.getD k 0 then k + 1 else firstI xs (k + 1) := rfl
      rw [ef]
      show _ = (0, _, if 0 < k + 1 ∧ xs.getD (k + 1) 0 ≤ xs.getD k 0 then [(0, some (xs.getD (firstI xs (k + 1)) 0))] else [])
      by_cases c : xs.getD k 0 < xs.getD (k + 1) 0
      · rw [if_pos c, if_neg (by omega), if_neg (by omega)]
      · rw [if_neg c, if_pos (by omega), if_pos (by omega)]
  rw [asLog_len] at h
  exact h
end Dv

/-! Tuples cut and joined; machines as data to any depth. -/
namespace Dv
open PySem PySem.Spec PyProof.Rows L2 GxR Gx
/-- how many cases there are at a place, at most -/
def wid (w : Nat) (m : M) : Prop := ∀ s ∈ m.steps, ∀ cs ∈ s, cs.length ≤ w
section
variable {K : PySem.W.Frag} {H : Hp} {T : List Addr} {Q : VK}
theorem slT_take {a : Addr} {xs : List V} {av : Int} (sq : SqT K H a xs) (h0 : 0 ≤ av) (h1 : av ≤ xs.length) (q : ∀ p H', SqT K H' p (xs.take av.toNat) → Ex T [] H H' → Q (.ref p) H') : rSlA K (.ref a) none (some av) H Q := by
  obtain ⟨k, rfl⟩ := Int.eq_ofNat_of_zero_le h0
  have hk : k ≤ xs.length := by omega
  refine ⟨a, xs, rfl, sq, fun hw => q a H ?_ Ex.refl, fun _ p np => q p _ (SqT.of ?_) (Ex.new np)⟩
  · have e : k = xs.length := by
      have := hw.2
      rw [HT.sIx_nat] at this
      omega
    rw [Int.toNat_natCast, e, List.take_length]
    exact sq
  · rw [upd_same]
    unfold cutV
    rw [HT.sIx_nat, HT.sIx_none, Int.toNat_natCast, List.drop_zero, Nat.min_eq_left hk]
    rfl
theorem catT_at {x y : V} {ds es : List D} (hx : At K H x (.tup ds)) (hy : At K H y (.tup es)) (hl : ds.length + es.length ≤ 1000000) (q : ∀ v H', At K H' v (.tup (ds ++ es)) → Ex T [] H H' → Q v H') : rCatA K x y H Q := by
  have hl' : ds.length + es.length ≤ sizeLine := Nat.le_trans hl (by decide)
  obtain ⟨a, xs, rfl, sa, ta⟩ := at_tup.mp hx
  obtain ⟨b, ys, rfl, sb, tb⟩ := at_tup.mp hy
  refine ⟨a, b, xs, ys, rfl, rfl, sa, sb, by rw [ta.length, tb.length]; exact hl', fun e => q _ _ ?_ Ex.refl, fun _ e => q _ _ ?_ Ex.refl, fun _ _ p np => q _ _ (At.laid np (ta.append tb)) (Ex.new np)⟩
  · subst e
    have := ta.length
    cases ds with
    | nil => exact hy
    | cons => simp at this
  · subst e
    have := tb.length
    cases es with
    | nil => rw [List.append_nil]; exact hx
    | cons => simp at this
theorem Ats.takeD : ∀ {xs : List V} {ds : List D} (k : Nat), Ats K H xs ds → Ats K H (xs.take k) (ds.take k)
  | xs, ds, 0, _ => by rw [List.take_zero, List.take_zero]; exact Ats.mk_nil
  | xs, [], k + 1, h => by rw [ats_nil.mp h, List.take_nil, List.take_nil]; exact Ats.mk_nil
  | xs, d :: ds, k + 1, h => by
    obtain ⟨x, r, rfl, q, t⟩ := ats_cons.mp h
    exact Ats.mk q (Ats.takeD k t)
theorem Ats.dropD : ∀ {xs : List V} {ds : List D} (k : Nat), Ats K H xs ds → Ats K H (xs.drop k) (ds.drop k)
  | xs, ds, 0, h => h
  | xs, [], k + 1, h => by rw [ats_nil.mp h, List.drop_nil, List.drop_nil]; exact Ats.mk_nil
  | xs, d :: ds, k + 1, h => by
    obtain ⟨x, r, rfl, q, t⟩ := ats_cons.mp h
    exact Ats.dropD k t
/-- t[k:], as data -/
theorem dropT_at {a : Addr} {ds : List D} {av : Int} (h : At K H (.ref a) (.tup ds)) (h0 : 0 ≤ av) (h1 : av ≤ ds.length) (q : ∀ v H', At K H' v (.tup (ds.drop av.toNat)) → Ex T [] H H' → Q v H') : rSlA K (.ref a) (some av) none H Q := by
  obtain ⟨_, xs, e, sq, ats⟩ := at_tup.mp h
  cases e
  exact slA_drop (T := T) sq h0 (by rw [ats.length]; exact h1) fun p H' sq' ex => q _ _ (at_tup.mpr ⟨p, _, rfl, sq', (ats.ext ex).dropD _⟩) ex
theorem takeT_at {a : Addr} {ds : List D} {av : Int} (h : At K H (.ref a) (.tup ds)) (h0 : 0 ≤ av) (h1 : av ≤ ds.length) (q : ∀ v H', At K H' v (.tup (ds.take av.toNat)) → Ex T [] H H' → Q v H') : rSlA K (.ref a) none (some av) H Q := by
  obtain ⟨_, xs, e, sq, ats⟩ := at_tup.mp h
  cases e
  exact slT_take (T := T) sq h0 (by rw [ats.length]; exact h1) fun p H' sq' ex => q _ _ (at_tup.mpr ⟨p, _, rfl, sq', (ats.ext ex).takeD _⟩) ex
end
theorem okCs_of {r n : Nat} : ∀ {cs : List C}, (∀ c ∈ cs, okC r n c) → okCs r n cs
  | [], _ => by unfold okCs; trivial
  | c :: cs, h => by unfold okCs; exact ⟨h c (by simp), okCs_of fun d hd => h d (by simp [hd])⟩
theorem okDi {n : Nat} {i : Int} : okD n (.int i) := by cases n <;> (unfold okD; trivial)
theorem okDst {n : Nat} {s : Str} : okD n (.str s) := by cases n <;> (unfold okD; trivial)
theorem okDm {α : Type} {f : α → D} {n : Nat} : ∀ {l : List α}, (∀ a ∈ l, okD n (f a)) → okDs n (l.map f)
  | [], _ => by rw [List.map_nil]; unfold okDs; trivial
  | a :: l, h => by
    rw [List.map_cons]
    unfold okDs
    exact ⟨h a (by simp), okDm fun b hb => h b (by simp [hb])⟩
theorem okDt {n : Nat} {ds : List D} (hl : ds.length ≤ 100000) (h : okDs n ds) : okD (n + 1) (.tup ds) := by unfold okD; exact ⟨hl, h⟩
theorem okDc {n : Nat} {d : D} {ds : List D} (h : okD n d) (t : okDs n ds) : okDs n (d :: ds) := by unfold okDs; exact ⟨h, t⟩
theorem okDn {n : Nat} : okDs n [] := by unfold okDs; trivial
mutual
theorem okD_succ' : ∀ {n : Nat} {d : D}, okD n d → okD (n + 1) d
  | n, .non, _ => by cases n <;> (unfold okD; trivial)
  | n, .bl _, _ => by cases n <;> (unfold okD; trivial)
  | n, .int _, _ => okDi
  | n, .str _, _ => okDst
  | 0, .tup ds, h => by unfold okD at h; exact h.elim
  | n + 1, .tup ds, h => by unfold okD at h; exact okDt h.1 (okDs_succ' h.2)
theorem okDs_succ' : ∀ {n : Nat} {ds : List D}, okDs n ds → okDs (n + 1) ds
  | n, [], _ => okDn
  | n, d :: ds, h => by unfold okDs at h; exact okDc (okD_succ' h.1) (okDs_succ' h.2)
end
mutual
theorem okD_encC {r : Nat} : ∀ {n : Nat} {c : C}, okC r n c → okD (2 * n + 2) (encC c)
  | n, .tru, _ => by unfold encC; exact okDt (by simp) (okDc okDst okDn)
  | n, .fls, _ => by unfold encC; exact okDt (by simp) (okDc okDst okDn)
  | n, .less a b, _ => by unfold encC; exact okDt (by simp) (okDc okDst (okDc okDi (okDc okDi okDn)))
  | n, .same a b, _ => by unfold encC; exact okDt (by simp) (okDc okDst (okDc okDi (okDc okDi okDn)))
  | n, .emp a, _ => by unfold encC; exact okDt (by simp) (okDc okDst (okDc okDi okDn))
  | 0, .nt c, h => by unfold okC at h; exact h.elim
  | n + 1, .nt c, h => by
    unfold okC at h
    unfold encC
    have : okD (2 * n + 2 + 1) (encC c) := okD_succ' (okD_encC h)
    exact okDt (by simp) (okDc okDst (okDc this okDn))
  | 0, .all cs, h => by unfold okC at h; exact h.elim
  | n + 1, .all cs, h => by
    unfold okC at h
    unfold encC
    exact okDt (by simp) (okDc okDst (okDc (okDt (by rw [encCs_length]; exact h.1) (okDs_encCs h.2)) okDn))
  | 0, .any cs, h => by unfold okC at h; exact h.elim
  | n + 1, .any cs, h => by
    unfold okC at h
    unfold encC
    exact okDt (by simp) (okDc okDst (okDc (okDt (by rw [encCs_length]; exact h.1) (okDs_encCs h.2)) okDn))
theorem okDs_encCs {r : Nat} : ∀ {n : Nat} {cs : List C}, okCs r n cs → okDs (2 * n + 2) (encCs cs)
  | n, [], _ => by unfold encCs; exact okDn
  | n, c :: cs, h => by
    unfold okCs at h
    unfold encCs
    exact okDc (okD_encC h.1) (okDs_encCs h.2)
end
theorem okD_encCase {r S n : Nat} {c : Case} (h : okCase r S n c) (hr : r ≤ 1000) : okD (2 * n + 3) (encCase c) := by
  refine okDt (by simp) (okDc (okD_encC h.cond) (okDc ?_ (okDc ?_ (okDc okDi okDn))))
  · exact okDt (by rw [List.length_map, h.mlen]; omega) (okDm fun _ _ => okDi)
  · refine okDt (by rw [List.length_map]; have := h.slen; omega) (okDm fun p _ => ?_)
    have : okD (2 * n + 1) (encSay p) := okDt (by simp) (okDc okDi (okDc okDi okDn))
    exact this
theorem okD_encM {n : Nat} {m : M} (h : okM n m) : okD (2 * n + 7) (Dv.encM m) := by
  have r := h.rmax
  refine okDt (by simp) (okDc okDi (okDc okDi (okDc ?_ okDn)))
  refine okDt (by rw [List.length_map]; have := h.smax; omega) (okDm fun s hs => ?_)
  refine okDt (by rw [List.length_map, h.all s hs]; have := h.tmax; omega) (okDm fun cs hcs => ?_)
  have hc := h.cases s hs cs hcs
  exact okDt (by rw [List.length_map]; omega) (okDm fun c hc' => okD_encCase (hc.2 c hc') r)
theorem okM_mono {n n' : Nat} {m : M} (h : okM n m) (l : n ≤ n') : okM n' m :=
  ⟨h.tags, h.tmax, h.rmax, h.some, h.smax, h.all, fun s hs cs hcs => ⟨(h.cases s hs cs hcs).1, fun c hc => let k := (h.cases s hs cs hcs).2 c hc; ⟨okC_mono k.cond l, k.mlen, k.mv, k.say, k.slen, k.nxt⟩⟩⟩
theorem turnM_turn (m : M) : turnM (turnM m) = m := by
  have e : (List.map (List.map turnCase)) ∘ (List.map (List.map turnCase)) = id := funext fun s => by
    show List.map (List.map turnCase) (List.map (List.map turnCase) s) = s
    rw [List.map_map]
    have e2 : (List.map turnCase) ∘ (List.map turnCase) = id := funext fun cs => by
      show List.map turnCase (List.map turnCase cs) = cs
      rw [List.map_map]
      have e3 : turnCase ∘ turnCase = id := funext fun c => by
        show ({ c with cond := turnC (turnC c.cond) } : Case) = c
        rw [turnC_turn]
      rw [e3, List.map_id]
    rw [e2, List.map_id]
  show ({ m with steps := (m.steps.map (List.map (List.map turnCase))).map (List.map (List.map turnCase)) } : M) = m
  rw [List.map_map, e, List.map_id]
end Dv

/-! Cases that are parted, and cases that never come. -/
namespace Dv
open PySem PySem.Spec PyProof.Rows L2 GxR Gx
abbrev Rest := List Int × List (Int × Int) × Nat
def restC (c : Case) : Rest := (c.moves, c.says, c.nxt)
def outC (v : Int) (h : List (Option Int)) (cs : List Case) : Option Rest := (cs.find? (holdC v h)).map restC
theorem outC_append (v : Int) (h : List (Option Int)) (a b : List Case) : outC v h (a ++ b) = (outC v h a).or (outC v h b) := by
  unfold outC
  rw [List.find?_append]
  cases a.find? (holdC v h) <;> rfl
theorem readM_out {m m' : M} {st : Nat} {h : List (Option Int)} {e : Nat × Int} (q : outC e.2 h (m.cases st e.1) = outC e.2 h (m'.cases st e.1)) : readM m st h e = readM m' st h e := by
  unfold outC at q
  unfold readM
  cases h1 : (m.cases st e.1).find? (holdC e.2 h) with
  | none =>
    rw [h1] at q
    cases h2 : (m'.cases st e.1).find? (holdC e.2 h) with
    | none => rfl
    | some d => rw [h2] at q; cases q
  | some c =>
    rw [h1] at q
    cases h2 : (m'.cases st e.1).find? (holdC e.2 h) with
    | none => rw [h2] at q; cases q
    | some d =>
      rw [h2] at q
      have r : restC c = restC d := Option.some.inj q
      obtain ⟨c1, c2, c3, c4⟩ := c
      obtain ⟨d1, d2, d3, d4⟩ := d
      unfold restC at r
      simp only [Prod.mk.injEq] at r
      obtain ⟨rfl, rfl, rfl⟩ := r
      rfl
/-- two machines with the same answers everywhere -/
structure SameM (m m' : M) : Prop where
  tags : m'.tags = m.tags
  regs : m'.regs = m.regs
  len : m'.steps.length = m.steps.length
  out : ∀ st t v h, outC v h (m'.cases st t) = outC v h (m.cases st t)
theorem SameM.read {m m' : M} (s : SameM m m') (st : Nat) (h : List (Option Int)) (e : Nat × Int) : readM m' st h e = readM m st h e := readM_out (s.out _ _ _ _)
theorem SameM.refl (m : M) : SameM m m := ⟨rfl, rfl, rfl, fun _ _ _ _ => rfl⟩
theorem SameM.trans {m m' m'' : M} (a : SameM m m') (b : SameM m' m'') : SameM m m'' := ⟨b.tags.trans a.tags, b.regs.trans a.regs, b.len.trans a.len, fun st t v h => (b.out st t v h).trans (a.out st t v h)⟩
theorem SameM.answers {m m' : M} (s : SameM m m') : ∀ (c : Ct) (es : List (Nat × Int)), answersM m' c es = answersM m c es
  | c, [] => rfl
  | c, e :: es => by
    show (readM m' c.1 c.2 e).2.2 :: answersM m' (stepM m' c e) es = (readM m c.1 c.2 e).2.2 :: answersM m (stepM m c e) es
    have e1 : stepM m' c e = stepM m c e := by unfold stepM; rw [s.read]
    rw [s.read, e1, s.answers _ es]
theorem SameM.okCt {m m' : M} (s : SameM m m') {c : Ct} (h : okCt m c) : okCt m' c := ⟨by rw [s.len]; exact h.st, by rw [s.regs]; exact h.len⟩
theorem hold_less (v : Int) (h : List (Option Int)) (a b : Int) : hold v h (.less a b) = ltO (worth v h a) (worth v h b) := by unfold hold; rfl
theorem hold_same (v : Int) (h : List (Option Int)) (a b : Int) : hold v h (.same a b) = eqO (worth v h a) (worth v h b) := by unfold hold; rfl
theorem hold_emp (v : Int) (h : List (Option Int)) (a : Int) : hold v h (.emp a) = (worth v h a).isNone := by unfold hold; rfl
theorem hold_nt (v : Int) (h : List (Option Int)) (c : C) : hold v h (.nt c) = !hold v h c := by conv => lhs; unfold hold
theorem hold_all (v : Int) (h : List (Option Int)) (cs : List C) : hold v h (.all cs) = holdA v h cs := by conv => lhs; unfold hold
theorem hold_any (v : Int) (h : List (Option Int)) (cs : List C) : hold v h (.any cs) = holdE v h cs := by conv => lhs; unfold hold
theorem holdA_nil (v : Int) (h : List (Option Int)) : holdA v h [] = true := by unfold holdA; rfl
theorem holdE_nil (v : Int) (h : List (Option Int)) : holdE v h [] = false := by unfold holdE; rfl
/-! the four parts -/
def partsC (a b : Int) : List C := [.less a b, .same a b, .less b a, .any [.emp a, .emp b]]
theorem parts_some (a b v : Int) (h : List (Option Int)) : ∃ p ∈ partsC a b, hold v h p = true := by
  unfold partsC
  cases ha : worth v h a with
  | none => exact ⟨.any [.emp a, .emp b], by simp, by rw [hold_any, holdE_cons, hold_emp, ha]; rfl⟩
  | some x =>
    cases hb : worth v h b with
    | none => exact ⟨.any [.emp a, .emp b], by simp, by rw [hold_any, holdE_cons, holdE_cons, hold_emp, hold_emp, hb]; simp⟩
    | some y =>
      rcases Int.lt_trichotomy x y with c | c | c
      · exact ⟨.less a b, by simp, by rw [hold_less, ha, hb]; exact decide_eq_true c⟩
      · exact ⟨.same a b, by simp, by rw [hold_same, ha, hb]; exact decide_eq_true c⟩
      · exact ⟨.less b a, by simp, by rw [hold_less, ha, hb]; exact decide_eq_true c⟩
def partCase (c : Case) (p : C) : Case := { c with cond := .all [c.cond, p] }
theorem hold_part (v : Int) (h : List (Option Int)) (c : Case) (p : C) : holdC v h (partCase c p) = (holdC v h c && hold v h p) := by
  show hold v h (.all [c.cond, p]) = (hold v h c.cond && hold v h p)
  rw [hold_all, holdA_cons, holdA_cons, holdA_nil, Bool.and_true]
theorem out_parted {c : Case} {a b : Int} {fs : List Case} (h1 : ∀ f ∈ fs, ∃ p, f = partCase c p) (h2 : ∀ p ∈ partsC a b, partCase c p ∈ fs) (v : Int) (h : List (Option Int)) : outC v h fs = outC v h [c] := by
  unfold outC
  cases hc : holdC v h c with
  | false =>
    rw [List.find?_eq_none.mpr fun f hf => ?_, List.find?_eq_none.mpr fun f hf => ?_]
    · obtain rfl := List.mem_singleton.mp hf
      rw [hc]
      exact Bool.false_ne_true
    · obtain ⟨p, rfl⟩ := h1 f hf
      rw [hold_part, hc]
      exact Bool.false_ne_true
  | true =>
    have e2 : ([c] : List Case).find? (holdC v h) = some c := List.find?_cons_of_pos hc
    rw [e2]
    obtain ⟨p, hp, hv⟩ := parts_some a b v h
    have hm := h2 p hp
    cases hf : fs.find? (holdC v h) with
    | none =>
      have := List.find?_eq_none.mp hf _ hm
      rw [hold_part, hc, hv] at this
      exact absurd rfl this
    | some f =>
      obtain ⟨p', rfl⟩ := h1 f (List.mem_of_find?_eq_some hf)
      rfl
/-! cases that never come -/
def neverC (a b : Int) : List C := [.all [.less a b, .less b a], .less a a, .all [.less a (-1), .less (-1) b, .nt (.less a b)], .all [.same a b, .less a b]]
theorem ltO_irr (x : Option Int) : ltO x x = false := by
  cases x with
  | none => rfl
  | some z => show decide (z < z) = false; exact decide_eq_false (by omega)
theorem never_none (a b v : Int) (h : List (Option Int)) : ∀ p ∈ neverC a b, hold v h p = false := by
  intro p hp
  unfold neverC at hp
  simp only [List.mem_cons, List.not_mem_nil, or_false] at hp
  rcases hp with rfl | rfl | rfl | rfl
  · rw [hold_all, holdA_cons, holdA_cons, holdA_nil, hold_less, hold_less]
    cases worth v h a with
    | none => rfl
    | some x =>
      cases worth v h b with
      | none => rfl
      | some y =>
        show (decide (x < y) && (decide (y < x) && true)) = false
        by_cases c : x < y
        · rw [decide_eq_false (by omega : ¬ y < x)]; simp
        · rw [decide_eq_false c]; rfl
  · rw [hold_less]
    exact ltO_irr _
  · rw [hold_all, holdA_cons, holdA_cons, holdA_cons, holdA_nil, hold_less, hold_less, hold_nt, hold_less, worth_new]
    cases worth v h a with
    | none => rfl
    | some x =>
      cases worth v h b with
      | none => show (decide (x < v) && (false && _)) = false; rw [Bool.false_and, Bool.and_false]
      | some y =>
        show (decide (x < v) && (decide (v < y) && ((!decide (x < y)) && true))) = false
        by_cases c : x < v
        · by_cases d : v < y
          · rw [decide_eq_true (by omega : x < y)]; simp
          · rw [decide_eq_false d]; simp
        · rw [decide_eq_false c]; rfl
  · rw [hold_all, holdA_cons, holdA_cons, holdA_nil, hold_same, hold_less]
    cases worth v h a with
    | none => rfl
    | some x =>
      cases worth v h b with
      | none => rfl
      | some y =>
        show (decide (x = y) && (decide (x < y) && true)) = false
        by_cases c : x = y
        · rw [decide_eq_false (by omega : ¬ x < y)]; simp
        · rw [decide_eq_false c]; rfl
theorem out_never {c : Case} {a b : Int} (hc : c.cond ∈ neverC a b) (v : Int) (h : List (Option Int)) : outC v h [c] = none := by
  unfold outC
  rw [List.find?_cons_of_neg (by unfold holdC; rw [never_none a b v h _ hc]; exact Bool.false_ne_true)]
  rfl
/-! a machine with other cases at one place -/
def putCs (m : M) (st t : Nat) (cs : List Case) : M := { m with steps := m.steps.set st ((m.steps.getD st []).set t cs) }
theorem putCs_cases (m : M) (st t : Nat) (cs : List Case) (hs : st < m.steps.length) (ht : t < (m.steps.getD st []).length) (st' t' : Nat) : (putCs m st t cs).cases st' t' = if st' = st ∧ t' = t then cs else m.cases st' t' := by
  unfold M.cases
  show ((m.steps.set st ((m.steps.getD st []).set t cs)).getD st' []).getD t' [] = _
  rw [List.getD_eq_getElem?_getD (l := m.steps.set _ _), List.getElem?_set]
  by_cases e : st = st'
  · subst e
    rw [if_pos rfl, if_pos hs]
    show (((m.steps.getD st []).set t cs)).getD t' [] = _
    rw [List.getD_eq_getElem?_getD (l := List.set _ _ _), List.getElem?_set]
    by_cases e2 : t = t'
    · subst e2
      rw [if_pos rfl, if_pos ht, if_pos ⟨rfl, rfl⟩]
      rfl
    · rw [if_neg e2, if_neg (fun z => e2 z.2.symm), ← List.getD_eq_getElem?_getD]
  · rw [if_neg e, if_neg (fun z => e z.1.symm), ← List.getD_eq_getElem?_getD]
theorem putCs_same {m : M} {st t : Nat} {cs : List Case} (hs : st < m.steps.length) (ht : t < (m.steps.getD st []).length) (h : ∀ v hh, outC v hh cs = outC v hh (m.cases st t)) : SameM m (putCs m st t cs) :=
  ⟨rfl, rfl, by unfold putCs; rw [List.length_set], fun st' t' v hh => by
    rw [putCs_cases m st t cs hs ht]
    split
    · rename_i z
      rw [z.1, z.2]
      exact h v hh
    · rfl⟩
theorem putCs_ok {m : M} {n st t : Nat} {cs : List Case} (ok : okM n m) (hs : st < m.steps.length) (hl : cs.length ≤ 1000) (hc : ∀ c ∈ cs, okCase m.regs m.steps.length (n + 1) c) : okM (n + 1) (putCs m st t cs) := by
  have ok' := okM_mono ok (n' := n + 1) (by omega)
  have es : m.steps.getD st [] = m.steps[st] := by rw [List.getD_eq_getElem?_getD, List.getElem?_eq_getElem hs]; rfl
  refine ⟨ok.tags, ok.tmax, ok.rmax, by unfold putCs; rw [List.length_set]; exact ok.some, by unfold putCs; rw [List.length_set]; exact ok.smax, fun s hs' => ?_, fun s hs' ds hds => ?_⟩
  · rcases List.mem_or_eq_of_mem_set hs' with h | rfl
    · exact ok.all s h
    · rw [List.length_set, es]
      exact ok.all _ (List.getElem_mem hs)
  · show ds.length ≤ 1000 ∧ ∀ c ∈ ds, okCase m.regs (m.steps.set st _).length (n + 1) c
    rw [List.length_set]
    rcases List.mem_or_eq_of_mem_set hs' with h | rfl
    · exact ok'.cases s h ds hds
    · rcases List.mem_or_eq_of_mem_set hds with h | rfl
      · rw [es] at h
        exact ok'.cases _ (List.getElem_mem hs) ds h
      · exact ⟨hl, hc⟩
theorem putCs_wid {m : M} {w st t : Nat} {cs : List Case} (hw : wid w m) (hs : st < m.steps.length) {w' : Nat} (hl : cs.length ≤ w') (l : w ≤ w') : wid w' (putCs m st t cs) := by
  have es : m.steps.getD st [] = m.steps[st] := by rw [List.getD_eq_getElem?_getD, List.getElem?_eq_getElem hs]; rfl
  intro s hs' ds hds
  rcases List.mem_or_eq_of_mem_set hs' with h | rfl
  · exact Nat.le_trans (hw s h ds hds) l
  · rcases List.mem_or_eq_of_mem_set hds with h | rfl
    · rw [es] at h
      exact Nat.le_trans (hw _ (List.getElem_mem hs) ds h) l
    · exact hl
theorem set_split {α : Type} (l : List α) (i : Nat) (a : α) (h : i < l.length) : l.set i a = l.take i ++ [a] ++ l.drop (i + 1) := by
  rw [List.set_eq_take_append_cons_drop, if_pos h, List.append_assoc]
  rfl
end Dv

/-! Set comprehensions of ints. -/
namespace Dv
open PySem PySem.Spec PyProof.Rows L2 GxR Gx
def tScI (w : World) (wi : TI) (g : TG) (tt : TT) (te : TE) (own : List Nat) : TE := fun σ H Q =>
  wi σ H fun J Ha => ∀ Z, Ha Z = none →
    ∃ W : Nat → Nat → Hp → Prop, (∃ m, W 0 m (upd Ha Z (SetO w Z (fun _ => false) 0))) ∧
      ∀ i m Hb, W i m Hb → (J.stop i Hb ∧ Q (.ref Z) Hb) ∨
        (J.go i Hb ∧ ∃ R : Hp → Prop, (∀ Hc, R Hc → ∃ m', m' < m ∧ W (i + 1) m' Hc) ∧
          ∀ x Hc, J.yld i Hb x Hc → g x (wipe σ own) Hc fun σ2 Hd => wipe σ2 own = wipe σ own ∧ tt σ2 Hd fun b He =>
            if b = true then te σ2 He fun y Hf => ∃ (k : Int) (S : Int → Bool) (n : Nat), y = .int k ∧ Hf Z = some (SetO w Z S n) ∧ n + 1 < scanBound ∧
              R (upd Hf Z (SetO w Z (fun j => S j || decide (j = k)) (if S k = true then n else n + 1)))
            else R He)
section
variable {X : Cx}
theorem addI_goes {pins : List (Addr × Obj)} {σ : L2.St} {H : Hp} {s : Shared} {E : Value → Shared → Prop} {Z : Addr} {S : Int → Bool} {n : Nat} {k : Int} {tk : Tok} {F : Value → Shared → Prop}
    (inv : Inv X pins σ H s) (at_ : H Z = some (SetO X.w Z S n)) (few : n + 1 < scanBound)
    (go : ∀ s', Inv X pins σ (upd H Z (SetO X.w Z (fun j => S j || decide (j = k)) (if S k = true then n else n + 1))) s' → F .none s') :
    wpAny (model X.prog X.w) X.A (call (.builtin "set.add") [.ref Z, .int k tk]) F E s :=
  setR_add (setO_get inv at_) few fun hp same made =>
    go _ (inv.write (e := Z) (t' := s.toks + 1) (by rw [at_]; trivial) (.inl rfl) (fun b u nb hu => (same.2 b nb).trans hu) (let ⟨o, _, _, _, ho, _⟩ := made; ⟨o, ho⟩) (setO_new made))
/-- a set comprehension whose members are ints, in a def -/
theorem pe_scI {elt tg iter : Expr} {ifs : List Expr} {scope : Scope} {own : List (PySem.Str × Nat)} {pos : Pos} {wi : TI} {g : TG} {tt : TT} {te : TE}
    (calm : X.calm = true) (nodup : X.N.Nodup) (pi : PI X tg iter wi) (blk : BlkOk X.N X.env.scope scope own)
    (pgs : ∀ (s : Shared) (H : Hp) (C : Addr) (cl : List (PySem.Str × Addr)) (fp : List Addr), PG (X.blk s H scope (compEnvC scope cl C X.env) fp) tg g)
    (ptt : ∀ (s : Shared) (H : Hp) (C : Addr) (cl : List (PySem.Str × Addr)) (fp : List Addr), PTs (X.blk s H scope (compEnvC scope cl C X.env) fp) ifs tt)
    (pel : ∀ (s : Shared) (H : Hp) (C : Addr) (cl : List (PySem.Str × Addr)) (fp : List Addr), PE (X.blk s H scope (compEnvC scope cl C X.env) fp) elt te)
    (fold : ∀ x, foldedSetIterable iter X.env x = pure x := by intro _; rfl) :
    PE X (.SetComp elt [⟨tg, iter, ifs, 0⟩] scope pos) (tScI X.w wi g tt te (own.map (·.2))) := by
  refine ⟨fun pins s σ H Q inv h => ?_⟩
  rw [PpSet.eval_SetComp]
  have captured : ∀ y ∈ scope.names, y.2 = .free → ∃ c, X.env.cells.lookup y.1 = some c := fun y ym ye =>
    (blk.free y ym ye).elim (fun z => inv.ok.has _ (.inl z)) (fun z => inv.ok.has _ (.inr z))
  refine wpAny_comprehension_free (use := none) rfl fold (closure_ok captured) blk.kind (fun y ym ye => by rw [blk.uniq y ym, ye])
    (thn (pi.run pins s σ H _ inv h) fun iv sa ha => thn ha fun jv sb hb => ?_)
  obtain ⟨ita, fp, tn, J, Hb, ej, invb, TT, stb, fpb, plan⟩ := hb
  subst ej
  refine PpSet.newSet_ok (newEnv_comp ?_)
  generalize eZ : sb.heap.objs.size = Z
  have free : Hb Z = none := invb.hok.fresh (Nat.le_of_eq eZ)
  obtain ⟨W, ⟨m0, w0⟩, turn⟩ := plan Z free
  generalize esc : ({ sb with heap := sb.heap.push { cls := .type "set", dict := none, data := .set #[] 0 (.fresh 0 0 (!X.w.params.followText "set-order")) } } : Shared) = sc
  have invc : Inv X pins σ (upd Hb Z (SetO X.w Z (fun _ => false) 0)) sc := by
    rw [← esc]
    exact invb.laid (t' := sb.toks) (fun b o e => Heap.get?_push_of_some _ e) (Nat.le_of_eq eZ) (by rw [← eZ]; exact setO_new (setR_fresh X.w))
  have hc : sc.heap = sb.heap.push { cls := .type "set", dict := none, data := .set #[] 0 (.fresh 0 0 (!X.w.params.followText "set-order")) } := by rw [← esc]
  have below : ∀ b ∈ fp, b < sb.heap.objs.size := fun b bm => let ⟨_, eo, _⟩ := TT.obj _ _ stb b bm; Heap.lt_size eo
  have fpc : ∀ b ∈ fp, FpOk X pins (upd Hb Z (SetO X.w Z (fun _ => false) 0)) b ∧ b < sc.heap.objs.size := fun b bm => by
    have lt := below b bm
    refine ⟨⟨(upd_ne (by rw [← eZ]; exact Nat.ne_of_lt lt)).trans (fpb b bm).1, (fpb b bm).2⟩, ?_⟩
    rw [hc, Heap.size_push]
    exact Nat.lt_succ_of_lt lt
  have stc : tn 0 sc.heap := TT.keep _ _ _ stb fun b _ o e => by rw [hc]; exact Heap.get?_push_of_some _ e
  have invd := block_start invc blk nodup fpc
  have pgr := pgs sc (upd Hb Z (SetO X.w Z (fun _ => false) 0)) sc.heap.objs.size (cellsFrom (sc.heap.objs.size + 1) scope.names (cloFrom X.env.cells scope.names [])) fp
  have ptr := ptt sc (upd Hb Z (SetO X.w Z (fun _ => false) 0)) sc.heap.objs.size (cellsFrom (sc.heap.objs.size + 1) scope.names (cloFrom X.env.cells scope.names [])) fp
  have per := pel sc (upd Hb Z (SetO X.w Z (fun _ => false) 0)) sc.heap.objs.size (cellsFrom (sc.heap.objs.size + 1) scope.names (cloFrom X.env.cells scope.names [])) fp
  have none_ : ∀ b ∈ fp, (upd Hb Z (SetO X.w Z (fun _ => false) 0)) b = none := fun b bm => (fpc b bm).1.1
  show codeAny _ _ (.compStart (.SetComp elt [⟨tg, iter, ifs, 0⟩] scope pos) 0 (.ref ita) (.ref Z) (compEnvC scope (cellsFrom (sc.heap.objs.size + 1) scope.names (cloFrom X.env.cells scope.names [])) sc.heap.objs.size X.env)) (compPost (model X.prog X.w) X.A X.xe none (EP X pins σ Q) (.ref Z) sc.heap.objs.size) { sc with heap := pushCells (sc.heap.push { cls := .type "dict", data := .dict #[] }) scope.names }
  generalize eE : compEnvC scope (cellsFrom (sc.heap.objs.size + 1) scope.names (cloFrom X.env.cells scope.names [])) sc.heap.objs.size X.env = en at invd pgr ptr per ⊢
  have enl : en.locals = sc.heap.objs.size := by rw [← eE]; rfl
  generalize eH : upd Hb Z (SetO X.w Z (fun _ => false) 0) = Hc at invc invd pgr ptr per w0 none_ fpc
  generalize esd : ({ sc with heap := pushCells (sc.heap.push { cls := .type "dict", data := .dict #[] }) scope.names } : Shared) = sd at invd ⊢
  have std : tn 0 sd.heap := TT.keep _ _ _ stc fun b _ o e => by rw [← esd]; exact pushCells_keeps _ _ _ _ (Heap.get?_push_of_some _ e)
  have stays : ∀ {σ' : L2.St} {H' : Hp} {s' : Shared}, Inv (X.blk sc Hc scope en fp) [] σ' H' s' → (∀ b ∈ fp, H' b = none) → ∀ b ∈ fp, FpOk (X.blk sc Hc scope en fp) [] H' b :=
    fun {σ' H' s'} iv nn b bm => ⟨nn b bm, (iv.ok.exf b bm).1, iv.ok.exfs b bm, .inl bm, fun x c ec => (iv.ok.exf b bm).2 x c ec, fun p pm => absurd (show p ∈ ([] : List (Addr × Obj)) ++ [] from pm) (by simp)⟩
  have whole : codeAny (model X.prog X.w) X.A (.compLoop (.SetComp elt [⟨tg, iter, ifs, 0⟩] scope pos) 0 (.ref ita) (.ref Z) en) (compPost (model X.prog X.w) X.A X.xe none (EP X pins σ Q) (.ref Z) sc.heap.objs.size) sd := by
    refine PpSet.compLoopS_any (fun n s' => ∃ i H', Inv (X.blk sc Hc scope en fp) [] (wipe σ (own.map (·.2))) H' s' ∧ tn i s'.heap ∧ (∀ b ∈ fp, H' b = none) ∧ W i n H') ?_ m0 ⟨0, Hc, invd, std, none_, w0⟩
    rintro n se ⟨i, He, inve, ste, nonee, we⟩
    rcases turn i n He we with ⟨halt, done⟩ | ⟨going, R, back, step⟩
    · refine thnF (TT.done (X.blk sc Hc scope en fp) rfl rfl rfl calm i [] se _ He (fun _ _ => False) inve (stays inve nonee) ste halt) fun r sf ⟨er, invf⟩ => ?_
      subst er
      have invg : Inv X pins σ He sf := invc.call' (ch := fp) invf.os invf.base invf.hok invf.bare fun b bm => ⟨(fpc b bm).1.2.2.2.1, (fpc b bm).1.2.1, (fpc b bm).1.2.2.2.2.1, (fpc b bm).1.2.2.2.2.2⟩
      have gone : He sc.heap.objs.size = none := by rw [← enl]; exact invf.free
      obtain ⟨mm, ns, _⟩ := invf.loc
      have ns' : sf.heap.Ns en.locals mm := ns
      rw [enl] at ns'
      refine ⟨mm, ns', fun hh sm => ?_⟩
      obtain ⟨g0, g1, g2, g3, g4, g5⟩ := invc.fpOk (Nat.le_refl _) gone
      exact ⟨.ref Z, He, invg.turned (t' := sf.toks) (fun b o hb e => (sm.2 b hb).trans e) g0 g1 g3 g4 g5, rfl, done⟩
    · refine thnF (TT.item (X.blk sc Hc scope en fp) rfl rfl rfl calm i [] se _ He (fun _ _ => False) inve (stays inve nonee) ste going) fun r sf ⟨u, er, hf⟩ => ?_
      subst er
      refine thnF hf fun _ sg ⟨x, Hg, invg, rg, yg, stg, noneg⟩ => ?_
      refine thnF (pgr.run _ sg _ Hg x u _ (invg.pinned (stays invg noneg) (TT.obj _ _ stg)) rg (step x Hg yg)) fun _ sh ⟨σh, Hh, invh, wh, qh⟩ => ?_
      refine thnF (ptr.run _ sh σh Hh _ invh qh) fun b si ⟨Hi, invi, qi⟩ => ?_
      have over : ∀ {s' : Shared} {H' : Hp}, Inv (X.blk sc Hc scope en fp) ([] ++ pinsAt fp sg.heap) σh H' s' → R H' →
          ∃ m, m < n ∧ ∃ i H', Inv (X.blk sc Hc scope en fp) [] (wipe σ (own.map (·.2))) H' s' ∧ tn i s'.heap ∧ (∀ b ∈ fp, H' b = none) ∧ W i m H' := fun {s' H'} iv rr => by
        obtain ⟨m', less, w'⟩ := back H' rr
        have pinned : ∀ b ∈ fp, ∀ o, sg.heap.get? b = some o → s'.heap.get? b = some o ∧ H' b = none := fun b bm o eo =>
          ⟨(iv.pin (b, o) (List.mem_append_right _ (List.mem_append_right _ (mem_pinsAt bm eo)))).1, (iv.pin (b, o) (List.mem_append_right _ (List.mem_append_right _ (mem_pinsAt bm eo)))).2.1⟩
        have ll : (wipe σ (own.map (·.2))).length = σh.length := (congrArg List.length wh.symm).trans (wipe_length _ _)
        refine ⟨m', less, i + 1, H', (iv.unpinned (pins := [])).weak ll (fun j v ev => ?_), TT.keep _ _ _ stg fun b bm o eo => (pinned b bm o eo).1, fun b bm => ?_, w'⟩
        · rw [← wh] at ev
          exact (wipe_some ev).1
        · obtain ⟨o, eo, _⟩ := TT.obj _ _ stg b bm
          exact (pinned b bm o eo).2
      cases b with
      | false =>
        rw [if_neg Bool.false_ne_true] at qi ⊢
        exact over invi qi
      | true =>
        rw [if_pos rfl] at qi ⊢
        refine thnF (per.run _ si σh Hi _ invi qi) fun z sj ⟨yv, Hj, invj, rj, kk, SS, nn, ey, atZ, few, rr⟩ => ?_
        subst ey
        obtain ⟨tk, rfl⟩ := (show ∃ tk, z = Value.int kk tk from rj)
        exact addI_goes (X := X.blk sc Hc scope en fp) invj atZ few fun sk invk => over invk rr
  exact PpSet.codeAny_compStart_set whole (TT.self X.A 0 _ _ _ std whole)
end
end Dv

/-! set(xs) of a list of hit. -/
namespace Dv
open PySem PySem.Spec PyProof.Rows L2 GxR Gx
section
variable {P : Program} {w : World} {A : Around} {E : Value → Shared → Prop} {s : Shared}
/-- the object of a new set -/
abbrev setObj (w : World) : Obj := { cls := .type "set", dict := none, data := .set #[] 0 (.fresh 0 0 (!w.params.followText "set-order")) }
set_option maxHeartbeats 8000000 in
theorem set_of_list {l : Addr} {items : Array Value} (ns : List Int) {Q : Value → Shared → Prop} (calm : A.handled = none) (isl : s.heap.IsList l items) (hit : IntsAre items.toList ns) (few : ns.length + 1 < scanBound)
    (k : ∀ (h' : Heap) (tk c : Nat), SetR w h' s.heap.objs.size (fun j => decide (j ∈ ns)) c → c ≤ ns.length → (∀ b o, s.heap.get? b = some o → h'.get? b = some o) →
      Q (.ref s.heap.objs.size) { s with heap := h', toks := tk }) : wpAny (model P w) A (call (.type "set") [.ref l]) Q E s := by
  have len : items.size = ns.length := by
    have z := IntsAre.length hit
    rwa [Array.length_toList] at z
  obtain ⟨cc, tl, mro⟩ := F.called_set.mro
  have made := F.called_set.made
  have subt := F.called_set.sub
  refine wpAny_call (codeAny_of_tree (show wpAny _ _ (callAny (.type "set") _) _ _ _ from wpAny_pure ⟨Code.quiet_builtin _ (by decide +kernel), codeAny_builtin F.entry_type_call ?_⟩))
  rw [Around.under_plain (weight_type_call_type "set" [.ref l] []) rfl]
  have nt := F.called_set.notType
  have cr := F.called_set.canCreate
  have tc := F.typeCall_set_1 (.ref l)
  repeat (any_goals (first | assumption | wp_step))
  refine codeAny_mono (code_set_led1 (.ref l) (E := E) (Q₁ := fun obj sa => obj = .ref s.heap.objs.size ∧ sa = { s with heap := s.heap.push (setObj w) }) ⟨rfl, rfl⟩) fun r sb hb => ?_
  rcases r with e | fl
  · exact hb
  · cases fl with
    | ret obj =>
      obtain ⟨rfl, rfl⟩ := hb
      have atS : (s.heap.push (setObj w)).get? s.heap.objs.size = some (setObj w) := Heap.get?_push_size _ rfl
      have isS : Shared.TypeIs { s with heap := s.heap.push (setObj w) } (.ref s.heap.objs.size) "set" := ⟨_, atS, rfl⟩
      have look := F.called_set.init.lookup
      have bnd := F.called_set.init.bind (.ref s.heap.objs.size)
      repeat (any_goals (first | assumption | wp_step))
      refine codeAny_mono (codeAny_call_builtin (R := wants (fun r sc => r = .none ∧ ∃ h' tk c, sc = { s with heap := h', toks := tk } ∧ SetR w h' s.heap.objs.size (fun j => decide (j ∈ ns)) c ∧ c ≤ ns.length ∧ (∀ b o, s.heap.get? b = some o → h'.get? b = some o)) E)
        F.called_set.init.plain F.entry_set_init (check_set_init_1 isS ?_)) fun rb sc hc => ?_
      · obtain ⟨⟨ocls, odict, odata, oslots⟩, ol, oc, nl, od⟩ := isl
        simp only at oc od
        subst oc
        subst od
        have ol' : (s.heap.push (setObj w)).get? l = some { cls := .type "list", dict := odict, data := .seq items nl, slots := oslots } := Heap.get?_push_of_some _ ol
        have s1 := F.sub_list_set
        have s2 := F.sub_list_frozenset
        have nd : (Value.type "list" == Value.type "dict") = false := by decide
        have isl1 : (s.heap.push (setObj w)).IsList l items := ⟨_, ol', rfl, nl, rfl⟩
        unfold Builtin.«set.__init__» noKeywords Builtin.Frozenset.updateFrom
        generalize hPI : pyIter = PI
        wp_walk
        subst hPI
        refine wpAny_pyIter_list isl1 (wpAny_bind (wpAny_runValue ?_))
        have lt : l < s.heap.objs.size := Heap.lt_size ol
        have sz : (s.heap.push (setObj w)).objs.size = s.heap.objs.size + 1 := Heap.size_push ..
        have neI : l ≠ (s.heap.push (setObj w)).objs.size := by rw [sz]; exact Nat.ne_of_lt (Nat.lt_succ_of_lt lt)
        have notin : s.heap.objs.size ∉ [(s.heap.push (setObj w)).objs.size, l] := by
          intro z
          rcases List.mem_cons.mp z with e1 | e1
          · rw [sz] at e1; exact absurd e1 (by omega)
          · rw [← List.mem_singleton.mp e1] at lt; exact Nat.lt_irrefl _ lt
        have vals : ∀ (i : Nat) (v : Value), items[i]? = some v → ∃ k t, ns[i]? = some k ∧ v = .int k t := fun i v hv => by
          have hi : i < ns.length := len ▸ (Array.getElem?_eq_some_iff.mp hv).1
          obtain ⟨t, ev⟩ := PyProof.Rows.IntsAre.int_at hit i v (by rw [Array.getElem?_toList]; exact hv)
          exact ⟨ns[i], t, List.getElem?_eq_getElem hi, by rw [ev, List.getD_eq_getElem?_getD, List.getElem?_eq_getElem hi] <;> rfl⟩
        refine set_update_ints ((Walks.list (by simp [calm]) _ l neI items).toS) s.heap.objs.size notin ns len few vals (items.size - 0) 0 _ (by omega) (Nat.zero_le _) ⟨⟨_, Heap.get?_push_size _ rfl, rfl, rfl⟩, (isl1.push _)⟩ ?start ?stop
        case start => exact ⟨0, Nat.le_refl 0, setR_new_at (Heap.get?_push_of_some _ atS)⟩
        case stop =>
          rintro ⟨h', g2, d', tk', os'⟩ c' moved lc made'
          have eg : g2 = s.gens := moved.gens
          have ed : d' = s.drawn := moved.drawn
          have eo : os' = s.os := moved.os
          subst eg; subst ed; subst eo
          refine wpAny_pure (show wpAny _ _ (ret Value.none) _ _ _ from wpAny_pure ⟨rfl, h', tk', c', rfl, made', len ▸ lc, fun b o e => ?_⟩)
          have b0 : b < s.heap.objs.size := Heap.lt_size e
          refine moved.heap b o (fun z => ?_) (Heap.get?_push_of_some _ (Heap.get?_push_of_some _ e))
          rcases List.mem_cons.mp z with e1 | e1
          · rw [e1] at b0; exact Nat.lt_irrefl _ b0
          · rw [List.mem_singleton.mp e1, sz] at b0; exact Nat.lt_irrefl _ (Nat.lt_of_succ_lt b0)
      · rcases rb with e | fl2
        · exact hc
        · cases fl2 with
          | ret r =>
            obtain ⟨rfl, h', tk, c', rfl, hs', hl', hk'⟩ := hc
            repeat (any_goals (first | assumption | wp_step))
            exact k _ _ _ hs' hl' hk'
          | _ => exact hc.elim
    | _ => exact hb.elim
end
section
variable {X : Cx}
def rSetI (K : PySem.W.Frag) (w : World) : List V → Hp → VK → Prop := fun xs H Q => ∃ (l : Addr) (ns : List Int), xs = [V.ref l] ∧ SqL K H l (ns.map V.int) ∧ ns.length ≤ 3000 ∧
  ∀ p c, H p = none → c ≤ ns.length → Q (.ref p) (upd H p (SetO w p (fun j => decide (j ∈ ns)) c))
theorem cr_setI (calm : X.calm = true := by rfl) : CallR X (.type "set") (rSetI X.K X.w) := by
  intro pins s σ H xs us Q inv r h
  obtain ⟨l, ns, rfl, sq, few, q⟩ := h
  rw [Vals.ref1 r]
  obtain ⟨its, rv, isl, _⟩ := inv.list sq
  refine set_of_list ns (inv.ok.hd calm) isl.isList (by simpa using ints_of_vals rv) (by unfold scanBound; omega) fun h' tk c made lc keep => ?_
  exact ⟨.ref s.heap.objs.size, upd H s.heap.objs.size (SetO X.w s.heap.objs.size (fun j => decide (j ∈ ns)) c), inv.laid (t' := tk) keep (Nat.le_refl _) (setO_new made), rfl, q _ c (inv.hok.fresh (Nat.le_refl _)) lc⟩
end
end Dv

/-! Values at one spot. -/
namespace Dv
open PySem PySem.Spec PyProof.Rows L2 GxR Gx
/-- g keeps the order of the values that P tells -/
def Emb (P : Int → Prop) (g : Int → Int) : Prop := ∀ x y, P x → P y → (g x < g y ↔ x < y) ∧ (g x = g y ↔ x = y)
section
variable {P : Int → Prop} {g : Int → Int}
theorem ltO_on (e : Emb P g) {a b : Option Int} (ha : ∀ x, a = some x → P x) (hb : ∀ x, b = some x → P x) : ltO (a.map g) (b.map g) = ltO a b := by
  cases a with
  | none => rfl
  | some x =>
    cases b with
    | none => rfl
    | some y =>
      show decide (g x < g y) = decide (x < y)
      rw [decide_eq_decide]
      exact (e x y (ha x rfl) (hb y rfl)).1
theorem eqO_on (e : Emb P g) {a b : Option Int} (ha : ∀ x, a = some x → P x) (hb : ∀ x, b = some x → P x) : eqO (a.map g) (b.map g) = eqO a b := by
  cases a with
  | none => rfl
  | some x =>
    cases b with
    | none => rfl
    | some y =>
      show decide (g x = g y) = decide (x = y)
      rw [decide_eq_decide]
      exact (e x y (ha x rfl) (hb y rfl)).2
variable {v : Int} {h : List (Option Int)}
mutual
theorem hold_on (e : Emb P g) (hh : PH P h) (hv : P v) : ∀ c : C, hold (g v) (mapH g h) c = hold v h c
  | .tru => by unfold hold; rfl
  | .fls => by unfold hold; rfl
  | .less a b => by rw [hold_less, hold_less, worth_map, worth_map]; exact ltO_on e (fun x ex => worth_P hh hv ex) (fun x ex => worth_P hh hv ex)
  | .same a b => by rw [hold_same, hold_same, worth_map, worth_map]; exact eqO_on e (fun x ex => worth_P hh hv ex) (fun x ex => worth_P hh hv ex)
  | .emp a => by rw [hold_emp, hold_emp, worth_map]; cases worth v h a <;> rfl
  | .nt c => by rw [hold_nt, hold_nt, hold_on e hh hv c]
  | .all cs => by rw [hold_all, hold_all]; exact holdA_on e hh hv cs
  | .any cs => by rw [hold_any, hold_any]; exact holdE_on e hh hv cs
theorem holdA_on (e : Emb P g) (hh : PH P h) (hv : P v) : ∀ cs : List C, holdA (g v) (mapH g h) cs = holdA v h cs
  | [] => by rw [holdA_nil, holdA_nil]
  | c :: cs => by rw [holdA_cons, holdA_cons, hold_on e hh hv c, holdA_on e hh hv cs]
theorem holdE_on (e : Emb P g) (hh : PH P h) (hv : P v) : ∀ cs : List C, holdE (g v) (mapH g h) cs = holdE v h cs
  | [] => by rw [holdE_nil, holdE_nil]
  | c :: cs => by rw [holdE_cons, holdE_cons, hold_on e hh hv c, holdE_on e hh hv cs]
end
theorem readM_on (e : Emb P g) (hh : PH P h) (m : M) (st t : Nat) (hv : P v) :
    readM m st (mapH g h) (t, g v) = ((readM m st h (t, v)).1, mapH g (readM m st h (t, v)).2.1, (readM m st h (t, v)).2.2.map (chE g)) := by
  have ef : holdC (g v) (mapH g h) = holdC v h := funext fun c => hold_on e hh hv c.cond
  have e1 : readM m st (mapH g h) (t, g v) = (match (m.cases st t).find? (holdC (g v) (mapH g h)) with | none => (st, mapH g h, []) | some c => (c.nxt, keptC (g v) (mapH g h) c, saidC (g v) (mapH g h) c)) := rfl
  have e2 : readM m st h (t, v) = (match (m.cases st t).find? (holdC v h) with | none => (st, h, []) | some c => (c.nxt, keptC v h c, saidC v h c)) := rfl
  rw [e1, e2, ef]
  cases (m.cases st t).find? (holdC v h) with
  | none => rfl
  | some c =>
    show (c.nxt, keptC (g v) (mapH g h) c, saidC (g v) (mapH g h) c) = _
    rw [saidC_map, keptC_map]
end
/-- v1 and v2 stand alike to what is held -/
def SpotOf (h : List (Option Int)) (a b : Int) : Prop := ∀ y, some y ∈ h → y ≠ a ∧ y ≠ b ∧ (y < a ↔ y < b)
def swapV (a b : Int) : Int → Int := fun x => if x = a then b else x
theorem swap_at (a b : Int) : swapV a b a = b := if_pos rfl
theorem swap_emb {h : List (Option Int)} {a b : Int} (s : SpotOf h a b) : Emb (fun x => some x ∈ h ∨ x = a) (swapV a b) := by
  have out : ∀ x, some x ∈ h → swapV a b x = x := fun x hx => if_neg (s x hx).1
  rintro x y (hx | rfl) (hy | rfl)
  · rw [out x hx, out y hy]; exact ⟨Iff.rfl, Iff.rfl⟩
  · rw [out x hx, swap_at]
    have k := s x hx
    exact ⟨⟨fun z => k.2.2.mpr z, fun z => k.2.2.mp z⟩, ⟨fun z => absurd z k.2.1, fun z => absurd z k.1⟩⟩
  · rw [out y hy, swap_at]
    have k := s y hy
    refine ⟨⟨fun z => ?_, fun z => ?_⟩, ⟨fun z => absurd z.symm k.2.1, fun z => absurd z.symm k.1⟩⟩
    · have := k.2.2; have := k.1; omega
    · have := k.2.2; have := k.2.1; omega
  · exact ⟨by omega, by simp⟩
theorem swap_held {h : List (Option Int)} {a b : Int} (s : SpotOf h a b) : mapH (swapV a b) h = h := by
  unfold mapH
  conv => rhs; rw [← List.map_id h]
  refine List.map_congr_left fun o ho => ?_
  cases o with
  | none => rfl
  | some y => show some (swapV a b y) = some y; unfold swapV; rw [if_neg (s y ho).1]
theorem read_spot {h : List (Option Int)} {a b : Int} (s : SpotOf h a b) (m : M) (st t : Nat) : readM m st h (t, b) = ((readM m st h (t, a)).1, mapH (swapV a b) (readM m st h (t, a)).2.1, (readM m st h (t, a)).2.2.map (chE (swapV a b))) := by
  have e := readM_on (v := a) (swap_emb s) (fun x hx => .inl hx) m st t (.inr rfl)
  rw [swap_held s, swap_at] at e
  exact e
end Dv

/-! Ranks of held values. -/
namespace Dv
open PySem PySem.Spec PyProof.Rows L2 GxR Gx
def ins (x : Int) : List Int → List Int
  | [] => [x]
  | y :: l => if x < y then x :: y :: l else if x = y then y :: l else y :: ins x l
theorem mem_ins {x z : Int} : ∀ {l : List Int}, z ∈ ins x l ↔ z = x ∨ z ∈ l
  | [] => by simp [ins]
  | y :: l => by
    unfold ins
    split
    · simp
    · split
      · next h => simp [h]
      · rw [List.mem_cons, mem_ins, List.mem_cons]
        constructor
        · rintro (h | h | h)
          · exact .inr (.inl h)
          · exact .inl h
          · exact .inr (.inr h)
        · rintro (h | h | h)
          · exact .inr (.inl h)
          · exact .inl h
          · exact .inr (.inr h)
theorem ins_sorted {x : Int} : ∀ {l : List Int}, l.Pairwise (· < ·) → (ins x l).Pairwise (· < ·)
  | [], _ => by simp [ins]
  | y :: l, h => by
    have h' := List.pairwise_cons.mp h
    unfold ins
    split
    · next c =>
      refine List.pairwise_cons.mpr ⟨fun z hz => ?_, h⟩
      rcases List.mem_cons.mp hz with e | e
      · omega
      · have := h'.1 z e
        omega
    · split
      · exact h
      · refine List.pairwise_cons.mpr ⟨fun z hz => ?_, ins_sorted h'.2⟩
        rcases mem_ins.mp hz with e | e
        · omega
        · exact h'.1 z e
theorem insN_len {x : Int} : ∀ {l : List Int}, l.Pairwise (· < ·) → (ins x l).length = if x ∈ l then l.length else l.length + 1
  | [], _ => by simp [ins]
  | y :: l, h => by
    have h' := List.pairwise_cons.mp h
    unfold ins
    split
    · next c =>
      rw [if_neg]
      · rfl
      · intro m
        rcases List.mem_cons.mp m with e | e
        · omega
        · have := h'.1 x e
          omega
    · split
      · next c => rw [if_pos (by simp [c])]
      · next c1 c2 =>
        rw [List.length_cons, insN_len h'.2]
        by_cases m : x ∈ l
        · rw [if_pos m, if_pos (by simp [m])]
          rfl
        · rw [if_neg m, if_neg (by simp [m, c2])]
          rfl
def srt (l : List Int) : List Int := l.foldl (fun a x => ins x a) []
theorem srt_snoc {l : List Int} {x : Int} : srt (l ++ [x]) = ins x (srt l) := by unfold srt; rw [List.foldl_append]; rfl
theorem srt_both (l : List Int) : ∀ n, (srt (l.take n)).Pairwise (· < ·) ∧ ∀ z, z ∈ srt (l.take n) ↔ z ∈ l.take n
  | 0 => by simp [srt]
  | n + 1 => by
    have ih := srt_both l n
    rw [List.take_add_one]
    cases e : l[n]? with
    | none => simpa using ih
    | some x =>
      show (srt (l.take n ++ [x])).Pairwise (· < ·) ∧ ∀ z, z ∈ srt (l.take n ++ [x]) ↔ z ∈ l.take n ++ [x]
      rw [srt_snoc]
      refine ⟨ins_sorted ih.1, fun z => ?_⟩
      rw [mem_ins, ih.2, List.mem_append, List.mem_singleton]
      exact or_comm
theorem srt_sorted (l : List Int) : (srt l).Pairwise (· < ·) := by have := (srt_both l l.length).1; rwa [List.take_length] at this
theorem mem_srt {l : List Int} {z : Int} : z ∈ srt l ↔ z ∈ l := by have := (srt_both l l.length).2 z; rwa [List.take_length] at this
theorem srt_unique : ∀ {a b : List Int}, a.Pairwise (· < ·) → b.Pairwise (· < ·) → (∀ y, y ∈ a ↔ y ∈ b) → a = b
  | [], [], _, _, _ => rfl
  | [], y :: b, _, _, h => by have := (h y).mpr (by simp); cases this
  | y :: a, [], _, _, h => by have := (h y).mp (by simp); cases this
  | x :: a, y :: b, ha, hb, h => by
    have ha' := List.pairwise_cons.mp ha
    have hb' := List.pairwise_cons.mp hb
    have e : x = y := by
      rcases List.mem_cons.mp ((h x).mp (by simp)) with e | e
      · exact e
      · rcases List.mem_cons.mp ((h y).mpr (by simp)) with e2 | e2
        · exact e2.symm
        · have := ha'.1 y e2
          have := hb'.1 x e
          omega
    subst e
    rw [srt_unique ha'.2 hb'.2 fun z => ?_]
    constructor
    · intro hz
      rcases List.mem_cons.mp ((h z).mp (by simp [hz])) with e | e
      · have := ha'.1 z hz
        omega
      · exact e
    · intro hz
      rcases List.mem_cons.mp ((h z).mpr (by simp [hz])) with e | e
      · have := hb'.1 z hz
        omega
      · exact e
theorem srt_eq {l ks : List Int} (h : ks.Pairwise (· < ·)) (m : ∀ y, y ∈ ks ↔ y ∈ l) : ks = srt l := srt_unique h (srt_sorted l) fun y => by rw [m, mem_srt]
theorem srt_filter (l : List Int) (p : Int → Bool) : srt (l.filter p) = (srt l).filter p := (srt_eq ((srt_sorted l).filter _) fun y => by rw [List.mem_filter, List.mem_filter, mem_srt]).symm
theorem srt_map (l : List Int) {g : Int → Int} (h : ∀ x ∈ l, ∀ y ∈ l, x < y → g x < g y) : srt (l.map g) = (srt l).map g := by
  refine (srt_eq (List.pairwise_map.mpr ((srt_sorted l).imp_of_mem fun ha hb c => h _ (mem_srt.mp ha) _ (mem_srt.mp hb) c)) fun y => ?_).symm
  rw [List.mem_map, List.mem_map]
  simp only [mem_srt]
/-- how many are less -/
def cnt (ks : List Int) (v : Int) : Nat := (ks.filter fun y => decide (y < v)).length
theorem cnt_at : ∀ {ks : List Int} {i : Nat}, ks.Pairwise (· < ·) → (hi : i < ks.length) → cnt ks ks[i] = i
  | x :: ks, 0, h, _ => by
    have h' := List.pairwise_cons.mp h
    show (List.filter (fun y => decide (y < x)) (x :: ks)).length = 0
    rw [List.length_eq_zero_iff, List.filter_eq_nil_iff]
    intro y hy
    rw [decide_eq_true_iff]
    rcases List.mem_cons.mp hy with e | e
    · omega
    · have := h'.1 y e
      omega
  | x :: ks, i + 1, h, hi => by
    have h' := List.pairwise_cons.mp h
    have hi' : i < ks.length := Nat.lt_of_succ_lt_succ hi
    show (List.filter (fun y => decide (y < ks[i])) (x :: ks)).length = i + 1
    rw [List.filter_cons_of_pos (by rw [decide_eq_true_iff]; exact h'.1 _ (List.getElem_mem _)), List.length_cons]
    exact congrArg (· + 1) (cnt_at h'.2 hi')
theorem cnt_of {ks : List Int} {v : Int} (h : ks.Pairwise (· < ·)) (m : v ∈ ks) : ∃ i, ∃ hi : i < ks.length, ks[i] = v ∧ cnt ks v = i := by
  obtain ⟨i, hi, rfl⟩ := List.getElem_of_mem m
  exact ⟨i, hi, rfl, cnt_at h hi⟩
theorem at_lt {ks : List Int} {i j : Nat} (h : ks.Pairwise (· < ·)) (hi : i < ks.length) (hj : j < ks.length) : ks[i] < ks[j] ↔ i < j := by
  have w := List.pairwise_iff_getElem.mp h
  constructor
  · intro c
    rcases Nat.lt_trichotomy i j with a | a | a
    · exact a
    · subst a
      omega
    · have := w j i hj hi a
      omega
  · exact w i j hi hj
theorem cnt_lt {ks : List Int} {x y : Int} (h : ks.Pairwise (· < ·)) (hx : x ∈ ks) (hy : y ∈ ks) : cnt ks x < cnt ks y ↔ x < y := by
  obtain ⟨i, hi, rfl, e1⟩ := cnt_of h hx
  obtain ⟨j, hj, rfl, e2⟩ := cnt_of h hy
  rw [e1, e2, at_lt h hi hj]
theorem cnt_le (ks : List Int) (v : Int) : cnt ks v ≤ ks.length := List.length_filter_le ..
/-- the held values -/
def kn (h : List (Option Int)) : List Int := srt (h.filterMap id)
theorem kn_sorted (h : List (Option Int)) : (kn h).Pairwise (· < ·) := srt_sorted _
theorem mem_kn {h : List (Option Int)} {v : Int} : v ∈ kn h ↔ some v ∈ h := by unfold kn; rw [mem_srt, List.mem_filterMap]; simp
theorem srt_len (l : List Int) : ∀ n, (srt (l.take n)).length ≤ n
  | 0 => by simp [srt]
  | n + 1 => by
    have ih := srt_len l n
    rw [List.take_add_one]
    cases e : l[n]? with
    | none => simp; omega
    | some x =>
      show (srt (l.take n ++ [x])).length ≤ n + 1
      rw [srt_snoc, insN_len (srt_sorted _)]
      split <;> omega
theorem kn_len (h : List (Option Int)) : (kn h).length ≤ h.length := by
  have := srt_len (h.filterMap id) (h.filterMap id).length
  rw [List.take_length] at this
  exact Nat.le_trans this (List.length_filterMap_le _ _)
def rkF (h : List (Option Int)) : Int → Int := fun v => (cnt (kn h) v : Nat)
def ranksH (h : List (Option Int)) : List (Option Int) := mapH (rkF h) h
theorem fm_map (g : Int → Int) (h : List (Option Int)) : (mapH g h).filterMap id = (h.filterMap id).map g := by
  unfold mapH
  rw [List.filterMap_map, List.map_filterMap]
  rfl
theorem kn_map {g : Int → Int} {h : List (Option Int)} (r : ∀ x y, some x ∈ h → some y ∈ h → x < y → g x < g y) : kn (mapH g h) = (kn h).map g := by
  unfold kn
  rw [fm_map]
  refine srt_map _ fun x hx y hy c => r x y ?_ ?_ c
  · simpa using hx
  · simpa using hy
theorem cnt_map {ks : List Int} {g : Int → Int} {v : Int} (r : ∀ x ∈ ks, (g x < g v ↔ x < v)) : cnt (ks.map g) (g v) = cnt ks v := by
  unfold cnt
  rw [List.filter_map, List.length_map]
  congr 1
  refine List.filter_congr fun x hx => ?_
  show decide (g x < g v) = decide (x < v)
  rw [decide_eq_decide]
  exact r x hx
theorem lt_iff {h : List (Option Int)} {g : Int → Int} (r : ∀ x y, some x ∈ h → some y ∈ h → x < y → g x < g y) {x y : Int} (hx : some x ∈ h) (hy : some y ∈ h) : g x < g y ↔ x < y := by
  constructor
  · intro c
    rcases Int.lt_trichotomy x y with a | a | a
    · exact a
    · subst a
      omega
    · have := r y x hy hx a
      omega
  · exact r x y hx hy
theorem ranks_map {g : Int → Int} {h : List (Option Int)} (r : ∀ x y, some x ∈ h → some y ∈ h → x < y → g x < g y) : ranksH (mapH g h) = ranksH h := by
  unfold ranksH rkF
  rw [kn_map r]
  unfold mapH
  rw [List.map_map]
  refine List.map_congr_left fun o ho => ?_
  cases o with
  | none => rfl
  | some v =>
    show some (((cnt ((kn h).map g) (g v) : Nat) : Int)) = some ((cnt (kn h) v : Nat) : Int)
    rw [cnt_map fun x hx => lt_iff r (mem_kn.mp hx) ho]
theorem rk_mono {h : List (Option Int)} : ∀ x y, some x ∈ h → some y ∈ h → x < y → rkF h x < rkF h y := fun x y hx hy c => by
  have := (cnt_lt (kn_sorted h) (mem_kn.mpr hx) (mem_kn.mpr hy)).mpr c
  unfold rkF
  omega
theorem ranks_ranks (h : List (Option Int)) : ranksH (ranksH h) = ranksH h := ranks_map rk_mono
theorem kn_ranks (h : List (Option Int)) : kn (ranksH h) = (List.range (kn h).length).map fun (i : Nat) => (i : Int) := by
  unfold ranksH
  rw [kn_map rk_mono]
  refine List.ext_getElem (by simp) fun i h1 h2 => ?_
  rw [List.getElem_map, List.getElem_map, List.getElem_range]
  rw [List.length_map] at h1
  unfold rkF
  rw [cnt_at (kn_sorted h) h1]
theorem ranks_top {h : List (Option Int)} {M : Int} (g : ∀ x, some x ∈ h → x < M) : ranksH (h ++ [some M]) = ranksH h ++ [some (((kn h).length : Nat) : Int)] := by
  have e : kn (h ++ [some M]) = kn h ++ [M] := by
    refine (srt_eq (List.pairwise_append.mpr ⟨kn_sorted h, by simp, fun x hx y hy => ?_⟩) fun y => ?_).symm
    · obtain rfl := List.mem_singleton.mp hy
      exact g x (mem_kn.mp hx)
    · rw [List.mem_append, List.mem_singleton, mem_kn]
      simp
  unfold ranksH rkF mapH
  rw [List.map_append, e]
  congr 1
  · refine List.map_congr_left fun o ho => ?_
    cases o with
    | none => rfl
    | some v =>
      have c := g v ho
      show some (((cnt (kn h ++ [M]) v : Nat) : Int)) = some ((cnt (kn h) v : Nat) : Int)
      unfold cnt
      rw [List.filter_append, List.filter_cons_of_neg (by rw [decide_eq_true_iff]; omega), List.filter_nil, List.append_nil]
  · show [some (((cnt (kn h ++ [M]) M : Nat) : Int))] = _
    congr 3
    unfold cnt
    rw [List.filter_append, List.filter_cons_of_neg (by rw [decide_eq_true_iff]; omega), List.filter_nil, List.append_nil, List.filter_eq_self.mpr]
    intro x hx
    rw [decide_eq_true_iff]
    exact g x (mem_kn.mp hx)
theorem ranks_low {h : List (Option Int)} {m : Int} (g : ∀ x, some x ∈ h → m < x) : ranksH (some m :: h) = some 0 :: mapH (· + 1) (ranksH h) := by
  have e : kn (some m :: h) = m :: kn h := by
    refine (srt_eq (List.pairwise_cons.mpr ⟨fun x hx => g x (mem_kn.mp hx), kn_sorted h⟩) fun y => ?_).symm
    rw [List.mem_cons, mem_kn]
    simp
  unfold ranksH rkF mapH
  rw [List.map_cons, e, List.map_map]
  congr 1
  · show some (((cnt (m :: kn h) m : Nat) : Int)) = some 0
    have : cnt (m :: kn h) m = 0 := by
      unfold cnt
      rw [List.length_eq_zero_iff, List.filter_eq_nil_iff]
      intro y hy
      rw [decide_eq_true_iff]
      rcases List.mem_cons.mp hy with e | e
      · omega
      · have := g y (mem_kn.mp e)
        omega
    rw [this]
    rfl
  · refine List.map_congr_left fun o ho => ?_
    cases o with
    | none => rfl
    | some v =>
      have c := g v ho
      show some (((cnt (m :: kn h) v : Nat) : Int)) = some (((cnt (kn h) v : Nat) : Int) + 1)
      unfold cnt
      rw [List.filter_cons_of_pos (by rw [decide_eq_true_iff]; exact c), List.length_cons]
      rfl
theorem firstMet_srt (val : Nat → Int) : ∀ i, (firstMet val i).length = (srt ((List.range i).map val)).length
  | 0 => rfl
  | i + 1 => by
    rw [firstMet_succ, List.range_succ, List.map_append, List.map_singleton, srt_snoc, insN_len (srt_sorted _)]
    have a := firstMet_any val i (val i)
    have ih := firstMet_srt val i
    unfold step_dedup
    by_cases c : val i ∈ (List.range i).map val
    · rw [if_pos (mem_srt.mpr c), if_pos, ih]
      rw [a, List.any_eq_true]
      exact ⟨_, c, by simp⟩
    · rw [if_neg (fun z => c (mem_srt.mp z)), if_neg]
      · rw [List.length_append, ih]; rfl
      · rw [a, List.any_eq_true]
        rintro ⟨z, hz, e⟩
        exact c (by have : z = val i := by simpa using e
                    rwa [← this])
theorem Ex.dk {T ms : List Addr} {H H1 : Hp} (a : Ex T ms H H1) {p : Addr} {kvs : List (Key × V)} (n : p ∉ ms) (h : H p = some (.dK kvs)) : H1 p = some (.dK kvs) := a.keep p _ n h fun ps e => by cases e
theorem take_srt (ns : List Int) : (List.range ns.length).map (fun i => ns.getD i 0) = ns := by
  refine List.ext_getElem (by simp) fun i h1 h2 => ?_
  rw [List.getElem_map, List.getElem_range, List.getD_eq_getElem?_getD, List.getElem?_eq_getElem h2]
  rfl
open PySem.W in
def tLenSetD (K : PySem.W.Frag) (ta : TE) : TE := fun σ H Q => ta σ H fun x H1 => ∃ (l : Addr) (ns : List Int), x = .ref l ∧ SqL K H1 l (ns.map V.int) ∧ ns.length ≤ 4000 ∧ Q (.int ((srt ns).length : Nat)) H1
theorem pe_lenSetD {X : Cx} {a : Expr} {ta : TE} {p p2 q pos : Pos} (hg : Gl X "len") (hm : X.mg "len" = none) (hg2 : Gl X "set") (hm2 : X.mg "set" = none) (ha : PE X a ta) (hc : X.calm = true := by rfl)
    (na : starEach [a] X.env = (false, eval a X.env) :: starEach [] X.env := by rfl) : PE X (.Call (.Name "len" p) [.Call (.Name "set" p2) [a] [] q] [] pos) (tLenSetD X.K ta) := by
  refine ⟨fun pins s σ H Q I h => ?_⟩
  refine Call_ (ld_blt I hg hm boot_len ?_)
  refine PyProof.Rows.callWith_builtin1 (PyProof.Rows.args_cons ?_ rfl) rfl rfl
  refine Call_ (ld_blt I hg2 hm2 boot_set ?_)
  refine PyProof.Rows.callWith_type1 (PyProof.Rows.args_cons (thn (ha.run pins s σ H _ I h) fun v s1 ⟨x, H1, I1, r1, q1⟩ => PyProof.Rows.args_nil ?_) na) na rfl
  obtain ⟨l, ns, rfl, hq, hl, q1⟩ := q1
  cases r1
  obtain ⟨its, r, pl, hz⟩ := I1.list hq
  have hlen : its.toArray.size = ns.length := by rw [List.size_toArray, ← r.length, List.length_map]
  refine call_set_list (I1.ok.hd hc) pl.isList (by simpa using ints_of_vals r) (by rw [hlen]; unfold scanBound; omega) fun h' tk hS hk => ?_
  refine PyProof.Rows.args_nil ?_
  have le := firstMet_length_le (fun i => ns.getD i 0) ns.length
  rw [hlen] at hS
  have en := firstMet_srt (fun i => ns.getD i 0) ns.length
  rw [take_srt] at en
  rw [en] at hS le
  obtain ⟨o, es, ep, t, ho, hex, hd, _, _, _, hf, hn⟩ := hS
  have I2 : Inv X pins σ H1 { s1 with heap := h', toks := tk } := I1.kept fun b o e => hk b o (Heap.lt_size e) e
  exact call_len_set ho hex hd hf (by rw [hn] <;> omega) ⟨.int (srt ns).length, H1, I2.tok _, ⟨_, by rw [hn]⟩, q1⟩
theorem eqD_lists {K : PySem.W.Frag} {H : Hp} {a b : Addr} {xs ys : List V} {ds : List D} {n : Nat} {Q : VK} (h1 : SqL K H a xs) (hx : Ats K H xs ds) (h2 : SqL K H b ys) (hy : Ats K H ys ds) (h : plDs n ds) (hn : n ≤ 63) (q : Q (.bl true) H) : rEqD K (.ref a) (.ref b) H Q := by
  have z := plDs_lay h
  have s : SeqAt.shaped (.list (toPys ds)) = true := by
    unfold SeqAt.shaped
    have e1 : (PyData.list (toPys ds)).canLay0 = true := by unfold PyData.canLay0; exact z.1
    have e2 : (PyData.list (toPys ds)).depth ≤ 64 := by unfold PyData.depth; omega
    rw [e1, decide_eq_true e2]
    rfl
  refine ⟨.list (toPys ds), .list (toPys ds), .lst h1 hx.dp, .lst h2 hy.dp, s, s, ?_⟩
  rw [SeqAt.eqv_refl _ (SeqAt.canLay_of_shaped s)]
  exact q
end Dv

/-! Tight logs. -/
namespace Dv
open PySem PySem.Spec PyProof.Rows L2 GxR Gx
def vals (es : List (Nat × Int)) : List Int := es.map (·.2)
def tgF (es : List (Nat × Int)) : Int → Int := fun v => (cnt (srt (vals es)) v : Nat)
def tightL (es : List (Nat × Int)) : List (Nat × Int) := es.map (chL (tgF es))
theorem tightL_len (es : List (Nat × Int)) : (tightL es).length = es.length := List.length_map ..
theorem vals_map (g : Int → Int) (es : List (Nat × Int)) : vals (es.map (chL g)) = (vals es).map g := by
  unfold vals
  rw [List.map_map, List.map_map]
  rfl
theorem tight_map {g : Int → Int} {es : List (Nat × Int)} (r : ∀ x ∈ vals es, ∀ y ∈ vals es, x < y → g x < g y) : tightL (es.map (chL g)) = tightL es := by
  unfold tightL tgF
  rw [vals_map, srt_map _ r, List.map_map]
  refine List.map_congr_left fun e he => ?_
  have me : e.2 ∈ vals es := List.mem_map.mpr ⟨e, he, rfl⟩
  show (e.1, ((cnt ((srt (vals es)).map g) (g e.2) : Nat) : Int)) = (e.1, ((cnt (srt (vals es)) e.2 : Nat) : Int))
  rw [cnt_map fun x hx => ?_]
  constructor
  · intro c
    rcases Int.lt_trichotomy x e.2 with a | a | a
    · exact a
    · rw [a] at c
      omega
    · have := r _ me _ (mem_srt.mp hx) a
      omega
  · exact r _ (mem_srt.mp hx) _ me
theorem tg_lt {es : List (Nat × Int)} {x y : Int} (hx : x ∈ vals es) (hy : y ∈ vals es) : tgF es x < tgF es y ↔ x < y := by
  have := cnt_lt (srt_sorted (vals es)) (mem_srt.mpr hx) (mem_srt.mpr hy)
  unfold tgF
  rw [← this]
  omega
theorem tight_tight (es : List (Nat × Int)) : tightL (tightL es) = tightL es := tight_map fun x hx y hy c => (tg_lt hx hy).mpr c
theorem srt_le {l P : List Int} (h : ∀ x ∈ l, x ∈ P) : (srt l).length ≤ P.length := by
  have e : srt l = srt (P.filter fun x => decide (x ∈ l)) := srt_unique (srt_sorted _) (srt_sorted _) fun y => by
    rw [mem_srt, mem_srt, List.mem_filter, decide_eq_true_iff]
    exact ⟨fun z => ⟨h y z, z⟩, fun z => z.2⟩
  rw [e]
  have := srt_len (P.filter fun x => decide (x ∈ l)) (P.filter fun x => decide (x ∈ l)).length
  rw [List.take_length] at this
  exact Nat.le_trans this (List.length_filter_le _ _)
def pool (b : Int) : List Int := [b + 1000, b - 1000, 0, -b, b, b + 1, b + 2, b + 3, b + 4, b + 5, b + 6, b + 7, b + 8]
theorem pool_abs {b x : Int} (h : x ∈ pool b) : x.natAbs ≤ b.natAbs + 1009 := by
  unfold pool at h
  simp only [List.mem_cons, List.not_mem_nil, or_false] at h
  omega
theorem pool_near {b t : Int} (h0 : 0 ≤ t) (h1 : t < 9) : b + t ∈ pool b := by
  unfold pool
  simp only [List.mem_cons, List.not_mem_nil, or_false]
  omega
/-- alike at a place -/
def likeB (as bs : List (Nat × Int)) (n k : Nat) : Bool := decide ((vals as).getD k 0 < (vals as).getD n 0) == decide ((vals bs).getD k 0 < (vals bs).getD n 0) && decide ((vals as).getD n 0 < (vals as).getD k 0) == decide ((vals bs).getD n 0 < (vals bs).getD k 0)
theorem vals_len (es : List (Nat × Int)) : (vals es).length = es.length := List.length_map ..
theorem tight_vals (es : List (Nat × Int)) : vals (tightL es) = (vals es).map (tgF es) := vals_map _ _
theorem like_of_tight {as bs : List (Nat × Int)} {n k : Nat} (e : tightL as = tightL bs) (hn : n < as.length) (hk : k < as.length) : likeB as bs n k = true := by
  have l : as.length = bs.length := by rw [← tightL_len as, e, tightL_len]
  have v : (vals as).map (tgF as) = (vals bs).map (tgF bs) := by rw [← tight_vals, e, tight_vals]
  have at' : ∀ {i : Nat} (hi : i < as.length), tgF as ((vals as).getD i 0) = tgF bs ((vals bs).getD i 0) := fun {i} hi => by
    have h1 : i < (vals as).length := by rw [vals_len]; exact hi
    have h2 : i < (vals bs).length := by rw [vals_len]; omega
    have := congrArg (fun z => z[i]?) v
    simp only [List.getElem?_map, List.getElem?_eq_getElem h1, List.getElem?_eq_getElem h2, Option.map_some] at this
    rw [List.getD_eq_getElem?_getD, List.getD_eq_getElem?_getD, List.getElem?_eq_getElem h1, List.getElem?_eq_getElem h2]
    exact Option.some.inj this
  have mem : ∀ {es : List (Nat × Int)} {i : Nat}, i < es.length → (vals es).getD i 0 ∈ vals es := fun {es i} hi => by
    have h1 : i < (vals es).length := by rw [vals_len]; exact hi
    rw [List.getD_eq_getElem?_getD, List.getElem?_eq_getElem h1]
    exact List.getElem_mem _
  unfold likeB
  rw [Bool.and_eq_true, beq_iff_eq, beq_iff_eq, decide_eq_decide, decide_eq_decide, ← tg_lt (mem hk) (mem hn), ← tg_lt (mem hn) (mem hk), at' hk, at' hn, tg_lt (mem (by omega)) (mem (by omega)), tg_lt (mem (by omega)) (mem (by omega))]
  exact ⟨Iff.rfl, Iff.rfl⟩
theorem tight_of_like {es : List (Nat × Int)} {n : Nat} {v : Int} (hn : n < es.length) (h : ∀ k < es.length, likeB (es.set n ((es[n]).1, v)) es n k = true) : tightL (es.set n ((es[n]).1, v)) = tightL es := by
  have hn' : n < (vals es).length := by rw [vals_len]; exact hn
  have vs : vals (es.set n ((es[n]).1, v)) = (vals es).set n v := by unfold vals; rw [List.map_set]
  have g0 : ∀ k, (hk : k < (vals es).length) → (vals es).getD k 0 = (vals es)[k] := fun k hk => by rw [List.getD_eq_getElem?_getD, List.getElem?_eq_getElem hk]; rfl
  have gn : ((vals es).set n v).getD n 0 = v := by rw [List.getD_eq_getElem?_getD, List.getElem?_set_self hn']; rfl
  have gk : ∀ k, (hk : k < (vals es).length) → k ≠ n → ((vals es).set n v).getD k 0 = (vals es)[k] := fun k hk ne => by rw [List.getD_eq_getElem?_getD, List.getElem?_set_ne (Ne.symm ne), List.getElem?_eq_getElem hk]; rfl
  have key : ∀ k, (hk : k < (vals es).length) → k ≠ n → ((vals es)[k] < v ↔ (vals es)[k] < (vals es)[n]) ∧ (v < (vals es)[k] ↔ (vals es)[n] < (vals es)[k]) := fun k hk ne => by
    have := h k (by rw [← vals_len]; exact hk)
    unfold likeB at this
    rw [vs, Bool.and_eq_true, beq_iff_eq, beq_iff_eq, decide_eq_decide, decide_eq_decide, gn, gk k hk ne, g0 k hk, g0 n hn'] at this
    exact this
  have e : es.set n ((es[n]).1, v) = es.map (chL fun x => if x = (vals es)[n] then v else x) := by
    refine List.ext_getElem (by simp) fun i h1 h2 => ?_
    rw [List.length_set] at h1
    rw [List.getElem_map, List.getElem_set]
    have ve : ∀ j, (hj : j < es.length) → (vals es)[j]'(by rw [vals_len]; exact hj) = (es[j]).2 := fun j hj => by unfold vals; rw [List.getElem_map]
    split
    · next c =>
      subst c
      show _ = ((es[n]).1, if (es[n]).2 = (vals es)[n] then v else (es[n]).2)
      rw [if_pos (ve n hn).symm]
    · next c =>
      show es[i] = ((es[i]).1, if (es[i]).2 = (vals es)[n] then v else (es[i]).2)
      by_cases z : (es[i]).2 = (vals es)[n]
      · rw [if_pos z]
        have kk := key i (by rw [vals_len]; exact h1) (fun w => c w.symm)
        rw [ve i h1] at kk
        have : (es[i]).2 = v := by
          rcases Int.lt_trichotomy (es[i]).2 v with a | a | a
          · have := kk.1.mp a
            omega
          · exact a
          · have := kk.2.mp a
            omega
        rw [← this]
      · rw [if_neg z]
  rw [e]
  refine tight_map fun x hx y hy c => ?_
  obtain ⟨i, hi, rfl⟩ := List.getElem_of_mem hx
  obtain ⟨j, hj, rfl⟩ := List.getElem_of_mem hy
  by_cases a : (vals es)[i] = (vals es)[n]
  · have b : ¬ (vals es)[j] = (vals es)[n] := by omega
    show (if (vals es)[i] = (vals es)[n] then v else (vals es)[i]) < (if (vals es)[j] = (vals es)[n] then v else (vals es)[j])
    rw [if_pos a, if_neg b]
    exact (key j hj (fun w => b (by subst w; rfl))).2.mpr (by omega)
  · by_cases b : (vals es)[j] = (vals es)[n]
    · show (if (vals es)[i] = (vals es)[n] then v else (vals es)[i]) < (if (vals es)[j] = (vals es)[n] then v else (vals es)[j])
      rw [if_neg a, if_pos b]
      exact (key i hi (fun w => a (by subst w; rfl))).1.mpr (by omega)
    · show (if (vals es)[i] = (vals es)[n] then v else (vals es)[i]) < (if (vals es)[j] = (vals es)[n] then v else (vals es)[j])
      rw [if_neg a, if_neg b]
      exact c
theorem eqvAll_logs : ∀ as bs : List (Nat × Int), PyData.eqvAll (toPys (as.map encE)) (toPys (bs.map encE)) = decide (as = bs)
  | [], [] => by unfold toPys PyData.eqvAll; rfl
  | [], y :: ys => by rw [List.map_nil, List.map_cons]; unfold toPys PyData.eqvAll; rw [decide_eq_false (by simp)]
  | x :: xs, [] => by rw [List.map_nil, List.map_cons]; unfold toPys PyData.eqvAll; rw [decide_eq_false (by simp)]
  | (t, v) :: xs, (u, z) :: ys => by
    rw [List.map_cons, List.map_cons]
    unfold toPys PyData.eqvAll
    rw [eqvAll_logs xs ys]
    have e : PyData.eqv (toPy (encE (t, v))) (toPy (encE (u, z))) = decide ((t, v) = (u, z)) := by
      show PyData.eqv (toPy (.tup [.int t, .int v])) (toPy (.tup [.int u, .int z])) = _
      unfold toPy PyData.eqv
      unfold toPys toPys toPys toPy PyData.eqvAll PyData.eqvAll PyData.eqvAll PyData.eqv
      rw [Bool.eq_iff_iff]
      simp
      omega
    rw [e, Bool.eq_iff_iff]
    simp
theorem eqD_logs {K : PySem.W.Frag} {H : Hp} {x y : V} {as bs : List (Nat × Int)} {Q : VK} (hx : At K H x (.tup (as.map encE))) (hy : At K H y (.tup (bs.map encE))) (q : Q (.bl (decide (as = bs))) H) : rEqD K x y H Q := by
  have s : ∀ zs : List (Nat × Int), SeqAt.shaped (toPy (.tup (zs.map encE))) = true := fun zs => plD_shaped (n := 2) plD_log (by decide)
  refine ⟨_, _, hx.dp, hy.dp, s as, s bs, ?_⟩
  have : PyData.eqv (toPy (.tup (as.map encE))) (toPy (.tup (bs.map encE))) = decide (as = bs) := by
    unfold toPy PyData.eqv
    exact eqvAll_logs as bs
  rw [this]
  exact q
theorem neD_logs {K : PySem.W.Frag} {H : Hp} {x y : V} {as bs : List (Nat × Int)} {Q : VK} (hx : At K H x (.tup (as.map encE))) (hy : At K H y (.tup (bs.map encE))) (q : Q (.bl (!decide (as = bs))) H) : rNeD K x y H Q := by
  have s : ∀ zs : List (Nat × Int), SeqAt.shaped (toPy (.tup (zs.map encE))) = true := fun zs => plD_shaped (n := 2) plD_log (by decide)
  refine ⟨_, _, hx.dp, hy.dp, s as, s bs, ?_⟩
  have : PyData.eqv (toPy (.tup (as.map encE))) (toPy (.tup (bs.map encE))) = decide (as = bs) := by
    unfold toPy PyData.eqv
    exact eqvAll_logs as bs
  rw [this]
  exact q
theorem srt_nodup {l : List Int} (h : l.Nodup) : ∀ n ≤ l.length, (srt (l.take n)).length = n
  | 0, _ => by simp [srt]
  | n + 1, hn => by
    have ih := srt_nodup h n (by omega)
    have hl : n < l.length := by omega
    rw [List.take_add_one, List.getElem?_eq_getElem hl]
    show (srt (l.take n ++ [l[n]])).length = n + 1
    rw [srt_snoc, insN_len (srt_sorted _), if_neg, ih]
    intro m
    obtain ⟨i, hi, e⟩ := List.getElem_of_mem (mem_srt.mp m)
    rw [List.length_take] at hi
    rw [List.getElem_take] at e
    exact List.pairwise_iff_getElem.mp h i n (by omega) hl (by omega) e
theorem setR_len {w : World} {h : Heap} {a : Addr} {ns : List Int} {n : Nat} (R : SetR w h a (fun j => decide (j ∈ ns)) n) : n = (srt ns).length := by
  obtain ⟨o, es, ep, t, _, _, _, _, nd, mem, _, _, hn, _⟩ := R
  have e : srt ns = srt (es.toList.map keyOf) := srt_unique (srt_sorted _) (srt_sorted _) fun y => by rw [mem_srt, mem_srt, ← mem y, decide_eq_true_iff]
  have := srt_nodup nd _ (Nat.le_refl _)
  rw [List.take_length] at this
  rw [e, this, List.length_map, Array.length_toList, hn]
def rSetN (K : PySem.W.Frag) (w : World) : List V → Hp → VK → Prop := fun xs H Q => ∃ (l : Addr) (ns : List Int), xs = [V.ref l] ∧ SqL K H l (ns.map V.int) ∧ ns.length ≤ 3000 ∧
  ∀ p, H p = none → Q (.ref p) (upd H p (SetO w p (fun j => decide (j ∈ ns)) (srt ns).length))
theorem cr_setN {X : Cx} (calm : X.calm = true := by rfl) : CallR X (.type "set") (rSetN X.K X.w) := by
  intro pins s σ H xs us Q inv r h
  obtain ⟨l, ns, rfl, sq, few, q⟩ := h
  rw [Vals.ref1 r]
  obtain ⟨its, rv, isl, _⟩ := inv.list sq
  refine set_of_list ns (inv.ok.hd calm) isl.isList (by simpa using ints_of_vals rv) (by unfold scanBound; omega) fun h' tk c made lc keep => ?_
  obtain rfl := setR_len made
  exact ⟨.ref s.heap.objs.size, upd H s.heap.objs.size (SetO X.w s.heap.objs.size (fun j => decide (j ∈ ns)) (srt ns).length), inv.laid (t' := tk) keep (Nat.le_refl _) (setO_new made), rfl, q _ (inv.hok.fresh (Nat.le_refl _))⟩
end Dv

/-! dicts whose keys are ints, texts and None -/
namespace Dv
open PySem PySem.Spec PyProof.Rows L2 GxR Gx
def lV : Leaf → V
  | .none => .non
  | .num i => .int i
  | .text x => .str x
theorem lV_is {P : Program} {w : World} {k : Leaf} {u : Value} (r : RelV (lV k) u) : (leafKind P w).is k u = true := by
  cases k with
  | none => obtain rfl : u = Value.none := r; exact leaf_none
  | num i => obtain ⟨t, rfl⟩ := (show ∃ t, u = Value.int i t from r); exact leaf_int i t
  | text x => obtain ⟨t, rfl⟩ := (show ∃ t, u = Value.str x t from r); exact leaf_str x t
def LDo (P : Program) (w : World) (a : Addr) (kvs : List (Leaf × V)) : HO := .ext fun h => kvs.length ≤ sizeLine ∧ (a == sysModules) = false ∧ ∃ vs, KV kvs vs ∧ h.DictOf (leafKind P w) a vs
section
variable {X : Cx} {pins : List (Addr × Obj)} {σ : L2.St} {H : Hp} {s : Shared} {a : Addr} {kvs : List (Leaf × V)} {A : Around} {E : Value → Shared → Prop}
theorem ld_of (I : Inv X pins σ H s) (h : H a = some (LDo X.prog X.w a kvs)) : kvs.length ≤ sizeLine ∧ (a == sysModules) = false ∧ ∃ vs, KV kvs vs ∧ s.heap.DictOf (leafKind X.prog X.w) a vs := by
  have z : ObjOk X.prog X.w H s.heap a (LDo X.prog X.w a kvs) := I.hok a _ h
  exact z.1
theorem ld_new {P : Program} {w : World} {H' : Hp} {h' : Heap} {vs : List (Leaf × Value)} (z : kvs.length ≤ sizeLine) (hd : (a == sysModules) = false) (rel : KV kvs vs) (dd : h'.DictOf (leafKind P w) a vs) : ObjOk P w H' h' a (LDo P w a kvs) := by
  obtain ⟨o, es, ep, ho, r⟩ := id dd
  refine ⟨⟨z, hd, vs, rel, dd⟩, ⟨o, ho⟩, ?_⟩
  rintro g1 g2 ⟨q1, q2, q3, q4, o', es', ep', k1, k2⟩ hg
  exact ⟨q1, q2, q3, q4, o', es', ep', hg _ k1, k2⟩
theorem ld_setItem {k : Leaf} {y v : V} {u r : Value} {Q : Unit → Shared → Prop} (I : Inv X pins σ H s) (h : H a = some (LDo X.prog X.w a kvs)) (ry : RelV (lV k) u) (rv : RelV v r) (l : kvs.length < sizeLine)
    (q : ∀ s', Inv X pins σ (upd H a (LDo X.prog X.w a (putK kvs k v))) s' → Q () s') : wpAny (model X.prog X.w) A (setItem (.ref a) u r) Q E s := by
  obtain ⟨z, hd, vs, rel, dd⟩ := ld_of I h
  have hz : vs.length ≤ sizeLine := by rw [← rel.length]; exact z
  have hl : (putK kvs k v).length ≤ sizeLine := by have := length_putK kvs k v; omega
  refine wpAny_setItem_pairs (hsz := hz) (lV_is ry) dd fun h' dd' hs => q _ ?_
  have he : ∃ q, h'.get? a = some q := let ⟨q, _, _, hq, _⟩ := dd'; ⟨q, hq⟩
  exact d_write I (by rw [h]; exact True.intro) hs he (ld_new hl hd (rel.put k rv) dd')
theorem ld_get2 {k : Leaf} {d : V} {u r : Value} {Q : Value → Shared → Prop} (I : Inv X pins σ H s) (h : H a = some (LDo X.prog X.w a kvs)) (ry : RelV (lV k) u) (rd : RelV d r) (q : ∀ w' s', Inv X pins σ H s' → RelV ((valV kvs k).getD d) w' → Q w' s') :
    wpAny (model X.prog X.w) A (call (.builtin "dict.get") [.ref a, u, r]) Q E s := by
  obtain ⟨z, hd, vs, rel, dd⟩ := ld_of I h
  refine call_meetsIn PySem.F.slot_dict_get dd.typeIs PySem.F.entry_dict_get (PySem.F.args_dict_get_3 _ _ _) (meets_dict_get_default (leafKind X.prog X.w) a (lV_is ry) hd r) ⟨_, dd.mapOf, q _ _ (I.tok _) ?_⟩
  exact (rel.val k).getD rd
end
def sLPut (P : Program) (w : World) (td ty tv : TE) : TS := fun D σ H => tv σ H fun v H1 => td σ H1 fun x H2 => ty σ H2 fun y H3 => ∃ a kvs k, x = .ref a ∧ H3 a = some (LDo P w a kvs) ∧ y = lV k ∧ kvs.length < sizeLine ∧ ∀ o, o = LDo P w a (putK kvs k v) → D.nx σ (upd H3 a o)
def tLGet2 (P : Program) (w : World) (td ty tx : TE) : TE := fun σ H Q => td σ H fun x H1 => ∃ a kvs, x = .ref a ∧ H1 a = some (LDo P w a kvs) ∧ ty σ H1 fun y H2 => tx σ H2 fun z H3 => ∃ k, y = lV k ∧ H3 a = some (LDo P w a kvs) ∧ Q ((valV kvs k).getD z) H3
def tLDisp1 (P : Program) (w : World) (tk tv : TE) : TE := fun σ H Q => ∀ p, H p = none → ∀ o0, (∀ ps, o0 ≠ .tbl ps) → tk σ (upd H p o0) fun y H1 => tv σ H1 fun v H2 => H2 p = some o0 ∧ ∃ k, y = lV k ∧ ∀ o, o = LDo P w p [(k, v)] → Q (.ref p) (upd H2 p o)
section
variable {X : Cx} {o i e f value : Expr} {pos pos' tpos apos cpos : Pos} {td ty tv tx : TE}
theorem ps_lput (ho : PE X o td) (hi : PE X i ty) (hv : PE X value tv) (hs : swapsWith value (some (.Subscript o i pos')) pos.line X.env = pure false) :
    PS X (.Assign [.Subscript o i pos'] value pos) (sLPut X.prog X.w td ty tv) := by
  refine ⟨fun pins s σ H D I h => ?_⟩
  refine wpAny_Assign_Subscript (thn (hv.run pins s σ H _ I h) fun r s1 ⟨v, H1, I1, rv, q1⟩ => thn (ho.run pins s1 σ H1 _ I1 q1) fun u s2 ⟨x, H2, I2, rx, q2⟩ => thn (hi.run pins s2 σ H2 _ I2 q2) fun iv s3 ⟨y, H3, I3, ry, a, kvs, k, ex, g, ey, hl, q3⟩ => ?_) hs
  subst ex ey
  obtain rfl : u = Value.ref a := rx
  exact ld_setItem (y := lV k) I3 g ry rv hl fun s4 I4 => ⟨σ, _, I4, q3 _ rfl⟩
theorem pe_lget2 (ho : PE X o td) (he : PE X e ty) (hf : PE X f tx) (m : M2 X o "get" apos e f cpos) : PE X (.Call (.Attribute o "get" apos) [e, f] [] cpos) (tLGet2 X.prog X.w td ty tx) := by
  refine ⟨fun pins s σ H Q I h => ?_⟩
  refine wpAny_Call_method m.base m.few m.line PySem.F.plainAttrs_dict PySem.F.slot_dict_get PySem.F.type_dict_get (thn (ho.run pins s σ H _ I h) fun u s1 ⟨x, H1, I1, rx, a, kvs, ex, d, q1⟩ => ?_)
  subst ex
  obtain rfl : u = Value.ref a := rx
  obtain ⟨_, _, vs, _, dd⟩ := ld_of I1 d
  refine ⟨dd.typeIs, fun b q => ?_, ?_⟩
  · cases q
    obtain ⟨ob, _, _, h1, h2, _⟩ := dd
    exact ⟨ob, h1, h2.2.1⟩
  rw [m.trees]
  refine Calls.callWith_builtin rfl (Calls.evalArgs_plain (Calls.spliced_cons (thn (he.run pins s1 σ H1 _ I1 q1) fun iv s2 ⟨y, H2, I2, ry, q2⟩ =>
    Calls.spliced_cons (thn (hf.run pins s2 σ H2 _ I2 q2) fun fv s3 ⟨z, H3, I3, rz, k, ey, g, q3⟩ => Calls.spliced_nil ?_))))
  subst ey
  exact ld_get2 I3 g ry rz fun w' s4 I4 rw' => ⟨_, H3, I4, rw', q3⟩
theorem pe_ldisp1 (hk : PE X i ty) (hv : PE X value tv) : PE X (.Dict [some i] [value] pos) (tLDisp1 X.prog X.w ty tv) := by
  refine ⟨fun pins s σ H Q I q => ?_⟩
  have hn := I.hok.fresh (Nat.le_refl s.heap.objs.size)
  have nsys : (s.heap.objs.size == sysModules) = false := beq_eq_false_iff_ne.mpr (Ne.symm (Nat.ne_of_lt I.big))
  have I1 := I.laid (a := s.heap.objs.size) (o := LDo X.prog X.w s.heap.objs.size []) (h' := s.heap.push { cls := .type "dict", data := .dict #[] }) (t' := s.toks) (fun _ _ q => Heap.get?_push_of_some _ q) (Nat.le_refl _)
    (ld_new (Nat.zero_le _) nsys .nil (Heap.DictOf.new s.heap))
  refine wpAny_Dict_walk (knd := leafKind X.prog X.w) rfl rfl (fun z => by cases z) (by show 1 ≤ 15; decide) ?_
  refine pairTrees_cons_walk (thn (hk.run pins _ σ _ _ I1 (q _ hn _ (fun ps e => by cases e))) fun u s1 ⟨y, H1, I1', ry, q1⟩ => thn (hv.run pins s1 σ H1 _ I1' q1) fun w2 s2 ⟨v, H2, I2, rv, h0, k, ey, q2⟩ => pairTrees_nil_walk ?_)
  subst ey
  obtain ⟨z, hd, vs, rr, dd⟩ := ld_of I2 h0
  cases rr
  refine ⟨[(k, w2)], ⟨lV_is ry, rfl, trivial⟩, dd, fun h' dd' hs => ?_⟩
  have he : ∃ q, h'.get? s.heap.objs.size = some q := let ⟨q, _, _, hq, _⟩ := dd'; ⟨q, hq⟩
  exact ⟨.ref s.heap.objs.size, _, d_write I2 (by rw [h0]; exact True.intro) hs he (ld_new (kvs := [(k, v)]) (by show 1 ≤ sizeLine; decide) nsys (.cons ⟨rfl, rv⟩ .nil) dd'), rfl, q2 _ rfl⟩
end
theorem pe_lget2P {X : Cx} {P : Program} {w : World} {o e f : Expr} {apos cpos : Pos} {td ty tx : TE} (ho : PE X o td) (he : PE X e ty) (hf : PE X f tx) (m : M2 X o "get" apos e f cpos) (hP : X.prog = P := by rfl) (hw : X.w = w := by rfl) : PE X (.Call (.Attribute o "get" apos) [e, f] [] cpos) (tLGet2 P w td ty tx) := by
  subst hP hw
  exact pe_lget2 ho he hf m
end Dv

open PySem PySem.Spec PyProof.Rows L2 GxR Gx
namespace Dv
theorem answersM_on {P : Int → Prop} {g : Int → Int} (e : Emb P g) (m : M) : ∀ {es : List (Nat × Int)} {c : Ct}, PH P c.2 → (∀ x ∈ es, P x.2) → answersM m (mapC g c) (es.map (chL g)) = (answersM m c es).map (List.map (chE g))
  | [], c, _, _ => rfl
  | x :: es, c, hh, hv => by
    have r := readM_on (v := x.2) e hh m c.1 x.1 (hv x (by simp))
    have p := readM_P m c.1 (e := x) hh (hv x (by simp))
    show (readM m c.1 (mapH g c.2) (x.1, g x.2)).2.2 :: answersM m (stepM m (mapC g c) (chL g x)) (es.map (chL g)) = _
    have s : stepM m (mapC g c) (chL g x) = mapC g (stepM m c x) := by
      show ((readM m c.1 (mapH g c.2) (x.1, g x.2)).1, (readM m c.1 (mapH g c.2) (x.1, g x.2)).2.1) = _
      rw [r]
      rfl
    rw [s, answersM_on e m (es := es) (c := stepM m c x) p.1 (fun y hy => hv y (by simp [hy])), r]
    rfl
theorem emb_of {P : Int → Prop} {g : Int → Int} (h : ∀ x y, P x → P y → x < y → g x < g y) : Emb P g := fun x y hx hy => by
  rcases Int.lt_trichotomy x y with c | c | c
  · have := h x y hx hy c
    exact ⟨⟨fun _ => c, fun _ => this⟩, ⟨fun e => by omega, fun e => by omega⟩⟩
  · subst c
    exact ⟨⟨fun e => absurd e (Int.lt_irrefl _), fun e => absurd e (Int.lt_irrefl _)⟩, ⟨fun _ => rfl, fun _ => rfl⟩⟩
  · have := h y x hy hx c
    exact ⟨⟨fun e => by omega, fun e => by omega⟩, ⟨fun e => by omega, fun e => by omega⟩⟩
/-- what the dict of two logs tells -/
def MapOk (es : List (Nat × Int)) (g : Int → Int) (kvs : List (Leaf × V)) : Prop := valV kvs .none = some .non ∧ ∀ e ∈ es, valV kvs (.num e.2) = some (.int (g e.2))
theorem MapOk.put {es : List (Nat × Int)} {g : Int → Int} {kvs : List (Leaf × V)} {e : Nat × Int} (h : MapOk es g kvs) : MapOk (es ++ [e]) g (putK kvs (.num e.2) (.int (g e.2))) := by
  refine ⟨by rw [valV_put, if_neg (by intro z; cases z)]; exact h.1, fun x hx => ?_⟩
  rw [valV_put]
  by_cases c : (Leaf.num x.2) = Leaf.num e.2
  · rw [if_pos c]
    have c' := Leaf.num.inj c
    rw [c']
  · rw [if_neg c]
    rcases List.mem_append.mp hx with h' | h'
    · exact h.2 x h'
    · rw [List.mem_singleton.mp h'] at c
      exact absurd rfl c
end Dv

namespace Law
open PySem PySem.Spec PyProof.Rows L2 GxR Gx Dv
def topS (i : Nat) : Stmt := PySem.Challenge.pw_anyvalues_k08_whole_answers_hang_on_the.main.body.getD i (.Pass ⟨0, 0, 0, 0⟩)
abbrev s__worth : Stmt := topS 4
abbrev s_holds : Stmt := topS 3
abbrev s_case_at : Stmt := topS 6
abbrev s_read : Stmt := topS 7
abbrev s_beginning : Stmt := topS 5
abbrev s_answers_from : Stmt := topS 9
abbrev s_answers : Stmt := topS 8
abbrev s__law_draws : Stmt := topS 14
abbrev s__law_take : Stmt := topS 15
abbrev s__law_cell : Stmt := topS 16
abbrev s__law_place : Stmt := topS 18
abbrev s__law_source : Stmt := topS 20
abbrev s__law_moves : Stmt := topS 21
abbrev s__law_says : Stmt := topS 22
abbrev s__law_condition : Stmt := topS 19
abbrev s__law_cases : Stmt := topS 23
abbrev s__law_machine : Stmt := topS 24
abbrev s__law_any_machine : Stmt := topS 25
abbrev s__law_base : Stmt := topS 31
abbrev s__law_value : Stmt := topS 30
abbrev s__law_log : Stmt := topS 32
abbrev s__numbered : Stmt := topS 12
abbrev s_tight : Stmt := topS 11
abbrev s__law_map : Stmt := topS 34
abbrev s__law_mapped : Stmt := topS 35
abbrev s__law_of_same_order : Stmt := topS 36
abbrev s_law : Stmt := topS 37
section
variable {P : Program} {w : World} {K : PySem.W.Frag} {mg : Str → Option Value} {base : Heap}
theorem sc__worth : FnScope ["source", "value", "held"] ["source", "value", "held"] (defScope s__worth) := ⟨rfl, rfl, rfl, by decide +kernel, rfl, by decide +kernel, by decide +kernel⟩
def sp__worth (K : PySem.W.Frag) : Sp := fun vs H Q _ => ∃ (p v : Int) (hv : V) (h : List (Option Int)), vs = [.int p, .int v, hv] ∧ At K H hv (encH h) ∧ -2 ≤ p ∧ p < h.length ∧ Q (oV (worth v h p)) H
theorem ok__worth {f : Addr} {fd : FuncData} {k : Nat} {t1 t2 : Tok} (F : Fun K "_worth" "_worth" s__worth f fd) (mN : mg "NEW" = some (.int (-1) t1)) (mN2 : mg "NOTHING" = some (.int (-2) t2)) : FnOk P w K mg base CX0 (k + 1) f fd ["source", "value", "held"] (sp__worth K) := by
  refine F.ok sc__worth (fun vs H Q E h => ?_) (fun cdv A outer s H vs Q E hr h => ?_)
  · obtain ⟨p, v, hv, h, rfl, _⟩ := h
    rfl
  obtain ⟨p, v, hv, h, rfl, hh, h0, h1, q⟩ := h
  refine ⟨_, pss_cons (ps_if (pt_cmpR op_eq (pv 0) (pe_glob (v := .int (-1)) rfl mN ⟨_, rfl⟩) (nomark _)) (pss_one (ps_ret (pv 1))) pss_nil)
    (pss_cons (ps_if (pt_cmpR op_eq (pv 0) (pe_glob (v := .int (-2)) rfl mN2 ⟨_, rfl⟩) (nomark _)) (pss_one (ps_ret pe_non)) pss_nil)
    (pss_one (ps_ret (pe_ix ix_tup (pv 2) (pv 0) (fun _ _ => rfl))))), ?_⟩
  refine ⟨_, rfl, rfl, _, rfl, ite2 (fun c => ?_) (fun c => ?_)⟩
  · have e : p = -1 := by simpa using c
    subst e
    exact ⟨_, rfl, q⟩
  have n1 : p ≠ -1 := by simpa using c
  refine ⟨_, rfl, rfl, _, rfl, ite2 (fun c => ?_) (fun c => ?_)⟩
  · have e : p = -2 := by simpa using c
    subst e
    exact q
  have n2 : p ≠ -2 := by simpa using c
  obtain ⟨a, rfl, sq⟩ := at_encH.mp hh
  exact ⟨_, rfl, _, rfl, a, _, _, _, rfl, rfl, sq, oV_at (v := v) (by omega) h1, q⟩

theorem sc_holds : FnScope ["condition", "value", "held", "word", "one", "other"] ["condition", "value", "held"] (defScope s_holds) := ⟨rfl, rfl, rfl, by decide +kernel, rfl, by decide +kernel, by decide +kernel⟩
def sp_holds (K : PySem.W.Frag) (T : List Addr) (n : Nat) : Sp := fun vs H Q _ => ∃ (x hv : V) (c : C) (v : Int) (h : List (Option Int)), vs = [x, .int v, hv] ∧ At K H x (encC c) ∧ At K H hv (encH h) ∧ Wd T H ∧ (∃ m, n = m + 1 ∧ okC h.length m c) ∧
  ∀ H', Ex T [] H H' → Q (.bl (hold v h c)) H'

theorem ok_holds {f fW c PT : Addr} {fd fdW : FuncData} {T : List Addr} (hPT : PT ∈ T) (F : FunT K "holds" "holds" s_holds f fd c) (bF : Binds K fd ["condition", "value", "held"] []) (mF : mg "holds" = some (.ref f))
    (TB : TabB base mg c PT) (mAll : mg "all" = none) (mAny : mg "any" = none)
    (W : FnOk P w K mg base CX0 1 fW fdW ["source", "value", "held"] (sp__worth K)) (kW : PySem.W.keepIn K (.ref fW) = true) (bW : Binds K fdW ["source", "value", "held"] []) (mW : mg "_worth" = some (.ref fW)) :
    ∀ n : Nat, FnOk P w K mg base CX0 (2 * n + 1) f fd ["condition", "value", "held"] (sp_holds K T n) := by
  intro n
  induction n with
  | zero =>
    have no : ∀ vs H Q E, ¬ sp_holds K T 0 vs H Q E := fun vs H Q E h => by
      obtain ⟨x, hv, c, v, h, _, _, _, _, ⟨m, e, _⟩, _⟩ := h
      omega
    exact ⟨fun vs H Q E h => absurd h (no vs H Q E), fun A outer s H args us vs Q E _ _ _ _ h => absurd h (no vs H Q E)⟩
  | succ n ih =>
  refine F.ok sc_holds (fun vs H Q E h => ?_) (fun A outer s H vs Q E hr h => ?_)
  · obtain ⟨x, hv, c, v, h, rfl, _⟩ := h
    rfl
  obtain ⟨x, hv, c, v, h, rfl, hx, hh, wd, ⟨n', en, ok⟩, q⟩ := h
  obtain rfl : n = n' := by omega
  have hr1 : Room 1 _ := hr.mono (by omega)
  refine ⟨_, pss_cons (ps_set (i := 3) sc_holds.nd rfl (.inl rfl) (pe_ix ix_tup (pv 0) pe_int (fun _ _ => rfl)))
    (pss_cons (ps_if (pt_cmpR op_eq (pv 3) pe_str (nomark _))
      (pss_one (ps_ret (pe_allG (k := 2 * n + 1) (es := [("part", none), ("value", some 1), ("held", some 2)]) hr (by rfl) mAll TB rfl ⟨by rfl, by rfl, by rfl, by (show freeOk (defScope s_holds) _ = true; decide +kernel), by (show capsOk ["condition", "value", "held", "word", "one", "other"] _ _ = true; decide +kernel)⟩
        (pi_tup (pe_ix ix_tup (pv 0) pe_int (fun _ _ => rfl))) (fun _ _ _ _ _ _ _ => pg_name (i := 0) (show (["part", "value", "held"] : List Str).Nodup by decide +kernel) rfl (.inl rfl) (.inr rfl))
        (fun _ _ _ _ _ _ _ hr' => pe_call ih hr' (by rfl) mF F.kp bF .nil pass0 (pa_cons (pv 0) (pa_cons (pv 1) (pa_cons (pv 2) pa_nil)))) (fun _ => rfl)))) pss_nil)
    (pss_cons (ps_if (pt_cmpR op_eq (pv 3) pe_str (nomark _))
      (pss_one (ps_ret (pe_anyG (k := 2 * n + 1) (es := [("part", none), ("value", some 1), ("held", some 2)]) hr (by rfl) mAny TB rfl ⟨by rfl, by rfl, by rfl, by (show freeOk (defScope s_holds) _ = true; decide +kernel), by (show capsOk ["condition", "value", "held", "word", "one", "other"] _ _ = true; decide +kernel)⟩
        (pi_tup (pe_ix ix_tup (pv 0) pe_int (fun _ _ => rfl))) (fun _ _ _ _ _ _ _ => pg_name (i := 0) (show (["part", "value", "held"] : List Str).Nodup by decide +kernel) rfl (.inl rfl) (.inr rfl))
        (fun _ _ _ _ _ _ _ hr' => pe_call ih hr' (by rfl) mF F.kp bF .nil pass0 (pa_cons (pv 0) (pa_cons (pv 1) (pa_cons (pv 2) pa_nil)))) (fun _ => rfl)))) pss_nil)
    (pss_cons (ps_if (pt_cmpR op_eq (pv 3) pe_str (nomark _))
      (pss_one (ps_ret (pe_not (pe_call ih (hr.mono (by omega)) (by rfl) mF F.kp bF .nil pass0 (pa_cons (pe_ix ix_tup (pv 0) pe_int (fun _ _ => rfl)) (pa_cons (pv 1) (pa_cons (pv 2) pa_nil))))))) pss_nil)
    (pss_cons (ps_if (pt_cmpR op_in_seq (pv 3) (pe_tup (pa_cons pe_str (pa_cons pe_str pa_nil))) rfl)
      (pss_one (ps_ret (pe_cmpR op_eq (pv 3) pe_str (nomark _)))) pss_nil)
    (pss_cons (ps_set (i := 4) sc_holds.nd rfl (.inl rfl) (pe_call W hr1 (by rfl) mW kW bW .nil pass0 (pa_cons (pe_ix ix_tup (pv 0) pe_int (fun _ _ => rfl)) (pa_cons (pv 1) (pa_cons (pv 2) pa_nil)))))
    (pss_cons (ps_if (pt_cmpR op_eq (pv 3) pe_str (nomark _)) (pss_one (ps_ret (pe_cmp (pc_isN (pv 4)) rfl))) pss_nil)
    (pss_cons (ps_set (i := 5) sc_holds.nd rfl (.inl rfl) (pe_call W hr1 (by rfl) mW kW bW .nil pass0 (pa_cons (pe_ix ix_tup (pv 0) pe_int (fun _ _ => rfl)) (pa_cons (pv 1) (pa_cons (pv 2) pa_nil)))))
    (pss_cons (ps_if (pw_or (pt_cmp (pc_isN (pv 4)) rfl) (pw_or1 (pt_cmp (pc_isN (pv 5)) rfl))).pt (pss_one (ps_ret pe_bl)) pss_nil)
    (pss_one (ps_ret (pe_ifExp (pt_cmpR op_eq (pv 3) pe_str (nomark _)) (pe_cmpR op_lt (pv 4) (pv 5) (nomark _)) (pe_cmpR op_eq (pv 4) (pv 5) (nomark _))))))))))))), ?_⟩
  cases c with
  | all cs =>
    unfold encC at hx
    cases n with
    | zero => unfold okC at ok; exact ok.elim
    | succ n =>
    unfold okC at ok
    obtain ⟨oc, ok⟩ := ok
    obtain ⟨a, x1, x2, rfl, sq, e1, e2⟩ := hx.t2
    cases at_str.mp e1
    obtain ⟨b, xs, rfl, sqb, ats⟩ := at_tup.mp e2
    refine ⟨_, rfl, a, _, _, _, rfl, rfl, sq, rfl, ?_⟩
    refine ⟨_, rfl, rfl, _, rfl, ifStrEq ?_⟩
    refine ⟨_, rfl, a, _, _, _, rfl, rfl, sq, rfl, b, rfl, ⟨_, sqb⟩, wd PT hPT, fun H2 ht => ?_⟩
    refine ⟨fun i m σ' H' => i + m = cs.length ∧ Ex T [] H H' ∧ (∃ y, σ' = [y, some (.int v), some hv]) ∧ holdA v h cs = holdA v h (cs.drop i), ⟨cs.length, by omega, Ex.tab (wd PT hPT) ht, ⟨_, rfl⟩, rfl⟩, ?_⟩
    rintro i m σ' H' ⟨him, ex, ⟨y, rfl⟩, hd⟩
    have hl : xs.length = cs.length := by rw [ats.length, encCs_length]
    by_cases hi : i < cs.length
    · obtain ⟨x, hx1, hx2⟩ := part_at ats hi
      refine .inr ⟨⟨xs, x, ex.sqT sqb, hx1⟩, ?_⟩
      rintro x' H'' ⟨rfl, hy⟩
      have e : x' = x := Option.some.inj ((hy xs (ex.sqT sqb)).symm.trans hx1)
      subst e
      refine ⟨_, rfl, _, rfl, _, rfl, _, hv, cs[i], v, h, rfl, hx2.ext ex, hh.ext ex, ex.wd wd, ⟨n, rfl, okCs_get ok (List.getElem?_eq_getElem hi)⟩, fun H3 ex3 => ⟨_, rfl, ?_⟩⟩
      have hdc : holdA v h (cs.drop i) = (hold v h cs[i] && holdA v h (cs.drop (i + 1))) := by rw [List.drop_eq_getElem_cons hi, holdA_cons]
      cases hb : hold v h cs[i] with
      | true =>
        rw [if_neg (by decide)]
        refine ⟨m - 1, by omega, by omega, ex.trans ex3, ⟨_, rfl⟩, ?_⟩
        rw [hd, hdc, hb, Bool.true_and]
      | false =>
        rw [if_pos rfl]
        have hz : hold v h (.all cs) = false := by unfold hold; rw [hd, hdc, hb, Bool.false_and]
        rw [← hz]
        exact q _ (ex.trans ex3)
    · refine .inl ⟨⟨xs, ex.sqT sqb, by omega⟩, ?_⟩
      have hz : hold v h (.all cs) = true := by unfold hold; rw [hd, List.drop_eq_nil_of_le (by omega)]; unfold holdA; rfl
      show Q (.bl true) H'
      rw [← hz]
      exact q _ ex
  | any cs =>
    unfold encC at hx
    cases n with
    | zero => unfold okC at ok; exact ok.elim
    | succ n =>
    unfold okC at ok
    obtain ⟨oc, ok⟩ := ok
    obtain ⟨a, x1, x2, rfl, sq, e1, e2⟩ := hx.t2
    cases at_str.mp e1
    obtain ⟨b, xs, rfl, sqb, ats⟩ := at_tup.mp e2
    refine ⟨_, rfl, a, _, _, _, rfl, rfl, sq, rfl, ?_⟩
    refine ⟨_, rfl, rfl, _, rfl, ifStrNe (by decide +kernel) ?_⟩
    refine ⟨_, rfl, rfl, _, rfl, ifStrEq ?_⟩
    refine ⟨_, rfl, a, _, _, _, rfl, rfl, sq, rfl, b, rfl, ⟨_, sqb⟩, wd PT hPT, fun H2 ht => ?_⟩
    refine ⟨fun i m σ' H' => i + m = cs.length ∧ Ex T [] H H' ∧ (∃ y, σ' = [y, some (.int v), some hv]) ∧ holdE v h cs = holdE v h (cs.drop i), ⟨cs.length, by omega, Ex.tab (wd PT hPT) ht, ⟨_, rfl⟩, rfl⟩, ?_⟩
    rintro i m σ' H' ⟨him, ex, ⟨y, rfl⟩, hd⟩
    have hl : xs.length = cs.length := by rw [ats.length, encCs_length]
    by_cases hi : i < cs.length
    · obtain ⟨x, hx1, hx2⟩ := part_at ats hi
      refine .inr ⟨⟨xs, x, ex.sqT sqb, hx1⟩, ?_⟩
      rintro x' H'' ⟨rfl, hy⟩
      have e : x' = x := Option.some.inj ((hy xs (ex.sqT sqb)).symm.trans hx1)
      subst e
      refine ⟨_, rfl, _, rfl, _, rfl, _, hv, cs[i], v, h, rfl, hx2.ext ex, hh.ext ex, ex.wd wd, ⟨n, rfl, okCs_get ok (List.getElem?_eq_getElem hi)⟩, fun H3 ex3 => ⟨_, rfl, ?_⟩⟩
      have hdc : holdE v h (cs.drop i) = (hold v h cs[i] || holdE v h (cs.drop (i + 1))) := by rw [List.drop_eq_getElem_cons hi, holdE_cons]
      cases hb : hold v h cs[i] with
      | false =>
        rw [if_neg (by decide)]
        refine ⟨m - 1, by omega, by omega, ex.trans ex3, ⟨_, rfl⟩, ?_⟩
        rw [hd, hdc, hb, Bool.false_or]
      | true =>
        rw [if_pos rfl]
        have hz : hold v h (.any cs) = true := by unfold hold; rw [hd, hdc, hb, Bool.true_or]
        rw [← hz]
        exact q _ (ex.trans ex3)
    · refine .inl ⟨⟨xs, ex.sqT sqb, by omega⟩, ?_⟩
      have hz : hold v h (.any cs) = false := by unfold hold; rw [hd, List.drop_eq_nil_of_le (by omega)]; unfold holdE; rfl
      show Q (.bl false) H'
      rw [← hz]
      exact q _ ex
  | nt c =>
    unfold encC at hx
    cases n with
    | zero => unfold okC at ok; exact ok.elim
    | succ n =>
    unfold okC at ok
    obtain ⟨a, x1, x2, rfl, sq, e1, e2⟩ := hx.t2
    cases at_str.mp e1
    refine ⟨_, rfl, a, _, _, _, rfl, rfl, sq, rfl, ?_⟩
    refine ⟨_, rfl, rfl, _, rfl, ifStrNe (by decide +kernel) ?_⟩
    refine ⟨_, rfl, rfl, _, rfl, ifStrNe (by decide +kernel) ?_⟩
    refine ⟨_, rfl, rfl, _, rfl, ifStrEq ?_⟩
    refine ⟨_, rfl, a, _, _, _, rfl, rfl, sq, rfl, _, rfl, _, rfl, x2, hv, c, v, h, rfl, e2, hh, wd, ⟨n, rfl, ok⟩, fun H3 ex3 => ⟨_, rfl, ?_⟩⟩
    have q' := q H3 ex3
    unfold hold at q'
    exact q'
  | tru =>
    unfold encC at hx
    obtain ⟨a, x1, rfl, sq, e1⟩ := hx.t1
    cases at_str.mp e1
    refine ⟨_, rfl, a, _, _, _, rfl, rfl, sq, rfl, ?_⟩
    refine ⟨_, rfl, rfl, _, rfl, ifStrNe (by decide +kernel) ?_⟩
    refine ⟨_, rfl, rfl, _, rfl, ifStrNe (by decide +kernel) ?_⟩
    refine ⟨_, rfl, rfl, _, rfl, ifStrNe (by decide +kernel) ?_⟩
    refine ⟨_, rfl, by decide, fun p np => ⟨p, _, rfl, .inr (SqT.of upd_same), rfl, rfl, _, rfl, ?_⟩⟩
    have e : inV (V.str "true") [V.str "true", V.str "false"] = true := by decide +kernel
    rw [if_neg Bool.false_ne_true, e]
    refine iteT ⟨_, rfl, rfl, ?_⟩
    rw [decStr, show decide (("true" : Str) = "true") = true by decide +kernel]
    exact q _ (Ex.new np)
  | fls =>
    unfold encC at hx
    obtain ⟨a, x1, rfl, sq, e1⟩ := hx.t1
    cases at_str.mp e1
    refine ⟨_, rfl, a, _, _, _, rfl, rfl, sq, rfl, ?_⟩
    refine ⟨_, rfl, rfl, _, rfl, ifStrNe (by decide +kernel) ?_⟩
    refine ⟨_, rfl, rfl, _, rfl, ifStrNe (by decide +kernel) ?_⟩
    refine ⟨_, rfl, rfl, _, rfl, ifStrNe (by decide +kernel) ?_⟩
    refine ⟨_, rfl, by decide, fun p np => ⟨p, _, rfl, .inr (SqT.of upd_same), rfl, rfl, _, rfl, ?_⟩⟩
    have e : inV (V.str "false") [V.str "true", V.str "false"] = true := by decide +kernel
    rw [if_neg Bool.false_ne_true, e]
    refine iteT ⟨_, rfl, rfl, ?_⟩
    rw [decStr, show decide (("false" : Str) = "true") = false by decide +kernel]
    exact q _ (Ex.new np)
  | emp a' =>
    unfold encC at hx
    unfold okC plOk at ok
    obtain ⟨a, x1, x2, rfl, sq, e1, e2⟩ := hx.t2
    cases at_str.mp e1
    cases at_int.mp e2
    refine ⟨_, rfl, a, _, _, _, rfl, rfl, sq, rfl, ?_⟩
    refine ⟨_, rfl, rfl, _, rfl, ifStrNe (by decide +kernel) ?_⟩
    refine ⟨_, rfl, rfl, _, rfl, ifStrNe (by decide +kernel) ?_⟩
    refine ⟨_, rfl, rfl, _, rfl, ifStrNe (by decide +kernel) ?_⟩
    refine ⟨_, rfl, by decide, fun p np => ⟨p, _, rfl, .inr (SqT.of upd_same), rfl, rfl, _, rfl, ?_⟩⟩
    have e : inV (V.str "empty") [V.str "true", V.str "false"] = false := by decide +kernel
    rw [if_neg Bool.false_ne_true, e]
    refine iteF ?_
    have ex0 : Ex T [] H (upd H p (.tup [V.str "true", V.str "false"])) := Ex.new np
    refine ⟨_, rfl, a, _, _, _, rfl, rfl, ex0.sqT sq, rfl, _, rfl, _, rfl, a', v, hv, h, rfl, hh.ext ex0, by omega, ok.2, ?_⟩
    refine ⟨_, rfl, rfl, _, rfl, ifStrEq ⟨_, rfl, ?_⟩⟩
    have q' := q _ ex0
    unfold hold at q'
    have e3 : decide (oV (worth v h a') = V.non) = (worth v h a').isNone := by cases worth v h a' <;> rfl
    show Q (.bl (decide (oV (worth v h a') = V.non))) _
    rw [e3]
    exact q'
  | less a' b' =>
    unfold encC at hx
    unfold okC plOk at ok
    obtain ⟨a, x1, x2, x3, rfl, sq, e1, e2, e3⟩ := hx.t3
    cases at_str.mp e1
    cases at_int.mp e2
    cases at_int.mp e3
    refine ⟨_, rfl, a, _, _, _, rfl, rfl, sq, rfl, ?_⟩
    refine ⟨_, rfl, rfl, _, rfl, ifStrNe (by decide +kernel) ?_⟩
    refine ⟨_, rfl, rfl, _, rfl, ifStrNe (by decide +kernel) ?_⟩
    refine ⟨_, rfl, rfl, _, rfl, ifStrNe (by decide +kernel) ?_⟩
    refine ⟨_, rfl, by decide, fun p np => ⟨p, _, rfl, .inr (SqT.of upd_same), rfl, rfl, _, rfl, ?_⟩⟩
    have e : inV (V.str "less") [V.str "true", V.str "false"] = false := by decide +kernel
    rw [if_neg Bool.false_ne_true, e]
    refine iteF ?_
    have ex0 : Ex T [] H (upd H p (.tup [V.str "true", V.str "false"])) := Ex.new np
    refine ⟨_, rfl, a, _, _, _, rfl, rfl, ex0.sqT sq, rfl, _, rfl, _, rfl, a', v, hv, h, rfl, hh.ext ex0, by omega, ok.1.2, ?_⟩
    refine ⟨_, rfl, rfl, _, rfl, ifStrNe (by decide +kernel) ?_⟩
    refine ⟨_, rfl, a, _, _, _, rfl, rfl, ex0.sqT sq, rfl, _, rfl, _, rfl, b', v, hv, h, rfl, hh.ext ex0, by omega, ok.2.2, ?_⟩
    have q' := q _ ex0
    unfold hold at q'
    refine ⟨_, rfl, _, rfl, ?_⟩
    generalize worth v h a' = wa at q' ⊢
    generalize worth v h b' = wb at q' ⊢
    cases wa with
    | none => exact iteT q'
    | some x =>
      refine iteF ⟨_, rfl, _, rfl, ?_⟩
      cases wb with
      | none => exact iteT q'
      | some y => exact iteF ⟨_, rfl, rfl, _, rfl, ifStrEq ⟨_, rfl, _, rfl, x, y, rfl, rfl, q'⟩⟩
  | same a' b' =>
    unfold encC at hx
    unfold okC plOk at ok
    obtain ⟨a, x1, x2, x3, rfl, sq, e1, e2, e3⟩ := hx.t3
    cases at_str.mp e1
    cases at_int.mp e2
    cases at_int.mp e3
    refine ⟨_, rfl, a, _, _, _, rfl, rfl, sq, rfl, ?_⟩
    refine ⟨_, rfl, rfl, _, rfl, ifStrNe (by decide +kernel) ?_⟩
    refine ⟨_, rfl, rfl, _, rfl, ifStrNe (by decide +kernel) ?_⟩
    refine ⟨_, rfl, rfl, _, rfl, ifStrNe (by decide +kernel) ?_⟩
    refine ⟨_, rfl, by decide, fun p np => ⟨p, _, rfl, .inr (SqT.of upd_same), rfl, rfl, _, rfl, ?_⟩⟩
    have e : inV (V.str "same") [V.str "true", V.str "false"] = false := by decide +kernel
    rw [if_neg Bool.false_ne_true, e]
    refine iteF ?_
    have ex0 : Ex T [] H (upd H p (.tup [V.str "true", V.str "false"])) := Ex.new np
    refine ⟨_, rfl, a, _, _, _, rfl, rfl, ex0.sqT sq, rfl, _, rfl, _, rfl, a', v, hv, h, rfl, hh.ext ex0, by omega, ok.1.2, ?_⟩
    refine ⟨_, rfl, rfl, _, rfl, ifStrNe (by decide +kernel) ?_⟩
    refine ⟨_, rfl, a, _, _, _, rfl, rfl, ex0.sqT sq, rfl, _, rfl, _, rfl, b', v, hv, h, rfl, hh.ext ex0, by omega, ok.2.2, ?_⟩
    have q' := q _ ex0
    unfold hold at q'
    refine ⟨_, rfl, _, rfl, ?_⟩
    generalize worth v h a' = wa at q' ⊢
    generalize worth v h b' = wb at q' ⊢
    cases wa with
    | none => exact iteT q'
    | some x =>
      refine iteF ⟨_, rfl, _, rfl, ?_⟩
      cases wb with
      | none => exact iteT q'
      | some y =>
        refine iteF ⟨_, rfl, rfl, _, rfl, ?_⟩
        refine ifStrNe (by decide +kernel) ⟨_, rfl, _, rfl, rfl, ?_⟩
        have e4 : decide (V.int x = V.int y) = eqO (some x) (some y) := by
          show decide (V.int x = V.int y) = decide (x = y)
          by_cases hxy : x = y
          · rw [hxy, decide_eq_true rfl, decide_eq_true rfl]
          · rw [decide_eq_false hxy, decide_eq_false fun e => hxy (V.int.inj e)]
        show Q (.bl (decide (V.int x = V.int y))) _
        rw [e4]
        exact q'

abbrev N_case_at : List Str := ["machine", "content", "entry", "standing", "held", "tag", "value", "number", "case"]
theorem sc_case_at : FnScope N_case_at ["machine", "content", "entry"] (defScope s_case_at) := ⟨rfl, rfl, rfl, by decide +kernel, rfl, by decide +kernel, by decide +kernel⟩
def sp_case_at (K : PySem.W.Frag) (T : List Addr) (n : Nat) : Sp := fun vs H Q _ => ∃ (xm xc xe : V) (m : M) (st : Nat) (h : List (Option Int)) (e : Nat × Int), vs = [xm, xc, xe] ∧ At K H xm (encM m) ∧ At K H xc (encCt st h) ∧ At K H xe (encE e) ∧ Wd T H ∧ okM n m ∧ st < m.steps.length ∧ e.1 < m.tags ∧ h.length = m.regs ∧
  ∀ H', Ex T [] H H' → Q (oN (idxC e.2 h (m.cases st e.1))) H'
theorem ok_case_at {f g : Addr} {fd gd : FuncData} {T : List Addr} {n k : Nat} (F : Fun K "case_at" "case_at" s_case_at f fd) (me : mg "enumerate" = none)
    (G : FnOk P w K mg base CX0 k g gd ["condition", "value", "held"] (sp_holds K T (n + 1))) (kG : PySem.W.keepIn K (.ref g) = true) (bG : Binds K gd ["condition", "value", "held"] []) (mG : mg "holds" = some (.ref g)) :
    FnOk P w K mg base CX0 (k + 1) f fd ["machine", "content", "entry"] (sp_case_at K T n) := by
  refine F.ok sc_case_at (fun vs H Q E h => ?_) (fun cdv A outer s H vs Q E hr h => ?_)
  · obtain ⟨xm, xc, xe, m, st, h, e, rfl, _⟩ := h
    rfl
  obtain ⟨xm, xc, xe, m, st, h, e, rfl, hm, hc, he, wd, ok, hst, htg, hlen, q⟩ := h
  refine ⟨_, pss_cons (ps_asg (pv 1) (pg_tup rfl (pgs_cons (pg_name (i := 3) sc_case_at.nd rfl (.inl rfl)) (pgs_cons (pg_name (i := 4) sc_case_at.nd rfl (.inl rfl)) pgs_nil))))
    (pss_cons (ps_asg (pv 2) (pg_tup rfl (pgs_cons (pg_name (i := 5) sc_case_at.nd rfl (.inl rfl)) (pgs_cons (pg_name (i := 6) sc_case_at.nd rfl (.inl rfl)) pgs_nil))))
    (pss_cons (ps_for PassesOwn.never rfl (Ent.pi_enumT (by rfl) me (pa_cons (pe_ix ix_tup (pe_ix ix_tup (pe_ix ix_tup (pv 0) pe_int (fun _ _ => rfl)) (pv 3) (fun _ _ => rfl)) (pv 5) (fun _ _ => rfl)) pa_nil)) (pg_tup rfl (pgs_cons (pg_name (i := 7) sc_case_at.nd rfl (.inl rfl)) (pgs_cons (pg_name (i := 8) sc_case_at.nd rfl (.inl rfl)) pgs_nil)))
      (pss_one (ps_if (pt_val (pe_call G hr (by rfl) mG kG bG .nil pass0 (pa_cons (pe_ix ix_tup (pv 8) pe_int (fun _ _ => rfl)) (pa_cons (pv 6) (pa_cons (pv 4) pa_nil))))) (pss_one (ps_ret (pv 7))) pss_nil)))
    (pss_one (ps_ret pe_non)))), ?_⟩
  obtain ⟨am, y1, y2, y3, rfl, sqm, h1, h2, h3⟩ := hm.t3
  cases at_int.mp h1
  cases at_int.mp h2
  obtain ⟨as', xs, rfl, sqs, ats⟩ := at_tup.mp h3
  obtain ⟨ac, z1, hv, rfl, sqc, g1, hh⟩ := hc.t2
  cases at_int.mp g1
  obtain ⟨ae, w1, w2, rfl, sqe, f1, f2⟩ := he.t2
  cases at_int.mp f1
  cases at_int.mp f2
  obtain ⟨s', hs1, hs2, clen, okc⟩ := M.cases_at ok hst htg
  obtain ⟨xst, hx1, hx2⟩ := ats.at hs1
  obtain ⟨ast, xts, rfl, sqst, atst⟩ := at_tup.mp hx2
  obtain ⟨xcs, hc1, hc2⟩ := atst.at hs2
  obtain ⟨acs, ys, rfl, sqcs, atcs⟩ := at_tup.mp hc2
  have yl := atcs.len
  refine ⟨_, rfl, ac, [_, _], rfl, sqc, rfl, _, [_], rfl, _, [], rfl, rfl, ?_⟩
  refine ⟨_, rfl, ae, [_, _], rfl, sqe, rfl, _, [_], rfl, _, [], rfl, rfl, ?_⟩
  refine ⟨_, rfl, am, _, _, _, rfl, rfl, sqm, rfl, _, rfl, as', _, _, _, rfl, rfl, sqs, at_natI hx1, _, rfl, ast, _, _, _, rfl, rfl, sqst, at_natI hc1, acs, ys, rfl, sqcs, ?_⟩
  refine ⟨fun i k' σ' H' => (∃ y7 y8, σ' = [some (.ref am), some (.ref ac), some (.ref ae), some (.int st), some hv, some (.int e.1), some (.int e.2), y7, y8]) ∧ Ex T [] H H' ∧ i + k' = ys.length ∧ ∀ j c, j < i → (m.cases st e.1)[j]? = some c → holdC e.2 h c = false,
    ⟨ys.length, ⟨_, _, rfl⟩, Ex.refl, by omega, fun j c hj _ => absurd hj (by omega)⟩, ?_⟩
  rintro i k' σ' H' ⟨⟨y7, y8, rfl⟩, ex, hik, hno⟩
  by_cases hi : i < ys.length
  · have hi' : i < (m.cases st e.1).length := by omega
    obtain ⟨x, hx1', hx2'⟩ := atcs.at (List.getElem?_eq_getElem hi')
    refine .inr ⟨⟨ys, x, ex.sqT sqcs, hx1'⟩, fun σ2 H2 => (∃ y7 y8, σ2 = [some (.ref am), some (.ref ac), some (.ref ae), some (.int st), some hv, some (.int e.1), some (.int e.2), y7, y8]) ∧ Ex T [] H H2 ∧ ∀ j c, j < i + 1 → (m.cases st e.1)[j]? = some c → holdC e.2 h c = false, fun σ2 H2 hN => ?_, ?_⟩
    · exact ⟨k' - 1, by omega, hN.1, hN.2.1, by omega, hN.2.2⟩
    rintro v H2 ⟨T2, x', rfl, nT, rfl, hy⟩
    have e1 : x' = x := Option.some.inj ((hy ys (ex.sqT sqcs)).symm.trans hx1')
    subst e1
    have exT : Ex T [] H' (upd H' T2 (.tup [.int (i : Nat), x'])) := Ex.new nT
    have ex2 := ex.trans exT
    refine ⟨T2, [_, _], rfl, SqT.of upd_same, rfl, _, [_], rfl, _, [], rfl, rfl, ?_⟩
    obtain ⟨acase, c1, c2, c3, c4, rfl, sqcase, d1, d2, d3, d4⟩ := (hx2'.ext ex2).t4
    have okci := okc _ (List.getElem_mem hi')
    refine ⟨_, rfl, acase, _, _, _, rfl, rfl, sqcase, rfl, _, rfl, _, rfl, c1, hv, _, e.2, h, rfl, d1, hh.ext ex2, ex2.wd wd, ⟨n, rfl, by rw [hlen]; exact okci.cond⟩, fun H3 ex3 => ⟨_, rfl, ?_⟩⟩
    cases hb : hold e.2 h (m.cases st e.1)[i].cond with
    | true =>
      refine iteT ⟨_, rfl, ?_⟩
      have z := q H3 (ex2.trans ex3)
      rw [idxC_drop e.2 h _ hno (List.getElem?_eq_getElem hi') hb] at z
      exact z
    | false =>
      refine iteF ⟨⟨_, _, rfl⟩, ex2.trans ex3, fun j c hj hjc => ?_⟩
      by_cases ej : j = i
      · subst ej
        rw [List.getElem?_eq_getElem hi'] at hjc
        cases hjc
        exact hb
      · exact hno j c (by omega) hjc
  · refine .inl ⟨⟨ys, ex.sqT sqcs, by omega⟩, ?_⟩
    have z := q H' ex
    rw [idxC_none e.2 h _ fun j c hj => hno j c (by have := (List.getElem?_eq_some_iff.mp hj).1; omega) hj] at z
    exact z

abbrev N_read : List Str := ["machine", "content", "entry", "number", "standing", "held", "tag", "value", "_", "moves", "says", "following", "said", "kept", "told", "source"]
theorem sc_read : FnScope N_read ["machine", "content", "entry"] (defScope s_read) := ⟨rfl, rfl, rfl, by decide +kernel, rfl, by decide +kernel, by decide +kernel⟩
def sp_read (K : PySem.W.Frag) (T : List Addr) (n : Nat) : Sp := fun vs H Q _ => ∃ (xm xc xe : V) (m : M) (st : Nat) (h : List (Option Int)) (e : Nat × Int), vs = [xm, xc, xe] ∧ At K H xm (encM m) ∧ At K H xc (encCt st h) ∧ At K H xe (encE e) ∧ Wd T H ∧ okM n m ∧ st < m.steps.length ∧ e.1 < m.tags ∧ h.length = m.regs ∧
  ∀ v H', At K H' v (encR (readM m st h e)) → Ex T [] H H' → Q v H'
theorem ok_read {f g gw : Addr} {fd gd gwd : FuncData} {T : List Addr} {n k : Nat} (F : Fun K "read" "read" s_read f fd) (mt : mg "tuple" = none)
    (G : FnOk P w K mg base CX0 k g gd ["machine", "content", "entry"] (sp_case_at K T n)) (kG : PySem.W.keepIn K (.ref g) = true) (bG : Binds K gd ["machine", "content", "entry"] []) (mG : mg "case_at" = some (.ref g))
    (W : FnOk P w K mg base CX0 k gw gwd ["source", "value", "held"] (sp__worth K)) (kW : PySem.W.keepIn K (.ref gw) = true) (bW : Binds K gwd ["source", "value", "held"] []) (mW : mg "_worth" = some (.ref gw)) :
    FnOk P w K mg base CX0 (k + 1) f fd ["machine", "content", "entry"] (sp_read K T n) := by
  refine F.ok sc_read (fun vs H Q E h => ?_) (fun cdv A outer s H vs Q E hr h => ?_)
  · obtain ⟨xm, xc, xe, m, st, h, e, rfl, _⟩ := h
    rfl
  obtain ⟨xm, xc, xe, m, st, h, e, rfl, hm, hc, he, wd, ok, hst, htg, hlen, q⟩ := h
  refine ⟨_, pss_cons (ps_set (i := 3) sc_read.nd rfl (.inl rfl) (pe_call G hr (by rfl) mG kG bG .nil pass0 (pa_cons (pv 0) (pa_cons (pv 1) (pa_cons (pv 2) pa_nil)))))
    (pss_cons (ps_if (pt_cmp (pc_isN (pv 3)) rfl) (pss_one (ps_ret (pe_tup (pa_cons (pv 1) (pa_cons (pe_tup pa_nil) pa_nil))))) pss_nil)
    (pss_cons (ps_asg (pv 1) (pg_tup rfl (pgs_cons (pg_name (i := 4) sc_read.nd rfl (.inl rfl)) (pgs_cons (pg_name (i := 5) sc_read.nd rfl (.inr rfl)) pgs_nil))))
    (pss_cons (ps_asg (pv 2) (pg_tup rfl (pgs_cons (pg_name (i := 6) sc_read.nd rfl (.inl rfl)) (pgs_cons (pg_name (i := 7) sc_read.nd rfl (.inr rfl)) pgs_nil))))
    (C8.pss_cut (ps_asg (pe_ix ix_tup (pe_ix ix_tup (pe_ix ix_tup (pe_ix ix_tup (pv 0) pe_int (fun _ _ => rfl)) (pv 4) (fun _ _ => rfl)) (pv 6) (fun _ _ => rfl)) (pv 3) (fun _ _ => rfl))
      (pg_tup rfl (pgs_cons (pg_name (i := 8) sc_read.nd rfl (.inl rfl)) (pgs_cons (pg_name (i := 9) sc_read.nd rfl (.inl rfl)) (pgs_cons (pg_name (i := 10) sc_read.nd rfl (.inl rfl)) (pgs_cons (pg_name (i := 11) sc_read.nd rfl (.inl rfl)) pgs_nil))))))
    (C8.pss_cut (ps_set (i := 12) sc_read.nd rfl (.inl rfl) (pe_callTy call_tuple_of (by rfl) mt (by decide +kernel) (pa_cons
      (pe_lc (own := [("told", 14), ("source", 15)]) (g := gTup K 2 (gCons (gName 14) (gCons (gName 15) gNil))) (tt := tYes) rfl sc_read.nd (pi_tup (pv 10)) (blkOk_by (N := N_read) (sc := defScope s_read) (by decide +kernel))
        (fun _ _ _ _ _ => pg_tup rfl (pgs_cons (pg_name (i := 14) sc_read.nd rfl (.inl rfl)) (pgs_cons (pg_name (i := 15) sc_read.nd rfl (.inl rfl)) pgs_nil))) (fun _ _ _ _ _ => pts_nil)
        (fun _ _ _ _ _ => pe_tup (pa_cons (pv 14) (pa_cons (pe_call W hr (by rfl) mW kW bW .nil pass0 (pa_cons (pv 15) (pa_cons (pv 7) (pa_cons (pv 5) pa_nil)))) pa_nil)))) pa_nil)))
    (pss_cons (ps_set (i := 13) sc_read.nd rfl (.inl rfl) (pe_callTy call_tuple_of (by rfl) mt (by decide +kernel) (pa_cons
      (pe_lc (own := [("source", 15)]) (g := gName 15) (tt := tYes) rfl sc_read.nd (pi_tup (pv 9)) (blkOk_by (N := N_read) (sc := defScope s_read) (by decide +kernel))
        (fun _ _ _ _ _ => pg_name (i := 15) sc_read.nd rfl (.inl rfl)) (fun _ _ _ _ _ => pts_nil)
        (fun _ _ _ _ _ => pe_call W hr (by rfl) mW kW bW .nil pass0 (pa_cons (pv 15) (pa_cons (pv 7) (pa_cons (pv 5) pa_nil))))) pa_nil)))
    (pss_one (ps_ret (pe_tup (pa_cons (pe_tup (pa_cons (pv 11) (pa_cons (pv 13) pa_nil))) (pa_cons (pv 12) pa_nil)))))))))))
    , ?_⟩
  refine ⟨_, rfl, _, rfl, _, rfl, xm, xc, xe, m, st, h, e, rfl, hm, hc, he, wd, ok, hst, htg, hlen, fun H1 ex1 => ?_⟩
  have fm := idxC_find e.2 h (m.cases st e.1)
  obtain ⟨am, y1, y2, y3, rfl, sqm, h1, h2, h3⟩ := (hm.ext ex1).t3
  cases at_int.mp h1
  cases at_int.mp h2
  obtain ⟨as', xs, rfl, sqs, ats⟩ := at_tup.mp h3
  obtain ⟨ac, z1, hv, rfl, sqc, g1, hh⟩ := (hc.ext ex1).t2
  cases at_int.mp g1
  obtain ⟨ae, w1, w2, rfl, sqe, f1, f2⟩ := (he.ext ex1).t2
  cases at_int.mp f1
  cases at_int.mp f2
  rcases fm with ⟨e1, e2⟩ | ⟨j, c, e1, hj, e2⟩
  · rw [e1]
    refine ⟨_, rfl, true, congrArg V.bl (decide_eq_true rfl), iteT ⟨_, rfl, ?_⟩⟩
    refine ⟨by show 0 ≤ sizeLine; decide, fun p np => ⟨by show 2 ≤ sizeLine; decide, fun p2 np2 => ?_⟩⟩
    have exA : Ex T [] H1 (upd H1 p (.tup [])) := Ex.new np
    refine q _ _ ?_ ((ex1.trans exA).trans (Ex.new np2))
    have er : readM m st h e = (st, h, []) := by unfold readM; rw [e2]
    rw [er]
    exact At.laid np2 (Ats.mk ((hc.ext ex1).ext exA) (Ats.mk (At.laid np Ats.mk_nil) Ats.mk_nil))
  rw [e1]
  obtain ⟨s', hs1, hs2, clen, okc⟩ := M.cases_at ok hst htg
  obtain ⟨xst, hx1, hx2⟩ := ats.at hs1
  obtain ⟨ast, xts, rfl, sqst, atst⟩ := at_tup.mp hx2
  obtain ⟨xcs, hc1, hc2⟩ := atst.at hs2
  obtain ⟨acs, ys, rfl, sqcs, atcs⟩ := at_tup.mp hc2
  obtain ⟨xca, hca1, hca2⟩ := atcs.at hj
  obtain ⟨acase, c1, c2, c3, c4, rfl, sqcase, d1, d2, d3, d4⟩ := hca2.t4
  cases at_int.mp d4
  obtain ⟨amv, mvs, rfl, sqmv, atmv⟩ := at_tup.mp d2
  obtain ⟨asy, sys, rfl, sqsy, atsy⟩ := at_tup.mp d3
  have okci := okc _ (List.mem_of_getElem? hj)
  refine ⟨_, rfl, false, congrArg V.bl (decide_eq_false (fun z => by cases z)), iteF ?_⟩
  refine ⟨_, rfl, ac, [_, _], rfl, sqc, rfl, _, [_], rfl, _, [], rfl, rfl, ?_⟩
  refine ⟨_, rfl, ae, [_, _], rfl, sqe, rfl, _, [_], rfl, _, [], rfl, rfl, ?_⟩
  refine ⟨fun σ' H' => σ' = [some (.ref am), some (.ref ac), some (.ref ae), some (.int j), some (.int st), some hv, some (.int e.1), some (.int e.2), some c1, some (.ref amv), some (.ref asy), some (.int c.nxt), none, none, none, none] ∧ H1 = H', ?_, ?_⟩
  · refine ⟨_, rfl, am, _, _, _, rfl, rfl, sqm, rfl, _, rfl, as', _, _, _, rfl, rfl, sqs, at_natI hx1, _, rfl, ast, _, _, _, rfl, rfl, sqst, at_natI hc1, _, rfl, acs, _, _, _, rfl, rfl, sqcs, at_natI hca1, ?_⟩
    exact ⟨acase, [_, _, _, _], rfl, sqcase, rfl, _, [_, _, _], rfl, _, [_, _], rfl, _, [_], rfl, _, [], rfl, rfl, rfl, rfl⟩
  rintro σ' H' ⟨rfl, rfl⟩
  have lsay : sys.length = c.says.length := atsy.len
  have lmv : mvs.length = c.moves.length := atmv.len
  refine ⟨fun σ' H' => ∃ l, σ' = [some (.ref am), some (.ref ac), some (.ref ae), some (.int j), some (.int st), some hv, some (.int e.1), some (.int e.2), some c1, some (.ref amv), some (.ref asy), some (.int c.nxt), some l, none, none, none] ∧ Ex T [] H1 H' ∧ At K H' l (encA (saidC e.2 h c)), ?_, ?_⟩
  · refine ⟨_, rfl, asy, rfl, ⟨_, sqsy⟩, fun D nD => lc_tup (xs := sys) (fun i H' => Col K T [] D H1 H' (((saidC e.2 h c).take i).map encA1)) (Col.start Ex.refl nD) (fun i H' _ c' => c'.1.sqT sqsy) ?_ ?_⟩
    · rintro i x H' hi cl
      have hi' : i < c.says.length := by rw [← lsay]; exact (List.getElem?_eq_some_iff.mp hi).1
      obtain ⟨x', hx1', hx2'⟩ := atsy.at (List.getElem?_eq_getElem hi')
      rw [hi] at hx1'
      cases hx1'
      obtain ⟨ap, p1, p2, rfl, sqp, q1, q2⟩ := (hx2'.ext cl.1).t2
      cases at_int.mp q1
      cases at_int.mp q2
      have sb := okci.say _ (List.getElem_mem hi')
      refine ⟨ap, [_, _], rfl, sqp, rfl, _, [_], rfl, _, [], rfl, rfl, wipe2 (by decide), yesIf ⟨_, rfl, _, rfl, _, rfl, _, rfl, _, e.2, hv, h, rfl, hh.ext cl.1, sb.2.1, by omega, by show 2 ≤ sizeLine; decide, fun p np => ?_⟩⟩
      obtain ⟨acc, k1, k2, k3⟩ := cl.put nD (by simp) (ex1.wd wd) (Ex.new np) (x := .ref p) (d := encA1 (c.says[i].1, worth e.2 h c.says[i].2)) (At.laid np (Ats.mk (at_int.mpr rfl) (Ats.mk (at_encO.mpr rfl) Ats.mk_nil))) (take_len _ _ _ _ (by unfold saidC; rw [List.length_map]; have := okci.slen; omega))
      refine ⟨acc, k1, k2, ?_⟩
      rw [take_map] at k3
      · exact k3
      · unfold saidC
        rw [List.getElem?_map, List.getElem?_eq_getElem hi']
        rfl
    · rintro H2 cl
      rw [lsay, show c.says.length = (saidC e.2 h c).length by unfold saidC; rw [List.length_map], List.take_length] at cl
      obtain ⟨exs, as0, hD0, ats0⟩ := cl
      refine ⟨D, _, rfl, .inl ⟨SqL.of hD0, fun l nl => ?_⟩⟩
      have hS := At.laid nl ats0
      exact ⟨_, rfl, exs.trans (Ex.new nl), hS⟩
  rintro σ' Hs ⟨ls, rfl, exl, hS⟩
  refine ⟨_, rfl, amv, rfl, ⟨_, exl.sqT sqmv⟩, fun D2 nD2 => lc_tup (xs := mvs) (fun i H' => Col K T [] D2 Hs H' (((keptC e.2 h c).take i).map encO)) (Col.start Ex.refl nD2) (fun i H' _ c' => (exl.trans c'.1).sqT sqmv) ?_ ?_⟩
  · rintro i x H' hi cl
    have hi' : i < c.moves.length := by rw [← lmv]; exact (List.getElem?_eq_some_iff.mp hi).1
    obtain ⟨x', hx1', hx2'⟩ := atmv.at (List.getElem?_eq_getElem hi')
    rw [hi] at hx1'
    cases hx1'
    cases at_int.mp hx2'
    have sb := okci.mv _ (List.getElem_mem hi')
    refine ⟨wipe1, yesIf ⟨_, rfl, _, rfl, _, rfl, _, e.2, hv, h, rfl, hh.ext (exl.trans cl.1), sb.1, by omega, ?_⟩⟩
    obtain ⟨acc, k1, k2, k3⟩ := cl.put nD2 (by simp) (exl.wd (ex1.wd wd)) Ex.refl (d := encO (worth e.2 h c.moves[i])) (at_encO.mpr rfl) (take_len _ _ _ _ (by unfold keptC; rw [List.length_map, okci.mlen]; have := ok.rmax; omega))
    refine ⟨acc, k1, k2, ?_⟩
    rw [take_map] at k3
    · exact k3
    · unfold keptC
      rw [List.getElem?_map, List.getElem?_eq_getElem hi']
      rfl
  · rintro H3 cl
    rw [lmv, show c.moves.length = (keptC e.2 h c).length by unfold keptC; rw [List.length_map], List.take_length] at cl
    obtain ⟨exk, ks0, hK0, atk0⟩ := cl
    refine ⟨D2, _, rfl, .inl ⟨SqL.of hK0, fun l2 nl2 => ?_⟩⟩
    refine ⟨_, rfl, _, rfl, by show 2 ≤ sizeLine; decide, fun l3 nl3 => ⟨_, rfl, by show 2 ≤ sizeLine; decide, fun l4 nl4 => ?_⟩⟩
    have e2' : Ex T [] H3 (upd H3 l2 (.tup ks0)) := Ex.new nl2
    have e3' : Ex T [] (upd H3 l2 (.tup ks0)) (upd (upd H3 l2 (.tup ks0)) l3 (.tup [.int (c.nxt : Nat), .ref l2])) := Ex.new nl3
    have er : readM m st h e = (c.nxt, keptC e.2 h c, saidC e.2 h c) := by unfold readM; rw [e2]
    refine q _ _ ?_ ((((((ex1.trans exl).trans exk).trans e2').trans e3')).trans (Ex.new nl4))
    rw [er]
    exact At.laid nl4 (Ats.mk (At.laid nl3 (Ats.mk (at_int.mpr rfl) (Ats.mk (At.laid nl2 atk0) Ats.mk_nil))) (Ats.mk (((hS.ext exk).ext e2').ext e3') Ats.mk_nil))

theorem sc_beginning : FnScope ["machine"] ["machine"] (defScope s_beginning) := ⟨rfl, rfl, rfl, by decide +kernel, rfl, by decide +kernel, by decide +kernel⟩
def sp_beginning (K : PySem.W.Frag) (T : List Addr) : Sp := fun vs H Q _ => ∃ (xm : V) (m : M), vs = [xm] ∧ At K H xm (encM m) ∧ m.regs ≤ 1000 ∧
  ∀ v H', At K H' v (encCt 0 (List.replicate m.regs none)) → Ex T [] H H' → Q v H'
theorem rep_non {H : Hp} {n : Nat} {l : Addr} (h : SqT K H l (List.replicate n [V.non]).flatten) : At K H (.ref l) (encH (List.replicate n none)) := by
  rw [flat_rep] at h
  refine at_tup.mpr ⟨l, _, rfl, h, ?_⟩
  rw [List.map_replicate]
  exact ats_rep (at_non.mpr rfl) n
theorem ok_beginning {f : Addr} {fd : FuncData} {T : List Addr} {k : Nat} (F : Fun K "beginning" "beginning" s_beginning f fd) :
    FnOk P w K mg base CX0 (k + 1) f fd ["machine"] (sp_beginning K T) := by
  refine F.ok sc_beginning (fun vs H Q E h => ?_) (fun cdv A outer s H vs Q E hr h => ?_)
  · obtain ⟨xm, m, rfl, _⟩ := h
    rfl
  obtain ⟨xm, m, rfl, hm, hr0, q⟩ := h
  refine ⟨_, pss_one (ps_ret (pe_tup (pa_cons pe_int (pa_cons (pe_op Tm.op_repN (pe_tup (pa_cons pe_non pa_nil)) (pe_ix ix_tup (pv 0) pe_int (fun _ _ => rfl))) pa_nil)))), ?_⟩
  obtain ⟨am, y1, y2, y3, rfl, sqm, h1, h2, h3⟩ := hm.t3
  cases at_int.mp h2
  refine ⟨by show 1 ≤ sizeLine; decide, fun p np => ⟨_, rfl, am, _, _, _, rfl, rfl, (Ex.new (T := T) (ms := []) np).sqT sqm, rfl, p, (m.regs : Int), [.non], rfl, rfl, SqT.of upd_same, by simp, by omega, by omega, by show 1 ≤ 1000; decide, fun l H' hH sq => ⟨by show 2 ≤ sizeLine; decide, fun l2 nl2 => ?_⟩⟩⟩
  have e1 : Ex T [] H H' := by
    rcases hH with rfl | ⟨n2, rfl⟩
    · exact Ex.new np
    · exact (Ex.new np).trans (Ex.new n2)
  exact q _ _ (At.laid nl2 (Ats.mk (at_int.mpr rfl) (Ats.mk (rep_non sq) Ats.mk_nil))) (e1.trans (Ex.new nl2))

abbrev N_answers_from : List Str := ["machine", "content", "log", "told", "entry", "said"]
theorem sc_answers_from : FnScope N_answers_from ["machine", "content", "log"] (defScope s_answers_from) := ⟨rfl, rfl, rfl, by decide +kernel, rfl, by decide +kernel, by decide +kernel⟩
def sp_answers_from (K : PySem.W.Frag) (T : List Addr) (n : Nat) : Sp := fun vs H Q _ => ∃ (xm xc xl : V) (m : M) (c : Ct) (es : List (Nat × Int)), vs = [xm, xc, xl] ∧ At K H xm (encM m) ∧ At K H xc (encCt c.1 c.2) ∧ Lg K H xl es ∧ Wd T H ∧ okM n m ∧ okCt m c ∧ (∀ e ∈ es, e.1 < m.tags) ∧ es.length ≤ 5000 ∧
  ∀ v H', At K H' v (.tup ((answersM m c es).map encA)) → Ex T [] H H' → Q v H'
theorem ok_answers_from {f g : Addr} {fd gd : FuncData} {T : List Addr} {n k : Nat} (F : Fun K "answers_from" "answers_from" s_answers_from f fd) (mt : mg "tuple" = none)
    (G : FnOk P w K mg base CX0 k g gd ["machine", "content", "entry"] (sp_read K T n)) (kG : PySem.W.keepIn K (.ref g) = true) (bG : Binds K gd ["machine", "content", "entry"] []) (mG : mg "read" = some (.ref g)) :
    FnOk P w K mg base CX0 (k + 1) f fd ["machine", "content", "log"] (sp_answers_from K T n) := by
  refine F.ok sc_answers_from (fun vs H Q E h => ?_) (fun cdv A outer s H vs Q E hr h => ?_)
  · obtain ⟨xm, xc, xl, m, c, es, rfl, _⟩ := h
    rfl
  obtain ⟨xm, xc, xl, m, c, es, rfl, hm, hc, hlog, wd, ok, okc0, htag, hlen, q⟩ := h
  refine ⟨_, pss_cons (ps_set (i := 3) sc_answers_from.nd rfl (.inl rfl) (pe_lst pa_nil))
    (pss_cons (ps_for PassesOwn.never rfl (pi_or (pi_list (pv 2)) (pi_tup (pv 2))) (pg_name (i := 4) sc_answers_from.nd rfl (.inl rfl))
      (pss_cons (ps_asg (pe_call G hr (by rfl) mG kG bG .nil pass0 (pa_cons (pv 0) (pa_cons (pv 1) (pa_cons (pv 4) pa_nil)))) (pg_tup rfl (pgs_cons (pg_name (i := 1) sc_answers_from.nd rfl (.inl rfl)) (pgs_cons (pg_name (i := 5) sc_answers_from.nd rfl (.inl rfl)) pgs_nil))))
      (pss_one (ps_expr (pe_bm PySem.F.plainAttrs_list PySem.F.slot_list_append PySem.F.type_list_append mt_append (pv 3) (pa_cons (pv 5) pa_nil))))))
    (pss_one (ps_ret (pe_callTy call_tuple_of (by rfl) mt (by decide +kernel) (pa_cons (pv 3) pa_nil))))), ?_⟩
  obtain ⟨al, xs, rfl, hsq, ats⟩ := hlog
  have xl := ats.len
  refine ⟨Nat.zero_le _, fun F0 nF => ?_⟩
  rcases hsq with hq | hq
  · refine .inl ⟨_, rfl, al, rfl, ⟨_, (Ex.new (T := T) (ms := []) nF).sqL (by simp) hq⟩, for_list (xs := xs) (fun i σ' H' => (∃ xc y4 y5, σ' = [some xm, some xc, some (.ref al), some (.ref F0), y4, y5] ∧ At K H' xc (encCt (contM m c (es.take i)).1 (contM m c (es.take i)).2)) ∧ Col K T [] F0 H H' ((answersM m c (es.take i)).map encA)) ⟨⟨_, _, _, rfl, hc.ext (T := T) (ms := []) (Ex.new nF)⟩, Col.start Ex.refl nF⟩ (fun i σ' H' _ z => z.2.1.sqL (by simp) hq) ?_ ?_⟩
    · rintro i x σ' H' hxi ⟨⟨xc, y4, y5, rfl, atc⟩, cl⟩
      have hi' : i < es.length := by rw [← xl]; exact (List.getElem?_eq_some_iff.mp hxi).1
      obtain ⟨x', hx1', hx2'⟩ := ats.at (List.getElem?_eq_getElem hi')
      rw [hxi] at hx1'
      cases hx1'
      have okc := okCt.cont ok (es := es.take i) okc0 fun e he => htag e (List.mem_of_mem_take he)
      have et : es.take (i + 1) = es.take i ++ [es[i]] := by rw [List.take_add_one, List.getElem?_eq_getElem hi']; rfl
      refine ⟨_, rfl, _, rfl, _, rfl, xm, xc, x, m, (contM m c (es.take i)).1, (contM m c (es.take i)).2, es[i], rfl, hm.ext cl.1, atc, hx2'.ext cl.1, cl.1.wd wd, ok, okc.st, htag _ (List.getElem_mem hi'), okc.len, fun v H1 at1 ex1 => ?_⟩
      obtain ⟨av, v1, v2, rfl, sqv, ac1, ac2⟩ := at1.t2
      obtain ⟨acc, k1, k2, k3⟩ := cl.put nF (by simp) wd ex1 ac2 (by rw [List.length_map, answersM_length, List.length_take]; exact Nat.le_trans (Nat.min_le_right _ _) hlen)
      refine ⟨av, [_, _], rfl, sqv, rfl, _, [_], rfl, _, [], rfl, rfl, ?_⟩
      refine ⟨_, rfl, .inl ⟨rfl, _, .inl (.inl k1)⟩, _, rfl, F0, _, _, rfl, rfl, k1, k2, ⟨⟨_, _, _, rfl, ?_⟩, ?_⟩⟩
      · rw [et, contM_append]
        exact ac1.ext (T := T) (ms := [F0]) (Ex.write (by simp) k1)
      · rw [et, answersM_append, List.map_append]
        exact k3
    · rintro σ' H' ⟨⟨xc, y4, y5, rfl, atc⟩, ex, xs', hF, ats'⟩
      rw [xl, List.take_length] at ats'
      refine ⟨_, rfl, F0, _, rfl, .inl ⟨SqL.of hF, fun l nl => ?_⟩⟩
      exact q _ _ (At.laid nl ats') (ex.trans (Ex.new nl))
  · refine .inr ⟨_, rfl, al, rfl, ⟨_, (Ex.new (T := T) (ms := []) nF).sqT hq⟩, for_tup (xs := xs) (fun i σ' H' => (∃ xc y4 y5, σ' = [some xm, some xc, some (.ref al), some (.ref F0), y4, y5] ∧ At K H' xc (encCt (contM m c (es.take i)).1 (contM m c (es.take i)).2)) ∧ Col K T [] F0 H H' ((answersM m c (es.take i)).map encA)) ⟨⟨_, _, _, rfl, hc.ext (T := T) (ms := []) (Ex.new nF)⟩, Col.start Ex.refl nF⟩ (fun i σ' H' _ z => z.2.1.sqT hq) ?_ ?_⟩
    · rintro i x σ' H' hxi ⟨⟨xc, y4, y5, rfl, atc⟩, cl⟩
      have hi' : i < es.length := by rw [← xl]; exact (List.getElem?_eq_some_iff.mp hxi).1
      obtain ⟨x', hx1', hx2'⟩ := ats.at (List.getElem?_eq_getElem hi')
      rw [hxi] at hx1'
      cases hx1'
      have okc := okCt.cont ok (es := es.take i) okc0 fun e he => htag e (List.mem_of_mem_take he)
      have et : es.take (i + 1) = es.take i ++ [es[i]] := by rw [List.take_add_one, List.getElem?_eq_getElem hi']; rfl
      refine ⟨_, rfl, _, rfl, _, rfl, xm, xc, x, m, (contM m c (es.take i)).1, (contM m c (es.take i)).2, es[i], rfl, hm.ext cl.1, atc, hx2'.ext cl.1, cl.1.wd wd, ok, okc.st, htag _ (List.getElem_mem hi'), okc.len, fun v H1 at1 ex1 => ?_⟩
      obtain ⟨av, v1, v2, rfl, sqv, ac1, ac2⟩ := at1.t2
      obtain ⟨acc, k1, k2, k3⟩ := cl.put nF (by simp) wd ex1 ac2 (by rw [List.length_map, answersM_length, List.length_take]; exact Nat.le_trans (Nat.min_le_right _ _) hlen)
      refine ⟨av, [_, _], rfl, sqv, rfl, _, [_], rfl, _, [], rfl, rfl, ?_⟩
      refine ⟨_, rfl, .inl ⟨rfl, _, .inl (.inl k1)⟩, _, rfl, F0, _, _, rfl, rfl, k1, k2, ⟨⟨_, _, _, rfl, ?_⟩, ?_⟩⟩
      · rw [et, contM_append]
        exact ac1.ext (T := T) (ms := [F0]) (Ex.write (by simp) k1)
      · rw [et, answersM_append, List.map_append]
        exact k3
    · rintro σ' H' ⟨⟨xc, y4, y5, rfl, atc⟩, ex, xs', hF, ats'⟩
      rw [xl, List.take_length] at ats'
      refine ⟨_, rfl, F0, _, rfl, .inl ⟨SqL.of hF, fun l nl => ?_⟩⟩
      exact q _ _ (At.laid nl ats') (ex.trans (Ex.new nl))

theorem sc_answers : FnScope ["machine", "log"] ["machine", "log"] (defScope s_answers) := ⟨rfl, rfl, rfl, by decide +kernel, rfl, by decide +kernel, by decide +kernel⟩
def begM (m : M) : Ct := (0, List.replicate m.regs none)
theorem begM_ok {m : M} {n : Nat} (ok : okM n m) : okCt m (begM m) := ⟨ok.some, List.length_replicate ..⟩
def sp_answers (K : PySem.W.Frag) (T : List Addr) (n : Nat) : Sp := fun vs H Q _ => ∃ (xm xl : V) (m : M) (es : List (Nat × Int)), vs = [xm, xl] ∧ At K H xm (encM m) ∧ Lg K H xl es ∧ Wd T H ∧ okM n m ∧ (∀ e ∈ es, e.1 < m.tags) ∧ es.length ≤ 5000 ∧
  ∀ v H', At K H' v (.tup ((answersM m (begM m) es).map encA)) → Ex T [] H H' → Q v H'
theorem ok_answers {f g gb : Addr} {fd gd gbd : FuncData} {T : List Addr} {n k : Nat} (F : Fun K "answers" "answers" s_answers f fd)
    (G : FnOk P w K mg base CX0 k g gd ["machine", "content", "log"] (sp_answers_from K T n)) (kG : PySem.W.keepIn K (.ref g) = true) (bG : Binds K gd ["machine", "content", "log"] []) (mG : mg "answers_from" = some (.ref g))
    (GB : FnOk P w K mg base CX0 k gb gbd ["machine"] (sp_beginning K T)) (kB : PySem.W.keepIn K (.ref gb) = true) (bB : Binds K gbd ["machine"] []) (mB : mg "beginning" = some (.ref gb)) :
    FnOk P w K mg base CX0 (k + 1) f fd ["machine", "log"] (sp_answers K T n) := by
  refine F.ok sc_answers (fun vs H Q E h => ?_) (fun cdv A outer s H vs Q E hr h => ?_)
  · obtain ⟨xm, xl, m, es, rfl, _⟩ := h
    rfl
  obtain ⟨xm, xl, m, es, rfl, hm, hlog, wd, ok, htag, hlen, q⟩ := h
  refine ⟨_, pss_one (ps_ret (pe_call G hr (by rfl) mG kG bG .nil pass0 (pa_cons (pv 0) (pa_cons (pe_call GB hr (by rfl) mB kB bB .nil pass0 (pa_cons (pv 0) pa_nil)) (pa_cons (pv 1) pa_nil))))), ?_⟩
  refine ⟨_, rfl, _, rfl, xm, m, rfl, hm, ok.rmax, fun v1 H1 at1 ex1 => ?_⟩
  exact ⟨_, rfl, xm, v1, xl, m, begM m, es, rfl, hm.ext ex1, at1, hlog.ext ex1, ex1.wd wd, ok, begM_ok ok, htag, hlen, fun v H' at' ex' => q v H' at' (ex1.trans ex')⟩

abbrev N__law_draws : List Str := ["script", "many", "cells", "rest", "draws", "k", "at", "once", "cell"]
theorem sc__law_draws : FnScope N__law_draws ["script", "many"] (defScope s__law_draws) := ⟨rfl, rfl, rfl, by decide +kernel, rfl, by decide +kernel, by decide +kernel⟩
def sp__law_draws (K : PySem.W.Frag) (T : List Addr) : Sp := fun vs H Q _ => ∃ (a : Addr) (ns : List Int) (many : Int), vs = [.ref a, .int many] ∧ SqL K H a (ns.map V.int) ∧ ns.length ≤ 63 ∧ 0 ≤ many ∧ many ≤ 5000 ∧ Wd T H ∧
  ∀ (r : Addr) (H' : Hp), H r = none → Ex T [] H H' → Dr H' r → Q (.ref r) H'
theorem ok__law_draws {f : Addr} {fd : FuncData} {k : Nat} {T : List Addr} (F : Fun K "_law_draws" "_law_draws" s__law_draws f fd) (ml : mg "len" = none) (mi : mg "int" = none) (mli : mg "list" = none) (mr : mg "range" = none) :
    FnOk P w K mg base CX0 (k + 1) f fd ["script", "many"] (sp__law_draws K T) := by
  refine F.ok sc__law_draws (fun vs H Q E h => ?_) (fun cdv A outer s H vs Q E hr h => ?_)
  · obtain ⟨a, ns, many, rfl, _⟩ := h
    rfl
  obtain ⟨a, ns, many, rfl, hS, h63, m0, m1, wd, q⟩ := h
  refine ⟨_, pss_cons (ps_setLc (i := 2) (own := [("cell", 8)]) (g := gName 8) (tt := tYes) rfl sc__law_draws.nd rfl rfl (sw_true rfl rfl rfl (by decide +kernel)) (pi_list (pv 0)) (blkOk_by (N := N__law_draws) (sc := defScope s__law_draws) (by decide +kernel))
      (fun _ _ _ _ _ => pg_name (i := 8) sc__law_draws.nd rfl (.inl rfl)) (fun _ _ _ _ _ => pts_nil) (fun _ _ _ _ _ => pe_callTy call_int1 (by rfl) mi (by decide +kernel) (pa_cons (pv 8) pa_nil)))
    (C8.pss_cut (ps_if (pt_cmpR op_eq (pe_callB call_len_seq (by rfl) ml PySem.boot_len (pa_cons (pv 2) pa_nil)) pe_int (nomark _))
      (pss_one (ps_expr (pe_bm PySem.F.plainAttrs_list PySem.F.slot_list_append PySem.F.type_list_append mt_append (pv 2) (pa_cons pe_int pa_nil)))) pss_nil)
    (pss_cons (ps_set (i := 3) sc__law_draws.nd rfl (.inl rfl) (pe_callTy call_list_of (by rfl) mli (by decide +kernel) (pa_cons (pv 2) pa_nil)))
    (pss_cons (ps_set (i := 4) sc__law_draws.nd rfl (.inl rfl) (pe_lst pa_nil))
    (pss_cons (ps_for PassesOwn.never rfl (pi_range1 rfl mr (pa_cons (pv 1) pa_nil)) (pg_name (i := 5) sc__law_draws.nd rfl (.inl rfl))
      (pss_cons (ps_set (i := 6) sc__law_draws.nd rfl (.inl rfl) (pe_op op_mod (pv 5) (pe_callB call_len_seq (by rfl) ml PySem.boot_len (pa_cons (pv 2) pa_nil))))
      (pss_one (ps_if (pt_cmpR op_ge (pe_ix ix_list (pv 2) (pv 6) (fun _ _ => rfl)) (pe_op op_pow pe_int pe_int) (nomark _))
        (pss_cons (ps_expr (pe_bm PySem.F.plainAttrs_list PySem.F.slot_list_append PySem.F.type_list_append mt_append (pv 4) (pa_cons (pe_op op_mod (pe_callTy call_int1 (by rfl) mi (by decide +kernel) (pa_cons (pe_ix ix_list (pv 3) (pv 6) (fun _ _ => rfl)) pa_nil)) pe_int) pa_nil)))
        (pss_one (ps_asg (pe_op op_fdiv (pe_ix ix_list (pv 3) (pv 6) (fun _ _ => rfl)) pe_int) (pg_sub (pv 3) (pv 6) set_list))))
        (pss_cons (ps_set (i := 7) sc__law_draws.nd rfl (.inl rfl) (pe_op op_mod (pe_callTy call_int1 (by rfl) mi (by decide +kernel) (pa_cons (pe_op op_add (pe_op op_add (pe_op op_mul (pe_ix ix_list (pv 2) (pv 6) (fun _ _ => rfl)) pe_int) (pe_op op_mul (pv 5) pe_int)) pe_int) pa_nil)) pe_int))
        (pss_one (ps_expr (pe_bm PySem.F.plainAttrs_list PySem.F.slot_list_append PySem.F.type_list_append mt_append (pv 4) (pa_cons (pe_op op_mod (pe_callTy call_int1 (by rfl) mi (by decide +kernel) (pa_cons (pe_op op_add (pe_op op_add (pe_op op_mul (pv 7) (pv 7)) (pe_op op_mul pe_int (pv 7))) (pv 5)) pa_nil)) pe_int) pa_nil)))))))))
    (pss_cons (ps_expr (pe_bm0 PySem.F.plainAttrs_list PySem.F.slot_list_reverse PySem.F.type_list_reverse mt_reverse (pv 4)))
    (pss_one (ps_ret (pv 4)))))))), ?_⟩
  refine ⟨_, rfl, a, rfl, ⟨_, hS⟩, fun D nD => lc_list (xs := ns.map V.int) (fun i H' => Ex T [] H H' ∧ H' D = some (.lst ((ns.take i).map V.int))) ⟨Ex.new nD, upd_same⟩ (fun i H' _ ⟨e, _⟩ => e.sqL (by simp) hS) ?_ ?_⟩
  · rintro i x H' hi ⟨ex, hd⟩
    rw [List.getElem?_map] at hi
    cases e : ns[i]? with
    | none => rw [e] at hi; cases hi
    | some z =>
      rw [e] at hi
      cases hi
      refine ⟨rfl, ?_⟩
      refine yesIf ?_
      refine ⟨_, rfl, .inl ⟨z, rfl, _, hd, ?_, ex.put nD wd, ?_⟩⟩
      · rw [List.length_map, List.length_take]
        exact small5000 (by omega)
      · rw [upd_same, List.take_add_one, e, List.map_append]
        rfl
  rintro H1 ⟨ex1, hD⟩
  rw [List.length_map, List.take_length] at hD
  refine ⟨fun σ' H' => σ' = [some (.ref a), some (.int many), some (.ref D), none, none, none, none, none, none] ∧ ∃ zs : List Int, Ex T [] H H' ∧ H' D = some (.lst (zs.map V.int)) ∧ 0 < zs.length ∧ zs.length ≤ 64, ?_, ?_⟩
  · refine ⟨_, rfl, D, _, rfl, .inl (SqL.of hD), rfl, _, rfl, ite2 (fun c => ?_) (fun c => ?_)⟩
    · refine ⟨_, rfl, .inl ⟨rfl, _, SqL.of hD⟩, D, _, _, rfl, rfl, hD, ?_, rfl, ns ++ [0], ex1.put nD wd, ?_, ?_, ?_⟩
      · rw [List.length_map]
        exact small5000 (by omega)
      · rw [upd_same, iv_snoc]
      · rw [List.length_append]; exact Nat.succ_pos _
      · rw [List.length_append]; show ns.length + 1 ≤ 64; omega
    · refine ⟨rfl, ns, ex1, hD, ?_, by omega⟩
      rw [List.length_map] at c
      cases ns with
      | nil => exact absurd rfl c
      | cons => exact Nat.succ_pos _
  rintro σ' H2 ⟨rfl, zs, ex2, hD, hz0, hz1⟩
  refine ⟨_, rfl, D, _, rfl, .inl (SqL.of hD), fun R nR => ?_⟩
  have ex3 : Ex T [] H (upd H2 R (.lst (zs.map V.int))) := ex2.trans (Ex.new nR)
  refine ⟨Nat.zero_le _, fun W nW => ?_⟩
  have ex4 : Ex T [] H (upd (upd H2 R (.lst (zs.map V.int))) W (.lst [])) := ex3.trans (Ex.new nW)
  have nR0 : H R = none := ex2.free nR
  have nW0 : H W = none := ex3.free nW
  have nDR : D ≠ R := ne_of_none hD nR
  have hD3 : (upd H2 R (.lst (zs.map V.int))) D = some (.lst (zs.map V.int)) := by rw [upd_ne nDR]; exact hD
  have nDW : D ≠ W := ne_of_none hD3 nW
  have nRW : R ≠ W := ne_of_none upd_same nW
  refine ⟨_, rfl, many, rfl, by omega, by omega, for_range (lo := 0) (n := many.toNat) (fun i σ' H' => (∃ y5 y6 y7, σ' = [some (.ref a), some (.int many), some (.ref D), some (.ref R), some (.ref W), y5, y6, y7, none]) ∧ Ex T [] H H' ∧ H' D = some (.lst (zs.map V.int)) ∧
    (∃ rs : List Int, H' R = some (.lst (rs.map V.int)) ∧ rs.length = zs.length) ∧ ∃ ds : List Int, H' W = some (.lst (ds.map V.int)) ∧ ds.length ≤ i) ?_ ?_ ?_⟩
  · refine ⟨⟨_, _, _, rfl⟩, ex4, ?_, ⟨zs, ?_, rfl⟩, [], upd_same, Nat.le_refl _⟩
    · rw [upd_ne nDW]; exact hD3
    · rw [upd_ne nRW, upd_same]
  · rintro i σ' H' hi ⟨⟨y5, y6, y7, rfl⟩, ex, hD, ⟨rs, hR, hrl⟩, ds, hW, hdl⟩
    have hm : (((zs.map V.int).length : Nat) : Int) = zs.length := by rw [List.length_map]
    have hat0 : 0 ≤ (0 + (i : Int)) % (((zs.map V.int).length : Nat) : Int) := Int.emod_nonneg _ (by omega)
    have hat1 : (0 + (i : Int)) % (((zs.map V.int).length : Nat) : Int) < zs.length := by
      have := Int.emod_lt_of_pos (0 + (i : Int)) (b := (((zs.map V.int).length : Nat) : Int)) (by omega)
      omega
    have sz : (ds.map V.int).length < sizeLine := by rw [List.length_map]; exact small5000 (by omega)
    refine ⟨_, rfl, _, rfl, D, _, rfl, .inl (SqL.of hD), _, _, rfl, rfl, by omega, ?_⟩
    refine ⟨_, rfl, _, rfl, D, _, _, _, rfl, rfl, SqL.of hD, iv_at hat0 hat1, _, _, rfl, rfl, ⟨by decide, by decide, by decide⟩, _, _, rfl, rfl, _, rfl, ite2 (fun c => ?_) (fun c => ?_)⟩
    · refine ⟨_, rfl, .inl ⟨rfl, _, .inl (.inl hW)⟩, _, rfl, _, rfl, R, _, _, _, rfl, rfl, SqL.of hR, iv_at hat0 (by rw [hrl]; exact hat1), .inl ⟨_, rfl, _, _, rfl, rfl, (by show (0 : Int) < 1000; decide), W, _, _, rfl, rfl, hW, sz, ?_⟩⟩
      have hR1 : (upd H' W (.lst (ds.map V.int ++ [.int (rs.getD ((0 + (i : Int)) % (((zs.map V.int).length : Nat) : Int)).toNat 0 % 1000)]))) R = some (.lst (rs.map V.int)) := by rw [upd_ne nRW]; exact hR
      refine ⟨_, rfl, _, rfl, R, _, _, _, rfl, rfl, SqL.of hR1, iv_at hat0 (by rw [hrl]; exact hat1), _, _, rfl, rfl, ⟨by decide, by decide⟩, _, rfl, _, rfl, R, _, _, _, rfl, rfl, hR1, ix_nat hat0 (by rw [show (rs.map V.int).length = zs.length from (List.length_map _).trans hrl]; exact hat1), ?_⟩
      refine ⟨⟨_, _, _, rfl⟩, (ex.put nW0 wd).put nR0 wd, ?_, ⟨_, by rw [upd_same, iv_set], by rw [List.length_set]; exact hrl⟩, _, by rw [upd_ne (Ne.symm nRW), upd_same, iv_snoc], by rw [List.length_append]; exact Nat.succ_le_succ hdl⟩
      rw [upd_ne nDR, upd_ne nDW]
      exact hD
    · refine ⟨_, rfl, _, rfl, D, _, _, _, rfl, rfl, SqL.of hD, iv_at hat0 hat1, _, _, rfl, rfl, .inr ⟨by decide, by decide⟩, _, rfl, _, _, rfl, rfl, .inr ⟨by decide, by decide⟩, _, _, rfl, rfl, _, _, rfl, rfl, .inl ⟨_, rfl, _, _, rfl, rfl, (by show (0 : Int) < 2147483647; decide), ?_⟩⟩
      have o0 : 0 ≤ (zs.getD ((0 + (i : Int)) % (((zs.map V.int).length : Nat) : Int)).toNat 0 * 48271 + (0 + (i : Int)) * 69621 + 11) % 2147483647 := Int.emod_nonneg _ (by decide)
      have o1 : (zs.getD ((0 + (i : Int)) % (((zs.map V.int).length : Nat) : Int)).toNat 0 * 48271 + (0 + (i : Int)) * 69621 + 11) % 2147483647 < 2147483647 := Int.emod_lt_of_pos _ (by decide)
      refine ⟨_, rfl, .inl ⟨rfl, _, .inl (.inl hW)⟩, _, rfl, _, rfl, _, _, rfl, rfl, .inl ⟨?_, ?_⟩, _, rfl, _, _, rfl, rfl, .inl ⟨by decide, by decide⟩, _, _, rfl, rfl, _, rfl, _, _, rfl, rfl, .inl ⟨_, rfl, _, _, rfl, rfl, (by show (0 : Int) < 1000003; decide), W, _, _, rfl, rfl, hW, sz, ?_⟩⟩
      · exact Int.lt_of_lt_of_le (by decide) o0
      · exact Int.lt_trans o1 (by decide)
      refine ⟨⟨_, _, _, rfl⟩, ex.put nW0 wd, ?_, ⟨rs, ?_, hrl⟩, _, by rw [upd_same, iv_snoc], by rw [List.length_append]; exact Nat.succ_le_succ hdl⟩
      · rw [upd_ne nDW]; exact hD
      · rw [upd_ne nRW]; exact hR
  · rintro σ' H' ⟨⟨y5, y6, y7, rfl⟩, ex, hD, ⟨rs, hR, hrl⟩, ds, hW, hdl⟩
    refine ⟨_, rfl, .inl ⟨rfl, _, .inl (.inl hW)⟩, W, _, rfl, rfl, hW, _, rfl, ?_⟩
    exact q W _ nW0 (ex.put nW0 wd) ⟨ds.reverse, by rw [upd_same, List.map_reverse]⟩

abbrev N__law_take : List Str := ["draws", "many"]
theorem sc__law_take : FnScope N__law_take ["draws", "many"] (defScope s__law_take) := ⟨rfl, rfl, rfl, by decide +kernel, rfl, by decide +kernel, by decide +kernel⟩
def sp__law_take (T : List Addr) : Sp := fun vs H Q _ => ∃ (dr : Addr) (m : Int), vs = [.ref dr, .int m] ∧ 0 < m ∧ Dr H dr ∧ ∀ x H', 0 ≤ x → x < m → Ex T [dr] H H' → Dr H' dr → Q (.int x) H'
theorem ok__law_take {f : Addr} {fd : FuncData} {k : Nat} {T : List Addr} (F : Fun K "_law_take" "_law_take" s__law_take f fd) (ml : mg "len" = none) (mi : mg "int" = none) :
    FnOk P w K mg base CX0 (k + 1) f fd ["draws", "many"] (sp__law_take T) := by
  refine F.ok sc__law_take (fun vs H Q E h => ?_) (fun cdv A outer s H vs Q E hr h => ?_)
  · obtain ⟨dr, m, rfl, _⟩ := h
    rfl
  obtain ⟨dr, m, rfl, hm, ⟨ds, hd⟩, q⟩ := h
  refine ⟨_, pss_cons (ps_if (pt_cmpR op_eq (pe_callB call_len_seq (by rfl) ml PySem.boot_len (pa_cons (pv 0) pa_nil)) pe_int (nomark _)) (pss_one (ps_ret pe_int)) pss_nil)
    (pss_one (ps_ret (pe_op op_mod (pe_callTy call_int1 (by rfl) mi (by decide +kernel) (pa_cons (pe_bm0 PySem.F.plainAttrs_list PySem.F.slot_list_pop PySem.F.type_list_pop mt_pop (pv 0)) pa_nil)) (pv 1)))), ?_⟩
  refine ⟨_, rfl, dr, _, rfl, .inl (SqL.of hd), rfl, _, rfl, ite2 (fun c => ?_) (fun c => ?_)⟩
  · exact q 0 H (Int.le_refl 0) hm Ex.refl ⟨ds, hd⟩
  have hl : 0 < ds.length := by
    rw [List.length_map] at c
    cases ds with
    | nil => exact absurd rfl c
    | cons => exact Nat.succ_pos _
  have e1 : (ds.map V.int)[(ds.map V.int).length - 1]? = some (.int (ds.getD (ds.length - 1) 0)) := by
    rw [List.length_map, List.getElem?_map, List.getD_eq_getElem?_getD, List.getElem?_eq_getElem (by omega)]
    rfl
  refine ⟨_, rfl, .inl ⟨rfl, _, .inl (.inl hd)⟩, dr, _, _, rfl, rfl, hd, e1, .inl ⟨_, rfl, _, rfl, _, _, rfl, rfl, hm, ?_⟩⟩
  exact q _ _ (Int.emod_nonneg _ (by omega)) (Int.emod_lt_of_pos _ hm) (Ex.write (by simp) hd) ⟨ds.dropLast, by rw [upd_same, List.map_dropLast]⟩

abbrev N__law_cell : List Str := ["script", "draws"]
theorem sc__law_cell : FnScope N__law_cell ["script", "draws"] (defScope s__law_cell) := ⟨rfl, rfl, rfl, by decide +kernel, rfl, by decide +kernel, by decide +kernel⟩
def sp__law_cell (K : PySem.W.Frag) (T : List Addr) : Sp := fun vs H Q _ => ∃ (a dr : Addr) (ns : List Int), vs = [.ref a, .ref dr] ∧ (∀ H', Ex T [dr] H H' → SqL K H' a (ns.map V.int)) ∧ Dr H dr ∧ ∀ x H', (x = 0 ∨ x ∈ ns) → Ex T [dr] H H' → Dr H' dr → Q (.int x) H'
theorem ok__law_cell {f g : Addr} {fd gd : FuncData} {k : Nat} {T : List Addr} (F : Fun K "_law_cell" "_law_cell" s__law_cell f fd) (ml : mg "len" = none) (mi : mg "int" = none)
    (G : FnOk P w K mg base CX0 k g gd ["draws", "many"] (sp__law_take T)) (kG : PySem.W.keepIn K (.ref g) = true) (bG : Binds K gd ["draws", "many"] []) (mG : mg "_law_take" = some (.ref g)) :
    FnOk P w K mg base CX0 (k + 1) f fd ["script", "draws"] (sp__law_cell K T) := by
  refine F.ok sc__law_cell (fun vs H Q E h => ?_) (fun cdv A outer s H vs Q E hr h => ?_)
  · obtain ⟨a, dr, ns, rfl, _⟩ := h
    rfl
  obtain ⟨a, dr, ns, rfl, hS', hd, q⟩ := h
  have hS := hS' H Ex.refl
  refine ⟨_, pss_cons (ps_if (pt_cmpR op_eq (pe_callB call_len_seq (by rfl) ml PySem.boot_len (pa_cons (pv 0) pa_nil)) pe_int (nomark _)) (pss_one (ps_ret pe_int)) pss_nil)
    (pss_one (ps_ret (pe_callTy call_int1 (by rfl) mi (by decide +kernel) (pa_cons (pe_ix ix_list (pv 0) (pe_call G hr (by rfl) mG kG bG .nil pass0 (pa_cons (pv 1) (pa_cons (pe_callB call_len_seq (by rfl) ml PySem.boot_len (pa_cons (pv 0) pa_nil)) pa_nil))) (fun _ _ => rfl)) pa_nil)))), ?_⟩
  refine ⟨_, rfl, a, _, rfl, .inl hS, rfl, _, rfl, ite2 (fun c => ?_) (fun c => ?_)⟩
  · exact q 0 H (.inl rfl) Ex.refl hd
  have hl : 0 < ns.length := by
    rw [List.length_map] at c
    cases ns with
    | nil => exact absurd rfl c
    | cons => exact Nat.succ_pos _
  refine ⟨_, rfl, _, rfl, _, rfl, a, _, rfl, .inl hS, dr, _, rfl, by rw [List.length_map]; omega, hd, fun x H' x0 x1 ex hd' => ?_⟩
  rw [List.length_map] at x1
  exact ⟨a, _, _, _, rfl, rfl, hS' H' ex, iv_at x0 x1, .inl ⟨_, rfl, q _ _ (.inr (by rw [List.getD_eq_getElem?_getD, List.getElem?_eq_getElem (show x.toNat < ns.length by omega)]; exact List.getElem_mem _)) ex hd'⟩⟩

abbrev N__law_place : List Str := ["draws", "registers"]
theorem sc__law_place : FnScope N__law_place ["draws", "registers"] (defScope s__law_place) := ⟨rfl, rfl, rfl, by decide +kernel, rfl, by decide +kernel, by decide +kernel⟩
def sp__law_place (T : List Addr) : Sp := fun vs H Q _ => ∃ (dr : Addr) (r : Nat), vs = [.ref dr, .int r] ∧ Dr H dr ∧ ∀ p H', plOk r p → Ex T [dr] H H' → Dr H' dr → Q (.int p) H'
theorem ok__law_place {f g : Addr} {fd gd : FuncData} {k : Nat} {T : List Addr} (F : Fun K "_law_place" "_law_place" s__law_place f fd)
    (G : FnOk P w K mg base CX0 k g gd ["draws", "many"] (sp__law_take T)) (kG : PySem.W.keepIn K (.ref g) = true) (bG : Binds K gd ["draws", "many"] []) (mG : mg "_law_take" = some (.ref g)) :
    FnOk P w K mg base CX0 (k + 1) f fd ["draws", "registers"] (sp__law_place T) := by
  refine F.ok sc__law_place (fun vs H Q E h => ?_) (fun cdv A outer s H vs Q E hr h => ?_)
  · obtain ⟨dr, r, rfl, _⟩ := h
    rfl
  obtain ⟨dr, r, rfl, hd, q⟩ := h
  refine ⟨_, pss_cons (ps_if (pw_or (pt_cmpR op_eq (pv 1) pe_int (nomark _)) (pw_or1 (pt_cmpR op_eq (pe_call G hr (by rfl) mG kG bG .nil pass0 (pa_cons (pv 0) (pa_cons pe_int pa_nil))) pe_int (nomark _)))).pt (pss_one (ps_ret (pe_un un_neg pe_int))) pss_nil)
    (pss_one (ps_ret (pe_call G hr (by rfl) mG kG bG .nil pass0 (pa_cons (pv 0) (pa_cons (pv 1) pa_nil))))), ?_⟩
  refine ⟨_, rfl, rfl, _, rfl, ite2 (fun c => ?_) (fun c => ?_)⟩
  · exact iteT ⟨_, rfl, q _ H ⟨by decide, by omega⟩ Ex.refl hd⟩
  have hr0 : (r : Int) ≠ 0 := by simpa using c
  refine ⟨_, rfl, dr, 3, rfl, by decide, hd, fun x H1 x0 x1 ex1 hd1 => ⟨rfl, _, rfl, ite2 (fun c => ?_) (fun c => ?_)⟩⟩
  · exact ⟨_, rfl, q _ H1 ⟨by decide, by omega⟩ ex1 hd1⟩
  · exact ⟨_, rfl, _, rfl, dr, r, rfl, by omega, hd1, fun y H2 y0 y1 ex2 hd2 => q _ _ ⟨by omega, y1⟩ (ex1.trans ex2) hd2⟩

abbrev N__law_source : List Str := ["draws", "registers"]
theorem sc__law_source : FnScope N__law_source ["draws", "registers"] (defScope s__law_source) := ⟨rfl, rfl, rfl, by decide +kernel, rfl, by decide +kernel, by decide +kernel⟩
def sp__law_source (T : List Addr) : Sp := fun vs H Q _ => ∃ (dr : Addr) (r : Nat), vs = [.ref dr, .int r] ∧ Dr H dr ∧ ∀ (p : Int) H', -2 ≤ p → p < r → Ex T [dr] H H' → Dr H' dr → Q (.int p) H'
theorem ok__law_source {f g : Addr} {fd gd : FuncData} {k : Nat} {T : List Addr} (F : Fun K "_law_source" "_law_source" s__law_source f fd)
    (G : FnOk P w K mg base CX0 k g gd ["draws", "many"] (sp__law_take T)) (kG : PySem.W.keepIn K (.ref g) = true) (bG : Binds K gd ["draws", "many"] []) (mG : mg "_law_take" = some (.ref g)) :
    FnOk P w K mg base CX0 (k + 1) f fd ["draws", "registers"] (sp__law_source T) := by
  refine F.ok sc__law_source (fun vs H Q E h => ?_) (fun cdv A outer s H vs Q E hr h => ?_)
  · obtain ⟨dr, r, rfl, _⟩ := h
    rfl
  obtain ⟨dr, r, rfl, hd, q⟩ := h
  refine ⟨_, pss_cons (ps_if (pw_and (pt_cmpR op_gt (pv 1) pe_int (nomark _)) (pw_and1 (pt_cmpR op_lt (pe_call G hr (by rfl) mG kG bG .nil pass0 (pa_cons (pv 0) (pa_cons pe_int pa_nil))) pe_int (nomark _)))).pt
      (pss_one (ps_ret (pe_call G hr (by rfl) mG kG bG .nil pass0 (pa_cons (pv 0) (pa_cons (pv 1) pa_nil))))) pss_nil)
    (pss_one (ps_ret (pe_ix ix_list (pe_lst (pa_cons (pe_un un_neg pe_int) (pa_cons (pe_un un_neg pe_int) (pa_cons (pe_un un_neg pe_int) pa_nil))))
        (pe_call G hr (by rfl) mG kG bG .nil pass0 (pa_cons (pv 0) (pa_cons pe_int pa_nil))) (fun _ _ => rfl)))), ?_⟩
  have fin : ∀ H1, Ex T [dr] H H1 → Dr H1 dr → ∀ p, H1 p = none → ∀ y H2, 0 ≤ y → y < 3 → Ex T [dr] (upd H1 p (.lst [.int (-1), .int (-1), .int (-2)])) H2 → Dr H2 dr → ∃ v, atI [.int (-1), .int (-1), .int (-2)] y = some v ∧ SqL K H2 p [.int (-1), .int (-1), .int (-2)] ∧ Q v H2 := by
    intro H1 e1 hd1 p np y H2 y0 y1 e2 hd2
    obtain ⟨v, hv, hat⟩ := menu_at (xs := ([-1, -1, -2] : List Int).map V.int) y0 y1
    obtain ⟨z, hz, rfl⟩ := List.mem_map.mp hv
    simp only [List.mem_cons, List.not_mem_nil, or_false] at hz
    refine ⟨_, hat, SqL.of (e2.lst (by simpa using hd1.ne np) upd_same), q _ _ (by omega) (by omega) ((e1.trans (Ex.new np)).trans e2) hd2⟩
  refine ⟨_, rfl, _, _, rfl, rfl, _, rfl, ite2 (fun c => ?_) (fun c => ?_)⟩
  · refine ⟨_, rfl, dr, 5, rfl, by decide, hd, fun x H1 x0 x1 ex1 hd1 => ⟨_, _, rfl, rfl, _, rfl, ite2 (fun c2 => ?_) (fun c2 => ?_)⟩⟩
    · exact ⟨_, rfl, _, rfl, dr, r, rfl, by simpa using c, hd1, fun y H2 y0 y1 ex2 hd2 => q _ _ (by omega) y1 (ex1.trans ex2) hd2⟩
    · refine ⟨_, rfl, _, rfl, _, rfl, by show 3 ≤ sizeLine; decide, fun p np => ⟨_, rfl, dr, 3, rfl, by decide, hd1.new np, fun y H2 y0 y1 ex2 hd2 => ?_⟩⟩
      obtain ⟨v, h1, h2, h3⟩ := fin H1 ex1 hd1 p np y H2 y0 y1 ex2 hd2
      exact ⟨p, _, _, _, rfl, rfl, h2, h1, h3⟩
  · refine ⟨_, rfl, _, rfl, _, rfl, by show 3 ≤ sizeLine; decide, fun p np => ⟨_, rfl, dr, 3, rfl, by decide, hd.new np, fun y H2 y0 y1 ex2 hd2 => ?_⟩⟩
    obtain ⟨v, h1, h2, h3⟩ := fin H Ex.refl hd p np y H2 y0 y1 ex2 hd2
    exact ⟨p, _, _, _, rfl, rfl, h2, h1, h3⟩

abbrev N__law_moves : List Str := ["draws", "registers", "shift", "moves", "k", "source"]
theorem sc__law_moves : FnScope N__law_moves ["draws", "registers"] (defScope s__law_moves) := ⟨rfl, rfl, rfl, by decide +kernel, rfl, by decide +kernel, by decide +kernel⟩
def sp__law_moves (K : PySem.W.Frag) (T : List Addr) : Sp := fun vs H Q _ => ∃ (dr : Addr) (r : Nat), vs = [.ref dr, .int r] ∧ r ≤ 1000 ∧ Wd T H ∧ Dr H dr ∧
  ∀ v H' (mv : List Int), At K H' v (.tup (mv.map .int)) → mv.length = r → (∀ s ∈ mv, -2 ≤ s ∧ s < r) → Ex T [dr] H H' → Dr H' dr → Q v H'
theorem ok__law_moves {f g gs : Addr} {fd gd gsd : FuncData} {k : Nat} {T : List Addr} (F : Fun K "_law_moves" "_law_moves" s__law_moves f fd) (mr : mg "range" = none) (mt : mg "tuple" = none)
    (G : FnOk P w K mg base CX0 k g gd ["draws", "many"] (sp__law_take T)) (kG : PySem.W.keepIn K (.ref g) = true) (bG : Binds K gd ["draws", "many"] []) (mG : mg "_law_take" = some (.ref g))
    (GS : FnOk P w K mg base CX0 k gs gsd ["draws", "registers"] (sp__law_source T)) (kS : PySem.W.keepIn K (.ref gs) = true) (bS : Binds K gsd ["draws", "registers"] []) (mS : mg "_law_source" = some (.ref gs)) :
    FnOk P w K mg base CX0 (k + 1) f fd ["draws", "registers"] (sp__law_moves K T) := by
  refine F.ok sc__law_moves (fun vs H Q E h => ?_) (fun cdv A outer s H vs Q E hr h => ?_)
  · obtain ⟨dr, r, rfl, _⟩ := h
    rfl
  obtain ⟨dr, r, rfl, hr0, wd, hd, q⟩ := h
  refine ⟨_, pss_cons (ps_set (i := 2) sc__law_moves.nd rfl (.inl rfl) (pe_call G hr (by rfl) mG kG bG .nil pass0 (pa_cons (pv 0) (pa_cons pe_int pa_nil))))
    (pss_cons (ps_set (i := 3) sc__law_moves.nd rfl (.inl rfl) (pe_lst pa_nil))
    (pss_cons (ps_for PassesOwn.never rfl (pi_range1 rfl mr (pa_cons (pv 1) pa_nil)) (pg_name (i := 4) sc__law_moves.nd rfl (.inl rfl))
      (C8.pss_cut (ps_set (i := 5) sc__law_moves.nd rfl (.inl rfl) (pe_ix ix_list (pe_lst (pa_cons (pv 4) (pa_cons (pv 4) (pa_cons (pe_op op_sub (pv 4) pe_int) pa_nil)))) (pe_call G hr (by rfl) mG kG bG .nil pass0 (pa_cons (pv 0) (pa_cons pe_int pa_nil))) (fun _ _ => rfl)))
      (C8.pss_cut (ps_if (pt_cmpR op_eq (pv 2) pe_int (nomark _)) (pss_one (ps_set (i := 5) sc__law_moves.nd rfl (.inl rfl) (pe_op op_sub (pv 4) pe_int))) pss_nil)
      (C8.pss_cut (ps_if (pt_cmpR op_eq (pe_call G hr (by rfl) mG kG bG .nil pass0 (pa_cons (pv 0) (pa_cons pe_int pa_nil))) pe_int (nomark _)) (pss_one (ps_set (i := 5) sc__law_moves.nd rfl (.inl rfl) (pe_call GS hr (by rfl) mS kS bS .nil pass0 (pa_cons (pv 0) (pa_cons (pv 1) pa_nil))))) pss_nil)
      (pss_one (ps_expr (pe_bm PySem.F.plainAttrs_list PySem.F.slot_list_append PySem.F.type_list_append mt_append (pv 3) (pa_cons (pv 5) pa_nil))))))))
    (pss_one (ps_ret (pe_callTy call_tuple_of (by rfl) mt (by decide +kernel) (pa_cons (pv 3) pa_nil)))))), ?_⟩
  refine ⟨_, rfl, dr, 4, rfl, by decide, hd, fun sh H1 sh0 sh1 ex1 hd1 => ⟨Nat.zero_le _, fun F0 nF => ?_⟩⟩
  have free : H F0 = none := ex1.free nF
  have neF : F0 ≠ dr := hd1.ne nF
  refine ⟨_, rfl, _, rfl, by omega, by omega, for_range (lo := 0) (n := r) (fun i σ' H' => (∃ y4 y5, σ' = [some (.ref dr), some (.int r), some (.int sh), some (.ref F0), y4, y5]) ∧ Dr H' dr ∧ ∃ mv : List Int, Col K T [dr] F0 H H' (mv.map .int) ∧ mv.length = i ∧ ∀ s ∈ mv, -2 ≤ s ∧ s < r) ?_ ?_ ?_⟩
  · exact ⟨⟨_, _, rfl⟩, hd1.new nF, [], Col.start ex1 nF, rfl, fun s hs => by cases hs⟩
  · rintro i σ' H' hi ⟨⟨y4, y5, rfl⟩, hd, mv, cl, hl, hmv⟩
    have hi2 : (i : Int) < r := by omega
    refine ⟨fun σ' H2 => ∃ p : Int, σ' = [some (.ref dr), some (.int r), some (.int sh), some (.ref F0), some (.int (0 + (i : Int))), some (.int p)] ∧ -1 ≤ p ∧ p < r ∧ Ex T [dr] H' H2 ∧ Dr H2 dr, ?_, ?_⟩
    · refine ⟨_, rfl, _, rfl, _, rfl, _, _, rfl, rfl, by show 3 ≤ sizeLine; decide, fun p np => ⟨_, rfl, dr, 3, rfl, by decide, hd.new np, fun y H2 y0 y1 ex2 hd2 => ?_⟩⟩
      obtain ⟨v, hv, hat⟩ := menu_at (xs := ([0 + (i : Int), 0 + (i : Int), 0 + (i : Int) - 1] : List Int).map V.int) y0 y1
      obtain ⟨z, hz, rfl⟩ := List.mem_map.mp hv
      simp only [List.mem_cons, List.not_mem_nil, or_false] at hz
      exact ⟨p, _, _, _, rfl, rfl, SqL.of (ex2.lst (by simpa using hd.ne np) upd_same), hat, z, rfl, by omega, by omega, (Ex.new np).trans ex2, hd2⟩
    rintro σ2 H2 ⟨p, rfl, p0, p1, ex2, hd2⟩
    refine ⟨fun σ' H3 => ∃ p : Int, σ' = [some (.ref dr), some (.int r), some (.int sh), some (.ref F0), some (.int (0 + (i : Int))), some (.int p)] ∧ -1 ≤ p ∧ p < r ∧ Ex T [dr] H' H3 ∧ Dr H3 dr, ?_, ?_⟩
    · refine ⟨_, rfl, rfl, _, rfl, ite2 (fun c => ?_) (fun c => ?_)⟩
      · exact ⟨_, rfl, _, _, rfl, rfl, _, rfl, by omega, by omega, ex2, hd2⟩
      · exact ⟨_, rfl, p0, p1, ex2, hd2⟩
    rintro σ3 H3 ⟨p, rfl, p0, p1, ex3, hd3⟩
    refine ⟨fun σ' H4 => ∃ p : Int, σ' = [some (.ref dr), some (.int r), some (.int sh), some (.ref F0), some (.int (0 + (i : Int))), some (.int p)] ∧ -2 ≤ p ∧ p < r ∧ Ex T [dr] H' H4 ∧ Dr H4 dr, ?_, ?_⟩
    · refine ⟨_, rfl, dr, 4, rfl, by decide, hd3, fun y H4 y0 y1 ex4 hd4 => ⟨rfl, _, rfl, ite2 (fun c => ?_) (fun c => ?_)⟩⟩
      · exact ⟨_, rfl, _, rfl, dr, r, rfl, hd4, fun z H5 z0 z1 ex5 hd5 => ⟨_, rfl, z0, z1, (ex3.trans ex4).trans ex5, hd5⟩⟩
      · exact ⟨_, rfl, by omega, p1, ex3.trans ex4, hd4⟩
    rintro σ4 H4 ⟨p, rfl, p0, p1, ex4, hd4⟩
    obtain ⟨acc, k1, k2, k3⟩ := cl.put free (by simpa using neF) wd ex4 (d := .int p) (x := .int p) (at_int.mpr rfl) (by rw [List.length_map]; omega)
    refine ⟨_, rfl, .inl ⟨rfl, _, .inl (.inl k1)⟩, _, rfl, F0, _, _, rfl, rfl, k1, k2, ⟨_, _, rfl⟩, hd4.put neF.symm, mv ++ [p], ?_, by rw [List.length_append, hl]; rfl, ?_⟩
    · rw [List.map_append]
      exact k3
    · intro s hs
      rcases List.mem_append.mp hs with h | h
      · exact hmv s h
      · obtain rfl := List.mem_singleton.mp h
        exact ⟨p0, p1⟩
  · rintro σ' H' ⟨⟨y4, y5, rfl⟩, hd, mv, ⟨ex, xs, hF, ats⟩, hl, hmv⟩
    refine ⟨_, rfl, F0, _, rfl, .inl ⟨SqL.of hF, fun l nl => ?_⟩⟩
    exact q _ _ mv (At.laid nl ats) hl hmv (ex.trans (Ex.new nl)) (hd.new nl)

abbrev N__law_says : List Str := ["draws", "registers", "many", "k"]
theorem sc__law_says : FnScope N__law_says ["draws", "registers"] (defScope s__law_says) := ⟨rfl, rfl, rfl, by decide +kernel, rfl, by decide +kernel, by decide +kernel⟩
def saysOk (r : Nat) (sy : List (Int × Int)) : Prop := ∀ p ∈ sy, 0 ≤ p.1 ∧ -2 ≤ p.2 ∧ p.2 < r
def sp__law_says (K : PySem.W.Frag) (T : List Addr) : Sp := fun vs H Q _ => ∃ (dr : Addr) (r : Nat), vs = [.ref dr, .int r] ∧ Wd T H ∧ Dr H dr ∧
  ∀ v H' (sy : List (Int × Int)), At K H' v (.tup (sy.map encSay)) → sy.length ≤ 1000 → saysOk r sy → Ex T [dr] H H' → Dr H' dr → Q v H'
theorem ok__law_says {f g gs : Addr} {fd gd gsd : FuncData} {k : Nat} {T : List Addr} (F : Fun K "_law_says" "_law_says" s__law_says f fd) (mr : mg "range" = none) (mt : mg "tuple" = none)
    (G : FnOk P w K mg base CX0 k g gd ["draws", "many"] (sp__law_take T)) (kG : PySem.W.keepIn K (.ref g) = true) (bG : Binds K gd ["draws", "many"] []) (mG : mg "_law_take" = some (.ref g))
    (GS : FnOk P w K mg base CX0 k gs gsd ["draws", "registers"] (sp__law_source T)) (kS : PySem.W.keepIn K (.ref gs) = true) (bS : Binds K gsd ["draws", "registers"] []) (mS : mg "_law_source" = some (.ref gs)) :
    FnOk P w K mg base CX0 (k + 1) f fd ["draws", "registers"] (sp__law_says K T) := by
  refine F.ok sc__law_says (fun vs H Q E h => ?_) (fun cdv A outer s H vs Q E hr h => ?_)
  · obtain ⟨dr, r, rfl, _⟩ := h
    rfl
  obtain ⟨dr, r, rfl, wd, hd, q⟩ := h
  refine ⟨_, pss_cons (ps_set (i := 2) sc__law_says.nd rfl (.inl rfl) (pe_ix ix_list (pe_lst (pa_cons pe_int (pa_cons pe_int (pa_cons pe_int (pa_cons pe_int (pa_cons pe_int (pa_cons pe_int (pa_cons pe_int pa_nil))))))))
        (pe_call G hr (by rfl) mG kG bG .nil pass0 (pa_cons (pv 0) (pa_cons pe_int pa_nil))) (fun _ _ => rfl)))
    (pss_one (ps_ret (pe_callTy call_tuple_of (by rfl) mt (by decide +kernel) (pa_cons
      (pe_lc (own := [("k", 3)]) (g := gName 3) (tt := tYes) rfl sc__law_says.nd (pi_range1 rfl mr (pa_cons (pv 2) pa_nil)) (blkOk_by (N := N__law_says) (sc := defScope s__law_says) (by decide +kernel))
        (fun _ _ _ _ _ => pg_name (i := 3) sc__law_says.nd rfl (.inl rfl)) (fun _ _ _ _ _ => pts_nil)
        (fun _ _ _ _ _ => pe_tup (pa_cons (pe_call G hr (by rfl) mG kG bG .nil pass0 (pa_cons (pv 0) (pa_cons pe_int pa_nil))) (pa_cons (pe_call GS hr (by rfl) mS kS bS .nil pass0 (pa_cons (pv 0) (pa_cons (pv 1) pa_nil))) pa_nil)))) pa_nil)))), ?_⟩
  refine ⟨by show 7 ≤ sizeLine; decide, fun p np => ⟨_, rfl, dr, 7, rfl, by decide, hd.new np, fun y H1 y0 y1 ex1 hd1 => ?_⟩⟩
  obtain ⟨v, hv, hat⟩ := menu_at (xs := ([0, 0, 1, 1, 2, 3, 8] : List Int).map V.int) y0 y1
  obtain ⟨z, hz, rfl⟩ := List.mem_map.mp hv
  simp only [List.mem_cons, List.not_mem_nil, or_false] at hz
  have z0 : 0 ≤ z := by omega
  have z8 : z ≤ 8 := by omega
  refine ⟨p, _, _, _, rfl, rfl, SqL.of (ex1.lst (by simpa using hd.ne np) upd_same), hat, ?_⟩
  have exA : Ex T [dr] H H1 := (Ex.new np).trans ex1
  refine ⟨_, rfl, z, rfl, by omega, by omega, fun D nD => lc_range (lo := 0) (n := z.toNat) (fun i H5 => Dr H5 dr ∧ ∃ sy : List (Int × Int), Col K T [dr] D H H5 (sy.map encSay) ∧ sy.length = i ∧ saysOk r sy) ⟨hd1.new nD, [], Col.start exA nD, rfl, fun p hp => by cases hp⟩ ?_ ?_⟩
  · rintro i H5 hi ⟨hd5, sy, cl, hl, hsy⟩
    refine ⟨wipe1, yesIf ⟨_, rfl, dr, 3, rfl, by decide, hd5, fun a H6 a0 a1 ex6 hd6 => ⟨_, rfl, _, rfl, dr, r, rfl, hd6, fun b H7 b0 b1 ex7 hd7 => ⟨by show 2 ≤ sizeLine; decide, fun l nl => ?_⟩⟩⟩⟩
    obtain ⟨acc, k1, k2, k3⟩ := cl.put (exA.free nD) (by simpa using hd1.ne nD) wd ((ex6.trans ex7).trans (Ex.new nl)) (d := encSay (a, b)) (x := .ref l) (At.laid nl (Ats.mk (at_int.mpr rfl) (Ats.mk (at_int.mpr rfl) Ats.mk_nil))) (by rw [List.length_map]; omega)
    refine ⟨acc, k1, k2, (hd7.new nl).put (hd1.ne nD).symm, sy ++ [(a, b)], ?_, by rw [List.length_append, hl]; rfl, ?_⟩
    · rw [List.map_append]
      exact k3
    · intro s hs
      rcases List.mem_append.mp hs with h | h
      · exact hsy s h
      · obtain rfl := List.mem_singleton.mp h
        exact ⟨a0, b0, b1⟩
  · rintro H5 ⟨hd5, sy, ⟨ex, xs, hD, ats⟩, hl, hsy⟩
    refine ⟨D, _, rfl, .inl ⟨SqL.of hD, fun l nl => ?_⟩⟩
    exact q _ _ sy (At.laid nl ats) (by omega) hsy (ex.trans (Ex.new nl)) (hd5.new nl)

abbrev N__law_condition : List Str := ["draws", "registers", "depth", "one", "other", "kind", "row", "k"]
theorem sc__law_condition : FnScope N__law_condition ["draws", "registers", "depth"] (defScope s__law_condition) := ⟨rfl, rfl, rfl, by decide +kernel, rfl, by decide +kernel, by decide +kernel⟩
def sp__law_condition (K : PySem.W.Frag) (T : List Addr) (n : Nat) : Sp := fun vs H Q _ => ∃ (dr : Addr) (r m : Nat) (d : Int), vs = [.ref dr, .int r, .int d] ∧ n = m + 1 ∧ d ≤ m ∧ Wd T H ∧ Dr H dr ∧
  ∀ v H' c, At K H' v (encC c) → okC r (m + 1) c → Ex T [dr] H H' → Dr H' dr → Q v H'
theorem ok__law_condition {f g gp : Addr} {fd gd gpd : FuncData} {T : List Addr} (F : Fun K "_law_condition" "_law_condition" s__law_condition f fd) (bF : Binds K fd ["draws", "registers", "depth"] []) (mF : mg "_law_condition" = some (.ref f)) (mr : mg "range" = none) (mt : mg "tuple" = none)
    (G : FnOk P w K mg base CX0 2 g gd ["draws", "many"] (sp__law_take T)) (kG : PySem.W.keepIn K (.ref g) = true) (bG : Binds K gd ["draws", "many"] []) (mG : mg "_law_take" = some (.ref g))
    (GP : FnOk P w K mg base CX0 2 gp gpd ["draws", "registers"] (sp__law_place T)) (kP : PySem.W.keepIn K (.ref gp) = true) (bP : Binds K gpd ["draws", "registers"] []) (mP : mg "_law_place" = some (.ref gp)) :
    ∀ n : Nat, FnOk P w K mg base CX0 (n + 2) f fd ["draws", "registers", "depth"] (sp__law_condition K T n) := by
  intro n
  induction n with
  | zero =>
    have no : ∀ vs H Q E, ¬ sp__law_condition K T 0 vs H Q E := fun vs H Q E h => by
      obtain ⟨dr, r, m, d, _, e, _⟩ := h
      omega
    exact ⟨fun vs H Q E h => absurd h (no vs H Q E), fun A outer s H args us vs Q E _ _ _ _ h => absurd h (no vs H Q E)⟩
  | succ n ih =>
  refine F.ok sc__law_condition (fun vs H Q E h => ?_) (fun cdv A outer s H vs Q E hr h => ?_)
  · obtain ⟨dr, r, m, d, rfl, _⟩ := h
    rfl
  obtain ⟨dr, r, m, d, rfl, em, hdm, wd, hd, q⟩ := h
  obtain rfl : n = m := by omega
  have hr2 : Room 2 _ := hr.mono (by omega)
  refine ⟨_, pss_cons (ps_set (i := 3) sc__law_condition.nd rfl (.inl rfl) (pe_call GP hr2 (by rfl) mP kP bP .nil pass0 (pa_cons (pv 0) (pa_cons (pv 1) pa_nil))))
    (pss_cons (ps_set (i := 4) sc__law_condition.nd rfl (.inl rfl) (pe_call GP hr2 (by rfl) mP kP bP .nil pass0 (pa_cons (pv 0) (pa_cons (pv 1) pa_nil))))
    (pss_cons (ps_set (i := 5) sc__law_condition.nd rfl (.inl rfl) (pe_call G hr2 (by rfl) mG kG bG .nil pass0 (pa_cons (pv 0) (pa_cons pe_int pa_nil))))
    (C8.pss_cut (ps_if (pw_or (pt_cmpR op_lt (pv 5) pe_int (nomark _)) (pw_or1 (pw_and (pt_cmpR op_lt (pv 2) pe_int (nomark _)) (pw_and1 (pt_cmpR op_gt (pv 5) pe_int (nomark _)))).pt)).pt (pss_one (ps_ret (pe_tup (pa_cons pe_str (pa_cons (pv 3) (pa_cons (pv 4) pa_nil)))))) pss_nil)
    (pss_cons (ps_if (pt_cmpR op_eq (pv 5) pe_int (nomark _)) (pss_one (ps_ret (pe_ix ix_list (pe_lst (pa_cons (pe_tup (pa_cons pe_str (pa_cons (pv 3) (pa_cons (pv 4) pa_nil)))) (pa_cons (pe_tup (pa_cons pe_str (pa_cons (pv 3) pa_nil))) pa_nil)))
        (pe_call G hr2 (by rfl) mG kG bG .nil pass0 (pa_cons (pv 0) (pa_cons pe_int pa_nil))) (fun _ _ => rfl)))) pss_nil)
    (pss_cons (ps_if (pt_cmpR op_lt (pv 5) pe_int (nomark _)) (pss_one (ps_ret (pe_tup (pa_cons pe_str (pa_cons (pe_tup (pa_cons (pe_tup (pa_cons pe_str (pa_cons (pv 3) (pa_cons (pe_un un_neg pe_int) pa_nil)))) (pa_cons (pe_tup (pa_cons pe_str (pa_cons (pe_un un_neg pe_int) (pa_cons (pv 4) pa_nil)))) pa_nil))) pa_nil))))) pss_nil)
    (pss_cons (ps_if (pt_cmpR op_eq (pv 5) pe_int (nomark _)) (pss_one (ps_ret (pe_ix ix_list (pe_lst (pa_cons (pe_tup (pa_cons pe_str pa_nil)) (pa_cons (pe_tup (pa_cons pe_str pa_nil)) pa_nil)))
        (pe_op op_fdiv (pe_call G hr2 (by rfl) mG kG bG .nil pass0 (pa_cons (pv 0) (pa_cons pe_int pa_nil))) pe_int) (fun _ _ => rfl)))) pss_nil)
    (pss_cons (ps_if (pt_cmpR op_eq (pv 5) pe_int (nomark _)) (pss_one (ps_ret (pe_tup (pa_cons pe_str (pa_cons (pe_call ih hr (by rfl) mF F.kp bF .nil pass0 (pa_cons (pv 0) (pa_cons (pv 1) (pa_cons (pe_op op_sub (pv 2) pe_int) pa_nil)))) pa_nil))))) pss_nil)
    (pss_cons (ps_setLc (i := 6) (own := [("k", 7)]) (g := gName 7) (tt := tYes) rfl sc__law_condition.nd rfl rfl (sw_true rfl rfl rfl (by decide +kernel)) (pi_range1 rfl mr (pa_cons (pe_ix ix_list (pe_lst (pa_cons pe_int (pa_cons pe_int (pa_cons pe_int (pa_cons pe_int (pa_cons pe_int pa_nil))))))
          (pe_call G hr2 (by rfl) mG kG bG .nil pass0 (pa_cons (pv 0) (pa_cons pe_int pa_nil))) (fun _ _ => rfl)) pa_nil)) (blkOk_by (N := N__law_condition) (sc := defScope s__law_condition) (by decide +kernel))
        (fun _ _ _ _ _ => pg_name (i := 7) sc__law_condition.nd rfl (.inl rfl)) (fun _ _ _ _ _ => pts_nil) (fun _ _ _ _ _ => pe_call ih hr (by rfl) mF F.kp bF .nil pass0 (pa_cons (pv 0) (pa_cons (pv 1) (pa_cons (pe_op op_sub (pv 2) pe_int) pa_nil)))))
    (pss_one (ps_ret (pe_tup (pa_cons (pe_ix ix_list (pe_lst (pa_cons pe_str (pa_cons pe_str pa_nil))) (pe_op op_sub (pv 5) pe_int) (fun _ _ => rfl)) (pa_cons (pe_callTy call_tuple_of (by rfl) mt (by decide +kernel) (pa_cons (pv 6) pa_nil)) pa_nil)))))))))))))
    , ?_⟩
  refine ⟨_, rfl, _, rfl, dr, r, rfl, hd, fun one H1 o1 ex1 hd1 => ?_⟩
  refine ⟨_, rfl, _, rfl, dr, r, rfl, hd1, fun other H2 o2 ex2 hd2 => ?_⟩
  refine ⟨_, rfl, dr, 12, rfl, by decide, hd2, fun kind H3 k0 k1 ex3 hd3 => ?_⟩
  have ex : Ex T [dr] H H3 := (ex1.trans ex2).trans ex3
  have less : ∀ p, H3 p = none → Q (.ref p) (upd H3 p (.tup [.str "less", .int one, .int other])) := fun p np => q _ _ _ (new_less np) (okC_less o1 o2) (ex.trans (Ex.new np)) (hd3.new np)
  refine ⟨fun σ' H' => σ' = [some (.ref dr), some (.int r), some (.int d), some (.int one), some (.int other), some (.int kind), none, none] ∧ H' = H3 ∧ 5 ≤ kind ∧ (kind ≤ 8 ∨ 1 ≤ d), ?_, ?_⟩
  · refine ⟨_, rfl, _, _, rfl, rfl, _, rfl, ite2 (fun c => ?_) (fun c => ?_)⟩
    · exact iteT ⟨_, rfl, _, rfl, by show 3 ≤ sizeLine; decide, less⟩
    have c5 : 5 ≤ kind := by have := of_decide_eq_false (Bool.eq_false_iff.mpr c); omega
    refine ⟨_, rfl, _, _, rfl, rfl, _, rfl, ite2 (fun cd => ?_) (fun cd => ?_)⟩
    · refine ⟨_, rfl, _, _, rfl, rfl, _, rfl, ?_⟩
      by_cases ck : (8 : Int) < kind
      · rw [decide_eq_true ck]
        exact iteT ⟨_, rfl, _, rfl, by show 3 ≤ sizeLine; decide, less⟩
      · rw [decide_eq_false ck]
        exact iteF ⟨rfl, rfl, c5, .inl (by omega)⟩
    · have cd' : ¬ d < 1 := of_decide_eq_false (Bool.eq_false_iff.mpr cd)
      exact iteF ⟨rfl, rfl, c5, .inr (by omega)⟩
  rintro σ' H' ⟨rfl, rfl, c5, cor⟩
  have ne3 : ∀ {p : Addr}, H' p = none → p ≠ dr := fun np => hd3.ne np
  -- kind == 5
  refine ⟨_, rfl, rfl, _, rfl, ite2 (fun c => ?_) (fun c => ?_)⟩
  · refine ⟨_, rfl, _, rfl, by show 3 ≤ sizeLine; decide, fun p np => ?_⟩
    refine ⟨_, rfl, by show 2 ≤ sizeLine; decide, fun p2 np2 => ?_⟩
    refine ⟨by show 2 ≤ sizeLine; decide, fun l nl => ?_⟩
    have hdl := ((hd3.new (o := .tup [.str "same", .int one, .int other]) np).new (o := .tup [.str "empty", .int one]) np2).new (o := .lst [.ref p, .ref p2]) nl
    have nel : l ≠ dr := ((hd3.new np).new np2).ne nl
    refine ⟨_, rfl, dr, 2, rfl, by decide, hdl, fun y H4 y0 y1 ex4 hd4 => ?_⟩
    have hl4 : H4 l = some (.lst [.ref p, .ref p2]) := ex4.lst (by simpa using nel) upd_same
    have exT : Ex T [dr] H H4 := ((((ex.trans (Ex.new np)).trans (Ex.new np2)).trans (Ex.new nl)).trans ex4)
    have exA : Ex T [dr] (upd H' p (.tup [.str "same", .int one, .int other])) H4 := ((Ex.new np2).trans (Ex.new nl)).trans ex4
    have exB : Ex T [dr] (upd (upd H' p (.tup [.str "same", .int one, .int other])) p2 (.tup [.str "empty", .int one])) H4 := (Ex.new nl).trans ex4
    have yc : y = 0 ∨ y = 1 := by omega
    rcases yc with rfl | rfl
    · exact ⟨l, _, _, _, rfl, rfl, SqL.of hl4, rfl, q _ _ _ ((new_same np).ext exA) (okC_same o1 o2) exT hd4⟩
    · exact ⟨l, _, _, _, rfl, rfl, SqL.of hl4, rfl, q _ _ _ ((new_emp np2).ext exB) (okC_emp o1) exT hd4⟩
  have c6 : kind ≠ 5 := by simpa using c
  -- kind < 8
  refine ⟨_, rfl, _, _, rfl, rfl, _, rfl, ite2 (fun c => ?_) (fun c => ?_)⟩
  · refine ⟨_, rfl, _, rfl, by show 3 ≤ sizeLine; decide, fun p np => ?_⟩
    refine ⟨_, rfl, _, rfl, by show 3 ≤ sizeLine; decide, fun p2 np2 => ?_⟩
    refine ⟨by show 2 ≤ sizeLine; decide, fun l nl => ?_⟩
    refine ⟨by show 2 ≤ sizeLine; decide, fun l2 nl2 => ?_⟩
    have exA : Ex T [dr] (upd H' p (.tup [.str "less", .int one, .int (-1)])) _ := Ex.new (o := .tup [.str "less", .int (-1), .int other]) np2
    have mn : plOk r (-1) := ⟨by decide, by omega⟩
    have hl : At K (upd (upd (upd H' p (.tup [.str "less", .int one, .int (-1)])) p2 (.tup [.str "less", .int (-1), .int other])) l (.tup [.ref p, .ref p2])) (.ref l) (.tup (encCs [.less one (-1), .less (-1) other])) :=
      At.laid nl (ats_c2 ((new_less np).ext exA) (new_less np2))
    exact q _ _ _ (new_all nl2 hl) (okC_all (by show 2 ≤ 100000; decide) (okCs_cons (okC_less o1 mn) (okCs_cons (okC_less mn o2) okCs_nil))) ((((ex.trans (Ex.new np)).trans (Ex.new np2)).trans (Ex.new nl)).trans (Ex.new nl2)) ((((hd3.new np).new np2).new nl).new nl2)
  have c8 : 8 ≤ kind := by have := of_decide_eq_false (Bool.eq_false_iff.mpr c); omega
  -- kind == 8
  refine ⟨_, rfl, rfl, _, rfl, ite2 (fun c => ?_) (fun c => ?_)⟩
  · refine ⟨by show 1 ≤ sizeLine; decide, fun p np => ?_⟩
    refine ⟨by show 1 ≤ sizeLine; decide, fun p2 np2 => ?_⟩
    refine ⟨by show 2 ≤ sizeLine; decide, fun l nl => ?_⟩
    have hdl := ((hd3.new (o := .tup [.str "true"]) np).new (o := .tup [.str "false"]) np2).new (o := .lst [.ref p, .ref p2]) nl
    have nel : l ≠ dr := ((hd3.new np).new np2).ne nl
    refine ⟨_, rfl, dr, 4, rfl, by decide, hdl, fun y H4 y0 y1 ex4 hd4 => ⟨_, _, rfl, rfl, ⟨by decide, by decide⟩, ?_⟩⟩
    have hl4 : H4 l = some (.lst [.ref p, .ref p2]) := ex4.lst (by simpa using nel) upd_same
    have exT : Ex T [dr] H H4 := ((((ex.trans (Ex.new np)).trans (Ex.new np2)).trans (Ex.new nl)).trans ex4)
    have exA : Ex T [dr] (upd H' p (.tup [.str "true"])) H4 := ((Ex.new np2).trans (Ex.new nl)).trans ex4
    have exB : Ex T [dr] (upd (upd H' p (.tup [.str "true"])) p2 (.tup [.str "false"])) H4 := (Ex.new nl).trans ex4
    have yc : y / 3 = 0 ∨ y / 3 = 1 := by omega
    rcases yc with e | e
    · exact ⟨l, _, _, .ref p, rfl, rfl, SqL.of hl4, by rw [e]; rfl, q _ _ _ ((new_tru np).ext exA) okC_tru exT hd4⟩
    · exact ⟨l, _, _, .ref p2, rfl, rfl, SqL.of hl4, by rw [e]; rfl, q _ _ _ ((new_fls np2).ext exB) okC_fls exT hd4⟩
  have c9 : kind ≠ 8 := by simpa using c
  have d1 : 1 ≤ d := by omega
  cases n with
  | zero => omega
  | succ n =>
  -- kind == 9
  refine ⟨_, rfl, rfl, _, rfl, ite2 (fun c => ?_) (fun c => ?_)⟩
  · refine ⟨_, rfl, _, rfl, _, rfl, _, _, rfl, rfl, dr, r, n, d - 1, rfl, rfl, by omega, ex.wd wd, hd3, fun v H4 c4 at4 ok4 ex4 hd4 => ?_⟩
    refine ⟨by show 2 ≤ sizeLine; decide, fun l nl => ?_⟩
    exact q _ _ _ (new_nt nl at4) (okC_nt ok4) ((ex.trans ex4).trans (Ex.new nl)) (hd4.new nl)
  have c10 : kind ≠ 9 := by simpa using c
  -- row
  refine ⟨by show 5 ≤ sizeLine; decide, fun l nl => ?_⟩
  have nel : l ≠ dr := hd3.ne nl
  refine ⟨_, rfl, dr, 5, rfl, by decide, hd3.new nl, fun y H4 y0 y1 ex4 hd4 => ?_⟩
  have hl4 : H4 l = some (.lst (([0, 1, 2, 2, 3] : List Int).map V.int)) := ex4.lst (by simpa using nel) upd_same
  obtain ⟨vj, hvj, hat⟩ := menu_at (xs := ([0, 1, 2, 2, 3] : List Int).map V.int) y0 y1
  obtain ⟨j, hj, rfl⟩ := List.mem_map.mp hvj
  have hj' : 0 ≤ j ∧ j ≤ 3 := by
    simp only [List.mem_cons, List.not_mem_nil, or_false] at hj
    omega
  have exL : Ex T [dr] H H4 := (ex.trans (Ex.new nl)).trans ex4
  refine ⟨l, _, _, _, rfl, rfl, SqL.of hl4, hat, j, rfl, by omega, by omega, fun D nD => lc_range (lo := 0) (n := j.toNat) (fun i H5 => Ex T [dr] H H5 ∧ Dr H5 dr ∧ ∃ (xs : List V) (cs : List C), H5 D = some (.lst xs) ∧ Ats K H5 xs (encCs cs) ∧ cs.length = i ∧ okCs r (n + 1) cs)
    ⟨exL.trans (Ex.new nD), hd4.new nD, [], [], upd_same, by unfold encCs; exact Ats.mk_nil, rfl, okCs_nil⟩ ?_ ?_⟩
  · rintro i H5 hi ⟨ex5, hd5, xs, cs, hD, ats, hl, oks⟩
    have neD : D ≠ dr := hd4.ne nD
    refine ⟨rfl, yesIf ⟨_, rfl, _, rfl, _, rfl, _, _, rfl, rfl, dr, r, n, d - 1, rfl, rfl, by omega, ex5.wd wd, hd5, fun v H6 c6' at6 ok6 ex6 hd6 => ?_⟩⟩
    have hD6 : H6 D = some (.lst xs) := ex6.lst (by simpa using neD) hD
    have xl : xs.length = cs.length := by rw [ats.length, encCs_length]
    have exw : Ex T [D] H6 (upd H6 D (.lst (xs ++ [v]))) := Ex.write (by simp) hD6
    refine ⟨xs, hD6, small5000 (by omega), (ex5.trans ex6).put (exL.free nD) wd, hd6.put neD.symm, xs ++ [v], cs ++ [c6'], upd_same, ?_, by rw [List.length_append]; exact congrArg (· + 1) hl, okCs_snoc oks ok6⟩
    rw [encCs_snoc]
    exact ((ats.ext ex6).append (Ats.mk at6 Ats.mk_nil)).ext exw
  · rintro H5 ⟨ex5, hd5, xs, cs, hD, ats, hl, oks⟩
    have neD : D ≠ dr := hd4.ne nD
    refine ⟨by show 2 ≤ sizeLine; decide, fun l5 nl5 => ?_⟩
    have nD5 : D ≠ l5 := ne_of_none hD nl5
    have hD5 : ∀ o, (upd H5 l5 o) D = some (.lst xs) := fun o => by rw [upd_ne nD5]; exact hD
    have kc : kind = 10 ∨ kind = 11 := by omega
    have fin : ∀ (k0 : Str) (l6 : Addr) (o5 : HO), (upd H5 l5 o5) l6 = none → At K (upd (upd H5 l5 o5) l6 (.tup xs)) (.ref l6) (.tup (encCs cs)) := fun k0 l6 o5 n6 => At.laid n6 (ats.ext (T := T) (ms := []) (Ex.new nl5))
    rcases kc with rfl | rfl
    · refine ⟨_, rfl, _, _, rfl, rfl, l5, _, _, .str "all", rfl, rfl, SqL.of upd_same, rfl, _, rfl, D, _, rfl, .inl ⟨SqL.of (hD5 _), fun l6 nl6 => ⟨by show 2 ≤ sizeLine; decide, fun l7 nl7 => ?_⟩⟩⟩
      exact q _ _ _ (new_all nl7 (fin "all" l6 _ nl6)) (okC_all (by omega) oks) (((ex5.trans (Ex.new nl5)).trans (Ex.new nl6)).trans (Ex.new nl7)) (((hd5.new nl5).new nl6).new nl7)
    · refine ⟨_, rfl, _, _, rfl, rfl, l5, _, _, .str "any", rfl, rfl, SqL.of upd_same, rfl, _, rfl, D, _, rfl, .inl ⟨SqL.of (hD5 _), fun l6 nl6 => ⟨by show 2 ≤ sizeLine; decide, fun l7 nl7 => ?_⟩⟩⟩
      exact q _ _ _ (new_any nl7 (fin "any" l6 _ nl6)) (okC_any (by omega) oks) (((ex5.trans (Ex.new nl5)).trans (Ex.new nl6)).trans (Ex.new nl7)) (((hd5.new nl5).new nl6).new nl7)

abbrev N__law_cases : List Str := ["draws", "registers", "standings", "depth", "found", "k", "condition", "moves"]
theorem sc__law_cases : FnScope N__law_cases ["draws", "registers", "standings"] (defScope s__law_cases) := ⟨rfl, rfl, rfl, by decide +kernel, rfl, by decide +kernel, by decide +kernel⟩
def casesOk (r S n : Nat) (cs : List Case) : Prop := cs.length ≤ 1000 ∧ ∀ c ∈ cs, okCase r S n c
def sp__law_cases (K : PySem.W.Frag) (T : List Addr) : Sp := fun vs H Q _ => ∃ (dr : Addr) (r S : Nat), vs = [.ref dr, .int r, .int S] ∧ r ≤ 1000 ∧ 0 < S ∧ Wd T H ∧ Dr H dr ∧
  ∀ v H' (cs : List Case), At K H' v (encCases cs) → casesOk r S 3 cs → Ex T [dr] H H' → Dr H' dr → Q v H'
theorem ok__law_cases {f g gc gm gs : Addr} {fd gd gcd gmd gsd : FuncData} {k : Nat} {T : List Addr} (F : Fun K "_law_cases" "_law_cases" s__law_cases f fd) (mr : mg "range" = none) (mt : mg "tuple" = none) (mi : mg "int" = none)
    (G : FnOk P w K mg base CX0 k g gd ["draws", "many"] (sp__law_take T)) (kG : PySem.W.keepIn K (.ref g) = true) (bG : Binds K gd ["draws", "many"] []) (mG : mg "_law_take" = some (.ref g))
    (GC : FnOk P w K mg base CX0 k gc gcd ["draws", "registers", "depth"] (sp__law_condition K T 3)) (kC : PySem.W.keepIn K (.ref gc) = true) (bC : Binds K gcd ["draws", "registers", "depth"] []) (mC : mg "_law_condition" = some (.ref gc))
    (GM : FnOk P w K mg base CX0 k gm gmd ["draws", "registers"] (sp__law_moves K T)) (kM : PySem.W.keepIn K (.ref gm) = true) (bM : Binds K gmd ["draws", "registers"] []) (mM : mg "_law_moves" = some (.ref gm))
    (GS : FnOk P w K mg base CX0 k gs gsd ["draws", "registers"] (sp__law_says K T)) (kS : PySem.W.keepIn K (.ref gs) = true) (bS : Binds K gsd ["draws", "registers"] []) (mS : mg "_law_says" = some (.ref gs)) :
    FnOk P w K mg base CX0 (k + 1) f fd ["draws", "registers", "standings"] (sp__law_cases K T) := by
  refine F.ok sc__law_cases (fun vs H Q E h => ?_) (fun cdv A outer s H vs Q E hr h => ?_)
  · obtain ⟨dr, r, S, rfl, _⟩ := h
    rfl
  obtain ⟨dr, r, S, rfl, hr0, hS, wd, hd, q⟩ := h
  refine ⟨_, C8.pss_cut (ps_set (i := 3) sc__law_cases.nd rfl (.inl rfl) (pe_ix ix_list (pe_lst (pa_cons pe_int (pa_cons pe_int pa_nil))) (pe_callTy call_int1 (by rfl) mi (by decide +kernel) (pa_cons (pe_cmpR op_gt (pv 2) pe_int (nomark _)) pa_nil)) (fun _ _ => rfl)))
    (pss_cons (ps_set (i := 4) sc__law_cases.nd rfl (.inl rfl) (pe_lst pa_nil))
    (pss_cons (ps_for PassesOwn.never rfl (pi_range1 rfl mr (pa_cons (pe_ix ix_list (pe_lst (pa_cons pe_int (pa_cons pe_int (pa_cons pe_int (pa_cons pe_int (pa_cons pe_int (pa_cons pe_int (pa_cons pe_int pa_nil))))))))
        (pe_call G hr (by rfl) mG kG bG .nil pass0 (pa_cons (pv 0) (pa_cons pe_int pa_nil))) (fun _ _ => rfl)) pa_nil)) (pg_name (i := 5) sc__law_cases.nd rfl (.inl rfl))
      (pss_cons (ps_set (i := 6) sc__law_cases.nd rfl (.inl rfl) (pe_call GC hr (by rfl) mC kC bC .nil pass0 (pa_cons (pv 0) (pa_cons (pv 1) (pa_cons (pv 3) pa_nil)))))
      (pss_cons (ps_set (i := 7) sc__law_cases.nd rfl (.inl rfl) (pe_call GM hr (by rfl) mM kM bM .nil pass0 (pa_cons (pv 0) (pa_cons (pv 1) pa_nil))))
      (pss_one (ps_expr (pe_bm PySem.F.plainAttrs_list PySem.F.slot_list_append PySem.F.type_list_append mt_append (pv 4) (pa_cons (pe_tup (pa_cons (pv 6) (pa_cons (pv 7)
        (pa_cons (pe_call GS hr (by rfl) mS kS bS .nil pass0 (pa_cons (pv 0) (pa_cons (pv 1) pa_nil))) (pa_cons (pe_call G hr (by rfl) mG kG bG .nil pass0 (pa_cons (pv 0) (pa_cons (pv 2) pa_nil))) pa_nil))))) pa_nil)))))))
    (pss_one (ps_ret (pe_callTy call_tuple_of (by rfl) mt (by decide +kernel) (pa_cons (pv 4) pa_nil)))))), ?_⟩
  refine ⟨fun σ' H' => ∃ d : Int, σ' = [some (.ref dr), some (.int r), some (.int S), some (.int d), none, none, none, none] ∧ 0 ≤ d ∧ d ≤ 2 ∧ Ex T [dr] H H' ∧ Dr H' dr, ?_, ?_⟩
  · refine ⟨by show 2 ≤ sizeLine; decide, fun p np => ?_⟩
    refine ⟨_, rfl, _, _, rfl, rfl, .inr ⟨_, rfl, ?_⟩⟩
    by_cases c : (10 : Int) < S
    · rw [decide_eq_true c, if_pos rfl]
      exact ⟨p, _, _, _, rfl, rfl, SqL.of upd_same, rfl, 0, rfl, by omega, by omega, Ex.new np, hd.new np⟩
    · rw [decide_eq_false c, if_neg Bool.false_ne_true]
      exact ⟨p, _, _, _, rfl, rfl, SqL.of upd_same, rfl, 2, rfl, by omega, by omega, Ex.new np, hd.new np⟩
  rintro σ' H0 ⟨d, rfl, d0, d2, ex0, hd0⟩
  refine ⟨Nat.zero_le _, fun F0 nF => ?_⟩
  have free : H F0 = none := ex0.free nF
  have neF : F0 ≠ dr := hd0.ne nF
  have cl0 : Col K T [dr] F0 H (upd H0 F0 (.lst [])) [] := Col.start ex0 nF
  refine ⟨by show 7 ≤ sizeLine; decide, fun p np => ⟨_, rfl, dr, 7, rfl, by decide, (hd0.new nF).new np, fun y H1 y0 y1 ex1 hd1 => ?_⟩⟩
  obtain ⟨v, hv, hat⟩ := menu_at (xs := ([1, 1, 2, 2, 3, 4, 0] : List Int).map V.int) y0 y1
  obtain ⟨z, hz, rfl⟩ := List.mem_map.mp hv
  simp only [List.mem_cons, List.not_mem_nil, or_false] at hz
  have z0 : 0 ≤ z := by omega
  have z8 : z ≤ 8 := by omega
  have exP : Ex T [dr] (upd H0 F0 (.lst [])) H1 := (Ex.new np).trans ex1
  refine ⟨p, _, _, _, rfl, rfl, SqL.of (ex1.lst (by simpa using (hd0.new nF).ne np) upd_same), hat, z, rfl, by omega, by omega, ?_⟩
  refine for_range (lo := 0) (n := z.toNat) (fun i σ' H' => (∃ y5 y6 y7, σ' = [some (.ref dr), some (.int r), some (.int S), some (.int d), some (.ref F0), y5, y6, y7]) ∧ Dr H' dr ∧ ∃ cs : List Case, Col K T [dr] F0 H H' (cs.map encCase) ∧ cs.length = i ∧ ∀ c ∈ cs, okCase r S 3 c) ?_ ?_ ?_
  · exact ⟨⟨_, _, _, rfl⟩, hd1, [], cl0.ext (by simpa using neF) exP, rfl, fun s hs => by cases hs⟩
  · rintro i σ' H' hi ⟨⟨y5, y6, y7, rfl⟩, hd', cs, cl, hl, hcs⟩
    have wd' : Wd T H' := cl.1.wd wd
    refine ⟨_, rfl, _, rfl, _, rfl, dr, r, 2, d, rfl, rfl, by omega, wd', hd', fun vc Ha c atc okc exa hda => ?_⟩
    refine ⟨_, rfl, _, rfl, dr, r, rfl, hr0, exa.wd wd', hda, fun vm Hb mv atm lm okm exb hdb => ?_⟩
    have exab := exa.trans exb
    obtain ⟨xs0, hF0⟩ := (show ∃ xs0, Hb F0 = some (.lst xs0) from let ⟨_, xs, h, _⟩ := cl; ⟨xs, exab.lst (by simpa using neF) h⟩)
    refine ⟨_, rfl, .inl ⟨rfl, _, .inl (.inl hF0)⟩, _, rfl, _, rfl, _, rfl, _, rfl, dr, r, rfl, exab.wd wd', hdb, fun vs' Hc sy ats lsy oks exc hdc => ?_⟩
    refine ⟨_, rfl, _, rfl, dr, S, rfl, by omega, hdc, fun nx He n0 n1 exe hde => ⟨by show 4 ≤ sizeLine; decide, fun l nl => ?_⟩⟩
    have exl : Ex T [dr] He (upd He l (.tup [vc, vm, vs', .int nx])) := Ex.new nl
    have enx : nx = ((nx.toNat : Nat) : Int) := by omega
    obtain ⟨acc, k1, k2, k3⟩ := cl.put free (by simpa using neF) wd (((exab.trans exc).trans exe).trans exl) (d := encCase ⟨c, mv, sy, nx.toNat⟩) (x := .ref l)
      (At.laid nl (Ats.mk (((atc.ext exb).ext exc).ext exe) (Ats.mk ((atm.ext exc).ext exe) (Ats.mk (ats.ext exe) (Ats.mk (at_int.mpr (by rw [← enx])) Ats.mk_nil))))) (by rw [List.length_map]; omega)
    refine ⟨F0, _, _, rfl, rfl, k1, k2, ⟨_, _, _, rfl⟩, (hde.new nl).put neF.symm, cs ++ [⟨c, mv, sy, nx.toNat⟩], ?_, by rw [List.length_append, hl]; rfl, ?_⟩
    · rw [List.map_append]
      exact k3
    · intro s hs
      rcases List.mem_append.mp hs with h | h
      · exact hcs s h
      · obtain rfl := List.mem_singleton.mp h
        exact ⟨okc, lm, okm, oks, lsy, by show nx.toNat < S; omega⟩
  · rintro σ' H' ⟨⟨y5, y6, y7, rfl⟩, hd', cs, ⟨ex, xs, hF, ats⟩, hl, hcs⟩
    refine ⟨_, rfl, F0, _, rfl, .inl ⟨SqL.of hF, fun l nl => ?_⟩⟩
    exact q _ _ cs (At.laid nl ats) ⟨by omega, hcs⟩ (ex.trans (Ex.new nl)) (hd'.new nl)

abbrev N__law_machine : List Str := ["draws", "tags", "registers", "standings", "steps", "k", "tag"]
theorem sc__law_machine : FnScope N__law_machine ["draws", "tags", "registers", "standings"] (defScope s__law_machine) := ⟨rfl, rfl, rfl, by decide +kernel, rfl, by decide +kernel, by decide +kernel⟩
def sp__law_machine (K : PySem.W.Frag) (T : List Addr) : Sp := fun vs H Q _ => ∃ (dr : Addr) (t r S : Nat), vs = [.ref dr, .int t, .int r, .int S] ∧ 1 ≤ t ∧ t ≤ 1000 ∧ r ≤ 1000 ∧ 0 < S ∧ S ≤ 1000 ∧ Wd T H ∧ Dr H dr ∧
  ∀ v H' (m : M), At K H' v (encM m) → okM 3 m → Ex T [dr] H H' → Dr H' dr → Q v H'
theorem ok__law_machine {f g : Addr} {fd gd : FuncData} {k : Nat} {T : List Addr} (F : Fun K "_law_machine" "_law_machine" s__law_machine f fd) (mr : mg "range" = none) (mt : mg "tuple" = none)
    (G : FnOk P w K mg base CX0 k g gd ["draws", "registers", "standings"] (sp__law_cases K T)) (kG : PySem.W.keepIn K (.ref g) = true) (bG : Binds K gd ["draws", "registers", "standings"] []) (mG : mg "_law_cases" = some (.ref g)) :
    FnOk P w K mg base CX0 (k + 1) f fd ["draws", "tags", "registers", "standings"] (sp__law_machine K T) := by
  refine F.ok sc__law_machine (fun vs H Q E h => ?_) (fun cdv A outer s H vs Q E hr h => ?_)
  · obtain ⟨dr, t, r, S, rfl, _⟩ := h
    rfl
  obtain ⟨dr, t, r, S, rfl, ht1, ht, hr0, hS0, hS, wd, hd, q⟩ := h
  refine ⟨_, pss_cons (ps_set (i := 4) sc__law_machine.nd rfl (.inl rfl) (pe_lst pa_nil))
    (pss_cons (ps_for PassesOwn.never rfl (pi_range1 rfl mr (pa_cons (pv 3) pa_nil)) (pg_name (i := 5) sc__law_machine.nd rfl (.inl rfl))
      (pss_one (ps_expr (pe_bm PySem.F.plainAttrs_list PySem.F.slot_list_append PySem.F.type_list_append mt_append (pv 4) (pa_cons (pe_callTy call_tuple_of (by rfl) mt (by decide +kernel) (pa_cons
        (pe_lc (own := [("tag", 6)]) (g := gName 6) (tt := tYes) rfl sc__law_machine.nd (pi_range1 rfl mr (pa_cons (pv 1) pa_nil)) (blkOk_by (N := N__law_machine) (sc := defScope s__law_machine) (by decide +kernel))
          (fun _ _ _ _ _ => pg_name (i := 6) sc__law_machine.nd rfl (.inl rfl)) (fun _ _ _ _ _ => pts_nil)
          (fun _ _ _ _ _ => pe_call G hr (by rfl) mG kG bG .nil pass0 (pa_cons (pv 0) (pa_cons (pv 2) (pa_cons (pv 3) pa_nil))))) pa_nil)) pa_nil)))))
    (pss_one (ps_ret (pe_tup (pa_cons (pv 1) (pa_cons (pv 2) (pa_cons (pe_callTy call_tuple_of (by rfl) mt (by decide +kernel) (pa_cons (pv 4) pa_nil)) pa_nil))))))), ?_⟩
  refine ⟨Nat.zero_le _, fun F0 nF => ?_⟩
  have neF : F0 ≠ dr := hd.ne nF
  refine ⟨_, rfl, _, rfl, by omega, by omega, for_range (lo := 0) (n := S) (fun i σ' H' => (∃ y5, σ' = [some (.ref dr), some (.int t), some (.int r), some (.int S), some (.ref F0), y5, none]) ∧ Dr H' dr ∧ ∃ ss : List (List (List Case)), Col K T [dr] F0 H H' (ss.map encSt) ∧ ss.length = i ∧ ∀ s ∈ ss, s.length = t ∧ ∀ cs ∈ s, casesOk r S 3 cs) ?_ ?_ ?_⟩
  · exact ⟨⟨_, rfl⟩, hd.new nF, [], Col.start Ex.refl nF, rfl, fun s hs => by cases hs⟩
  · rintro i σ' H' hi ⟨⟨y5, rfl⟩, hd', ss, cl, hl, hss⟩
    have wd' : Wd T H' := cl.1.wd wd
    obtain ⟨xs0, hF0⟩ := (show ∃ xs0, H' F0 = some (.lst xs0) from let ⟨_, xs, h, _⟩ := cl; ⟨xs, h⟩)
    refine ⟨_, rfl, .inl ⟨rfl, _, .inl (.inl hF0)⟩, _, rfl, _, rfl, by omega, by omega, fun D nD => lc_range (lo := 0) (n := t) (fun j H5 => Dr H5 dr ∧ ∃ s : List (List Case), Col K T [dr] D H' H5 (s.map encCases) ∧ s.length = j ∧ ∀ cs ∈ s, casesOk r S 3 cs) ⟨hd'.new nD, [], Col.start Ex.refl nD, rfl, fun p hp => by cases hp⟩ ?_ ?_⟩
    · rintro j H5 hj ⟨hd5, s, cl5, hl5, hs5⟩
      refine ⟨wipe1, yesIf ⟨_, rfl, _, rfl, _, rfl, dr, r, S, rfl, hr0, hS0, cl5.1.wd wd', hd5, fun v H6 cs at6 ok6 ex6 hd6 => ?_⟩⟩
      obtain ⟨acc, k1, k2, k3⟩ := cl5.put nD (by simpa using hd'.ne nD) wd' ex6 at6 (by rw [List.length_map]; omega)
      refine ⟨acc, k1, k2, hd6.put (hd'.ne nD).symm, s ++ [cs], ?_, by rw [List.length_append, hl5]; rfl, ?_⟩
      · rw [List.map_append]
        exact k3
      · intro c hc
        rcases List.mem_append.mp hc with h | h
        · exact hs5 c h
        · obtain rfl := List.mem_singleton.mp h
          exact ok6
    · rintro H5 ⟨hd5, s, ⟨ex, xs, hD, ats⟩, hl5, hs5⟩
      refine ⟨D, _, rfl, .inl ⟨SqL.of hD, fun l nl => ?_⟩⟩
      obtain ⟨acc, k1, k2, k3⟩ := cl.put nF (by simpa using neF) wd (ex.trans (Ex.new nl)) (d := encSt s) (x := .ref l) (At.laid nl ats) (by rw [List.length_map]; omega)
      refine ⟨F0, _, _, rfl, rfl, k1, k2, ⟨_, rfl⟩, (hd5.new nl).put neF.symm, ss ++ [s], ?_, by rw [List.length_append, hl]; rfl, ?_⟩
      · rw [List.map_append]
        exact k3
      · intro c hc
        rcases List.mem_append.mp hc with h | h
        · exact hss c h
        · obtain rfl := List.mem_singleton.mp h
          exact ⟨hl5, hs5⟩
  · rintro σ' H' ⟨⟨y5, rfl⟩, hd', ss, ⟨ex, xs, hF, ats⟩, hl, hss⟩
    refine ⟨_, rfl, _, rfl, _, rfl, F0, _, rfl, .inl ⟨SqL.of hF, fun l nl => ⟨by show 3 ≤ sizeLine; decide, fun l2 nl2 => ?_⟩⟩⟩
    refine q _ _ ⟨t, r, ss⟩ (At.laid nl2 (Ats.mk (at_int.mpr rfl) (Ats.mk (at_int.mpr rfl) (Ats.mk (At.laid nl ats) Ats.mk_nil)))) ?_ ((ex.trans (Ex.new nl)).trans (Ex.new nl2)) ((hd'.new nl).new nl2)
    exact ⟨ht1, ht, hr0, by show 0 < ss.length; omega, by show ss.length ≤ 1000; omega, fun s hs => (hss s hs).1, fun s hs cs hcs => by show cs.length ≤ 1000 ∧ ∀ c ∈ cs, okCase r ss.length 3 c; rw [hl]; exact (hss s hs).2 cs hcs⟩

abbrev N__law_any_machine : List Str := ["draws", "sizes", "large"]
theorem sc__law_any_machine : FnScope N__law_any_machine ["draws"] (defScope s__law_any_machine) := ⟨rfl, rfl, rfl, by decide +kernel, rfl, by decide +kernel, by decide +kernel⟩
def sp__law_any_machine (K : PySem.W.Frag) (T : List Addr) : Sp := fun vs H Q _ => ∃ (dr : Addr), vs = [.ref dr] ∧ Wd T H ∧ Dr H dr ∧
  ∀ v H' (m : M), At K H' v (encM m) → okM 3 m → Ex T [dr] H H' → Dr H' dr → Q v H'
theorem ok__law_any_machine {f g gm : Addr} {fd gd gmd : FuncData} {k : Nat} {T : List Addr} (F : Fun K "_law_any_machine" "_law_any_machine" s__law_any_machine f fd) (mm : mg "min" = none)
    (G : FnOk P w K mg base CX0 k g gd ["draws", "many"] (sp__law_take T)) (kG : PySem.W.keepIn K (.ref g) = true) (bG : Binds K gd ["draws", "many"] []) (mG : mg "_law_take" = some (.ref g))
    (GM : FnOk P w K mg base CX0 k gm gmd ["draws", "tags", "registers", "standings"] (sp__law_machine K T)) (kM : PySem.W.keepIn K (.ref gm) = true) (bM : Binds K gmd ["draws", "tags", "registers", "standings"] []) (mM : mg "_law_machine" = some (.ref gm)) :
    FnOk P w K mg base CX0 (k + 1) f fd ["draws"] (sp__law_any_machine K T) := by
  refine F.ok sc__law_any_machine (fun vs H Q E h => ?_) (fun cdv A outer s H vs Q E hr h => ?_)
  · obtain ⟨dr, rfl, _⟩ := h
    rfl
  obtain ⟨dr, rfl, wd, hd, q⟩ := h
  refine ⟨_, C8.pss_cut (ps_set (i := 1) sc__law_any_machine.nd rfl (.inl rfl) (pe_lst (pa_cons (pe_op op_add pe_int (pe_call G hr (by rfl) mG kG bG .nil pass0 (pa_cons (pv 0) (pa_cons pe_int pa_nil)))) (pa_cons (pe_call G hr (by rfl) mG kG bG .nil pass0 (pa_cons (pv 0) (pa_cons pe_int pa_nil)))
        (pa_cons (pe_op op_add pe_int (pe_call G hr (by rfl) mG kG bG .nil pass0 (pa_cons (pv 0) (pa_cons pe_int pa_nil)))) pa_nil)))))
    (C8.pss_cut (ps_set (i := 2) sc__law_any_machine.nd rfl (.inl rfl) (pe_call G hr (by rfl) mG kG bG .nil pass0 (pa_cons (pv 0) (pa_cons pe_int pa_nil))))
    (C8.pss_cut (ps_if (pt_cmpR op_lt (pv 2) pe_int (nomark _)) (pss_one (ps_set (i := 1) sc__law_any_machine.nd rfl (.inl rfl) (pe_ix ix_list (pe_lst (pa_cons (pe_lst (pa_cons pe_int (pa_cons pe_int (pa_cons pe_int pa_nil)))) (pa_cons (pe_lst (pa_cons pe_int (pa_cons pe_int (pa_cons pe_int pa_nil))))
        (pa_cons (pe_lst (pa_cons pe_int (pa_cons (pe_callB (call_min2 rfl) (by rfl) mm boot_min (pa_cons (pe_ix ix_list (pv 1) pe_int (fun _ _ => rfl)) (pa_cons pe_int pa_nil))) (pa_cons pe_int pa_nil)))) pa_nil)))) (pv 2) (fun _ _ => rfl)))) pss_nil)
    (pss_one (ps_ret (pe_call GM hr (by rfl) mM kM bM .nil pass0 (pa_cons (pv 0) (pa_cons (pe_ix ix_list (pv 1) pe_int (fun _ _ => rfl)) (pa_cons (pe_ix ix_list (pv 1) pe_int (fun _ _ => rfl)) (pa_cons (pe_ix ix_list (pv 1) pe_int (fun _ _ => rfl)) pa_nil))))))))), ?_⟩
  refine ⟨fun σ' H' => ∃ l t r S, σ' = [some (.ref dr), some (.ref l), none] ∧ H' l = some (.lst [.int t, .int r, .int S]) ∧ l ≠ dr ∧ 1 ≤ t ∧ t ≤ 1000 ∧ 0 ≤ r ∧ r ≤ 1000 ∧ 1 ≤ S ∧ S ≤ 1000 ∧ Ex T [dr] H H' ∧ Dr H' dr, ?_, ?_⟩
  · refine ⟨_, rfl, dr, 3, rfl, by decide, hd, fun x H1 x0 x1 ex1 hd1 => ⟨_, _, rfl, rfl, ?_⟩⟩
    refine ⟨_, rfl, dr, 5, rfl, by decide, hd1, fun y H2 y0 y1 ex2 hd2 => ?_⟩
    refine ⟨_, rfl, dr, 4, rfl, by decide, hd2, fun z H3 z0 z1 ex3 hd3 => ⟨_, _, rfl, rfl, ?_⟩⟩
    refine ⟨by show 3 ≤ sizeLine; decide, fun p np => ?_⟩
    exact ⟨p, 1 + x, y, 1 + z, rfl, upd_same, hd3.ne np, by omega, by omega, by omega, by omega, by omega, by omega, ((ex1.trans ex2).trans ex3).trans (Ex.new np), hd3.new np⟩
  rintro σ1 H1 ⟨l, t, r, S, rfl, hl, nl, t0, t1, r0, r1, S0, S1, ex1, hd1⟩
  refine ⟨fun σ' H' => ∃ l g t r S, σ' = [some (.ref dr), some (.ref l), some (.int g)] ∧ H' l = some (.lst [.int t, .int r, .int S]) ∧ l ≠ dr ∧ 0 ≤ g ∧ 1 ≤ t ∧ t ≤ 1000 ∧ 0 ≤ r ∧ r ≤ 1000 ∧ 1 ≤ S ∧ S ≤ 1000 ∧ Ex T [dr] H H' ∧ Dr H' dr, ?_, ?_⟩
  · exact ⟨_, rfl, dr, 10, rfl, by decide, hd1, fun x H2 x0 x1 ex2 hd2 => ⟨l, x, t, r, S, rfl, ex2.lst (by simpa using nl) hl, nl, x0, t0, t1, r0, r1, S0, S1, ex1.trans ex2, hd2⟩⟩
  clear hl nl t0 t1 r0 r1 S0 S1 ex1 hd1
  rintro σ2 H2 ⟨l, lg, t, r, S, rfl, hl, nl, g0, t0, t1, r0, r1, S0, S1, ex1, hd1⟩
  refine ⟨fun σ' H' => ∃ l g t r S, σ' = [some (.ref dr), some (.ref l), some (.int g)] ∧ H' l = some (.lst [.int t, .int r, .int S]) ∧ 1 ≤ t ∧ t ≤ 1000 ∧ 0 ≤ r ∧ r ≤ 1000 ∧ 1 ≤ S ∧ S ≤ 1000 ∧ Ex T [dr] H H' ∧ Dr H' dr, ?_, ?_⟩
  · refine ⟨_, rfl, _, _, rfl, rfl, _, rfl, ite2 (fun c => ?_) (fun c => ?_)⟩
    · have c3 : lg < 3 := of_decide_eq_true c
      refine ⟨by show 3 ≤ sizeLine; decide, fun p1 n1 => ⟨by show 3 ≤ sizeLine; decide, fun p2 n2 => ?_⟩⟩
      have hl2 : (upd (upd H2 p1 (.lst [.int 6, .int 6, .int 2])) p2 (.lst [.int 3, .int 4, .int 6])) l = some (.lst [.int t, .int r, .int S]) := by
        have e1 : (upd H2 p1 (.lst [.int 6, .int 6, .int 2])) l = some (.lst [.int t, .int r, .int S]) := by rw [upd_ne (ne_of_none hl n1)]; exact hl
        rw [upd_ne (ne_of_none e1 n2)]
        exact e1
      refine ⟨_, rfl, l, _, _, _, rfl, rfl, SqL.of hl2, rfl, r, 2, rfl, by show 3 ≤ sizeLine; decide, fun p3 n3 => ⟨by show 3 ≤ sizeLine; decide, fun p4 n4 => ?_⟩⟩
      have ea : Ex T [] H2 (upd H2 p1 (.lst [.int 6, .int 6, .int 2])) := Ex.new n1
      have eb : Ex T [] _ (upd (upd H2 p1 (.lst [.int 6, .int 6, .int 2])) p2 (.lst [.int 3, .int 4, .int 6])) := Ex.new n2
      have ec : Ex T [] _ _ := Ex.new (T := T) (ms := []) (o := .lst [.int 1, .int (if 2 < r then 2 else r), .int 40]) n3
      have ed : Ex T [] _ _ := Ex.new (T := T) (ms := []) (o := .lst [.ref p1, .ref p2, .ref p3]) n4
      have hdn := (((hd1.new (o := .lst [.int 6, .int 6, .int 2]) n1).new (o := .lst [.int 3, .int 4, .int 6]) n2).new (o := .lst [.int 1, .int (if 2 < r then 2 else r), .int 40]) n3).new (o := .lst [.ref p1, .ref p2, .ref p3]) n4
      have eall : Ex T [dr] H _ := ex1.trans ((((ea.trans eb).trans ec).trans ed).nil)
      have yc : lg = 0 ∨ lg = 1 ∨ lg = 2 := by omega
      rcases yc with rfl | rfl | rfl
      · exact ⟨_, rfl, p4, _, _, .ref p1, rfl, rfl, SqL.of upd_same, rfl, p1, 0, 6, 6, 2, rfl, ((eb.trans ec).trans ed).lst (by simp) upd_same, by omega, by omega, by omega, by omega, by omega, by omega, eall, hdn⟩
      · exact ⟨_, rfl, p4, _, _, .ref p2, rfl, rfl, SqL.of upd_same, rfl, p2, 1, 3, 4, 6, rfl, (ec.trans ed).lst (by simp) upd_same, by omega, by omega, by omega, by omega, by omega, by omega, eall, hdn⟩
      · exact ⟨_, rfl, p4, _, _, .ref p3, rfl, rfl, SqL.of upd_same, rfl, p3, 2, 1, _, 40, rfl, ed.lst (by simp) upd_same, by omega, by omega, by split <;> omega, by split <;> omega, by omega, by omega, eall, hdn⟩
    · exact ⟨l, lg, t, r, S, rfl, hl, t0, t1, r0, r1, S0, S1, ex1, hd1⟩
  clear hl nl t0 t1 r0 r1 S0 S1 ex1 hd1
  rintro σ3 H3 ⟨l, lg, t, r, S, rfl, hl, t0, t1, r0, r1, S0, S1, ex1, hd1⟩
  obtain ⟨t', rfl⟩ := Int.eq_ofNat_of_zero_le (show 0 ≤ t by omega)
  obtain ⟨r', rfl⟩ := Int.eq_ofNat_of_zero_le r0
  obtain ⟨S', rfl⟩ := Int.eq_ofNat_of_zero_le (show 0 ≤ S by omega)
  refine ⟨_, rfl, _, rfl, l, _, _, _, rfl, rfl, SqL.of hl, rfl, _, rfl, l, _, _, _, rfl, rfl, SqL.of hl, rfl, _, rfl, l, _, _, _, rfl, rfl, SqL.of hl, rfl, dr, t', r', S', rfl, by omega, by omega, by omega, by omega, by omega, ex1.wd wd, hd1, fun v H4 m at4 ok4 ex4 hd4 => q v H4 m at4 ok4 (ex1.trans ex4) hd4⟩

abbrev N__law_base : List Str := ["draws", "cell"]
theorem sc__law_base : FnScope N__law_base ["draws", "cell"] (defScope s__law_base) := ⟨rfl, rfl, rfl, by decide +kernel, rfl, by decide +kernel, by decide +kernel⟩
def sp__law_base (T : List Addr) : Sp := fun vs H Q _ => ∃ (dr : Addr) (c : Int), vs = [.ref dr, .int c] ∧ Dr H dr ∧ ∀ x H', (x = 0 ∨ x = -3 ∨ x = c) → Ex T [dr] H H' → Dr H' dr → Q (.int x) H'
theorem ok__law_base {f g : Addr} {fd gd : FuncData} {k : Nat} {T : List Addr} (F : Fun K "_law_base" "_law_base" s__law_base f fd)
    (G : FnOk P w K mg base CX0 k g gd ["draws", "many"] (sp__law_take T)) (kG : PySem.W.keepIn K (.ref g) = true) (bG : Binds K gd ["draws", "many"] []) (mG : mg "_law_take" = some (.ref g)) :
    FnOk P w K mg base CX0 (k + 1) f fd ["draws", "cell"] (sp__law_base T) := by
  refine F.ok sc__law_base (fun vs H Q E h => ?_) (fun cdv A outer s H vs Q E hr h => ?_)
  · obtain ⟨dr, c, rfl, _⟩ := h
    rfl
  obtain ⟨dr, c, rfl, hd, q⟩ := h
  refine ⟨_, pss_one (ps_ret (pe_ix ix_list (pe_lst (pa_cons pe_int (pa_cons (pe_un un_neg pe_int) (pa_cons (pv 1) pa_nil))))
        (pe_call G hr (by rfl) mG kG bG .nil pass0 (pa_cons (pv 0) (pa_cons pe_int pa_nil))) (fun _ _ => rfl))), ?_⟩
  refine ⟨_, rfl, _, rfl, by show 3 ≤ sizeLine; decide, fun p np => ?_⟩
  obtain ⟨ds, hd1'⟩ := hd
  have ne : dr ≠ p := ne_of_none hd1' np
  refine ⟨_, rfl, dr, 3, rfl, by decide, ⟨ds, by rw [upd_ne ne]; exact hd1'⟩, fun y H2 y0 y1 ex2 hd2 => ?_⟩
  have hp : H2 p = some (.lst (([0, -3, c] : List Int).map V.int)) := ex2.keep p _ (by simpa using ne.symm) upd_same (fun ps e => by cases e)
  exact ⟨p, _, _, _, rfl, rfl, SqL.of hp, iv_at y0 y1, q _ _ (by rcases (by omega : y = 0 ∨ y = 1 ∨ y = 2) with rfl | rfl | rfl; exact .inl rfl; exact .inr (.inl rfl); exact .inr (.inr rfl)) ((Ex.new np).trans ex2) hd2⟩

abbrev N__law_value : List Str := ["draws", "base", "wide"]
theorem sc__law_value : FnScope N__law_value ["draws", "base", "wide"] (defScope s__law_value) := ⟨rfl, rfl, rfl, by decide +kernel, rfl, by decide +kernel, by decide +kernel⟩
def sp__law_value (T : List Addr) : Sp := fun vs H Q _ => ∃ (dr : Addr) (b m : Int), vs = [.ref dr, .int b, .int m] ∧ 0 < m ∧ Dr H dr ∧ ∀ x H', x.natAbs ≤ b.natAbs + m.natAbs + 1000 → Ex T [dr] H H' → Dr H' dr → Q (.int x) H'
theorem ok__law_value {f g : Addr} {fd gd : FuncData} {k : Nat} {T : List Addr} (F : Fun K "_law_value" "_law_value" s__law_value f fd)
    (G : FnOk P w K mg base CX0 k g gd ["draws", "many"] (sp__law_take T)) (kG : PySem.W.keepIn K (.ref g) = true) (bG : Binds K gd ["draws", "many"] []) (mG : mg "_law_take" = some (.ref g)) :
    FnOk P w K mg base CX0 (k + 1) f fd ["draws", "base", "wide"] (sp__law_value T) := by
  refine F.ok sc__law_value (fun vs H Q E h => ?_) (fun cdv A outer s H vs Q E hr h => ?_)
  · obtain ⟨dr, b, m, rfl, _⟩ := h
    rfl
  obtain ⟨dr, b, m, rfl, hm, hd, q⟩ := h
  refine ⟨_, pss_cons (ps_if (pt_cmpR op_eq (pe_call G hr (by rfl) mG kG bG .nil pass0 (pa_cons (pv 0) (pa_cons pe_int pa_nil))) pe_int (nomark _))
      (pss_one (ps_ret (pe_ix ix_list (pe_lst (pa_cons (pe_op op_add (pv 1) pe_int) (pa_cons (pe_op op_sub (pv 1) pe_int) (pa_cons pe_int (pa_cons (pe_un un_neg (pv 1)) pa_nil)))))
        (pe_call G hr (by rfl) mG kG bG .nil pass0 (pa_cons (pv 0) (pa_cons pe_int pa_nil))) (fun _ _ => rfl)))) pss_nil)
    (pss_one (ps_ret (pe_op op_add (pv 1) (pe_call G hr (by rfl) mG kG bG .nil pass0 (pa_cons (pv 0) (pa_cons (pv 2) pa_nil)))))), ?_⟩
  refine ⟨_, rfl, dr, 12, rfl, by decide, hd, fun x H1 x0 x1 ex1 hd1 => ⟨rfl, _, rfl, ite2 (fun c => ?_) (fun c => ?_)⟩⟩
  · refine ⟨_, rfl, _, _, rfl, rfl, _, rfl, _, _, rfl, rfl, _, rfl, _, rfl, by show 4 ≤ sizeLine; decide, fun p np => ?_⟩
    obtain ⟨ds, hd1'⟩ := hd1
    have ne : dr ≠ p := ne_of_none hd1' np
    refine ⟨_, rfl, dr, 4, rfl, by decide, ⟨ds, by rw [upd_ne ne]; exact hd1'⟩, fun y H2 y0 y1 ex2 hd2 => ?_⟩
    have hp : H2 p = some (.lst (([b + 1000, b - 1000, 0, -b] : List Int).map V.int)) := ex2.keep p _ (by simpa using ne.symm) upd_same (fun ps e => by cases e)
    exact ⟨p, _, _, _, rfl, rfl, SqL.of hp, iv_at y0 y1, q _ _ (by rcases (by omega : y = 0 ∨ y = 1 ∨ y = 2 ∨ y = 3) with rfl | rfl | rfl | rfl; (show (b + 1000).natAbs ≤ _; omega); (show (b - 1000).natAbs ≤ _; omega); (show (0 : Int).natAbs ≤ _; omega); (show (-b).natAbs ≤ _; omega)) ((ex1.trans (Ex.new np)).trans ex2) hd2⟩
  · exact ⟨_, rfl, _, rfl, _, rfl, dr, m, rfl, hm, hd1, fun y H2 y0 y1 ex2 hd2 => ⟨_, _, rfl, rfl, q _ _ (by omega) (ex1.trans ex2) hd2⟩⟩

abbrev N__law_log : List Str := ["draws", "tags", "most", "base", "wide", "k"]
theorem sc__law_log : FnScope N__law_log ["draws", "tags", "most", "base"] (defScope s__law_log) := ⟨rfl, rfl, rfl, by decide +kernel, rfl, by decide +kernel, by decide +kernel⟩
def sp__law_log (K : PySem.W.Frag) (T : List Addr) : Sp := fun vs H Q _ => ∃ (dr : Addr) (t : Nat) (mo b : Int), vs = [.ref dr, .int t, .int mo, .int b] ∧ 1 ≤ t ∧ 0 ≤ mo ∧ mo ≤ 1000 ∧ Wd T H ∧ Dr H dr ∧
  ∀ v H' (es : List (Nat × Int)), At K H' v (.tup (es.map encE)) → (es.length : Int) ≤ mo → (∀ e ∈ es, e.1 < t ∧ e.2.natAbs ≤ b.natAbs + 1009) → Ex T [dr] H H' → Dr H' dr → Q v H'
theorem ok__law_log {f g gv : Addr} {fd gd gvd : FuncData} {k : Nat} {T : List Addr} (F : Fun K "_law_log" "_law_log" s__law_log f fd) (mr : mg "range" = none) (mt : mg "tuple" = none)
    (G : FnOk P w K mg base CX0 k g gd ["draws", "many"] (sp__law_take T)) (kG : PySem.W.keepIn K (.ref g) = true) (bG : Binds K gd ["draws", "many"] []) (mG : mg "_law_take" = some (.ref g))
    (GV : FnOk P w K mg base CX0 k gv gvd ["draws", "base", "wide"] (sp__law_value T)) (kV : PySem.W.keepIn K (.ref gv) = true) (bV : Binds K gvd ["draws", "base", "wide"] []) (mV : mg "_law_value" = some (.ref gv)) :
    FnOk P w K mg base CX0 (k + 1) f fd ["draws", "tags", "most", "base"] (sp__law_log K T) := by
  refine F.ok sc__law_log (fun vs H Q E h => ?_) (fun cdv A outer s H vs Q E hr h => ?_)
  · obtain ⟨dr, t, mo, b, rfl, _⟩ := h
    rfl
  obtain ⟨dr, t, mo, b, rfl, ht, hm0, hm, wd, hd, q⟩ := h
  refine ⟨_, pss_cons (ps_set (i := 4) sc__law_log.nd rfl (.inr rfl) (pe_ix ix_list (pe_lst (pa_cons pe_int (pa_cons pe_int (pa_cons pe_int (pa_cons pe_int pa_nil)))))
        (pe_call G hr (by rfl) mG kG bG .nil pass0 (pa_cons (pv 0) (pa_cons pe_int pa_nil))) (fun _ _ => rfl)))
    (pss_one (ps_ret (pe_callTy call_tuple_of (by rfl) mt (by decide +kernel) (pa_cons
      (pe_lc (own := [("k", 5)]) (g := gName 5) (tt := tYes) rfl sc__law_log.nd (pi_range1 rfl mr (pa_cons (pe_call G hr (by rfl) mG kG bG .nil pass0 (pa_cons (pv 0) (pa_cons (pe_op op_add (pv 2) pe_int) pa_nil))) pa_nil)) (blkOk_by (N := N__law_log) (sc := defScope s__law_log) (by decide +kernel))
        (fun _ _ _ _ _ => pg_name (i := 5) sc__law_log.nd rfl (.inl rfl)) (fun _ _ _ _ _ => pts_nil)
        (fun _ _ _ _ _ => pe_tup (pa_cons (pe_call G hr (by rfl) mG kG bG .nil pass0 (pa_cons (pv 0) (pa_cons (pv 1) pa_nil))) (pa_cons (pe_call GV hr (by rfl) mV kV bV .nil pass0 (pa_cons (pv 0) (pa_cons (pv 3) (pa_cons (pv 4) pa_nil)))) pa_nil)))) pa_nil)))), ?_⟩
  refine ⟨by show 4 ≤ sizeLine; decide, fun p np => ⟨_, rfl, dr, 4, rfl, by decide, hd.new np, fun y H1 y0 y1 ex1 hd1 => ?_⟩⟩
  obtain ⟨v, hv, hat⟩ := menu_at (xs := ([2, 3, 5, 9] : List Int).map V.int) y0 y1
  obtain ⟨wi, hz, rfl⟩ := List.mem_map.mp hv
  simp only [List.mem_cons, List.not_mem_nil, or_false] at hz
  have w0 : 0 < wi := by omega
  refine ⟨p, _, _, _, rfl, rfl, SqL.of (ex1.lst (by simpa using hd.ne np) upd_same), hat, ?_⟩
  have exA : Ex T [dr] H H1 := (Ex.new np).trans ex1
  refine ⟨_, rfl, _, rfl, _, _, rfl, rfl, dr, mo + 1, rfl, by omega, hd1, fun z H2 z0 z1 ex2 hd2 => ?_⟩
  have exB := exA.trans ex2
  refine ⟨z, rfl, by omega, by omega, fun D nD => lc_range (lo := 0) (n := z.toNat) (fun i H5 => Dr H5 dr ∧ ∃ es : List (Nat × Int), Col K T [dr] D H H5 (es.map encE) ∧ es.length = i ∧ ∀ e ∈ es, e.1 < t ∧ e.2.natAbs ≤ b.natAbs + 1009) ⟨hd2.new nD, [], Col.start exB nD, rfl, fun p hp => by cases hp⟩ ?_ ?_⟩
  · rintro i H5 hi ⟨hd5, es, cl, hl, hes⟩
    refine ⟨wipe1, yesIf ⟨_, rfl, _, rfl, dr, t, rfl, by omega, hd5, fun a H6 a0 a1 ex6 hd6 => ⟨_, rfl, _, rfl, _, rfl, dr, b, wi, rfl, w0, hd6, fun x H7 hx ex7 hd7 => ⟨by show 2 ≤ sizeLine; decide, fun l nl => ?_⟩⟩⟩⟩
    have ea : a = ((a.toNat : Nat) : Int) := by omega
    obtain ⟨acc, k1, k2, k3⟩ := cl.put (exB.free nD) (by simpa using hd2.ne nD) wd ((ex6.trans ex7).trans (Ex.new nl)) (d := encE (a.toNat, x)) (x := .ref l) (At.laid nl (Ats.mk (at_int.mpr (by rw [← ea])) (Ats.mk (at_int.mpr rfl) Ats.mk_nil))) (by rw [List.length_map]; omega)
    refine ⟨acc, k1, k2, (hd7.new nl).put (hd2.ne nD).symm, es ++ [(a.toNat, x)], ?_, by rw [List.length_append, hl]; rfl, ?_⟩
    · rw [List.map_append]
      exact k3
    · intro s hs
      rcases List.mem_append.mp hs with h | h
      · exact hes s h
      · obtain rfl := List.mem_singleton.mp h
        exact ⟨by show a.toNat < t; omega, by show x.natAbs ≤ _; omega⟩
  · rintro H5 ⟨hd5, es, ⟨ex, xs, hD, ats⟩, hl, hes⟩
    refine ⟨D, _, rfl, .inl ⟨SqL.of hD, fun l nl => ?_⟩⟩
    exact q _ _ es (At.laid nl ats) (by omega) hes (ex.trans (Ex.new nl)) (hd5.new nl)

abbrev N__numbered : List Str := ["values", "number", "value"]
theorem sc__numbered : FnScope N__numbered ["values"] (defScope s__numbered) := ⟨rfl, rfl, rfl, by decide +kernel, rfl, by decide +kernel, by decide +kernel⟩
def Num (ks : List Int) (kvs : List (Key × V)) : Prop := ∀ (j : Nat) (v : Int), ks[j]? = some v → valV kvs (Sum.inl v) = some (.int (j : Nat))
theorem Num.put {ks : List Int} {i : Nat} {kvs : List (Key × V)} (h : Num (ks.take i) kvs) (srt : ks.Pairwise (· < ·)) (hi : i < ks.length) : Num (ks.take (i + 1)) (putK kvs (Sum.inl ks[i]) (.int (i : Nat))) := by
  intro j v e
  rw [valV_put]
  rw [List.getElem?_take] at e
  split at e
  · next c =>
    rw [List.getElem?_eq_getElem (by omega)] at e
    cases e
    by_cases z : j = i
    · subst z
      rw [if_pos rfl]
    · rw [if_neg]
      · refine h j _ ?_
        rw [List.getElem?_take, if_pos (by omega), List.getElem?_eq_getElem (by omega)]
      · intro e2
        have e3 : ks[j] = ks[i] := Sum.inl.inj e2
        have := (at_lt srt (show j < ks.length by omega) hi).mpr (by omega)
        omega
  · cases e
def sp__numbered (K : PySem.W.Frag) (T : List Addr) : Sp := fun vs H Q _ => ∃ (p : Addr) (ks : List Int), vs = [.ref p] ∧ SqL K H p (ks.map V.int) ∧ ks.Pairwise (· < ·) ∧ ks.length ≤ 5000 ∧ Wd T H ∧
  ∀ d H' kvs, H' d = some (.dK kvs) → Num ks kvs → Ex T [] H H' → Q (.ref d) H'
theorem ok__numbered {f : Addr} {fd : FuncData} {k : Nat} {T : List Addr} (F : Fun K "_numbered" "_numbered" s__numbered f fd) (m_enumerate : mg "enumerate" = none) :
    FnOk P w K mg base CX0 (k + 1) f fd ["values"] (sp__numbered K T) := by
  refine F.ok sc__numbered (fun vs H Q E h => ?_) (fun cdv A outer s H vs Q E hr h => ?_)
  · obtain ⟨p, ks, rfl, _⟩ := h
    rfl
  obtain ⟨p, ks, rfl, sq, srt, few, wd, q⟩ := h
  refine ⟨_, (pss_one (ps_ret (pe_dc (own := [("number", 1), ("value", 2)]) (g := (gTup K 2 (gCons (gName 1) (gCons (gName 2) gNil)))) (tt := tYes) rfl sc__numbered.nd (pi_enum (by rfl) m_enumerate (pa_cons (pv 0) pa_nil)) (blkOk_by (N := N__numbered) (sc := defScope s__numbered) (by decide +kernel))
        (fun _ _ _ _ _ => (pg_tup rfl (pgs_cons (pg_name (i := 1) sc__numbered.nd rfl (.inl rfl)) (pgs_cons (pg_name (i := 2) sc__numbered.nd rfl (.inl rfl)) pgs_nil)))) (fun _ _ _ _ _ => pts_nil)
        (fun _ _ _ _ _ => (pv 2)) (fun _ _ _ _ _ => (pv 1))))), ?_⟩
  refine ⟨_, rfl, p, ks.map V.int, rfl, sq, fun D nD => ?_⟩
  refine ⟨fun i m H' => m = ks.length - i ∧ i ≤ ks.length ∧ Ex T [] H H' ∧ ∃ kvs, H' D = some (.dK kvs) ∧ kvs.length ≤ i ∧ Num (ks.take i) kvs, ⟨_, rfl, Nat.zero_le _, Ex.new nD, [], upd_same, Nat.le_refl _, fun j v e => by rw [List.take_zero] at e; cases e⟩, ?_⟩
  rintro i m H' ⟨rfl, hi, ex, kvs, hD, lk, num⟩
  have sq' := ex.sqL (by simp) sq
  by_cases hlt : i < ks.length
  · refine .inr ⟨⟨ks.map V.int, .int ks[i], sq', by simp [hlt]⟩, fun H2 => i + 1 ≤ ks.length ∧ Ex T [] H H2 ∧ ∃ kvs, H2 D = some (.dK kvs) ∧ kvs.length ≤ i + 1 ∧ Num (ks.take (i + 1)) kvs, fun H2 z => ⟨ks.length - (i + 1), by omega, rfl, z⟩, fun x H2 y => ?_⟩
    obtain ⟨p2, x2, rfl, np2, rfl, hx⟩ := y
    have hx' := hx _ sq'
    rw [List.getElem?_map, List.getElem?_eq_getElem hlt] at hx'
    cases hx'
    have e2 := Ex.new (T := T) (ms := []) (o := HO.tup [.int (i : Int), .int ks[i]]) np2
    refine ⟨p2, [_, _], rfl, SqT.of upd_same, rfl, _, [_], rfl, _, [], rfl, rfl, wipe2 (by decide), yesIf ⟨_, rfl, _, rfl, kvs, .inl ks[i], rfl, e2.dk (by simp) hD, by unfold sizeLine; omega, ?_⟩⟩
    refine ⟨hlt, (ex.trans e2).put nD wd, _, upd_same, ?_, num.put srt hlt⟩
    exact Nat.le_trans (length_putK _ _ _) (by omega)
  · have e : i = ks.length := by omega
    subst e
    rw [List.take_length] at num
    exact .inl ⟨⟨_, sq', by rw [List.length_map]; exact Nat.le_refl _⟩, q D H' kvs hD num ex⟩

abbrev N_tight : List Str := ["log", "lower", "tag", "value"]
theorem sc_tight : FnScope N_tight ["log"] (defScope s_tight) := ⟨rfl, rfl, rfl, by decide +kernel, rfl, by decide +kernel, by decide +kernel⟩
def sp_tight (K : PySem.W.Frag) (T : List Addr) : Sp := fun vs H Q _ => ∃ (x : V) (es : List (Nat × Int)), vs = [x] ∧ Lg K H x es ∧ es.length ≤ 1000 ∧ (srt (vals es)).length < 60 ∧ Wd T H ∧
  ∀ v H', At K H' v (.tup ((tightL es).map encE)) → Ex T [] H H' → Q v H'
theorem ok_tight {f : Addr} {fd : FuncData} {k : Nat} {T : List Addr} (F : Fun K "tight" "tight" s_tight f fd) (m_sorted : mg "sorted" = none) (m_tuple : mg "tuple" = none)
    {a__numbered : Addr} {d__numbered : FuncData} (G__numbered : FnOk P w K mg base CX0 k a__numbered d__numbered ["values"] (sp__numbered K T)) (k__numbered : PySem.W.keepIn K (.ref a__numbered) = true) (b__numbered : Binds K d__numbered ["values"] []) (m__numbered : mg "_numbered" = some (.ref a__numbered)) :
    FnOk P w K mg base CX0 (k + 1) f fd ["log"] (sp_tight K T) := by
  refine F.ok sc_tight (fun vs H Q E h => ?_) (fun cdv A outer s H vs Q E hr h => ?_)
  · obtain ⟨x, es, rfl, _⟩ := h
    rfl
  obtain ⟨x, es, rfl, hx, few, lo, wd, q⟩ := h
  refine ⟨_, (pss_cons (ps_set (i := 1) sc_tight.nd rfl (.inr rfl) (pe_call G__numbered hr (by rfl) m__numbered k__numbered b__numbered .nil pass0 (pa_cons (pe_callB (cr_sortedSet rfl) (by rfl) m_sorted boot_sorted (pa_cons (pe_scI (own := [("tag", 2), ("value", 3)]) (g := (gTup K 2 (gCons (gName 2) (gCons (gName 3) gNil)))) (tt := tYes) rfl sc_tight.nd (pi_or (pi_list (pv 0)) (pi_tup (pv 0))) (blkOk_by (N := N_tight) (sc := defScope s_tight) (by decide +kernel))
        (fun _ _ _ _ _ => (pg_tup rfl (pgs_cons (pg_name (i := 2) sc_tight.nd rfl (.inl rfl)) (pgs_cons (pg_name (i := 3) sc_tight.nd rfl (.inl rfl)) pgs_nil)))) (fun _ _ _ _ _ => pts_nil)
        (fun _ _ _ _ _ => (pv 3))) pa_nil)) pa_nil)))
    (pss_one (ps_ret (pe_callTy call_tuple_of (by rfl) m_tuple (by decide +kernel) (pa_cons (pe_lc (own := [("tag", 2), ("value", 3)]) (g := (gTup K 2 (gCons (gName 2) (gCons (gName 3) gNil)))) (tt := tYes) rfl sc_tight.nd (pi_or (pi_list (pv 0)) (pi_tup (pv 0))) (blkOk_by (N := N_tight) (sc := defScope s_tight) (by decide +kernel))
        (fun _ _ _ _ _ => (pg_tup rfl (pgs_cons (pg_name (i := 2) sc_tight.nd rfl (.inl rfl)) (pgs_cons (pg_name (i := 3) sc_tight.nd rfl (.inl rfl)) pgs_nil)))) (fun _ _ _ _ _ => pts_nil)
        (fun _ _ _ _ _ => (pe_tup (pa_cons (pv 2) (pa_cons (pe_dget (Nat.lt_of_le_of_lt (Nat.add_le_add_left (by decide : 1 ≤ 64) _) hr.units) (pv 1) (pv 3) (fun _ _ => rfl)) pa_nil))))) pa_nil))))), ?_⟩
  obtain ⟨al, xs, rfl, hsq, ats⟩ := hx
  have xl : xs.length = es.length := by rw [ats.length, List.length_map]
  rcases hsq with hq | hq
  · refine .inl ⟨_, rfl, al, rfl, ⟨_, hq⟩, fun Z nZ => ?_⟩
    refine ⟨fun i m H' => m = es.length - i ∧ i ≤ es.length ∧ Ex T [] H H' ∧ ∃ (S : Int → Bool) (n : Nat), H' Z = some (SetO w Z S n) ∧ n = (srt ((vals es).take i)).length ∧ ∀ y, S y = true ↔ y ∈ (vals es).take i, ⟨_, rfl, Nat.zero_le _, Ex.new nZ, _, 0, upd_same, rfl, fun y => by simp⟩, ?_⟩
    rintro i m H' ⟨rfl, hi, ex, S, n, hZ, ln, mem⟩
    have sq' := ex.sqL (by simp) hq
    by_cases hlt : i < es.length
    · have ev : (vals es)[i]? = some (es[i]).2 := by unfold vals; rw [List.getElem?_map, List.getElem?_eq_getElem hlt]; rfl
      have et : (vals es).take (i + 1) = (vals es).take i ++ [(es[i]).2] := by rw [List.take_add_one, ev]; rfl
      obtain ⟨x, hx1, hx2⟩ := ats.at (List.getElem?_eq_getElem hlt)
      refine .inr ⟨⟨xs, x, sq', hx1⟩, fun H2 => i + 1 ≤ es.length ∧ Ex T [] H H2 ∧ ∃ (S : Int → Bool) (n : Nat), H2 Z = some (SetO w Z S n) ∧ n = (srt ((vals es).take (i + 1))).length ∧ ∀ y, S y = true ↔ y ∈ (vals es).take (i + 1), fun H2 z => ⟨es.length - (i + 1), by omega, rfl, z⟩, fun x' H2 y => ?_⟩
      obtain ⟨rfl, y⟩ := y
      have hx' := y _ sq'
      rw [hx1] at hx'
      cases hx'
      obtain ⟨ap, v1, v2, rfl, sqp, g1, g2⟩ := (hx2.ext ex).t2
      cases at_int.mp g1
      cases at_int.mp g2
      refine ⟨ap, [_, _], rfl, sqp, rfl, _, [_], rfl, _, [], rfl, rfl, wipe2 (by decide), yesIf ⟨_, rfl, (es[i]).2, S, n, rfl, hZ, ?_, hlt, ex.put nZ wd, _, _, upd_same, ?_, fun y => ?_⟩⟩
      · have := srt_len (vals es) i
        unfold scanBound
        omega
      · rw [et, srt_snoc, insN_len (srt_sorted _), ln]
        by_cases c : (es[i]).2 ∈ (vals es).take i
        · rw [if_pos ((mem _).mpr c), if_pos (mem_srt.mpr c)]
        · rw [if_neg (fun z => c ((mem _).mp z)), if_neg (fun z => c (mem_srt.mp z))]
      · rw [et, List.mem_append, Bool.or_eq_true, mem, decide_eq_true_iff, List.mem_singleton]
    · have e : i = es.length := by omega
      subst e
      rw [← vals_len es, List.take_length] at mem ln
      refine .inl ⟨⟨_, sq', by rw [xl]; exact Nat.le_refl _⟩, ?_⟩
      refine ⟨Z, S, n, rfl, hZ, by omega, fun ks pk srt' mem' lk npk => ?_⟩
      have ek : ks = srt (vals es) := srt_unique srt' (srt_sorted _) fun y => by rw [mem' y, mem, mem_srt]
      subst ek
      have e1 := ex.trans (Ex.new (T := T) (ms := []) (o := .lst ((srt (vals es)).map V.int)) npk)
      refine ⟨pk, srt (vals es), rfl, SqL.of upd_same, srt_sorted _, by omega, e1.wd wd, fun d H2 kvs hd num ex2 => ?_⟩
      have e2 := e1.trans ex2
      refine .inl ⟨_, rfl, al, rfl, ⟨_, e2.sqL (by simp) hq⟩, fun D nD => lc_list (xs := xs) (fun i H' => Col K T [] D H2 H' (((tightL es).take i).map encE)) (Col.start Ex.refl nD) (fun i H' _ c' => (e2.trans c'.1).sqL (by simp) hq) ?_ ?_⟩
      · rintro i x H' hi cl
        have hi' : i < es.length := by rw [← xl]; exact (List.getElem?_eq_some_iff.mp hi).1
        obtain ⟨x', hx1, hx2⟩ := ats.at (List.getElem?_eq_getElem hi')
        rw [hi] at hx1
        cases hx1
        obtain ⟨ap, v1, v2, rfl, sqp, g1, g2⟩ := (hx2.ext (e2.trans cl.1)).t2
        cases at_int.mp g1
        cases at_int.mp g2
        obtain ⟨j, hj, ej, cj⟩ := cnt_of (srt_sorted (vals es)) (mem_srt.mpr (show (es[i]).2 ∈ vals es from List.mem_map.mpr ⟨_, List.getElem_mem hi', rfl⟩))
        refine ⟨ap, [_, _], rfl, sqp, rfl, _, [_], rfl, _, [], rfl, rfl, wipe2 (by decide), yesIf ⟨_, rfl, _, rfl, _, rfl, d, .int (j : Nat), rfl, ?_, by show 2 ≤ sizeLine; decide, fun p np => ?_⟩⟩
        · have := DGet.k (k := Sum.inl (es[i]).2) (cl.1.dk (by simp) hd)
          rw [num j _ (by rw [List.getElem?_eq_getElem hj, ej])] at this
          exact this
        obtain ⟨acc, k1, k2, k3⟩ := cl.put nD (by simp) (e2.wd wd) (Ex.new np) (x := .ref p) (d := encE (chL (tgF es) es[i])) (At.laid np (Ats.mk (at_int.mpr rfl) (Ats.mk (at_int.mpr (by show V.int (j : Nat) = V.int (tgF es (es[i]).2); unfold tgF; rw [cj])) Ats.mk_nil))) (take_len _ _ _ _ (by rw [tightL_len]; omega))
        refine ⟨acc, k1, k2, ?_⟩
        rw [take_map] at k3
        · exact k3
        · unfold tightL
          rw [List.getElem?_map, List.getElem?_eq_getElem hi']
          rfl
      · rintro H3 cl
        rw [xl, show es.length = (tightL es).length from (tightL_len es).symm, List.take_length] at cl
        obtain ⟨exs, as0, hD0, ats0⟩ := cl
        exact ⟨D, _, rfl, .inl ⟨SqL.of hD0, fun l nl => q _ _ (At.laid nl ats0) ((e2.trans exs).trans (Ex.new nl))⟩⟩
  · refine .inr ⟨_, rfl, al, rfl, ⟨_, hq⟩, fun Z nZ => ?_⟩
    refine ⟨fun i m H' => m = es.length - i ∧ i ≤ es.length ∧ Ex T [] H H' ∧ ∃ (S : Int → Bool) (n : Nat), H' Z = some (SetO w Z S n) ∧ n = (srt ((vals es).take i)).length ∧ ∀ y, S y = true ↔ y ∈ (vals es).take i, ⟨_, rfl, Nat.zero_le _, Ex.new nZ, _, 0, upd_same, rfl, fun y => by simp⟩, ?_⟩
    rintro i m H' ⟨rfl, hi, ex, S, n, hZ, ln, mem⟩
    have sq' := ex.sqT hq
    by_cases hlt : i < es.length
    · have ev : (vals es)[i]? = some (es[i]).2 := by unfold vals; rw [List.getElem?_map, List.getElem?_eq_getElem hlt]; rfl
      have et : (vals es).take (i + 1) = (vals es).take i ++ [(es[i]).2] := by rw [List.take_add_one, ev]; rfl
      obtain ⟨x, hx1, hx2⟩ := ats.at (List.getElem?_eq_getElem hlt)
      refine .inr ⟨⟨xs, x, sq', hx1⟩, fun H2 => i + 1 ≤ es.length ∧ Ex T [] H H2 ∧ ∃ (S : Int → Bool) (n : Nat), H2 Z = some (SetO w Z S n) ∧ n = (srt ((vals es).take (i + 1))).length ∧ ∀ y, S y = true ↔ y ∈ (vals es).take (i + 1), fun H2 z => ⟨es.length - (i + 1), by omega, rfl, z⟩, fun x' H2 y => ?_⟩
      obtain ⟨rfl, y⟩ := y
      have hx' := y _ sq'
      rw [hx1] at hx'
      cases hx'
      obtain ⟨ap, v1, v2, rfl, sqp, g1, g2⟩ := (hx2.ext ex).t2
      cases at_int.mp g1
      cases at_int.mp g2
      refine ⟨ap, [_, _], rfl, sqp, rfl, _, [_], rfl, _, [], rfl, rfl, wipe2 (by decide), yesIf ⟨_, rfl, (es[i]).2, S, n, rfl, hZ, ?_, hlt, ex.put nZ wd, _, _, upd_same, ?_, fun y => ?_⟩⟩
      · have := srt_len (vals es) i
        unfold scanBound
        omega
      · rw [et, srt_snoc, insN_len (srt_sorted _), ln]
        by_cases c : (es[i]).2 ∈ (vals es).take i
        · rw [if_pos ((mem _).mpr c), if_pos (mem_srt.mpr c)]
        · rw [if_neg (fun z => c ((mem _).mp z)), if_neg (fun z => c (mem_srt.mp z))]
      · rw [et, List.mem_append, Bool.or_eq_true, mem, decide_eq_true_iff, List.mem_singleton]
    · have e : i = es.length := by omega
      subst e
      rw [← vals_len es, List.take_length] at mem ln
      refine .inl ⟨⟨_, sq', by rw [xl]; exact Nat.le_refl _⟩, ?_⟩
      refine ⟨Z, S, n, rfl, hZ, by omega, fun ks pk srt' mem' lk npk => ?_⟩
      have ek : ks = srt (vals es) := srt_unique srt' (srt_sorted _) fun y => by rw [mem' y, mem, mem_srt]
      subst ek
      have e1 := ex.trans (Ex.new (T := T) (ms := []) (o := .lst ((srt (vals es)).map V.int)) npk)
      refine ⟨pk, srt (vals es), rfl, SqL.of upd_same, srt_sorted _, by omega, e1.wd wd, fun d H2 kvs hd num ex2 => ?_⟩
      have e2 := e1.trans ex2
      refine .inr ⟨_, rfl, al, rfl, ⟨_, e2.sqT hq⟩, fun D nD => lc_tup (xs := xs) (fun i H' => Col K T [] D H2 H' (((tightL es).take i).map encE)) (Col.start Ex.refl nD) (fun i H' _ c' => (e2.trans c'.1).sqT hq) ?_ ?_⟩
      · rintro i x H' hi cl
        have hi' : i < es.length := by rw [← xl]; exact (List.getElem?_eq_some_iff.mp hi).1
        obtain ⟨x', hx1, hx2⟩ := ats.at (List.getElem?_eq_getElem hi')
        rw [hi] at hx1
        cases hx1
        obtain ⟨ap, v1, v2, rfl, sqp, g1, g2⟩ := (hx2.ext (e2.trans cl.1)).t2
        cases at_int.mp g1
        cases at_int.mp g2
        obtain ⟨j, hj, ej, cj⟩ := cnt_of (srt_sorted (vals es)) (mem_srt.mpr (show (es[i]).2 ∈ vals es from List.mem_map.mpr ⟨_, List.getElem_mem hi', rfl⟩))
        refine ⟨ap, [_, _], rfl, sqp, rfl, _, [_], rfl, _, [], rfl, rfl, wipe2 (by decide), yesIf ⟨_, rfl, _, rfl, _, rfl, d, .int (j : Nat), rfl, ?_, by show 2 ≤ sizeLine; decide, fun p np => ?_⟩⟩
        · have := DGet.k (k := Sum.inl (es[i]).2) (cl.1.dk (by simp) hd)
          rw [num j _ (by rw [List.getElem?_eq_getElem hj, ej])] at this
          exact this
        obtain ⟨acc, k1, k2, k3⟩ := cl.put nD (by simp) (e2.wd wd) (Ex.new np) (x := .ref p) (d := encE (chL (tgF es) es[i])) (At.laid np (Ats.mk (at_int.mpr rfl) (Ats.mk (at_int.mpr (by show V.int (j : Nat) = V.int (tgF es (es[i]).2); unfold tgF; rw [cj])) Ats.mk_nil))) (take_len _ _ _ _ (by rw [tightL_len]; omega))
        refine ⟨acc, k1, k2, ?_⟩
        rw [take_map] at k3
        · exact k3
        · unfold tightL
          rw [List.getElem?_map, List.getElem?_eq_getElem hi']
          rfl
      · rintro H3 cl
        rw [xl, show es.length = (tightL es).length from (tightL_len es).symm, List.take_length] at cl
        obtain ⟨exs, as0, hD0, ats0⟩ := cl
        exact ⟨D, _, rfl, .inl ⟨SqL.of hD0, fun l nl => q _ _ (At.laid nl ats0) ((e2.trans exs).trans (Ex.new nl))⟩⟩

abbrev N__law_map : List Str := ["log", "other", "found", "k"]
theorem sc__law_map : FnScope N__law_map ["log", "other"] (defScope s__law_map) := ⟨rfl, rfl, rfl, by decide +kernel, rfl, by decide +kernel, by decide +kernel⟩
def sp__law_map (K : PySem.W.Frag) (T : List Addr) (w : World) (P : Program) : Sp := fun vs H Q _ => ∃ (x y : V) (es : List (Nat × Int)) (g : Int → Int), vs = [x, y] ∧ At K H x (.tup (es.map encE)) ∧ At K H y (.tup ((es.map (chL g)).map encE)) ∧ es.length ≤ 1000 ∧ Wd T H ∧
  ∀ p kvs H', H' p = some (LDo P w p kvs) → MapOk es g kvs → Ex T [] H H' → Q (.ref p) H'
theorem ok__law_map {f : Addr} {fd : FuncData} {k : Nat} {T : List Addr} (F : Fun K "_law_map" "_law_map" s__law_map f fd) (m_range : mg "range" = none) (m_len : mg "len" = none) :
    FnOk P w K mg base CX0 (k + 1) f fd ["log", "other"] (sp__law_map K T w P) := by
  refine F.ok sc__law_map (fun vs H Q E h => ?_) (fun cdv A outer s H vs Q E hr h => ?_)
  · obtain ⟨x, y, es, g, rfl, _⟩ := h
    rfl
  obtain ⟨x, y, es, g, rfl, hx, hy, le, wd, q⟩ := h
  refine ⟨_, (pss_cons (ps_set (i := 2) sc__law_map.nd rfl (.inl rfl) (pe_ldisp1 pe_non pe_non))
    (pss_cons (ps_for PassesOwn.never rfl (pi_range1 rfl m_range (pa_cons (pe_callB call_len_seq (by rfl) m_len PySem.boot_len (pa_cons (pv 0) pa_nil)) pa_nil)) (pg_name (i := 3) sc__law_map.nd rfl (.inl rfl))
      (pss_one (ps_lput (pv 2) (pe_ix ix_tup (pe_ix ix_tup (pv 0) (pv 3) (fun _ _ => rfl)) pe_int (fun _ _ => rfl)) (pe_ix ix_tup (pe_ix ix_tup (pv 1) (pv 3) (fun _ _ => rfl)) pe_int (fun _ _ => rfl)) rfl)))
    (pss_one (ps_ret (pv 2))))), ?_⟩
  obtain ⟨ax, xs, rfl, sqx, atx⟩ := at_tup.mp hx
  obtain ⟨ay, ys, rfl, sqy, aty⟩ := at_tup.mp hy
  have xl : xs.length = es.length := atx.len
  refine fun p np o0 ho0 => ⟨upd_same, .none, rfl, ?_⟩
  intro o1 ho1
  have e1 : Ex T [] H (upd (upd H p o0) p o1) := by rw [upd_upd]; exact Ex.new np
  have h1 : upd (upd H p o0) p o1 p = some (LDo P w p [(.none, .non)]) := upd_same.trans (congrArg some ho1)
  generalize upd (upd H p o0) p o1 = H1 at *
  refine ⟨_, rfl, ax, _, rfl, .inr (e1.sqT sqx), (xs.length : Int), rfl, by omega, by omega, for_range (lo := 0) (n := xs.length) (fun i σ' H' => (∃ y3, σ' = [some (.ref ax), some (.ref ay), some (.ref p), y3]) ∧ Ex T [] H H' ∧ ∃ kvs, H' p = some (LDo P w p kvs) ∧ MapOk (es.take i) g kvs ∧ kvs.length ≤ i + 1) ⟨⟨_, rfl⟩, e1, _, h1, ⟨rfl, fun e he => by cases he⟩, Nat.le_refl _⟩ ?_ ?_⟩
  · rintro i σ' H2 hi ⟨⟨y3, rfl⟩, ex2, kvs, hp, mo, kl⟩
    have hi' : i < es.length := by omega
    obtain ⟨x', hx1, hx2⟩ := atx.at (List.getElem?_eq_getElem hi')
    obtain ⟨y', hy1, hy2⟩ := aty.at (i := i) (a := chL g es[i]) (by rw [List.getElem?_map, List.getElem?_eq_getElem hi']; rfl)
    obtain ⟨bx, u1, u2, rfl, sq1, v1, v2⟩ := (hx2.ext ex2).t2
    obtain ⟨by_, w1, w2, rfl, sq2, z1, z2⟩ := (hy2.ext ex2).t2
    cases at_int.mp v2
    cases at_int.mp z2
    have ix : ∀ {xs : List V} {x : V}, xs[i]? = some x → atI xs (0 + ((i : Nat) : Int)) = some x := fun h => by
      rw [Int.zero_add]
      exact atI_nat h
    have et : es.take (i + 1) = es.take i ++ [es[i]] := by rw [List.take_add_one, List.getElem?_eq_getElem hi']; rfl
    refine ⟨_, rfl, _, rfl, ay, _, _, _, rfl, rfl, ex2.sqT sqy, ix hy1, by_, _, _, _, rfl, rfl, sq2, rfl, _, rfl, _, rfl, _, rfl, ax, _, _, _, rfl, rfl, ex2.sqT sqx, ix hx1, bx, _, _, _, rfl, rfl, sq1, rfl, p, kvs, .num es[i].2, rfl, hp, rfl, by rw [sizeLine_eq]; omega, fun o2 ho2 => ⟨⟨_, rfl⟩, ex2.put np wd, _, upd_same.trans (congrArg some ho2), ?_, ?_⟩⟩
    · rw [et]
      exact mo.put
    · have := length_putK kvs (.num es[i].2) (V.int (chL g es[i]).2)
      omega
  · rintro σ' H2 ⟨⟨y3, rfl⟩, ex2, kvs, hp, mo, kl⟩
    rw [xl, List.take_length] at mo
    exact ⟨_, rfl, q p kvs H2 hp mo ex2⟩

abbrev N__law_mapped : List Str := ["rows", "found", "row", "pair"]
theorem sc__law_mapped : FnScope N__law_mapped ["rows", "found"] (defScope s__law_mapped) := ⟨rfl, rfl, rfl, by decide +kernel, rfl, by decide +kernel, by decide +kernel⟩
def sp__law_mapped (K : PySem.W.Frag) (T : List Addr) (w : World) (P : Program) : Sp := fun vs H Q _ => ∃ (x : V) (p : Addr) (rs : List (List (Int × Option Int))) (g : Int → Int) (kvs : List (Leaf × V)), vs = [x, .ref p] ∧ At K H x (.tup (rs.map encA)) ∧ H p = some (LDo P w p kvs) ∧ (∀ r ∈ rs, r.length ≤ 1000 ∧ ∀ q ∈ r, (q.2 = none → valV kvs .none = some .non) ∧ ∀ z, q.2 = some z → valV kvs (.num z) = some (.int (g z))) ∧ rs.length ≤ 1000 ∧ Wd T H ∧
  ∀ v H', At K H' v (.tup ((rs.map (List.map (chE g))).map encA)) → Ex T [] H H' → Q v H'
theorem ok__law_mapped {f : Addr} {fd : FuncData} {k : Nat} {T : List Addr} (F : Fun K "_law_mapped" "_law_mapped" s__law_mapped f fd) (m_tuple : mg "tuple" = none) :
    FnOk P w K mg base CX0 (k + 1) f fd ["rows", "found"] (sp__law_mapped K T w P) := by
  refine F.ok sc__law_mapped (fun vs H Q E h => ?_) (fun cdv A outer s H vs Q E hr h => ?_)
  · obtain ⟨x, p, rs, g, kvs, rfl, _⟩ := h
    rfl
  obtain ⟨x, p, rs, g, kvs, rfl, hx, hp, hv, lr, wd, q⟩ := h
  refine ⟨_, (pss_one (ps_ret (pe_callTy call_tuple_of (by rfl) m_tuple (by decide +kernel) (pa_cons (pe_lc (own := [("row", 2)]) (g := (gName 2)) (tt := tYes) rfl sc__law_mapped.nd (pi_tup (pv 0)) (blkOk_by (N := N__law_mapped) (sc := defScope s__law_mapped) (by decide +kernel))
        (fun _ _ _ _ _ => (pg_name (i := 2) sc__law_mapped.nd rfl (.inl rfl))) (fun _ _ _ _ _ => pts_nil)
        (fun _ _ _ _ _ => (pe_callTy (show CallR _ (.type "tuple") (rTupK K) from call_tuple_of) (by rfl) m_tuple (by decide +kernel) (pa_cons (pe_lc (own := [("pair", 3)]) (wi := iTup K (tVar 2)) (g := (gName 3)) (tt := tYes) rfl sc__law_mapped.nd (pi_tup (pv 2)) (blkOk_by (N := N__law_mapped) (sc := { kind := .function, names := [(".0", .local), ("row", .local), ("tuple", .globalImplicit), ("found", .cell)], isGenerator := false, isCoroutine := false }) (by decide +kernel))
        (fun _ _ _ _ _ => (pg_name (i := 3) sc__law_mapped.nd rfl (.inl rfl))) (fun _ _ _ _ _ => pts_nil)
        (fun _ _ _ _ _ => (pe_tup (pa_cons (pe_ix (r := rIxT K) ix_tup (pv 3) pe_int (fun _ _ => rfl)) (pa_cons (pe_lget2P (P := P) (w := w) (pv 1) (pe_ix (r := rIxT K) ix_tup (pv 3) pe_int (fun _ _ => rfl)) pe_str ⟨rfl, rfl, rfl, rfl⟩) pa_nil))))) pa_nil)))) pa_nil)))), ?_⟩
  obtain ⟨ax, xs, rfl, sqx, atx⟩ := at_tup.mp hx
  have xl : xs.length = rs.length := atx.len
  have keep : ∀ {H' : Hp}, Ex T [] H H' → H' p = some (LDo P w p kvs) := fun e => e.keep p _ (by simp) hp (fun ps z => by cases z)
  refine ⟨_, rfl, ax, rfl, ⟨_, sqx⟩, fun D nD => lc_tup (xs := xs) (fun i H' => Col K T [] D H H' (((rs.map (List.map (chE g))).take i).map encA)) (Col.start Ex.refl nD) (fun i H' _ c' => c'.1.sqT sqx) ?_ ?_⟩
  · rintro i x H' hi cl
    have hi' : i < rs.length := by rw [← xl]; exact (List.getElem?_eq_some_iff.mp hi).1
    obtain ⟨x', hx1, hx2⟩ := atx.at (List.getElem?_eq_getElem hi')
    rw [hi] at hx1
    cases hx1
    obtain ⟨ar, ys, rfl, sqr, aty⟩ := at_tup.mp (hx2.ext cl.1)
    have yl : ys.length = rs[i].length := aty.len
    obtain ⟨rl, rv⟩ := hv _ (List.getElem_mem hi')
    have wd1 := cl.1.wd wd
    have keep1 : ∀ {H2 : Hp}, Ex T [] H' H2 → H2 p = some (LDo P w p kvs) := fun e => keep (cl.1.trans e)
    refine ⟨wipe1, yesIf ⟨_, rfl, ar, rfl, ⟨_, sqr⟩, fun D2 nD2 => lc_tup (xs := ys) (fun j H2 => Col K T [] D2 H' H2 (((rs[i].map (chE g)).take j).map encA1)) (Col.start Ex.refl nD2) (fun j H2 _ c' => c'.1.sqT sqr) ?_ ?_⟩⟩
    · rintro j y H2 hj cl2
      have hj' : j < rs[i].length := by rw [← yl]; exact (List.getElem?_eq_some_iff.mp hj).1
      obtain ⟨y', hy1, hy2⟩ := aty.at (List.getElem?_eq_getElem hj')
      rw [hj] at hy1
      cases hy1
      obtain ⟨ap, p1, p2, rfl, sqp, q1, q2⟩ := (hy2.ext cl2.1).t2
      cases at_int.mp q1
      cases at_encO.mp q2
      have rvj := rv _ (List.getElem_mem hj')
      have go : ∀ (z : V), z = oV (chE g (rs[i])[j]).2 → ∀ l, H2 l = none → ∃ acc, upd H2 l (.tup [.int (rs[i])[j].1, z]) D2 = some (.lst acc) ∧ acc.length < sizeLine ∧ Col K T [] D2 H' (upd (upd H2 l (.tup [.int (rs[i])[j].1, z])) D2 (.lst (acc ++ [.ref l]))) (((rs[i].map (chE g)).take (j + 1)).map encA1) := fun z ez l nl => by
        obtain ⟨acc, k1, k2, k3⟩ := cl2.put nD2 (by simp) wd1 (Ex.new nl) (x := .ref l) (d := encA1 (chE g (rs[i])[j])) (At.laid (xs := [.int (rs[i])[j].1, z]) nl (Ats.mk (at_int.mpr rfl) (Ats.mk (at_encO.mpr ez) Ats.mk_nil))) (take_len _ _ _ _ (by rw [List.length_map]; omega))
        refine ⟨acc, k1, k2, ?_⟩
        rw [take_map] at k3
        · exact k3
        · rw [List.getElem?_map, List.getElem?_eq_getElem hj']
          rfl
      have hk := keep1 cl2.1
      cases hO : (rs[i])[j].2 with
      | none =>
        rw [hO] at sqp
        refine ⟨wipe1, yesIf ⟨_, rfl, ap, _, _, _, rfl, rfl, sqp, rfl, _, rfl, p, kvs, rfl, hk, _, rfl, ap, _, _, _, rfl, rfl, sqp, rfl, .none, rfl, hk, by show 2 ≤ sizeLine; decide, fun l nl => ?_⟩⟩
        rw [rvj.1 hO]
        exact go _ (by unfold chE; rw [hO]; rfl) l nl
      | some z =>
        rw [hO] at sqp
        refine ⟨wipe1, yesIf ⟨_, rfl, ap, _, _, _, rfl, rfl, sqp, rfl, _, rfl, p, kvs, rfl, hk, _, rfl, ap, _, _, _, rfl, rfl, sqp, rfl, .num z, rfl, hk, by show 2 ≤ sizeLine; decide, fun l nl => ?_⟩⟩
        rw [rvj.2 z hO]
        exact go _ (by unfold chE; rw [hO]; rfl) l nl
    · rintro H2 cl2
      rw [yl, show rs[i].length = (rs[i].map (chE g)).length by rw [List.length_map], List.take_length] at cl2
      obtain ⟨ex2, as0, hD2, ats0⟩ := cl2
      refine ⟨D2, _, rfl, .inl ⟨SqL.of hD2, fun l nl => ?_⟩⟩
      obtain ⟨acc, k1, k2, k3⟩ := cl.put nD (by simp) wd (ex2.trans (Ex.new nl)) (x := .ref l) (d := encA (rs[i].map (chE g))) (At.laid nl ats0) (take_len _ _ _ _ (by rw [List.length_map]; omega))
      refine ⟨acc, k1, k2, ?_⟩
      rw [take_map] at k3
      · exact k3
      · rw [List.getElem?_map, List.getElem?_eq_getElem hi']
        rfl
  · rintro H2 cl
    rw [xl, show rs.length = (rs.map (List.map (chE g))).length by rw [List.length_map], List.take_length] at cl
    obtain ⟨ex2, as0, hD2, ats0⟩ := cl
    exact ⟨D, _, rfl, .inl ⟨SqL.of hD2, fun l nl => q _ _ (At.laid nl ats0) (ex2.trans (Ex.new nl))⟩⟩

abbrev N__law_of_same_order : List Str := ["draws", "cell", "log", "values", "value", "found", "known", "entry"]
theorem sc__law_of_same_order : FnScope N__law_of_same_order ["draws", "cell", "log"] (defScope s__law_of_same_order) := ⟨rfl, rfl, rfl, by decide +kernel, rfl, by decide +kernel, by decide +kernel⟩
def sp__law_of_same_order (K : PySem.W.Frag) (T : List Addr) : Sp := fun vs H Q _ => ∃ (dr : Addr) (c : Int) (x : V) (es : List (Nat × Int)), vs = [.ref dr, .int c, x] ∧ At K H x (.tup (es.map encE)) ∧ es.length ≤ 60 ∧ Wd T H ∧ Dr H dr ∧
  ∀ v H' g, (∀ a b, a ∈ vals es → b ∈ vals es → a < b → g a < g b) → At K H' v (.tup ((es.map (chL g)).map encE)) → Ex T [dr] H H' → Dr H' dr → Q v H'
theorem ok__law_of_same_order {f : Addr} {fd : FuncData} {k : Nat} {T : List Addr} (F : Fun K "_law_of_same_order" "_law_of_same_order" s__law_of_same_order f fd) (m_sorted : mg "sorted" = none) (m_set : mg "set" = none) (m_abs : mg "abs" = none) (m_tuple : mg "tuple" = none)
    {a__law_take : Addr} {d__law_take : FuncData} (G__law_take : FnOk P w K mg base CX0 k a__law_take d__law_take ["draws", "many"] (sp__law_take T)) (k__law_take : PySem.W.keepIn K (.ref a__law_take) = true) (b__law_take : Binds K d__law_take ["draws", "many"] []) (m__law_take : mg "_law_take" = some (.ref a__law_take)) :
    FnOk P w K mg base CX0 (k + 1) f fd ["draws", "cell", "log"] (sp__law_of_same_order K T) := by
  refine F.ok sc__law_of_same_order (fun vs H Q E h => ?_) (fun cdv A outer s H vs Q E hr h => ?_)
  · obtain ⟨dr, c, x, es, rfl, _⟩ := h
    rfl
  obtain ⟨dr, c, x, es, rfl, hx, le, wd, hd, q⟩ := h
  refine ⟨_, (C8.pss_cut (ps_set (i := 3) sc__law_of_same_order.nd rfl (.inl rfl) (pe_callB (cr_sortedSet rfl) (by rfl) m_sorted boot_sorted (pa_cons (pe_callTy cr_setI (by rfl) m_set (by decide +kernel) (pa_cons (pe_lc (own := [("entry", 7)]) (g := (gName 7)) (tt := tYes) rfl sc__law_of_same_order.nd (pi_tup (pv 2)) (blkOk_by (N := N__law_of_same_order) (sc := defScope s__law_of_same_order) (by decide +kernel))
        (fun _ _ _ _ _ => (pg_name (i := 7) sc__law_of_same_order.nd rfl (.inl rfl))) (fun _ _ _ _ _ => pts_nil)
        (fun _ _ _ _ _ => (pe_ix (r := rIxT K) ix_tup (pv 7) pe_int (fun _ _ => rfl)))) pa_nil)) pa_nil)))
    (C8.pss_cut (ps_set (i := 4) sc__law_of_same_order.nd rfl (.inl rfl) (pe_ix ix_list (pe_lst (pa_cons pe_int (pa_cons (pe_un un_neg pe_int) (pa_cons (pv 1) pa_nil)))) (pe_call G__law_take hr (by rfl) m__law_take k__law_take b__law_take .nil pass0 (pa_cons (pv 0) (pa_cons pe_int pa_nil))) (fun _ _ => rfl)))
    (pss_cons (ps_set (i := 5) sc__law_of_same_order.nd rfl (.inr rfl) pe_dnewK)
    (pss_cons (ps_for PassesOwn.never rfl (pi_list (pv 3)) (pg_name (i := 6) sc__law_of_same_order.nd rfl (.inl rfl))
      (pss_cons (ps_dput (hu_of hr) (pv 5) (pv 6) (pv 4) rfl)
      (pss_one (ps_set (i := 4) sc__law_of_same_order.nd rfl (.inl rfl) (pe_op op_add (pe_op op_add (pv 4) pe_int) (pe_ix ix_list (pe_lst (pa_cons pe_int (pa_cons pe_int (pa_cons (pe_call G__law_take hr (by rfl) m__law_take k__law_take b__law_take .nil pass0 (pa_cons (pv 0) (pa_cons pe_int pa_nil))) (pa_cons (pe_callB call_abs (by rfl) m_abs boot_abs (pa_cons (pv 1) pa_nil)) pa_nil))))) (pe_call G__law_take hr (by rfl) m__law_take k__law_take b__law_take .nil pass0 (pa_cons (pv 0) (pa_cons pe_int pa_nil))) (fun _ _ => rfl)))))))
    (pss_one (ps_ret (pe_callTy call_tuple_of (by rfl) m_tuple (by decide +kernel) (pa_cons (pe_lc (own := [("entry", 7)]) (g := (gName 7)) (tt := tYes) rfl sc__law_of_same_order.nd (pi_tup (pv 2)) (blkOk_by (N := N__law_of_same_order) (sc := defScope s__law_of_same_order) (by decide +kernel))
        (fun _ _ _ _ _ => (pg_name (i := 7) sc__law_of_same_order.nd rfl (.inl rfl))) (fun _ _ _ _ _ => pts_nil)
        (fun _ _ _ _ _ => (pe_tup (pa_cons (pe_ix (r := rIxT K) ix_tup (pv 7) pe_int (fun _ _ => rfl)) (pa_cons (pe_dget (hu_of hr) (pv 5) (pe_ix (r := rIxT K) ix_tup (pv 7) pe_int (fun _ _ => rfl)) (fun _ _ => rfl)) pa_nil))))) pa_nil)))))))), ?_⟩
  obtain ⟨ax, xs, rfl, sqx, atx⟩ := at_tup.mp hx
  have xl : xs.length = es.length := atx.len
  refine ⟨fun σ' H' => ∃ pk, σ' = [some (.ref dr), some (.int c), some (.ref ax), some (.ref pk), none, none, none, none] ∧ H' pk = some (.lst ((srt (vals es)).map V.int)) ∧ H pk = none ∧ Ex T [] H H', ?_, ?_⟩
  · refine ⟨_, rfl, ax, rfl, ⟨_, sqx⟩, fun Z nZ => lc_tup (xs := xs) (fun i H' => Ex T [] H H' ∧ H' Z = some (.lst (((vals es).take i).map V.int))) ⟨Ex.new nZ, upd_same⟩ (fun i H' _ z => z.1.sqT sqx) ?_ ?_⟩
    · rintro i x H' hi ⟨ex, hD⟩
      have hi' : i < es.length := by rw [← xl]; exact (List.getElem?_eq_some_iff.mp hi).1
      obtain ⟨x', hx1, hx2⟩ := atx.at (List.getElem?_eq_getElem hi')
      rw [hi] at hx1
      cases hx1
      obtain ⟨ap, p1, p2, rfl, sqp, q1, q2⟩ := (hx2.ext ex).t2
      cases at_int.mp q2
      refine ⟨wipe1, yesIf ⟨_, rfl, ap, _, _, _, rfl, rfl, sqp, rfl, _, hD, ?_, ex.put nZ wd, ?_⟩⟩
      · rw [List.length_map, List.length_take]
        exact small5000 (by omega)
      · rw [upd_same]
        unfold vals
        rw [List.take_add_one, List.getElem?_map, List.getElem?_eq_getElem hi', List.map_append]
        rfl
    rintro H1 ⟨ex1, hD⟩
    have vl : (vals es).length = es.length := vals_len es
    rw [xl, ← vl, List.take_length] at hD
    have lb : (vals es).length + 1 < scanBound := Nat.lt_of_le_of_lt (show (vals es).length + 1 ≤ 64 by omega) (by decide)
    refine ⟨Z, vals es, rfl, SqL.of hD, by omega, fun ps c nps lc => ?_⟩
    refine ⟨ps, _, c, rfl, upd_same, by omega, fun ks pk srt' mem lk npk => ?_⟩
    have ex2 := ex1.trans (Ex.new (o := SetO w ps (fun j => decide (j ∈ vals es)) c) nps)
    have ek : ks = srt (vals es) := srt_eq srt' fun y => by rw [mem y, decide_eq_true_iff]
    rw [ek]
    exact ⟨pk, rfl, upd_same, ex2.free npk, ex2.trans (Ex.new npk)⟩
  rintro σ1 H1 ⟨pk, rfl, hk, pk0, ex1⟩
  have sl : (srt (vals es)).length ≤ 60 := by
    have := srt_le (l := vals es) (P := vals es) (fun x h => h)
    rw [vals_len] at this
    omega
  have srtd := srt_sorted (vals es)
  have mks : ∀ {y : Int}, y ∈ srt (vals es) ↔ y ∈ vals es := fun {y} => mem_srt
  generalize srt (vals es) = ks at *
  have hd1 : Dr H1 dr := by
    obtain ⟨ds, hds⟩ := hd
    exact ⟨ds, ex1.lst (by simp) hds⟩
  have npd : pk ≠ dr := fun e => by
    obtain ⟨ds, hds⟩ := hd
    rw [e] at pk0
    rw [pk0] at hds
    cases hds
  refine ⟨fun σ' H' => ∃ v0, σ' = [some (.ref dr), some (.int c), some (.ref ax), some (.ref pk), some (.int v0), none, none, none] ∧ Ex T [dr] H1 H' ∧ Dr H' dr, ?_, ?_⟩
  · refine ⟨_, rfl, _, rfl, by show 3 ≤ sizeLine; decide, fun p np => ⟨_, rfl, dr, 3, rfl, by decide, hd1.new np, fun y H2 y0 y1 ex2 hd2 => ?_⟩⟩
    have hp2 : H2 p = some (.lst (([0, -9, c] : List Int).map V.int)) := ex2.lst (by simpa using hd1.ne np) upd_same
    obtain ⟨v, hv, hat⟩ := menu_at (xs := ([0, -9, c] : List Int).map V.int) y0 y1
    obtain ⟨v0, _, rfl⟩ := List.mem_map.mp hv
    exact ⟨p, _, _, _, rfl, rfl, SqL.of hp2, hat, v0, rfl, (Ex.new np).trans ex2, hd2⟩
  rintro σ1 H2 ⟨v0, rfl, ex2, hd2⟩
  have x2 := ex1.nil.trans ex2
  have wd2 := x2.wd wd
  have hk2 := ex2.lst (by simpa using npd) hk
  refine fun d nd => ?_
  have e3 := Ex.new (T := T) (ms := [dr]) (o := .dK []) nd
  have hdd := upd_same (H := H2) (a := d) (o := .dK [])
  have hd3 := hd2.new (o := .dK []) nd
  have hk3 := e3.lst (by simpa using npd) hk2
  have ndd := hd2.ne nd
  generalize upd H2 d (.dK []) = H3 at *
  refine ⟨_, rfl, pk, rfl, ⟨_, SqL.of hk3⟩, for_list (xs := ks.map V.int) (fun i σ' H' => ∃ vv y6 ys kvs, σ' = [some (.ref dr), some (.int c), some (.ref ax), some (.ref pk), some (.int vv), some (.ref d), y6, none] ∧ Ex T [dr] H2 H' ∧ Dr H' dr ∧ H' pk = some (.lst (ks.map V.int)) ∧ H' d = some (.dK kvs) ∧ kvs.length ≤ i ∧ ys.length = i ∧ ys.Pairwise (· < ·) ∧ (∀ y ∈ ys, y < vv) ∧ ∀ j (hj : j < ks.length), j < i → valV kvs (Sum.inl ks[j]) = some (.int (ys.getD j 0))) ⟨v0, _, [], [], rfl, e3, hd3, hk3, hdd, Nat.le_refl _, rfl, .nil, fun y hy => (by cases hy), fun j _ h => absurd h (Nat.not_lt_zero _)⟩ (fun i σ' H' _ z => by obtain ⟨_, _, _, _, _, _, _, h, _⟩ := z; exact SqL.of h) ?_ ?_⟩
  · rintro i x σ' H4 hi ⟨vv, y6, ys, kvs, rfl, ex4, hd4, hk4, hdd4, kl, yl, yp, yb, hv⟩
    have hi' : i < ks.length := by have := (List.getElem?_eq_some_iff.mp hi).1; rw [List.length_map] at this; exact this
    rw [List.getElem?_map, List.getElem?_eq_getElem hi'] at hi
    cases hi
    refine ⟨_, rfl, _, rfl, _, rfl, d, _, rfl, DPut.k (k := Sum.inl ks[i]) hdd4 (by rw [sizeLine_eq]; omega), ?_⟩
    have ndk : d ≠ pk := fun e => by rw [e, hk4] at hdd4; cases hdd4
    have hk5 : upd H4 d (.dK (putK kvs (Sum.inl ks[i]) (.int vv))) pk = some (.lst (ks.map V.int)) := (upd_ne ndk.symm).trans hk4
    have hdd5 := upd_same (H := H4) (a := d) (o := .dK (putK kvs (Sum.inl ks[i]) (.int vv)))
    have ex5 : Ex T [dr] H2 (upd H4 d (.dK (putK kvs (Sum.inl ks[i]) (.int vv)))) := ex4.put nd wd2
    have hd5 := hd4.put (o := .dK (putK kvs (Sum.inl ks[i]) (.int vv))) ndd.symm
    generalize upd H4 d (.dK (putK kvs (Sum.inl ks[i]) (.int vv))) = H5 at *
    refine ⟨_, rfl, _, _, rfl, rfl, _, rfl, dr, 50, rfl, by decide, hd5, fun z H6 z0 z1 ex6 hd6 => ⟨_, rfl, _, rfl, by show 4 ≤ sizeLine; decide, fun p np => ⟨_, rfl, dr, 4, rfl, by decide, hd6.new np, fun y H7 w0 w1 ex7 hd7 => ?_⟩⟩⟩
    have hp7 : H7 p = some (.lst (([0, 1, z, (if c < 0 then -c else c)] : List Int).map V.int)) := ex7.lst (by simpa using hd6.ne np) upd_same
    obtain ⟨v, hv', hat⟩ := menu_at (xs := ([0, 1, z, (if c < 0 then -c else c)] : List Int).map V.int) w0 w1
    obtain ⟨t, ht, rfl⟩ := List.mem_map.mp hv'
    have t0 : 0 ≤ t := by
      simp only [List.mem_cons, List.not_mem_nil, or_false] at ht
      rcases ht with rfl | rfl | rfl | rfl
      · omega
      · omega
      · exact z0
      · split <;> omega
    have e57 := ex6.trans ((Ex.new np).trans ex7)
    refine ⟨p, _, _, _, rfl, rfl, SqL.of hp7, hat, _, _, rfl, rfl, vv + 1 + t, _, ys ++ [vv], _, rfl, ex5.trans e57, hd7, e57.lst (by simpa using npd) hk5, e57.keep d _ (by simpa using ndd) hdd5 (fun ps e => by cases e), ?_, by rw [List.length_append, yl]; rfl, ?_, ?_, fun j hj hji => ?_⟩
    · have := length_putK kvs (Sum.inl ks[i] : Key) (V.int vv)
      omega
    · exact List.pairwise_append.mpr ⟨yp, by simp, fun a ha b hb => by rw [List.mem_singleton.mp hb]; exact yb a ha⟩
    · intro y hy
      rcases List.mem_append.mp hy with h | h
      · have := yb y h; omega
      · rw [List.mem_singleton.mp h]; omega
    · rw [valV_put]
      by_cases e : j = i
      · subst e
        rw [if_pos rfl, List.getD_eq_getElem?_getD, List.getElem?_append_right (by omega), yl, Nat.sub_self]
        rfl
      · have lt : j < i := by omega
        have ne : ks[j] ≠ ks[i] := Int.ne_of_lt ((at_lt srtd hj hi').mpr lt)
        rw [if_neg (fun z => ne (Sum.inl.inj z)), hv j hj lt, List.getD_eq_getElem?_getD, List.getD_eq_getElem?_getD, List.getElem?_append_left (by omega)]
  · rintro σ' H4 ⟨vv, y6, ys, kvs, rfl, ex4, hd4, hk4, hdd4, kl, yl, yp, yb, hv⟩
    rw [List.length_map] at yl hv
    have x4 := x2.trans ex4
    have wd4 := x4.wd wd
    have sq4 := x4.sqT sqx
    obtain ⟨g, hg⟩ : ∃ g : Int → Int, g = fun x => ys.getD (Dv.cnt ks x) 0 := ⟨_, rfl⟩
    have gk : ∀ x, x ∈ vals es → valV kvs (Sum.inl x) = some (.int (g x)) := fun x hx => by
      obtain ⟨j, hj, ej, cj⟩ := cnt_of srtd (mks.mpr hx)
      have := hv j hj (by omega)
      rw [ej] at this
      rw [this, hg]
      show _ = some (V.int (ys.getD (Dv.cnt ks x) 0))
      rw [cj]
    have gm : ∀ a b, a ∈ vals es → b ∈ vals es → a < b → g a < g b := fun a b ha hb hab => by
      obtain ⟨i, hi, ei, ci⟩ := cnt_of srtd (mks.mpr ha)
      obtain ⟨j, hj, ej, cj⟩ := cnt_of srtd (mks.mpr hb)
      rw [hg]
      show ys.getD (Dv.cnt ks a) 0 < ys.getD (Dv.cnt ks b) 0
      rw [ci, cj]
      have lij : i < j := (at_lt srtd hi hj).mp (by rw [ei, ej]; exact hab)
      rw [List.getD_eq_getElem?_getD, List.getD_eq_getElem?_getD, List.getElem?_eq_getElem (by omega), List.getElem?_eq_getElem (by omega)]
      exact List.pairwise_iff_getElem.mp yp i j (by omega) (by omega) lij
    refine ⟨_, rfl, ax, rfl, ⟨_, sq4⟩, fun D nD => lc_tup (xs := xs) (fun i H' => Col K T [] D H4 H' (((es.map (chL g)).take i).map encE)) (Col.start Ex.refl nD) (fun i H' _ c' => c'.1.sqT sq4) ?_ ?_⟩
    · rintro i x H' hi cl
      have hi' : i < es.length := by rw [← xl]; exact (List.getElem?_eq_some_iff.mp hi).1
      obtain ⟨x', hx1, hx2⟩ := atx.at (List.getElem?_eq_getElem hi')
      rw [hi] at hx1
      cases hx1
      obtain ⟨ap, p1, p2, rfl, sqp, q1, q2⟩ := (hx2.ext (x4.trans cl.1.nil)).t2
      cases at_int.mp q1
      cases at_int.mp q2
      have gi := gk es[i].2 (List.mem_map.mpr ⟨_, List.getElem_mem hi', rfl⟩)
      have dg := DGet.k (k := Sum.inl es[i].2) (cl.1.dk (by simp) hdd4)
      rw [gi] at dg
      refine ⟨wipe1, yesIf ⟨_, rfl, ap, _, _, _, rfl, rfl, sqp, rfl, _, rfl, _, rfl, ap, _, _, _, rfl, rfl, sqp, rfl, d, _, rfl, dg, by show 2 ≤ sizeLine; decide, fun l nl => ?_⟩⟩
      obtain ⟨acc, k1, k2, k3⟩ := cl.put nD (by simp) wd4 (Ex.new nl) (x := .ref l) (d := encE (chL g es[i])) (At.laid nl (Ats.mk (at_int.mpr rfl) (Ats.mk (at_int.mpr rfl) Ats.mk_nil))) (take_len _ _ _ _ (by rw [List.length_map]; omega))
      refine ⟨acc, k1, k2, ?_⟩
      rw [take_map] at k3
      · exact k3
      · rw [List.getElem?_map, List.getElem?_eq_getElem hi']
        rfl
    · rintro H5 cl
      rw [xl, show es.length = (es.map (chL g)).length by rw [List.length_map], List.take_length] at cl
      obtain ⟨ex5, as0, hD5, ats0⟩ := cl
      refine ⟨D, _, rfl, .inl ⟨SqL.of hD5, fun l nl => ?_⟩⟩
      have e5 := ex5.trans (Ex.new (T := T) (ms := []) (o := .tup as0) nl)
      exact q _ _ g gm (At.laid nl ats0) (x4.trans e5.nil) (let ⟨ds, hds⟩ := hd4; ⟨ds, e5.lst (by simp) hds⟩)

theorem okD5_int {n : Nat} {i : Int} : okD n (.int i) := by cases n <;> (unfold okD; trivial)
theorem okD5_encO {n : Nat} {o : Option Int} : okD n (encO o) := by cases o <;> cases n <;> (unfold encO okD; trivial)
theorem okDs5_map {α : Type} {f : α → D} {n : Nat} : ∀ {l : List α}, (∀ a ∈ l, okD n (f a)) → okDs n (l.map f)
  | [], _ => by rw [List.map_nil]; unfold okDs; trivial
  | a :: l, h => by
    rw [List.map_cons]
    unfold okDs
    exact ⟨h a (by simp), okDs5_map fun b hb => h b (by simp [hb])⟩
theorem okD5_tup {n : Nat} {ds : List D} (hl : ds.length ≤ 100000) (h : okDs n ds) : okD (n + 1) (.tup ds) := by unfold okD; exact ⟨hl, h⟩
theorem okD5_encA {n : Nat} {a : List (Int × Option Int)} (hl : a.length ≤ 100000) : okD (n + 2) (encA a) :=
  okD5_tup (by rw [List.length_map]; exact hl) (okDs5_map fun p _ => okD5_tup (by show 2 ≤ 100000; decide) (by unfold okDs okDs okDs; exact ⟨okD5_int, okD5_encO, trivial⟩))
theorem said_len {m : M} {k : Nat} (ok : okM k m) : ∀ {es : List (Nat × Int)} {c : Ct}, okCt m c → (∀ e ∈ es, e.1 < m.tags) → ∀ a ∈ answersM m c es, a.length ≤ 1000
  | [], c, _, _, a, h => by cases h
  | e :: es, c, hc, ht, a, h => by
    rcases List.mem_cons.mp h with rfl | h
    · obtain ⟨_, _, _, _, hcs⟩ := M.cases_at ok hc.st (ht e (by simp))
      unfold readM
      cases ef : (m.cases c.1 e.1).find? (holdC e.2 c.2) with
      | none => exact Nat.zero_le _
      | some k => exact (by show (saidC e.2 c.2 k).length ≤ 1000; unfold saidC; rw [List.length_map]; exact (hcs k (List.mem_of_find?_eq_some ef)).slen)
    · exact said_len ok (hc.step ok (ht e (by simp))) (fun f hf => ht f (by simp [hf])) a h
theorem okD_answers {m : M} {k n : Nat} (ok : okM k m) {es : List (Nat × Int)} {c : Ct} (hc : okCt m c) (ht : ∀ e ∈ es, e.1 < m.tags) (hl : es.length ≤ 5000) : okD (n + 3) (.tup ((answersM m c es).map encA)) :=
  okD5_tup (by rw [List.length_map, answersM_length]; omega) (okDs5_map fun a ha => okD5_encA (by have := said_len ok hc ht a ha; omega))
abbrev N_law : List Str := ["script", "draws", "cell", "machine", "log", "rows", "other"]
theorem sc_law : FnScope N_law ["script"] (defScope s_law) := ⟨rfl, rfl, rfl, by decide +kernel, rfl, by decide +kernel, by decide +kernel⟩
def sp_law (K : PySem.W.Frag) (T : List Addr) : Sp := fun vs H Q _ => ∃ (a : Addr) (ns : List Int), vs = [.ref a] ∧ SqL K H a (ns.map V.int) ∧ ns.length ≤ 63 ∧ (∀ z ∈ ns, Builtin.Int.intBits z ≤ 1048576) ∧ Wd T H ∧ ∀ H', Q (.bl true) H'
theorem ok_law {f : Addr} {fd : FuncData} {k : Nat} {T : List Addr} (F : Fun K "law" "law" s_law f fd) (m_len : mg "len" = none)
    {a__law_draws : Addr} {d__law_draws : FuncData} (G__law_draws : FnOk P w K mg base CX0 k a__law_draws d__law_draws ["script", "many"] (sp__law_draws K T)) (k__law_draws : PySem.W.keepIn K (.ref a__law_draws) = true) (b__law_draws : Binds K d__law_draws ["script", "many"] []) (m__law_draws : mg "_law_draws" = some (.ref a__law_draws))
    {a__law_cell : Addr} {d__law_cell : FuncData} (G__law_cell : FnOk P w K mg base CX0 k a__law_cell d__law_cell ["script", "draws"] (sp__law_cell K T)) (k__law_cell : PySem.W.keepIn K (.ref a__law_cell) = true) (b__law_cell : Binds K d__law_cell ["script", "draws"] []) (m__law_cell : mg "_law_cell" = some (.ref a__law_cell))
    {a__law_any_machine : Addr} {d__law_any_machine : FuncData} (G__law_any_machine : FnOk P w K mg base CX0 k a__law_any_machine d__law_any_machine ["draws"] (sp__law_any_machine K T)) (k__law_any_machine : PySem.W.keepIn K (.ref a__law_any_machine) = true) (b__law_any_machine : Binds K d__law_any_machine ["draws"] []) (m__law_any_machine : mg "_law_any_machine" = some (.ref a__law_any_machine))
    {a__law_log : Addr} {d__law_log : FuncData} (G__law_log : FnOk P w K mg base CX0 k a__law_log d__law_log ["draws", "tags", "most", "base"] (sp__law_log K T)) (k__law_log : PySem.W.keepIn K (.ref a__law_log) = true) (b__law_log : Binds K d__law_log ["draws", "tags", "most", "base"] []) (m__law_log : mg "_law_log" = some (.ref a__law_log))
    {a__law_base : Addr} {d__law_base : FuncData} (G__law_base : FnOk P w K mg base CX0 k a__law_base d__law_base ["draws", "cell"] (sp__law_base T)) (k__law_base : PySem.W.keepIn K (.ref a__law_base) = true) (b__law_base : Binds K d__law_base ["draws", "cell"] []) (m__law_base : mg "_law_base" = some (.ref a__law_base))
    {a_answers : Addr} {d_answers : FuncData} (G_answers : FnOk P w K mg base CX0 k a_answers d_answers ["machine", "log"] (sp_answers K T 3)) (k_answers : PySem.W.keepIn K (.ref a_answers) = true) (b_answers : Binds K d_answers ["machine", "log"] []) (m_answers : mg "answers" = some (.ref a_answers))
    {a_tight : Addr} {d_tight : FuncData} (G_tight : FnOk P w K mg base CX0 k a_tight d_tight ["log"] (sp_tight K T)) (k_tight : PySem.W.keepIn K (.ref a_tight) = true) (b_tight : Binds K d_tight ["log"] []) (m_tight : mg "tight" = some (.ref a_tight))
    {a__law_of_same_order : Addr} {d__law_of_same_order : FuncData} (G__law_of_same_order : FnOk P w K mg base CX0 k a__law_of_same_order d__law_of_same_order ["draws", "cell", "log"] (sp__law_of_same_order K T)) (k__law_of_same_order : PySem.W.keepIn K (.ref a__law_of_same_order) = true) (b__law_of_same_order : Binds K d__law_of_same_order ["draws", "cell", "log"] []) (m__law_of_same_order : mg "_law_of_same_order" = some (.ref a__law_of_same_order))
    {a__law_mapped : Addr} {d__law_mapped : FuncData} (G__law_mapped : FnOk P w K mg base CX0 k a__law_mapped d__law_mapped ["rows", "found"] (sp__law_mapped K T w P)) (k__law_mapped : PySem.W.keepIn K (.ref a__law_mapped) = true) (b__law_mapped : Binds K d__law_mapped ["rows", "found"] []) (m__law_mapped : mg "_law_mapped" = some (.ref a__law_mapped))
    {a__law_map : Addr} {d__law_map : FuncData} (G__law_map : FnOk P w K mg base CX0 k a__law_map d__law_map ["log", "other"] (sp__law_map K T w P)) (k__law_map : PySem.W.keepIn K (.ref a__law_map) = true) (b__law_map : Binds K d__law_map ["log", "other"] []) (m__law_map : mg "_law_map" = some (.ref a__law_map)) :
    FnOk P w K mg base CX0 (k + 1) f fd ["script"] (sp_law K T) := by
  refine F.ok sc_law (fun vs H Q E h => ?_) (fun cdv A outer s H vs Q E hr h => ?_)
  · obtain ⟨a, ns, rfl, _⟩ := h
    rfl
  obtain ⟨a, ns, rfl, hS, h63, hbits, wd, q⟩ := h
  refine ⟨_, (pss_cons (ps_set (i := 1) sc_law.nd rfl (.inl rfl) (pe_call G__law_draws hr (by rfl) m__law_draws k__law_draws b__law_draws .nil pass0 (pa_cons (pv 0) (pa_cons pe_int pa_nil))))
    (pss_cons (ps_set (i := 2) sc_law.nd rfl (.inl rfl) (pe_call G__law_cell hr (by rfl) m__law_cell k__law_cell b__law_cell .nil pass0 (pa_cons (pv 0) (pa_cons (pv 1) pa_nil))))
    (pss_cons (ps_set (i := 3) sc_law.nd rfl (.inl rfl) (pe_call G__law_any_machine hr (by rfl) m__law_any_machine k__law_any_machine b__law_any_machine .nil pass0 (pa_cons (pv 1) pa_nil)))
    (pss_cons (ps_set (i := 4) sc_law.nd rfl (.inl rfl) (pe_call G__law_log hr (by rfl) m__law_log k__law_log b__law_log .nil pass0 (pa_cons (pv 1) (pa_cons (pe_ix ix_tup (pv 3) pe_int (fun _ _ => rfl)) (pa_cons pe_int (pa_cons (pe_call G__law_base hr (by rfl) m__law_base k__law_base b__law_base .nil pass0 (pa_cons (pv 1) (pa_cons (pv 2) pa_nil))) pa_nil))))))
    (pss_cons (ps_set (i := 5) sc_law.nd rfl (.inl rfl) (pe_call G_answers hr (by rfl) m_answers k_answers b_answers .nil pass0 (pa_cons (pv 3) (pa_cons (pv 4) pa_nil))))
    (pss_cons (ps_if (pt_cmpR op_ne (pe_callB call_len_seq (by rfl) m_len PySem.boot_len (pa_cons (pv 5) pa_nil)) (pe_callB call_len_seq (by rfl) m_len PySem.boot_len (pa_cons (pv 4) pa_nil)) (nomark _))
      (pss_one (ps_ret pe_bl))
      pss_nil)
    (pss_cons (ps_for PassesOwn.never rfl (pi_list (pe_lst (pa_cons (pe_call G_tight hr (by rfl) m_tight k_tight b_tight .nil pass0 (pa_cons (pv 4) pa_nil)) (pa_cons (pe_call G__law_of_same_order hr (by rfl) m__law_of_same_order k__law_of_same_order b__law_of_same_order .nil pass0 (pa_cons (pv 1) (pa_cons (pv 2) (pa_cons (pv 4) pa_nil)))) pa_nil)))) (pg_name (i := 6) sc_law.nd rfl (.inl rfl))
      (C8.pss_cut (ps_if (pw_or (pt_cmpR op_ne (pe_callB call_len_seq (by rfl) m_len PySem.boot_len (pa_cons (pv 6) pa_nil)) (pe_callB call_len_seq (by rfl) m_len PySem.boot_len (pa_cons (pv 4) pa_nil)) (nomark _)) (pw_or1 (pt_cmpR (op_neD hr.units) (pe_call G_answers hr (by rfl) m_answers k_answers b_answers .nil pass0 (pa_cons (pv 3) (pa_cons (pv 6) pa_nil))) (pe_call G__law_mapped hr (by rfl) m__law_mapped k__law_mapped b__law_mapped .nil pass0 (pa_cons (pv 5) (pa_cons (pe_call G__law_map hr (by rfl) m__law_map k__law_map b__law_map .nil pass0 (pa_cons (pv 4) (pa_cons (pv 6) pa_nil))) pa_nil))) (nomark _)))).pt
        (pss_one (ps_ret pe_bl))
        pss_nil)
      pss_nil))
    (pss_one (ps_ret pe_bl))))))))), ?_⟩
  refine ⟨_, rfl, a, ns, 2300, rfl, hS, h63, by decide, by decide, wd, fun dr H1 nd ex1 hd1 => ?_⟩
  refine ⟨_, rfl, _, rfl, a, dr, ns, rfl, fun H' e => sqL_stay hS nd ex1 e, hd1, fun cell H2 hcell ex2 hd2 => ?_⟩
  have wd2 : Wd T H2 := ex2.wd (ex1.wd wd)
  refine ⟨_, rfl, dr, rfl, wd2, hd2, fun xm H3 m atm ok ex3 hd3 => ?_⟩
  have wd3 := ex3.wd wd2
  obtain ⟨am, y1, y2, y3, rfl, sqm, h1, h2, h3⟩ := id atm.t3
  cases at_int.mp h1
  refine ⟨_, rfl, _, rfl, am, _, _, _, rfl, rfl, sqm, rfl, _, rfl, _, rfl, dr, cell, rfl, hd3, fun b H4 hb ex4 hd4 => ?_⟩
  refine ⟨dr, m.tags, 14, b, rfl, ok.tags, by decide, by decide, ex4.wd wd3, hd4, fun vl H5 es atl len hes ex5 hd5 => ?_⟩
  have wd5 := ex5.wd (ex4.wd wd3)
  have atm5 := (atm.ext ex4).ext ex5
  have tg : ∀ e ∈ es, e.1 < m.tags := fun e he => (hes e he).1
  have q5 : ∀ H', Ex T [dr] H5 H' → Q (.bl true) H' := fun H' _ => q H'
  clear h1 h2 h3 sqm atm hd4 hd3 hd2 hd1 hes ex5 ex4 ex3 ex2 ex1 wd3 wd2 hS
  have okb := begM_ok ok
  refine ⟨_, rfl, _, rfl, .ref am, vl, m, es, rfl, atm5, Lg.tup atl, wd5, ok, tg, by omega, fun vr H6 atr ex6 => ?_⟩
  obtain ⟨al, xs, rfl, sql, ate⟩ := at_tup.mp (atl.ext ex6)
  obtain ⟨arr, rs, rfl, sqr, atrs⟩ := id (at_tup.mp atr)
  have xl : xs.length = es.length := ate.len
  have rl : rs.length = es.length := by rw [atrs.len, answersM_length]
  refine ⟨_, rfl, arr, _, rfl, .inr sqr, _, rfl, al, _, rfl, .inr sql, ?_⟩
  rw [rl, xl]
  refine ⟨rfl, _, rfl, ?_⟩
  rw [decide_eq_true rfl]
  refine iteF ?_
  have wd6 := ex6.wd wd5
  have hd6 : Dr H6 dr := by
    obtain ⟨ds, hds⟩ := hd5
    exact ⟨ds, ex6.lst (by simp) hds⟩
  have atl6 := atl.ext ex6
  have atm6 := atm5.ext ex6
  have len14 : es.length ≤ 14 := by omega
  have sl : (srt (vals es)).length < 60 := by
    have := srt_le (l := vals es) (P := vals es) (fun x h => h)
    rw [vals_len] at this
    omega
  have said := said_len ok okb tg
  have inP := answersM_P (P := fun x => x ∈ vals es) m (c := begM m) (es := es) (PH_rep _) (fun e he => List.mem_map.mpr ⟨e, he, rfl⟩)
  have mb : ∀ g : Int → Int, mapC g (begM m) = begM m := fun g => by
    show ((begM m).1, mapH g (List.replicate m.regs none)) = _
    rw [mapH_rep]
    rfl
  refine ⟨_, rfl, .ref al, es, rfl, Lg.tup atl6, by omega, sl, wd6, fun vt H7 att ex7 => ?_⟩
  have hd7 : Dr H7 dr := by
    obtain ⟨ds, hds⟩ := hd6
    exact ⟨ds, ex7.lst (by simp) hds⟩
  refine ⟨_, rfl, _, rfl, _, rfl, dr, cell, .ref al, es, rfl, atl6.ext ex7, by omega, ex7.wd wd6, hd7, fun vo H8 g0 gm0 ato ex8 hd8 => ⟨by show 2 ≤ sizeLine; decide, fun pL nL => ?_⟩⟩
  have eL := Ex.new (T := T) (ms := [dr]) (o := .lst [vt, vo]) nL
  have x69 := (ex7.nil.trans ex8).trans eL
  have both : ∀ x ∈ [vt, vo], ∃ g : Int → Int, (∀ a b, a ∈ vals es → b ∈ vals es → a < b → g a < g b) ∧ At K (upd H8 pL (.lst [vt, vo])) x (.tup ((es.map (chL g)).map encE)) := fun x hx => by
    rcases List.mem_cons.mp hx with rfl | hx
    · exact ⟨tgF es, fun a b ha hb h => (tg_lt ha hb).mpr h, (att.ext ex8).ext eL⟩
    · rw [List.mem_singleton.mp hx]
      exact ⟨g0, gm0, ato.ext eL⟩
  have hL := upd_same (H := H8) (a := pL) (o := .lst [vt, vo])
  have atl9 := atl6.ext x69
  have atm9 := atm6.ext x69
  have atr9 := atr.ext x69
  have sql9 := x69.sqT sql
  have wd9 := x69.wd wd6
  have q9 : ∀ H', Ex T [] (upd H8 pL (.lst [vt, vo])) H' → Q (.bl true) H' := fun H' e => q5 H' (ex6.nil.trans (x69.trans e.nil))
  generalize upd H8 pL (.lst [vt, vo]) = H9 at *
  refine ⟨pL, rfl, ⟨_, SqL.of hL⟩, for_list (xs := [vt, vo]) (fun i σ' H' => (∃ y6, σ' = [some (.ref a), some (.ref dr), some (.int cell), some (.ref am), some (.ref al), some (.ref arr), y6]) ∧ Ex T [] H9 H') ⟨⟨_, rfl⟩, Ex.refl⟩ (fun i σ' H' _ z => z.2.sqL (by simp) (SqL.of hL)) ?_ ?_⟩
  · rintro i x σ' H10 hi ⟨⟨y6, rfl⟩, ex10⟩
    obtain ⟨g, gm, atx⟩ := both x (List.mem_of_getElem? hi)
    have atx := atx.ext ex10
    obtain ⟨ax, ys, rfl, sqx, aty⟩ := id (at_tup.mp atx)
    have yl : ys.length = es.length := by rw [aty.len, List.length_map]
    refine ⟨fun σ' H' => σ' = [some (.ref a), some (.ref dr), some (.int cell), some (.ref am), some (.ref al), some (.ref arr), some (.ref ax)] ∧ Ex T [] H10 H', ?_, ?_⟩
    · refine ⟨_, rfl, ax, _, rfl, .inr sqx, _, rfl, al, _, rfl, .inr (ex10.sqT sql9), ?_⟩
      rw [yl, xl]
      refine ⟨rfl, _, rfl, ?_⟩
      rw [decide_eq_true rfl]
      refine iteF ?_
      refine ⟨_, rfl, _, rfl, .ref am, .ref ax, m, es.map (chL g), rfl, atm9.ext ex10, Lg.tup atx, ex10.wd wd9, ok, chL_tag tg, by rw [List.length_map]; omega, fun v1 H11 at1 ex11 => ?_⟩
      have x11 := ex10.trans ex11
      refine ⟨_, rfl, _, rfl, _, rfl, .ref al, .ref ax, es, g, rfl, atl9.ext x11, atx.ext ex11, by omega, x11.wd wd9, fun pd kvs H12 hpd mo ex12 => ?_⟩
      have x12 := x11.trans ex12
      refine ⟨.ref arr, pd, answersM m (begM m) es, g, kvs, rfl, atr9.ext x12, hpd, fun r hr' => ⟨said r hr', fun p hp => ⟨fun _ => mo.1, fun z hz => ?_⟩⟩, by rw [answersM_length]; omega, x12.wd wd9, fun v2 H13 at2 ex13 => ?_⟩
      · obtain ⟨e, he, ee⟩ := List.mem_map.mp (inP r hr' p hp z hz)
        rw [← ee]
        exact mo.2 e he
      rw [← answersM_on (emb_of gm) m (c := begM m) (PH_rep _) (fun e he => List.mem_map.mpr ⟨e, he, rfl⟩), mb g] at at2
      exact neD_same (n := 6) ((at1.ext ex12).ext ex13) at2 plD_answers (by decide) ⟨_, rfl, iteF ⟨rfl, (ex11.trans ex12).trans ex13⟩⟩
    rintro σ1 H11 ⟨rfl, ex11⟩
    exact ⟨⟨_, rfl⟩, ex10.trans ex11⟩
  · rintro σ' H10 ⟨_, ex10⟩
    exact q9 H10 ex10

end
/-- tables of defs by name -/
def TabOf (mg : Str → Option Value) (h : Heap) (nm : Str) : Prop := ∃ a o fd c P, mg nm = some (.ref a) ∧ h.get? a = some o ∧ o.data = .func fd ∧ fd.code = .ref c ∧ h.IsCode c P #[] ∧ h.TableAt c P #[]
theorem walk_tabs {l : PySem.W.OpenLaw} {n k : Nat} {q : Program} {loose : List Str} {XP : (Str → Option Value) → Heap → Prop} {YP : World → Heap → Prop} {d : DefRec} {K : Params → PySem.W.Frag} {CX : World → CXT} {x : Str} (names : List Str)
    (hn : l.most = some n) (hn2 : n ≤ sizeLine) (hdf : d.params.defaults = []) (hr : Room k callerA) (hrec : (names.all fun nm => (recsOf q).any fun e => e.name == nm) = true) (hY : ∀ (w : World) (h : Heap), YP w h → (K w.params).In h)
    (F : ∀ (w : World) (mg : Str → Option Value) (fa : Addr) (h : Heap), YP w h → (K w.params).In h → h.Ns mainGlobals mg → mg d.name = some (.ref fa) → (∀ nm ∈ names, TabOf mg h nm) → LamX.LawAtS l w (K w.params) (CX w) k n x mg fa h)
    (hCX : ∀ (w : World) (H : Hp) (s : Shared) (e : Value) (s' : Shared), CX w [] H s (fun _ _ _ => False) e s' → False) :
    PySem.W.WalkO q loose XP YP l.row.toRowW d [] (fun f vs => PySem.call f vs) := by
  refine Att.attach_callB hn hdf fun w s₀ s₁ mg mb fa o pm cd doc a vs ns G Y ho hd hcd hmg hobj hints hlen hbits hg => ?_
  have KX := hY w _ Y
  have own : ∀ nm ∈ names, TabOf mg s₁.heap nm := fun nm hnm => by
    obtain ⟨dL, hm, hn1⟩ := List.any_eq_true.mp (List.all_eq_true.mp hrec nm hnm)
    have hn2 : dL.name = nm := beq_iff_eq.mp hn1
    obtain ⟨a', o', fd', c', P', h1, r⟩ := G.T.tab dL hm
    rw [hn2] at h1
    exact ⟨a', o', fd', c', P', h1, r⟩
  obtain ⟨fd, cs, sp, hT, nT, C, hb, hsp, hF⟩ := F w mg fa _ Y KX G.T.g hmg own
  exact LamX.law_callTs KX G.T.g G.T.b G.T.builtins G.T.nolimit hg hT nT C G.T.bmain hobj hints (Nat.le_trans hlen hn2) hr hF hb (fun H hH hS => hsp H a ns hlen hbits hH hS) fun H e s' => hCX w H s₁ e s'
/-- a def's table, found by its code object in the written part -/
theorem tab_at {K : PySem.W.Frag} {h : Heap} {mg : Str → Option Value} {nm : Str} {f c P : Addr} {oc e : Value} {od dd : Option Addr} {osl sl : Array (Option Value)} {fd : FuncData} {vs : Array Value} (X : K.In h) (t : TabOf mg h nm) (m : mg nm = some (.ref f))
    (l : K.lookup f = some ⟨oc, od, .func fd, osl⟩) (cd : fd.code = .ref c) (u : K.lookup c = some ⟨e, dd, .fields vs, sl⟩) (v : vs[11]? = some (.ref P)) :
    h.get? P = some { cls := .none, data := .fields #[] } ∧ PySem.W.CodeHd h c P := by
  obtain ⟨a', o', fd', c', P', h1, h2, h3, h4, h5, h6⟩ := t
  rw [m] at h1
  cases h1
  have g1 := X _ _ l
  rw [g1] at h2
  cases h2
  cases h3
  rw [cd] at h4
  cases h4
  have g2 := X _ _ u
  have hd := PySem.W.CodeHd.of h5 h6
  obtain ⟨⟨oc', vc, e1, _, e3, e4⟩, hP⟩ := h6
  rw [g2] at e1
  cases e1
  cases e3
  rw [v] at e4
  cases e4
  exact ⟨hP, hd⟩

theorem all_mk {l : PySem.W.OpenLaw} {w : World} {K : PySem.W.Frag} {h : Heap} {mg : Str → Option Value} {fa f__worth f_holds f_case_at f_read f_beginning f_answers_from f_answers f__law_draws f__law_take f__law_cell f__law_place f__law_source f__law_moves f__law_says f__law_condition f__law_cases f__law_machine f__law_any_machine f__law_base f__law_value f__law_log f__numbered f_tight f__law_map f__law_mapped f__law_of_same_order f_law : Addr} (X : K.In h) (G : h.Ns mainGlobals mg) (hfa : mg "law" = some (.ref fa))
    {od__worth an__worth : Option Addr} {sl__worth : Array (Option Value)} {oc__worth kV__worth dc__worth pm__worth cd__worth ct__worth : Value}
    {od_holds an_holds : Option Addr} {sl_holds : Array (Option Value)} {oc_holds kV_holds dc_holds pm_holds ct_holds : Value}
    {c_holds P_holds : Addr} {e_holds : Value} {dd_holds : Option Addr} {vs_holds : Array Value} {ss_holds : Array (Option Value)}
    {od_case_at an_case_at : Option Addr} {sl_case_at : Array (Option Value)} {oc_case_at kV_case_at dc_case_at pm_case_at cd_case_at ct_case_at : Value}
    {od_read an_read : Option Addr} {sl_read : Array (Option Value)} {oc_read kV_read dc_read pm_read cd_read ct_read : Value}
    {od_beginning an_beginning : Option Addr} {sl_beginning : Array (Option Value)} {oc_beginning kV_beginning dc_beginning pm_beginning cd_beginning ct_beginning : Value}
    {od_answers_from an_answers_from : Option Addr} {sl_answers_from : Array (Option Value)} {oc_answers_from kV_answers_from dc_answers_from pm_answers_from cd_answers_from ct_answers_from : Value}
    {od_answers an_answers : Option Addr} {sl_answers : Array (Option Value)} {oc_answers kV_answers dc_answers pm_answers cd_answers ct_answers : Value}
    {od__law_draws an__law_draws : Option Addr} {sl__law_draws : Array (Option Value)} {oc__law_draws kV__law_draws dc__law_draws pm__law_draws cd__law_draws ct__law_draws : Value}
    {od__law_take an__law_take : Option Addr} {sl__law_take : Array (Option Value)} {oc__law_take kV__law_take dc__law_take pm__law_take cd__law_take ct__law_take : Value}
    {od__law_cell an__law_cell : Option Addr} {sl__law_cell : Array (Option Value)} {oc__law_cell kV__law_cell dc__law_cell pm__law_cell cd__law_cell ct__law_cell : Value}
    {od__law_place an__law_place : Option Addr} {sl__law_place : Array (Option Value)} {oc__law_place kV__law_place dc__law_place pm__law_place cd__law_place ct__law_place : Value}
    {od__law_source an__law_source : Option Addr} {sl__law_source : Array (Option Value)} {oc__law_source kV__law_source dc__law_source pm__law_source cd__law_source ct__law_source : Value}
    {od__law_moves an__law_moves : Option Addr} {sl__law_moves : Array (Option Value)} {oc__law_moves kV__law_moves dc__law_moves pm__law_moves cd__law_moves ct__law_moves : Value}
    {od__law_says an__law_says : Option Addr} {sl__law_says : Array (Option Value)} {oc__law_says kV__law_says dc__law_says pm__law_says cd__law_says ct__law_says : Value}
    {od__law_condition an__law_condition : Option Addr} {sl__law_condition : Array (Option Value)} {oc__law_condition kV__law_condition dc__law_condition pm__law_condition cd__law_condition ct__law_condition : Value}
    {od__law_cases an__law_cases : Option Addr} {sl__law_cases : Array (Option Value)} {oc__law_cases kV__law_cases dc__law_cases pm__law_cases cd__law_cases ct__law_cases : Value}
    {od__law_machine an__law_machine : Option Addr} {sl__law_machine : Array (Option Value)} {oc__law_machine kV__law_machine dc__law_machine pm__law_machine cd__law_machine ct__law_machine : Value}
    {od__law_any_machine an__law_any_machine : Option Addr} {sl__law_any_machine : Array (Option Value)} {oc__law_any_machine kV__law_any_machine dc__law_any_machine pm__law_any_machine cd__law_any_machine ct__law_any_machine : Value}
    {od__law_base an__law_base : Option Addr} {sl__law_base : Array (Option Value)} {oc__law_base kV__law_base dc__law_base pm__law_base cd__law_base ct__law_base : Value}
    {od__law_value an__law_value : Option Addr} {sl__law_value : Array (Option Value)} {oc__law_value kV__law_value dc__law_value pm__law_value cd__law_value ct__law_value : Value}
    {od__law_log an__law_log : Option Addr} {sl__law_log : Array (Option Value)} {oc__law_log kV__law_log dc__law_log pm__law_log cd__law_log ct__law_log : Value}
    {od__numbered an__numbered : Option Addr} {sl__numbered : Array (Option Value)} {oc__numbered kV__numbered dc__numbered pm__numbered cd__numbered ct__numbered : Value}
    {od_tight an_tight : Option Addr} {sl_tight : Array (Option Value)} {oc_tight kV_tight dc_tight pm_tight cd_tight ct_tight : Value}
    {od__law_map an__law_map : Option Addr} {sl__law_map : Array (Option Value)} {oc__law_map kV__law_map dc__law_map pm__law_map cd__law_map ct__law_map : Value}
    {od__law_mapped an__law_mapped : Option Addr} {sl__law_mapped : Array (Option Value)} {oc__law_mapped kV__law_mapped dc__law_mapped pm__law_mapped cd__law_mapped ct__law_mapped : Value}
    {od__law_of_same_order an__law_of_same_order : Option Addr} {sl__law_of_same_order : Array (Option Value)} {oc__law_of_same_order kV__law_of_same_order dc__law_of_same_order pm__law_of_same_order cd__law_of_same_order ct__law_of_same_order : Value}
    {od_law an_law : Option Addr} {sl_law : Array (Option Value)} {oc_law kV_law dc_law pm_law cd_law ct_law : Value}
    {t_NEW t_NOTHING : Tok}
    (TT : ∀ nm ∈ (["holds"] : List Str), TabOf mg h nm)
    (a__worth : PySem.W.nsIn K mainGlobals "_worth" = some (some (.ref f__worth))) (l__worth : K.lookup f__worth = some ⟨oc__worth, od__worth, .func (PySem.W.fnOf "_worth" "_worth" (defArgs s__worth) (defBody s__worth) (defScope s__worth) .none kV__worth dc__worth pm__worth an__worth cd__worth ct__worth), sl__worth⟩) (c__worth_ : PySem.W.codeIn K cd__worth "_worth" = true) (k__worth : PySem.W.keepIn K (.ref f__worth) = true)
    (a_holds : PySem.W.nsIn K mainGlobals "holds" = some (some (.ref f_holds))) (l_holds : K.lookup f_holds = some ⟨oc_holds, od_holds, .func (PySem.W.fnOf "holds" "holds" (defArgs s_holds) (defBody s_holds) (defScope s_holds) .none kV_holds dc_holds pm_holds an_holds (.ref c_holds) ct_holds), sl_holds⟩) (c_holds_ : PySem.W.codeIn K (.ref c_holds) "holds" = true) (k_holds : PySem.W.keepIn K (.ref f_holds) = true)
    (u_holds : K.lookup c_holds = some ⟨e_holds, dd_holds, .fields vs_holds, ss_holds⟩) (v_holds : vs_holds[11]? = some (.ref P_holds)) (w_holds : K.lookup P_holds = none)
    (a_case_at : PySem.W.nsIn K mainGlobals "case_at" = some (some (.ref f_case_at))) (l_case_at : K.lookup f_case_at = some ⟨oc_case_at, od_case_at, .func (PySem.W.fnOf "case_at" "case_at" (defArgs s_case_at) (defBody s_case_at) (defScope s_case_at) .none kV_case_at dc_case_at pm_case_at an_case_at cd_case_at ct_case_at), sl_case_at⟩) (c_case_at_ : PySem.W.codeIn K cd_case_at "case_at" = true) (k_case_at : PySem.W.keepIn K (.ref f_case_at) = true)
    (a_read : PySem.W.nsIn K mainGlobals "read" = some (some (.ref f_read))) (l_read : K.lookup f_read = some ⟨oc_read, od_read, .func (PySem.W.fnOf "read" "read" (defArgs s_read) (defBody s_read) (defScope s_read) .none kV_read dc_read pm_read an_read cd_read ct_read), sl_read⟩) (c_read_ : PySem.W.codeIn K cd_read "read" = true) (k_read : PySem.W.keepIn K (.ref f_read) = true)
    (a_beginning : PySem.W.nsIn K mainGlobals "beginning" = some (some (.ref f_beginning))) (l_beginning : K.lookup f_beginning = some ⟨oc_beginning, od_beginning, .func (PySem.W.fnOf "beginning" "beginning" (defArgs s_beginning) (defBody s_beginning) (defScope s_beginning) .none kV_beginning dc_beginning pm_beginning an_beginning cd_beginning ct_beginning), sl_beginning⟩) (c_beginning_ : PySem.W.codeIn K cd_beginning "beginning" = true) (k_beginning : PySem.W.keepIn K (.ref f_beginning) = true)
    (a_answers_from : PySem.W.nsIn K mainGlobals "answers_from" = some (some (.ref f_answers_from))) (l_answers_from : K.lookup f_answers_from = some ⟨oc_answers_from, od_answers_from, .func (PySem.W.fnOf "answers_from" "answers_from" (defArgs s_answers_from) (defBody s_answers_from) (defScope s_answers_from) .none kV_answers_from dc_answers_from pm_answers_from an_answers_from cd_answers_from ct_answers_from), sl_answers_from⟩) (c_answers_from_ : PySem.W.codeIn K cd_answers_from "answers_from" = true) (k_answers_from : PySem.W.keepIn K (.ref f_answers_from) = true)
    (a_answers : PySem.W.nsIn K mainGlobals "answers" = some (some (.ref f_answers))) (l_answers : K.lookup f_answers = some ⟨oc_answers, od_answers, .func (PySem.W.fnOf "answers" "answers" (defArgs s_answers) (defBody s_answers) (defScope s_answers) .none kV_answers dc_answers pm_answers an_answers cd_answers ct_answers), sl_answers⟩) (c_answers_ : PySem.W.codeIn K cd_answers "answers" = true) (k_answers : PySem.W.keepIn K (.ref f_answers) = true)
    (a__law_draws : PySem.W.nsIn K mainGlobals "_law_draws" = some (some (.ref f__law_draws))) (l__law_draws : K.lookup f__law_draws = some ⟨oc__law_draws, od__law_draws, .func (PySem.W.fnOf "_law_draws" "_law_draws" (defArgs s__law_draws) (defBody s__law_draws) (defScope s__law_draws) .none kV__law_draws dc__law_draws pm__law_draws an__law_draws cd__law_draws ct__law_draws), sl__law_draws⟩) (c__law_draws_ : PySem.W.codeIn K cd__law_draws "_law_draws" = true) (k__law_draws : PySem.W.keepIn K (.ref f__law_draws) = true)
    (a__law_take : PySem.W.nsIn K mainGlobals "_law_take" = some (some (.ref f__law_take))) (l__law_take : K.lookup f__law_take = some ⟨oc__law_take, od__law_take, .func (PySem.W.fnOf "_law_take" "_law_take" (defArgs s__law_take) (defBody s__law_take) (defScope s__law_take) .none kV__law_take dc__law_take pm__law_take an__law_take cd__law_take ct__law_take), sl__law_take⟩) (c__law_take_ : PySem.W.codeIn K cd__law_take "_law_take" = true) (k__law_take : PySem.W.keepIn K (.ref f__law_take) = true)
    (a__law_cell : PySem.W.nsIn K mainGlobals "_law_cell" = some (some (.ref f__law_cell))) (l__law_cell : K.lookup f__law_cell = some ⟨oc__law_cell, od__law_cell, .func (PySem.W.fnOf "_law_cell" "_law_cell" (defArgs s__law_cell) (defBody s__law_cell) (defScope s__law_cell) .none kV__law_cell dc__law_cell pm__law_cell an__law_cell cd__law_cell ct__law_cell), sl__law_cell⟩) (c__law_cell_ : PySem.W.codeIn K cd__law_cell "_law_cell" = true) (k__law_cell : PySem.W.keepIn K (.ref f__law_cell) = true)
    (a__law_place : PySem.W.nsIn K mainGlobals "_law_place" = some (some (.ref f__law_place))) (l__law_place : K.lookup f__law_place = some ⟨oc__law_place, od__law_place, .func (PySem.W.fnOf "_law_place" "_law_place" (defArgs s__law_place) (defBody s__law_place) (defScope s__law_place) .none kV__law_place dc__law_place pm__law_place an__law_place cd__law_place ct__law_place), sl__law_place⟩) (c__law_place_ : PySem.W.codeIn K cd__law_place "_law_place" = true) (k__law_place : PySem.W.keepIn K (.ref f__law_place) = true)
    (a__law_source : PySem.W.nsIn K mainGlobals "_law_source" = some (some (.ref f__law_source))) (l__law_source : K.lookup f__law_source = some ⟨oc__law_source, od__law_source, .func (PySem.W.fnOf "_law_source" "_law_source" (defArgs s__law_source) (defBody s__law_source) (defScope s__law_source) .none kV__law_source dc__law_source pm__law_source an__law_source cd__law_source ct__law_source), sl__law_source⟩) (c__law_source_ : PySem.W.codeIn K cd__law_source "_law_source" = true) (k__law_source : PySem.W.keepIn K (.ref f__law_source) = true)
    (a__law_moves : PySem.W.nsIn K mainGlobals "_law_moves" = some (some (.ref f__law_moves))) (l__law_moves : K.lookup f__law_moves = some ⟨oc__law_moves, od__law_moves, .func (PySem.W.fnOf "_law_moves" "_law_moves" (defArgs s__law_moves) (defBody s__law_moves) (defScope s__law_moves) .none kV__law_moves dc__law_moves pm__law_moves an__law_moves cd__law_moves ct__law_moves), sl__law_moves⟩) (c__law_moves_ : PySem.W.codeIn K cd__law_moves "_law_moves" = true) (k__law_moves : PySem.W.keepIn K (.ref f__law_moves) = true)
    (a__law_says : PySem.W.nsIn K mainGlobals "_law_says" = some (some (.ref f__law_says))) (l__law_says : K.lookup f__law_says = some ⟨oc__law_says, od__law_says, .func (PySem.W.fnOf "_law_says" "_law_says" (defArgs s__law_says) (defBody s__law_says) (defScope s__law_says) .none kV__law_says dc__law_says pm__law_says an__law_says cd__law_says ct__law_says), sl__law_says⟩) (c__law_says_ : PySem.W.codeIn K cd__law_says "_law_says" = true) (k__law_says : PySem.W.keepIn K (.ref f__law_says) = true)
    (a__law_condition : PySem.W.nsIn K mainGlobals "_law_condition" = some (some (.ref f__law_condition))) (l__law_condition : K.lookup f__law_condition = some ⟨oc__law_condition, od__law_condition, .func (PySem.W.fnOf "_law_condition" "_law_condition" (defArgs s__law_condition) (defBody s__law_condition) (defScope s__law_condition) .none kV__law_condition dc__law_condition pm__law_condition an__law_condition cd__law_condition ct__law_condition), sl__law_condition⟩) (c__law_condition_ : PySem.W.codeIn K cd__law_condition "_law_condition" = true) (k__law_condition : PySem.W.keepIn K (.ref f__law_condition) = true)
    (a__law_cases : PySem.W.nsIn K mainGlobals "_law_cases" = some (some (.ref f__law_cases))) (l__law_cases : K.lookup f__law_cases = some ⟨oc__law_cases, od__law_cases, .func (PySem.W.fnOf "_law_cases" "_law_cases" (defArgs s__law_cases) (defBody s__law_cases) (defScope s__law_cases) .none kV__law_cases dc__law_cases pm__law_cases an__law_cases cd__law_cases ct__law_cases), sl__law_cases⟩) (c__law_cases_ : PySem.W.codeIn K cd__law_cases "_law_cases" = true) (k__law_cases : PySem.W.keepIn K (.ref f__law_cases) = true)
    (a__law_machine : PySem.W.nsIn K mainGlobals "_law_machine" = some (some (.ref f__law_machine))) (l__law_machine : K.lookup f__law_machine = some ⟨oc__law_machine, od__law_machine, .func (PySem.W.fnOf "_law_machine" "_law_machine" (defArgs s__law_machine) (defBody s__law_machine) (defScope s__law_machine) .none kV__law_machine dc__law_machine pm__law_machine an__law_machine cd__law_machine ct__law_machine), sl__law_machine⟩) (c__law_machine_ : PySem.W.codeIn K cd__law_machine "_law_machine" = true) (k__law_machine : PySem.W.keepIn K (.ref f__law_machine) = true)
    (a__law_any_machine : PySem.W.nsIn K mainGlobals "_law_any_machine" = some (some (.ref f__law_any_machine))) (l__law_any_machine : K.lookup f__law_any_machine = some ⟨oc__law_any_machine, od__law_any_machine, .func (PySem.W.fnOf "_law_any_machine" "_law_any_machine" (defArgs s__law_any_machine) (defBody s__law_any_machine) (defScope s__law_any_machine) .none kV__law_any_machine dc__law_any_machine pm__law_any_machine an__law_any_machine cd__law_any_machine ct__law_any_machine), sl__law_any_machine⟩) (c__law_any_machine_ : PySem.W.codeIn K cd__law_any_machine "_law_any_machine" = true) (k__law_any_machine : PySem.W.keepIn K (.ref f__law_any_machine) = true)
    (a__law_base : PySem.W.nsIn K mainGlobals "_law_base" = some (some (.ref f__law_base))) (l__law_base : K.lookup f__law_base = some ⟨oc__law_base, od__law_base, .func (PySem.W.fnOf "_law_base" "_law_base" (defArgs s__law_base) (defBody s__law_base) (defScope s__law_base) .none kV__law_base dc__law_base pm__law_base an__law_base cd__law_base ct__law_base), sl__law_base⟩) (c__law_base_ : PySem.W.codeIn K cd__law_base "_law_base" = true) (k__law_base : PySem.W.keepIn K (.ref f__law_base) = true)
    (a__law_value : PySem.W.nsIn K mainGlobals "_law_value" = some (some (.ref f__law_value))) (l__law_value : K.lookup f__law_value = some ⟨oc__law_value, od__law_value, .func (PySem.W.fnOf "_law_value" "_law_value" (defArgs s__law_value) (defBody s__law_value) (defScope s__law_value) .none kV__law_value dc__law_value pm__law_value an__law_value cd__law_value ct__law_value), sl__law_value⟩) (c__law_value_ : PySem.W.codeIn K cd__law_value "_law_value" = true) (k__law_value : PySem.W.keepIn K (.ref f__law_value) = true)
    (a__law_log : PySem.W.nsIn K mainGlobals "_law_log" = some (some (.ref f__law_log))) (l__law_log : K.lookup f__law_log = some ⟨oc__law_log, od__law_log, .func (PySem.W.fnOf "_law_log" "_law_log" (defArgs s__law_log) (defBody s__law_log) (defScope s__law_log) .none kV__law_log dc__law_log pm__law_log an__law_log cd__law_log ct__law_log), sl__law_log⟩) (c__law_log_ : PySem.W.codeIn K cd__law_log "_law_log" = true) (k__law_log : PySem.W.keepIn K (.ref f__law_log) = true)
    (a__numbered : PySem.W.nsIn K mainGlobals "_numbered" = some (some (.ref f__numbered))) (l__numbered : K.lookup f__numbered = some ⟨oc__numbered, od__numbered, .func (PySem.W.fnOf "_numbered" "_numbered" (defArgs s__numbered) (defBody s__numbered) (defScope s__numbered) .none kV__numbered dc__numbered pm__numbered an__numbered cd__numbered ct__numbered), sl__numbered⟩) (c__numbered_ : PySem.W.codeIn K cd__numbered "_numbered" = true) (k__numbered : PySem.W.keepIn K (.ref f__numbered) = true)
    (a_tight : PySem.W.nsIn K mainGlobals "tight" = some (some (.ref f_tight))) (l_tight : K.lookup f_tight = some ⟨oc_tight, od_tight, .func (PySem.W.fnOf "tight" "tight" (defArgs s_tight) (defBody s_tight) (defScope s_tight) .none kV_tight dc_tight pm_tight an_tight cd_tight ct_tight), sl_tight⟩) (c_tight_ : PySem.W.codeIn K cd_tight "tight" = true) (k_tight : PySem.W.keepIn K (.ref f_tight) = true)
    (a__law_map : PySem.W.nsIn K mainGlobals "_law_map" = some (some (.ref f__law_map))) (l__law_map : K.lookup f__law_map = some ⟨oc__law_map, od__law_map, .func (PySem.W.fnOf "_law_map" "_law_map" (defArgs s__law_map) (defBody s__law_map) (defScope s__law_map) .none kV__law_map dc__law_map pm__law_map an__law_map cd__law_map ct__law_map), sl__law_map⟩) (c__law_map_ : PySem.W.codeIn K cd__law_map "_law_map" = true) (k__law_map : PySem.W.keepIn K (.ref f__law_map) = true)
    (a__law_mapped : PySem.W.nsIn K mainGlobals "_law_mapped" = some (some (.ref f__law_mapped))) (l__law_mapped : K.lookup f__law_mapped = some ⟨oc__law_mapped, od__law_mapped, .func (PySem.W.fnOf "_law_mapped" "_law_mapped" (defArgs s__law_mapped) (defBody s__law_mapped) (defScope s__law_mapped) .none kV__law_mapped dc__law_mapped pm__law_mapped an__law_mapped cd__law_mapped ct__law_mapped), sl__law_mapped⟩) (c__law_mapped_ : PySem.W.codeIn K cd__law_mapped "_law_mapped" = true) (k__law_mapped : PySem.W.keepIn K (.ref f__law_mapped) = true)
    (a__law_of_same_order : PySem.W.nsIn K mainGlobals "_law_of_same_order" = some (some (.ref f__law_of_same_order))) (l__law_of_same_order : K.lookup f__law_of_same_order = some ⟨oc__law_of_same_order, od__law_of_same_order, .func (PySem.W.fnOf "_law_of_same_order" "_law_of_same_order" (defArgs s__law_of_same_order) (defBody s__law_of_same_order) (defScope s__law_of_same_order) .none kV__law_of_same_order dc__law_of_same_order pm__law_of_same_order an__law_of_same_order cd__law_of_same_order ct__law_of_same_order), sl__law_of_same_order⟩) (c__law_of_same_order_ : PySem.W.codeIn K cd__law_of_same_order "_law_of_same_order" = true) (k__law_of_same_order : PySem.W.keepIn K (.ref f__law_of_same_order) = true)
    (a_law : PySem.W.nsIn K mainGlobals "law" = some (some (.ref f_law))) (l_law : K.lookup f_law = some ⟨oc_law, od_law, .func (PySem.W.fnOf "law" "law" (defArgs s_law) (defBody s_law) (defScope s_law) .none kV_law dc_law pm_law an_law cd_law ct_law), sl_law⟩) (c_law_ : PySem.W.codeIn K cd_law "law" = true) (k_law : PySem.W.keepIn K (.ref f_law) = true)
    (z_NEW : PySem.W.nsIn K mainGlobals "NEW" = some (some (.int (-1) t_NEW)))
    (z_NOTHING : PySem.W.nsIn K mainGlobals "NOTHING" = some (some (.int (-2) t_NOTHING)))
    (z_all : PySem.W.nsIn K mainGlobals "all" = some none)
    (z_any : PySem.W.nsIn K mainGlobals "any" = some none)
    (z_len : PySem.W.nsIn K mainGlobals "len" = some none)
    (z_int : PySem.W.nsIn K mainGlobals "int" = some none)
    (z_list : PySem.W.nsIn K mainGlobals "list" = some none)
    (z_range : PySem.W.nsIn K mainGlobals "range" = some none)
    (z_tuple : PySem.W.nsIn K mainGlobals "tuple" = some none)
    (z_enumerate : PySem.W.nsIn K mainGlobals "enumerate" = some none)
    (z_min : PySem.W.nsIn K mainGlobals "min" = some none)
    (z_abs : PySem.W.nsIn K mainGlobals "abs" = some none)
    (z_sorted : PySem.W.nsIn K mainGlobals "sorted" = some none)
    (z_set : PySem.W.nsIn K mainGlobals "set" = some none)
    : LamX.LawAtS l w K CX0 60 63 "script" mg fa h := by
  have e := hfa.symm.trans (PySem.W.mg_of X G a_law)
  cases e
  have F__worth := fun_mk (st := s__worth) l__worth c__worth_ k__worth
  have b__worth := F__worth.binds (ps := ["source", "value", "held"]) fun _ _ _ _ _ _ us hl => match us, hl with | [_, _, _], _ => rfl
  have m__worth := PySem.W.mg_of X G a__worth
  have T_holds := funT_mk (st := s_holds) l_holds c_holds_ k_holds
  have F_holds := FunT.fn T_holds
  obtain ⟨tg_holds, hd_holds⟩ := tab_at X (TT "holds" (by simp)) (PySem.W.mg_of X G a_holds) l_holds rfl u_holds v_holds
  have b_holds := F_holds.binds (ps := ["condition", "value", "held"]) fun _ _ _ _ _ _ us hl => match us, hl with | [_, _, _], _ => rfl
  have m_holds := PySem.W.mg_of X G a_holds
  have F_case_at := fun_mk (st := s_case_at) l_case_at c_case_at_ k_case_at
  have b_case_at := F_case_at.binds (ps := ["machine", "content", "entry"]) fun _ _ _ _ _ _ us hl => match us, hl with | [_, _, _], _ => rfl
  have m_case_at := PySem.W.mg_of X G a_case_at
  have F_read := fun_mk (st := s_read) l_read c_read_ k_read
  have b_read := F_read.binds (ps := ["machine", "content", "entry"]) fun _ _ _ _ _ _ us hl => match us, hl with | [_, _, _], _ => rfl
  have m_read := PySem.W.mg_of X G a_read
  have F_beginning := fun_mk (st := s_beginning) l_beginning c_beginning_ k_beginning
  have b_beginning := F_beginning.binds (ps := ["machine"]) fun _ _ _ _ _ _ us hl => match us, hl with | [_], _ => rfl
  have m_beginning := PySem.W.mg_of X G a_beginning
  have F_answers_from := fun_mk (st := s_answers_from) l_answers_from c_answers_from_ k_answers_from
  have b_answers_from := F_answers_from.binds (ps := ["machine", "content", "log"]) fun _ _ _ _ _ _ us hl => match us, hl with | [_, _, _], _ => rfl
  have m_answers_from := PySem.W.mg_of X G a_answers_from
  have F_answers := fun_mk (st := s_answers) l_answers c_answers_ k_answers
  have b_answers := F_answers.binds (ps := ["machine", "log"]) fun _ _ _ _ _ _ us hl => match us, hl with | [_, _], _ => rfl
  have m_answers := PySem.W.mg_of X G a_answers
  have F__law_draws := fun_mk (st := s__law_draws) l__law_draws c__law_draws_ k__law_draws
  have b__law_draws := F__law_draws.binds (ps := ["script", "many"]) fun _ _ _ _ _ _ us hl => match us, hl with | [_, _], _ => rfl
  have m__law_draws := PySem.W.mg_of X G a__law_draws
  have F__law_take := fun_mk (st := s__law_take) l__law_take c__law_take_ k__law_take
  have b__law_take := F__law_take.binds (ps := ["draws", "many"]) fun _ _ _ _ _ _ us hl => match us, hl with | [_, _], _ => rfl
  have m__law_take := PySem.W.mg_of X G a__law_take
  have F__law_cell := fun_mk (st := s__law_cell) l__law_cell c__law_cell_ k__law_cell
  have b__law_cell := F__law_cell.binds (ps := ["script", "draws"]) fun _ _ _ _ _ _ us hl => match us, hl with | [_, _], _ => rfl
  have m__law_cell := PySem.W.mg_of X G a__law_cell
  have F__law_place := fun_mk (st := s__law_place) l__law_place c__law_place_ k__law_place
  have b__law_place := F__law_place.binds (ps := ["draws", "registers"]) fun _ _ _ _ _ _ us hl => match us, hl with | [_, _], _ => rfl
  have m__law_place := PySem.W.mg_of X G a__law_place
  have F__law_source := fun_mk (st := s__law_source) l__law_source c__law_source_ k__law_source
  have b__law_source := F__law_source.binds (ps := ["draws", "registers"]) fun _ _ _ _ _ _ us hl => match us, hl with | [_, _], _ => rfl
  have m__law_source := PySem.W.mg_of X G a__law_source
  have F__law_moves := fun_mk (st := s__law_moves) l__law_moves c__law_moves_ k__law_moves
  have b__law_moves := F__law_moves.binds (ps := ["draws", "registers"]) fun _ _ _ _ _ _ us hl => match us, hl with | [_, _], _ => rfl
  have m__law_moves := PySem.W.mg_of X G a__law_moves
  have F__law_says := fun_mk (st := s__law_says) l__law_says c__law_says_ k__law_says
  have b__law_says := F__law_says.binds (ps := ["draws", "registers"]) fun _ _ _ _ _ _ us hl => match us, hl with | [_, _], _ => rfl
  have m__law_says := PySem.W.mg_of X G a__law_says
  have F__law_condition := fun_mk (st := s__law_condition) l__law_condition c__law_condition_ k__law_condition
  have b__law_condition := F__law_condition.binds (ps := ["draws", "registers", "depth"]) fun _ _ _ _ _ _ us hl => match us, hl with | [_, _, _], _ => rfl
  have m__law_condition := PySem.W.mg_of X G a__law_condition
  have F__law_cases := fun_mk (st := s__law_cases) l__law_cases c__law_cases_ k__law_cases
  have b__law_cases := F__law_cases.binds (ps := ["draws", "registers", "standings"]) fun _ _ _ _ _ _ us hl => match us, hl with | [_, _, _], _ => rfl
  have m__law_cases := PySem.W.mg_of X G a__law_cases
  have F__law_machine := fun_mk (st := s__law_machine) l__law_machine c__law_machine_ k__law_machine
  have b__law_machine := F__law_machine.binds (ps := ["draws", "tags", "registers", "standings"]) fun _ _ _ _ _ _ us hl => match us, hl with | [_, _, _, _], _ => rfl
  have m__law_machine := PySem.W.mg_of X G a__law_machine
  have F__law_any_machine := fun_mk (st := s__law_any_machine) l__law_any_machine c__law_any_machine_ k__law_any_machine
  have b__law_any_machine := F__law_any_machine.binds (ps := ["draws"]) fun _ _ _ _ _ _ us hl => match us, hl with | [_], _ => rfl
  have m__law_any_machine := PySem.W.mg_of X G a__law_any_machine
  have F__law_base := fun_mk (st := s__law_base) l__law_base c__law_base_ k__law_base
  have b__law_base := F__law_base.binds (ps := ["draws", "cell"]) fun _ _ _ _ _ _ us hl => match us, hl with | [_, _], _ => rfl
  have m__law_base := PySem.W.mg_of X G a__law_base
  have F__law_value := fun_mk (st := s__law_value) l__law_value c__law_value_ k__law_value
  have b__law_value := F__law_value.binds (ps := ["draws", "base", "wide"]) fun _ _ _ _ _ _ us hl => match us, hl with | [_, _, _], _ => rfl
  have m__law_value := PySem.W.mg_of X G a__law_value
  have F__law_log := fun_mk (st := s__law_log) l__law_log c__law_log_ k__law_log
  have b__law_log := F__law_log.binds (ps := ["draws", "tags", "most", "base"]) fun _ _ _ _ _ _ us hl => match us, hl with | [_, _, _, _], _ => rfl
  have m__law_log := PySem.W.mg_of X G a__law_log
  have F__numbered := fun_mk (st := s__numbered) l__numbered c__numbered_ k__numbered
  have b__numbered := F__numbered.binds (ps := ["values"]) fun _ _ _ _ _ _ us hl => match us, hl with | [_], _ => rfl
  have m__numbered := PySem.W.mg_of X G a__numbered
  have F_tight := fun_mk (st := s_tight) l_tight c_tight_ k_tight
  have b_tight := F_tight.binds (ps := ["log"]) fun _ _ _ _ _ _ us hl => match us, hl with | [_], _ => rfl
  have m_tight := PySem.W.mg_of X G a_tight
  have F__law_map := fun_mk (st := s__law_map) l__law_map c__law_map_ k__law_map
  have b__law_map := F__law_map.binds (ps := ["log", "other"]) fun _ _ _ _ _ _ us hl => match us, hl with | [_, _], _ => rfl
  have m__law_map := PySem.W.mg_of X G a__law_map
  have F__law_mapped := fun_mk (st := s__law_mapped) l__law_mapped c__law_mapped_ k__law_mapped
  have b__law_mapped := F__law_mapped.binds (ps := ["rows", "found"]) fun _ _ _ _ _ _ us hl => match us, hl with | [_, _], _ => rfl
  have m__law_mapped := PySem.W.mg_of X G a__law_mapped
  have F__law_of_same_order := fun_mk (st := s__law_of_same_order) l__law_of_same_order c__law_of_same_order_ k__law_of_same_order
  have b__law_of_same_order := F__law_of_same_order.binds (ps := ["draws", "cell", "log"]) fun _ _ _ _ _ _ us hl => match us, hl with | [_, _, _], _ => rfl
  have m__law_of_same_order := PySem.W.mg_of X G a__law_of_same_order
  have F_law := fun_mk (st := s_law) l_law c_law_ k_law
  have b_law := F_law.binds (ps := ["script"]) fun _ _ _ _ _ _ us hl => match us, hl with | [_], _ => rfl
  have m_law := PySem.W.mg_of X G a_law
  have m_NEW := PySem.W.mg_of X G z_NEW
  have m_NOTHING := PySem.W.mg_of X G z_NOTHING
  have m_all := PySem.W.mg_none_of X G z_all
  have m_any := PySem.W.mg_none_of X G z_any
  have m_len := PySem.W.mg_none_of X G z_len
  have m_int := PySem.W.mg_none_of X G z_int
  have m_list := PySem.W.mg_none_of X G z_list
  have m_range := PySem.W.mg_none_of X G z_range
  have m_tuple := PySem.W.mg_none_of X G z_tuple
  have m_enumerate := PySem.W.mg_none_of X G z_enumerate
  have m_min := PySem.W.mg_none_of X G z_min
  have m_abs := PySem.W.mg_none_of X G z_abs
  have m_sorted := PySem.W.mg_none_of X G z_sorted
  have m_set := PySem.W.mg_none_of X G z_set
  refine ⟨PySem.W.fnOf "law" "law" (defArgs s_law) (defBody s_law) (defScope s_law) .none kV_law dc_law pm_law an_law cd_law ct_law, [(c_holds, P_holds)], sp_law K [P_holds], ?_, ?_, ?_, fun s v => .of_eq rfl, fun H a ns hl hbits hT hS => ?_, fun base kb nb tb => ?_⟩
  · intro p hp
    simp only [List.mem_cons, List.not_mem_nil, or_false] at hp
    rw [hp]
    exact tg_holds
  · intro p hp
    simp only [List.mem_cons, List.not_mem_nil, or_false] at hp
    rw [hp]
    exact w_holds
  · intro p hp
    simp only [List.mem_cons, List.not_mem_nil, or_false] at hp
    rw [hp]
    exact hd_holds
  · refine ⟨a, ns, rfl, hS, hl, hbits, fun P hP => ?_, fun _ => rfl⟩
    simp only [List.mem_cons, List.not_mem_nil, or_false] at hP
    exact ⟨#[], by rw [hP]; exact hT (c_holds, P_holds) (by simp), trivial⟩
  have tb_holds : TabB base mg c_holds P_holds := let t := tb (c_holds, P_holds) (by simp); ⟨t.code, t.bm, t.gP⟩
  have h__worth : FnOk l.prog w K mg base CX0 1 f__worth _ ["source", "value", "held"] (sp__worth K) := ok__worth F__worth m_NEW m_NOTHING
  have h_holds := ok_holds (P := l.prog) (w := w) (base := base) (T := [P_holds]) (PT := P_holds) (by simp) T_holds b_holds m_holds tb_holds m_all m_any h__worth k__worth b__worth m__worth 4
  have h_case_at := ok_case_at (T := [P_holds]) (n := 3) F_case_at m_enumerate h_holds k_holds b_holds m_holds
  have h_read := ok_read (T := [P_holds]) (n := 3) F_read m_tuple h_case_at k_case_at b_case_at m_case_at (h__worth.mono (by decide)) k__worth b__worth m__worth
  have h_beginning : FnOk l.prog w K mg base CX0 1 f_beginning _ _ _ := ok_beginning (T := [P_holds]) F_beginning
  have h_answers_from := ok_answers_from (T := [P_holds]) (n := 3) F_answers_from m_tuple h_read k_read b_read m_read
  have h_answers := ok_answers (T := [P_holds]) (n := 3) F_answers h_answers_from k_answers_from b_answers_from m_answers_from (h_beginning.mono (by decide)) k_beginning b_beginning m_beginning
  have h__law_draws : FnOk l.prog w K mg base CX0 1 f__law_draws _ _ _ := ok__law_draws (T := [P_holds]) F__law_draws m_len m_int m_list m_range
  have h__law_take : FnOk l.prog w K mg base CX0 1 f__law_take _ _ _ := ok__law_take (T := [P_holds]) F__law_take m_len m_int
  have h__law_cell := ok__law_cell (T := [P_holds]) F__law_cell m_len m_int h__law_take k__law_take b__law_take m__law_take
  have h__law_place := ok__law_place (T := [P_holds]) F__law_place h__law_take k__law_take b__law_take m__law_take
  have h__law_source := ok__law_source (T := [P_holds]) F__law_source h__law_take k__law_take b__law_take m__law_take
  have h__law_moves := ok__law_moves (k := 2) (T := [P_holds]) F__law_moves m_range m_tuple (h__law_take.mono (by decide)) k__law_take b__law_take m__law_take h__law_source k__law_source b__law_source m__law_source
  have h__law_says := ok__law_says (k := 2) (T := [P_holds]) F__law_says m_range m_tuple (h__law_take.mono (by decide)) k__law_take b__law_take m__law_take h__law_source k__law_source b__law_source m__law_source
  have h__law_condition := ok__law_condition (T := [P_holds]) F__law_condition b__law_condition m__law_condition m_range m_tuple (h__law_take.mono (by decide)) k__law_take b__law_take m__law_take h__law_place k__law_place b__law_place m__law_place 3
  have h__law_cases := ok__law_cases (k := 5) (T := [P_holds]) F__law_cases m_range m_tuple m_int (h__law_take.mono (by decide)) k__law_take b__law_take m__law_take (h__law_condition.mono (by decide)) k__law_condition b__law_condition m__law_condition (h__law_moves.mono (by decide)) k__law_moves b__law_moves m__law_moves (h__law_says.mono (by decide)) k__law_says b__law_says m__law_says
  have h__law_machine := ok__law_machine (T := [P_holds]) F__law_machine m_range m_tuple h__law_cases k__law_cases b__law_cases m__law_cases
  have h__law_any_machine := ok__law_any_machine (k := 7) (T := [P_holds]) F__law_any_machine m_min (h__law_take.mono (by decide)) k__law_take b__law_take m__law_take h__law_machine k__law_machine b__law_machine m__law_machine
  have h__law_base := ok__law_base (T := [P_holds]) F__law_base h__law_take k__law_take b__law_take m__law_take
  have h__law_value := ok__law_value (T := [P_holds]) F__law_value h__law_take k__law_take b__law_take m__law_take
  have h__law_log := ok__law_log (k := 2) (T := [P_holds]) F__law_log m_range m_tuple (h__law_take.mono (by decide)) k__law_take b__law_take m__law_take h__law_value k__law_value b__law_value m__law_value
  have h__numbered := ok__numbered (P := l.prog) (w := w) (K := K) (mg := mg) (base := base) (k := 0) (T := [P_holds]) F__numbered m_enumerate
  have h_tight := ok_tight (P := l.prog) (w := w) (K := K) (mg := mg) (base := base) (k := 1) (T := [P_holds]) F_tight m_sorted m_tuple (h__numbered.mono (by decide)) k__numbered b__numbered m__numbered
  have h__law_map := ok__law_map (P := l.prog) (w := w) (K := K) (mg := mg) (base := base) (k := 0) (T := [P_holds]) F__law_map m_range m_len
  have h__law_mapped := ok__law_mapped (P := l.prog) (w := w) (K := K) (mg := mg) (base := base) (k := 0) (T := [P_holds]) F__law_mapped m_tuple
  have h__law_of_same_order := ok__law_of_same_order (P := l.prog) (w := w) (K := K) (mg := mg) (base := base) (k := 1) (T := [P_holds]) F__law_of_same_order m_sorted m_set m_abs m_tuple (h__law_take.mono (by decide)) k__law_take b__law_take m__law_take
  exact ok_law (k := 59) F_law m_len (h__law_draws.mono (by decide)) k__law_draws b__law_draws m__law_draws (h__law_cell.mono (by decide)) k__law_cell b__law_cell m__law_cell (h__law_any_machine.mono (by decide)) k__law_any_machine b__law_any_machine m__law_any_machine (h__law_log.mono (by decide)) k__law_log b__law_log m__law_log (h__law_base.mono (by decide)) k__law_base b__law_base m__law_base (h_answers.mono (by decide)) k_answers b_answers m_answers (h_tight.mono (by decide)) k_tight b_tight m_tight (h__law_of_same_order.mono (by decide)) k__law_of_same_order b__law_of_same_order m__law_of_same_order (h__law_mapped.mono (by decide)) k__law_mapped b__law_mapped m__law_mapped (h__law_map.mono (by decide)) k__law_map b__law_map m__law_map
end Law
open PySem PySem.W PyProof.Rows
set_option maxRecDepth 100000 in
set_option maxHeartbeats 0 in
theorem PySem.Challenge.cw_anyvalues_k08_whole_answers_hang_on_the_holds : PySem.Challenge.rw_anyvalues_k08_whole_answers_hang_on_the.Holds := by
  w_on; o_law; k_head; (case hw => w_witness2)
  k_fill
  refine Law.walk_tabs (l := PySem.Challenge.rw_anyvalues_k08_whole_answers_hang_on_the) (n := 63) (k := 60) (x := "script") (CX := fun _ => L2.CX0) ["holds"] rfl (by decide) rfl ⟨rfl, by decide, by decide⟩ (by decide +kernel) (fun w h Y => PySem.W.kIn_of Y) ?F (fun _ _ _ _ _ z => z)
  case F =>
    intro w mg fa h _ KX G hmg TT
    refine' Law.all_mk KX G hmg TT ?a__worth ?l__worth ?c__worth_ ?k__worth ?a_holds ?l_holds ?c_holds_ ?k_holds ?u_holds ?v_holds ?w_holds ?a_case_at ?l_case_at ?c_case_at_ ?k_case_at ?a_read ?l_read ?c_read_ ?k_read ?a_beginning ?l_beginning ?c_beginning_ ?k_beginning ?a_answers_from ?l_answers_from ?c_answers_from_ ?k_answers_from ?a_answers ?l_answers ?c_answers_ ?k_answers ?a__law_draws ?l__law_draws ?c__law_draws_ ?k__law_draws ?a__law_take ?l__law_take ?c__law_take_ ?k__law_take ?a__law_cell ?l__law_cell ?c__law_cell_ ?k__law_cell ?a__law_place ?l__law_place ?c__law_place_ ?k__law_place ?a__law_source ?l__law_source ?c__law_source_ ?k__law_source ?a__law_moves ?l__law_moves ?c__law_moves_ ?k__law_moves ?a__law_says ?l__law_says ?c__law_says_ ?k__law_says ?a__law_condition ?l__law_condition ?c__law_condition_ ?k__law_condition ?a__law_cases ?l__law_cases ?c__law_cases_ ?k__law_cases ?a__law_machine ?l__law_machine ?c__law_machine_ ?k__law_machine ?a__law_any_machine ?l__law_any_machine ?c__law_any_machine_ ?k__law_any_machine ?a__law_base ?l__law_base ?c__law_base_ ?k__law_base ?a__law_value ?l__law_value ?c__law_value_ ?k__law_value ?a__law_log ?l__law_log ?c__law_log_ ?k__law_log ?a__numbered ?l__numbered ?c__numbered_ ?k__numbered ?a_tight ?l_tight ?c_tight_ ?k_tight ?a__law_map ?l__law_map ?c__law_map_ ?k__law_map ?a__law_mapped ?l__law_mapped ?c__law_mapped_ ?k__law_mapped ?a__law_of_same_order ?l__law_of_same_order ?c__law_of_same_order_ ?k__law_of_same_order ?a_law ?l_law ?c_law_ ?k_law ?z_NEW ?z_NOTHING ?z_all ?z_any ?z_len ?z_int ?z_list ?z_range ?z_tuple ?z_enumerate ?z_min ?z_abs ?z_sorted ?z_set
    (case a__worth => k_is)
    (case l__worth => k_is)
    (case c__worth_ => k_is)
    (case k__worth => k_is)
    (case a_holds => k_is)
    (case l_holds => k_is)
    (case c_holds_ => k_is)
    (case k_holds => k_is)
    (case u_holds => k_is)
    (case v_holds => rfl)
    (case w_holds => rfl)
    (case a_case_at => k_is)
    (case l_case_at => k_is)
    (case c_case_at_ => k_is)
    (case k_case_at => k_is)
    (case a_read => k_is)
    (case l_read => k_is)
    (case c_read_ => k_is)
    (case k_read => k_is)
    (case a_beginning => k_is)
    (case l_beginning => k_is)
    (case c_beginning_ => k_is)
    (case k_beginning => k_is)
    (case a_answers_from => k_is)
    (case l_answers_from => k_is)
    (case c_answers_from_ => k_is)
    (case k_answers_from => k_is)
    (case a_answers => k_is)
    (case l_answers => k_is)
    (case c_answers_ => k_is)
    (case k_answers => k_is)
    (case a__law_draws => k_is)
    (case l__law_draws => k_is)
    (case c__law_draws_ => k_is)
    (case k__law_draws => k_is)
    (case a__law_take => k_is)
    (case l__law_take => k_is)
    (case c__law_take_ => k_is)
    (case k__law_take => k_is)
    (case a__law_cell => k_is)
    (case l__law_cell => k_is)
    (case c__law_cell_ => k_is)
    (case k__law_cell => k_is)
    (case a__law_place => k_is)
    (case l__law_place => k_is)
    (case c__law_place_ => k_is)
    (case k__law_place => k_is)
    (case a__law_source => k_is)
    (case l__law_source => k_is)
    (case c__law_source_ => k_is)
    (case k__law_source => k_is)
    (case a__law_moves => k_is)
    (case l__law_moves => k_is)
    (case c__law_moves_ => k_is)
    (case k__law_moves => k_is)
    (case a__law_says => k_is)
    (case l__law_says => k_is)
    (case c__law_says_ => k_is)
    (case k__law_says => k_is)
    (case a__law_condition => k_is)
    (case l__law_condition => k_is)
    (case c__law_condition_ => k_is)
    (case k__law_condition => k_is)
    (case a__law_cases => k_is)
    (case l__law_cases => k_is)
    (case c__law_cases_ => k_is)
    (case k__law_cases => k_is)
    (case a__law_machine => k_is)
    (case l__law_machine => k_is)
    (case c__law_machine_ => k_is)
    (case k__law_machine => k_is)
    (case a__law_any_machine => k_is)
    (case l__law_any_machine => k_is)
    (case c__law_any_machine_ => k_is)
    (case k__law_any_machine => k_is)
    (case a__law_base => k_is)
    (case l__law_base => k_is)
    (case c__law_base_ => k_is)
    (case k__law_base => k_is)
    (case a__law_value => k_is)
    (case l__law_value => k_is)
    (case c__law_value_ => k_is)
    (case k__law_value => k_is)
    (case a__law_log => k_is)
    (case l__law_log => k_is)
    (case c__law_log_ => k_is)
    (case k__law_log => k_is)
    (case a__numbered => k_is)
    (case l__numbered => k_is)
    (case c__numbered_ => k_is)
    (case k__numbered => k_is)
    (case a_tight => k_is)
    (case l_tight => k_is)
    (case c_tight_ => k_is)
    (case k_tight => k_is)
    (case a__law_map => k_is)
    (case l__law_map => k_is)
    (case c__law_map_ => k_is)
    (case k__law_map => k_is)
    (case a__law_mapped => k_is)
    (case l__law_mapped => k_is)
    (case c__law_mapped_ => k_is)
    (case k__law_mapped => k_is)
    (case a__law_of_same_order => k_is)
    (case l__law_of_same_order => k_is)
    (case c__law_of_same_order_ => k_is)
    (case k__law_of_same_order => k_is)
    (case a_law => k_is)
    (case l_law => k_is)
    (case c_law_ => k_is)
    (case k_law => k_is)
    (case z_NEW => k_is)
    (case z_NOTHING => k_is)
    (case z_all => k_is)
    (case z_any => k_is)
    (case z_len => k_is)
    (case z_int => k_is)
    (case z_list => k_is)
    (case z_range => k_is)
    (case z_tuple => k_is)
    (case z_enumerate => k_is)
    (case z_min => k_is)
    (case z_abs => k_is)
    (case z_sorted => k_is)
    (case z_set => k_is)
#print axioms PySem.Challenge.cw_anyvalues_k08_whole_answers_hang_on_the_holds
