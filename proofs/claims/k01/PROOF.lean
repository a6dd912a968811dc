import PyProof.Rows.All
import Wide.All
import OpenK.AllK
import Wide.FinOn
import HandS.ForMost
import HandS.EndTab
import HandS.AnyAll
import HandS.GenList
import HandS.IsInst
import HandS.More
import HandS.Conv
import HandS.Strs
import HandS.Codes
import KE.GoesEnum
import KE.GoesMore
import HandS.TupMul
import HandS.WideBits
import HandS.TupAny
import HandS.SetBool
import HandS.SetFor
import HandS.DictComp
import HandS.Zip
import KE.KDictZip
import PyProof.TupleOfGen
import HandS.ListItems
import HandS.Walk
import HandS.SortRule
import PyProof.WalkInts
import PyProof.WalksMore
import HandS.HotCalls
import HandS.Comp
import HandS.ExcIs
import KE.RegKIsAll
import KE.RegKTryMore
import HandS.Text
import HandS.ForExc
import HandS.Style
import HandS.Small
import HandS.Star
import PySem.Challenge.RW_anyvalues_k01_right_machines
set_option Elab.async false
set_option linter.all false
set_option maxRecDepth 100000
set_option maxHeartbeats 4000000
/-! any, all of a generator expression whose element calls defs: its own frame, walked as a context of its own. -/
namespace Gx
open PySem PySem.Spec PyProof.Rows L2 GenW GxR

/-- the context of a generator expression's frame -/
def gcx (X : Cx) (N' : List Str) (fp : List Addr) (env : Env) (A' : Around) (s : Shared) (H : Hp) : Cx :=
  { X with A := A', N := N', s_0 := s, H_0 := H, env := env, outer := X.stack, stack := env :: X.stack, ex := fp, fn := fun _ => false, calm := true, pn := [], xe := fun _ _ => False }

theorem over_loopG {A : Around} {e : Expr} {gens : List Comprehension} {sc : Scope} {p : Pos} {it acc : Value} {env : Env} : A.over (.compLoop (.GeneratorExp e gens sc p) 0 it acc env) [] = A.deeper env := by
  first
    | rfl
    | (obtain ⟨hd, d, fr, gs, u⟩ := A; simp [Around.over, Around.deeper, marksOver, frameCount, unitsOf, envsOf, guardsOf, pushEnvs, pushGuards, Code.envs, Code.env?, Code.isFrame, Code.guards, Code.isGuard, Code.weight, Code.frames, Code.isCreation, Code.isCaller, Code.cUnits])
theorem over_startG {A : Around} {e : Expr} {gens : List Comprehension} {sc : Scope} {p : Pos} {it acc : Value} {env : Env} : A.over (.compStart (.GeneratorExp e gens sc p) 0 it acc env) [] = A.deeper env := by
  first
    | rfl
    | (obtain ⟨hd, d, fr, gs, u⟩ := A; simp [Around.over, Around.deeper, marksOver, frameCount, unitsOf, envsOf, guardsOf, pushEnvs, pushGuards, Code.envs, Code.env?, Code.isFrame, Code.guards, Code.isGuard, Code.weight, Code.frames, Code.isCreation, Code.isCaller, Code.cUnits])

/-- the names of the expression's frame: captured ones with their place among the def's names -/
abbrev Ents := List (Str × Option Nat)
def capSt (es : Ents) (σ : L2.St) : L2.St := es.map fun e => match e.2 with | none => none | some i => (σ[i]?).getD none
def capsOk (N : List Str) (sc : Scope) (es : Ents) : Bool := es.all fun e => match e.2 with | none => true | some i => N[i]? == some e.1 && sc.names.lookup e.1 == some NameKind.free
def freeOk (sc scope : Scope) : Bool := scope.names.all fun y => y.2 != .cell && (y.2 != .free || (sc.names.lookup y.1 == some NameKind.cell || sc.names.lookup y.1 == some NameKind.free))
structure GSc (sc scope : Scope) (N : List Str) (es : Ents) : Prop where
  kind : scope.kind = .function
  co : scope.isCoroutine = false
  dot : scope.names.lookup (".0" : Str) = some NameKind.local
  free : freeOk sc scope = true
  caps : capsOk N scope es = true
theorem GSc.cell {sc scope : Scope} {N : List Str} {es : Ents} (S : GSc sc scope N es) : ∀ y ∈ scope.names, y.2 ≠ .cell := fun y hy => by
  have h := List.all_eq_true.mp S.free y hy
  rw [Bool.and_eq_true] at h
  intro e
  rw [e] at h
  exact absurd h.1 (by decide)
theorem GSc.fre {sc scope : Scope} {N : List Str} {es : Ents} (S : GSc sc scope N es) : ∀ y ∈ scope.names, y.2 = .free → sc.names.lookup y.1 = some .cell ∨ sc.names.lookup y.1 = some .free := fun y hy e => by
  have h := List.all_eq_true.mp S.free y hy
  rw [Bool.and_eq_true] at h
  have h2 := h.2
  rw [e] at h2
  simpa using h2

section
variable {X : Cx} {N' : List Str} {fp : List Addr} {env : Env} {A' : Around} {s0 : Shared} {H0 : Hp} {go : Addr × Obj} {tn : Nat → Heap → Prop} {Pv : Nat → Nat → L2.St → Hp → Prop} {fin : Bool} {Qe Qs : Hp → Prop}

/-- what is handed out: a truth value; the consumer stops at fin -/
def GProt (X' : Cx) (fp : List Addr) (go : Addr × Obj) (tn : Nat → Heap → Prop) (Pv : Nat → Nat → L2.St → Hp → Prop) (fin : Bool) (Qs : Hp → Prop) : Protocol := fun n _ v s kap =>
  ∃ σ H b, v = .bool b ∧ Inv X' [go] σ H s ∧
    (if b = fin then Qs H else ∃ i m, n = m + 1 ∧ Pv i m σ H ∧ tn i s.heap ∧ (∀ b ∈ fp, H b = none) ∧
      ∀ s'' : Shared, s''.heap = s.heap → s''.os = s.os → AllBare s''.gens → kap (.send .none) s'')
def GRet (X' : Cx) (go : Addr × Obj) (Qe : Hp → Prop) : GenEnd := fun n s₀ r s => ((r = .ok (.ret .none) ∨ r = .ok .next) ∧ (∃ σ H, Inv X' [go] σ H s ∧ Qe H)) ∨ ∃ e, r = .error e ∧ False

theorem _root_.L2.Inv.again' {X' : Cx} {pins : List (Addr × Obj)} {σ : L2.St} {H : Hp} {s s'' : Shared} (I : Inv X' pins σ H s) (h : s''.heap = s.heap) (o : s''.os = s.os) (b : AllBare s''.gens) : Inv X' pins σ H s'' :=
  I.call' (ch := []) o (by rw [h]; exact Un.refl) (by rw [h]; exact I.hok) b fun b z => absurd z (by simp)

/-- the turns of the expression -/
theorem seg_turns {A : Around} {elt tg iter : Expr} {scope : Scope} {pos : Pos} {it : Addr} {J : It} {g : TG} {t : TE}
    (hA : A' = A.deeper env) (hco : env.scope.isCoroutine = false) (T : Turn X.prog X.w X.K tg J fp it tn)
    (hgt : PG (gcx X N' fp env A' s0 H0) tg g) (helt : PE (gcx X N' fp env A' s0 H0) elt t)
    (hfp : ∀ b ∈ fp, b ≠ env.locals ∧ b ∉ frs X.stack ∧ (∀ x c, env.cells.lookup x = some c → c ≠ b) ∧ go.1 ≠ b)
    (turn : ∀ i m σ' H', Pv i m σ' H' → (J.stop i H' ∧ Qe H') ∨ (J.go i H' ∧ ∀ x H'', J.yld i H' x H'' → g x σ' H'' fun σ2 H3 => t σ2 H3 fun v H4 => ∃ b, v = .bl b ∧ if b = fin then Qs H4 else ∃ m', m = m' + 1 ∧ Pv (i + 1) m' σ2 H4)) :
    ∀ (m i : Nat) (s₀ s : Shared) (σ : L2.St) (H : Hp), Pv i m σ H → Inv (gcx X N' fp env A' s0 H0) [go] σ H s → tn i s.heap → (∀ b ∈ fp, H b = none) →
      Seg (model X.prog X.w) A (GRet (gcx X N' fp env A' s0 H0) go Qe) (GProt (gcx X N' fp env A' s0 H0) fp go tn Pv fin Qs) (m + 1) s₀
        (.compLoop (.GeneratorExp elt [⟨tg, iter, [], 0⟩] scope pos) 0 (.ref it) .none env)
        ((model X.prog X.w).den (.compLoop (.GeneratorExp elt [⟨tg, iter, [], 0⟩] scope pos) 0 (.ref it) .none env)) [] s := by
  have hov : A.over (.compLoop (.GeneratorExp elt [⟨tg, iter, [], 0⟩] scope pos) 0 (.ref it) .none env) [] = (gcx X N' fp env A' s0 H0).A := over_loopG.trans hA.symm
  have stat : ∀ {H' : Hp}, (∀ b ∈ fp, H' b = none) → ∀ b ∈ fp, FpOk (gcx X N' fp env A' s0 H0) [go] H' b := fun hn b hb => by
    obtain ⟨h1, h2, h3, h4⟩ := hfp b hb
    exact ⟨hn b hb, h1, h2, .inl hb, h3, fun p hp => by rw [List.mem_singleton.mp (show p ∈ [go] from hp)]; exact h4⟩
  have hy : ∀ v, yieldOut env v = yieldValue v := fun v => by simp only [yieldOut, hco, Bool.false_eq_true, if_false]
  -- one turn, whatever the measure; K: what follows where the walk goes on
  have one : ∀ (m i : Nat) (s₀ s : Shared) (σ : L2.St) (H : Hp), Pv i m σ H → Inv (gcx X N' fp env A' s0 H0) [go] σ H s → tn i s.heap → (∀ b ∈ fp, H b = none) →
      (∀ m', m = m' + 1 → ∀ (i : Nat) (s₀ s : Shared) (σ : L2.St) (H : Hp), Pv i m' σ H → Inv (gcx X N' fp env A' s0 H0) [go] σ H s → tn i s.heap → (∀ b ∈ fp, H b = none) →
        Seg (model X.prog X.w) A (GRet (gcx X N' fp env A' s0 H0) go Qe) (GProt (gcx X N' fp env A' s0 H0) fp go tn Pv fin Qs) (m' + 1) s₀
          (.compLoop (.GeneratorExp elt [⟨tg, iter, [], 0⟩] scope pos) 0 (.ref it) .none env)
          ((model X.prog X.w).den (.compLoop (.GeneratorExp elt [⟨tg, iter, [], 0⟩] scope pos) 0 (.ref it) .none env)) [] s) →
      Seg (model X.prog X.w) A (GRet (gcx X N' fp env A' s0 H0) go Qe) (GProt (gcx X N' fp env A' s0 H0) fp go tn Pv fin Qs) (m + 1) s₀
        (.compLoop (.GeneratorExp elt [⟨tg, iter, [], 0⟩] scope pos) 0 (.ref it) .none env)
        ((model X.prog X.w).den (.compLoop (.GeneratorExp elt [⟨tg, iter, [], 0⟩] scope pos) 0 (.ref it) .none env)) [] s := by
    intro m i s₀ s σ H pv I st fr later
    show Seg _ A _ _ _ s₀ _ ((compTurn (.GeneratorExp elt [⟨tg, iter, [], 0⟩] scope pos) 0 (.ref it) .none env).onRaise (leaving env)) [] s
    rw [compTurn_gen, Sem.onRaise_eq_wrap]
    refine seg_bind_wrap (wpAny_standAt ?_)
    rcases turn i m σ H pv with ⟨stop, q⟩ | ⟨gg, step⟩
    · refine seg_bind_wrap ?_
      rw [hov]
      refine thn (T.done (gcx X N' fp env A' s0 H0) rfl rfl rfl rfl i [go] s σ H _ I (stat fr) st stop) fun r s1 ⟨hr, I1⟩ => ?_
      subst hr
      exact seg_end (.ok .next) (.inl ⟨.inr rfl, σ, H, I1, q⟩)
    · refine seg_bind_wrap ?_
      rw [hov]
      refine thn (T.item (gcx X N' fp env A' s0 H0) rfl rfl rfl rfl i [go] s σ H _ I (stat fr) st gg) fun r s1 ⟨u, hr, h1⟩ => ?_
      subst hr
      refine seg_bind_wrap ?_
      rw [hov]
      refine wpAny_mono h1 (fun _ s2 ⟨x, H2, I2, r2, y2, st2, fr2⟩ => ?_) fun _ _ e => e
      have I2' := I2.pinned (stat fr2) (T.obj _ _ st2)
      refine seg_bind_wrap ?_
      rw [hov]
      refine wpAny_mono (hgt.run _ s2 σ H2 x u _ I2' r2 (step x H2 y2)) (fun _ s3 ⟨σ3, H3, I3, q3⟩ => ?_) fun _ _ e => e.elim
      refine seg_bind_wrap (wpAny_of_eq (by rw [List.forIn_nil]) ?_)
      simp only [if_true]
      simp only [hy]
      rw [Sem.bind_eq_wrap', Sem.bind_eq_wrap', Sem.wrap_wrap, Sem.wrap_wrap]
      refine seg_wrap ?_
      rw [hov]
      refine wpAny_mono (helt.run _ s3 σ3 H3 _ I3 q3) (fun y s4 ⟨v, H4, I4, r4, q4⟩ => ?_) fun _ _ e => e.elim
      obtain ⟨b, rfl, q4⟩ := q4
      obtain rfl : y = .bool b := r4
      refine seg_at (seg_yield rfl rfl rfl ⟨σ3, H4, b, rfl, I4.unpinned, ?_⟩)
      by_cases hb : b = fin
      · rw [if_pos hb] at q4 ⊢
        exact q4
      · rw [if_neg hb] at q4 ⊢
        obtain ⟨m', hm, pv4⟩ := q4
        have tn4 : tn (i + 1) s4.heap := T.keep _ _ _ st2 fun b hb o e => (I4.pin (b, o) (List.mem_append_right _ (List.mem_append_right _ (mem_pinsAt hb e)))).1
        have fr4 : ∀ b ∈ fp, H4 b = none := fun b hb => by
          obtain ⟨o, e, d⟩ := T.obj _ _ st2 b hb
          exact (I4.pin (b, o) (List.mem_append_right _ (List.mem_append_right _ (mem_pinsAt hb e)))).2.1
        refine ⟨i + 1, m', hm, pv4, tn4, fr4, fun s'' eh eo eb => ?_⟩
        subst hm
        refine seg_again rfl (later m' rfl (i + 1) s'' s'' σ3 H4 pv4 (I4.unpinned.again' eh eo eb) (by rw [eh]; exact tn4) fr4)
  intro m
  induction m with
  | zero => exact fun i s₀ s σ H pv I st fr => one 0 i s₀ s σ H pv I st fr fun m' e => by omega
  | succ m ih =>
    intro i s₀ s σ H pv I st fr
    refine one (m + 1) i s₀ s σ H pv I st fr fun m' e => ?_
    obtain rfl : m = m' := by omega
    exact ih

theorem seg_first {A : Around} {elt tg iter : Expr} {scope : Scope} {pos : Pos} {it : Addr} {J : It} {g : TG} {t : TE}
    (hA : A' = A.deeper env) (hco : env.scope.isCoroutine = false) (T : Turn X.prog X.w X.K tg J fp it tn)
    (hgt : PG (gcx X N' fp env A' s0 H0) tg g) (helt : PE (gcx X N' fp env A' s0 H0) elt t)
    (hfp : ∀ b ∈ fp, b ≠ env.locals ∧ b ∉ frs X.stack ∧ (∀ x c, env.cells.lookup x = some c → c ≠ b) ∧ go.1 ≠ b)
    (turn : ∀ i m σ' H', Pv i m σ' H' → (J.stop i H' ∧ Qe H') ∨ (J.go i H' ∧ ∀ x H'', J.yld i H' x H'' → g x σ' H'' fun σ2 H3 => t σ2 H3 fun v H4 => ∃ b, v = .bl b ∧ if b = fin then Qs H4 else ∃ m', m = m' + 1 ∧ Pv (i + 1) m' σ2 H4))
    (m : Nat) (s₀ s : Shared) (σ : L2.St) (H : Hp) (pv : Pv 0 m σ H) (I : Inv (gcx X N' fp env A' s0 H0) [go] σ H s) (st : tn 0 s.heap) (fr : ∀ b ∈ fp, H b = none) :
      Seg (model X.prog X.w) A (GRet (gcx X N' fp env A' s0 H0) go Qe) (GProt (gcx X N' fp env A' s0 H0) fp go tn Pv fin Qs) (m + 1) s₀
        (.compStart (.GeneratorExp elt [⟨tg, iter, [], 0⟩] scope pos) 0 (.ref it) .none env)
        ((model X.prog X.w).den (.compStart (.GeneratorExp elt [⟨tg, iter, [], 0⟩] scope pos) 0 (.ref it) .none env)) [] s := by
  have loop := seg_turns (iter := iter) (scope := scope) (pos := pos) hA hco T hgt helt hfp turn m 0 s₀ s σ H pv I st fr
  show Seg _ A _ _ _ s₀ _ ((compStart (.GeneratorExp elt [⟨tg, iter, [], 0⟩] scope pos) 0 (.ref it) .none env).onRaise (leaving env)) [] s
  unfold compStart
  rw [Sem.onRaise_eq_wrap]
  show Seg _ A _ _ _ s₀ _ ((ask >>= _).wrap _ _ _ _) [] s
  refine seg_bind_wrap (wpAny_askSetting ?_)
  split
  · exact seg_again rfl loop
  · first
      | exact seg_bind_wrap (wpAny_rule (seg_bind_wrap (wpAny_standAt (seg_bind_wrap (T.self _ 0 s _ _ st (seg_again rfl loop))))))
      | (refine seg_bind_wrap (wpAny_rule ?_); show Seg _ A _ _ _ s₀ _ ((standAt iter.pos >>= _).wrap _ _ _ _) [] s; exact seg_bind_wrap (wpAny_standAt (seg_bind_wrap (T.self _ 0 s _ _ st (seg_again rfl loop)))))
end

/-! ### the consumers -/
section
variable {X' : Cx} {fp : List Addr} {go : Addr × Obj} {tn : Nat → Heap → Prop} {Pv : Nat → Nat → L2.St → Hp → Prop} {Qe Qs : Hp → Prop} {A : Around} {g : Nat} {R : Result → Shared → Prop}
theorem all_loop (hh : A.handled = none) (hd : A.depth < recursionLimit) (hgen : ∀ h : Heap, h.get? go.1 = some go.2 → h.IsGen go.1 g)
    (hend : ∀ s' σ H, Inv X' [go] σ H s' → Qe H → R (.ok (.ret (.bool true))) s') (hstop : ∀ s' σ H, Inv X' [go] σ H s' → Qs H → R (.ok (.ret (.bool false))) s') :
    ∀ (m : Nat) (s : Shared), s.heap.IsGen go.1 g → s.heap.NoLimit →
      (∃ gs, s.gens[g]? = some gs ∧ gs.Goes (model X'.prog X'.w) A.in1.in1 (GRet X' go Qe) (GProt X' fp go tn Pv false Qs) (m + 1) (.send .none) (s.setGen g .running)) →
      codeAny (model X'.prog X'.w) A (.builtin "all.loop" ⟨[.ref go.1], []⟩) R s := by
  intro m
  induction m with
  | zero =>
    intro s hg hl ⟨gs, hgs, hgo⟩
    refine codeAny_builtin F.entry_all_loop ?_
    rw [Around.under_plainId F.plain_all_loop _]
    show wpAny _ A.in1 (pyNext (.ref go.1) >>= _) _ _ s
    refine wpAny_bind (next_genG (A := A.in1) (F := fun _ _ s => ∃ σ H, Inv X' [go] σ H s ∧ Qe H) (Er := fun _ _ => False) hh hl hd hg hgs hgo (fun v s₁ gs' hbare hv => ?_) (fun s₁ hp h' hk => ?_) fun e s₁ he => he.elim)
    · obtain ⟨σ, H, b, rfl, I, hif⟩ := hv
      refine wpAny_bind (wpAny_holding (wpAny_truthy_bool ?_))
      refine wpAny_bind (wpAny_letGo ?_)
      cases b with
      | true =>
        rw [if_neg (by decide)] at hif
        obtain ⟨i, m', e, _⟩ := hif
        exact absurd e (by omega)
      | false =>
        rw [if_pos rfl] at hif
        simp only [Bool.false_eq_true, if_false]
        refine wpAny_bind (wpAny_rule (wpAny_pure ?_))
        exact hstop _ σ H (I.again' (by rfl) rfl (allBare_setGen I.bare hbare)) hif
    · obtain ⟨σ, H, I, q⟩ := hp
      refine wpAny_bind (wpAny_rule (wpAny_pure ?_))
      refine hend _ σ H ?_ q
      exact I.call' (ch := []) rfl (Un.kept hk) (I.hok.kept hk) (allBare_setGen I.bare rfl) fun b z => absurd z (by simp)
  | succ m ih =>
    intro s hg hl ⟨gs, hgs, hgo⟩
    have hgl : g < s.gens.size := (Array.getElem?_eq_some_iff.mp hgs).1
    refine codeAny_builtin F.entry_all_loop ?_
    rw [Around.under_plainId F.plain_all_loop _]
    show wpAny _ A.in1 (pyNext (.ref go.1) >>= _) _ _ s
    refine wpAny_bind (wpAny_gsz (n := g + 1) hgl (next_genG (A := A.in1) (F := fun _ _ s => ∃ σ H, Inv X' [go] σ H s ∧ Qe H) (Er := fun _ _ => False) hh hl hd hg hgs hgo (fun v s₁ gs' hbare hv => ?_) (fun s₁ hp h' hk => ?_) fun e s₁ he => he.elim))
    · intro hsz
      obtain ⟨σ, H, b, rfl, I, hif⟩ := hv
      refine wpAny_bind (wpAny_holding (wpAny_truthy_bool ?_))
      refine wpAny_bind (wpAny_letGo ?_)
      cases b with
      | true =>
        rw [if_neg (by decide)] at hif
        obtain ⟨i, m', e, pv, tnm, fr, hk⟩ := hif
        obtain rfl : m = m' := by omega
        simp only [if_true]
        have hsz1 : g < s₁.gens.size := by
          have q : (s₁.setGen g gs').gens.size = s₁.gens.size := setGen_size _ _ _
          have hsz' : g + 1 ≤ (s₁.setGen g gs').gens.size := hsz
          omega
        refine wpAny_pure ⟨plainId_quiet F.plain_all_loop _, ih _ (hgen _ (I.pin go (List.mem_append_right _ (List.mem_singleton.mpr rfl))).1) I.nolimit ⟨gs', setGen_at hsz1, ?_⟩⟩
        exact hk _ rfl rfl (allBare_setGen (s := s₁.setGen g gs') (allBare_setGen I.bare hbare) rfl)
      | false =>
        rw [if_pos rfl] at hif
        simp only [Bool.false_eq_true, if_false]
        refine wpAny_bind (wpAny_rule (wpAny_pure ?_))
        exact hstop _ σ H (I.again' (by rfl) rfl (allBare_setGen I.bare hbare)) hif
    · intro hsz
      obtain ⟨σ, H, I, q⟩ := hp
      refine wpAny_bind (wpAny_rule (wpAny_pure ?_))
      refine hend _ σ H ?_ q
      exact I.call' (ch := []) rfl (Un.kept hk) (I.hok.kept hk) (allBare_setGen I.bare rfl) fun b z => absurd z (by simp)
theorem any_loop (hh : A.handled = none) (hd : A.depth < recursionLimit) (hgen : ∀ h : Heap, h.get? go.1 = some go.2 → h.IsGen go.1 g)
    (hend : ∀ s' σ H, Inv X' [go] σ H s' → Qe H → R (.ok (.ret (.bool false))) s') (hstop : ∀ s' σ H, Inv X' [go] σ H s' → Qs H → R (.ok (.ret (.bool true))) s') :
    ∀ (m : Nat) (s : Shared), s.heap.IsGen go.1 g → s.heap.NoLimit →
      (∃ gs, s.gens[g]? = some gs ∧ gs.Goes (model X'.prog X'.w) A.in1.in1 (GRet X' go Qe) (GProt X' fp go tn Pv true Qs) (m + 1) (.send .none) (s.setGen g .running)) →
      codeAny (model X'.prog X'.w) A (.builtin "any.loop" ⟨[.ref go.1], []⟩) R s := by
  intro m
  induction m with
  | zero =>
    intro s hg hl ⟨gs, hgs, hgo⟩
    refine codeAny_builtin F.entry_any_loop ?_
    rw [Around.under_plainId F.plain_any_loop _]
    show wpAny _ A.in1 (pyNext (.ref go.1) >>= _) _ _ s
    refine wpAny_bind (next_genG (A := A.in1) (F := fun _ _ s => ∃ σ H, Inv X' [go] σ H s ∧ Qe H) (Er := fun _ _ => False) hh hl hd hg hgs hgo (fun v s₁ gs' hbare hv => ?_) (fun s₁ hp h' hk => ?_) fun e s₁ he => he.elim)
    · obtain ⟨σ, H, b, rfl, I, hif⟩ := hv
      refine wpAny_bind (wpAny_holding (wpAny_truthy_bool ?_))
      refine wpAny_bind (wpAny_letGo ?_)
      cases b with
      | false =>
        rw [if_neg (by decide)] at hif
        obtain ⟨i, m', e, _⟩ := hif
        exact absurd e (by omega)
      | true =>
        rw [if_pos rfl] at hif
        simp only [if_true]
        refine wpAny_bind (wpAny_rule (wpAny_pure ?_))
        exact hstop _ σ H (I.again' (by rfl) rfl (allBare_setGen I.bare hbare)) hif
    · obtain ⟨σ, H, I, q⟩ := hp
      refine wpAny_bind (wpAny_rule (wpAny_pure ?_))
      refine hend _ σ H ?_ q
      exact I.call' (ch := []) rfl (Un.kept hk) (I.hok.kept hk) (allBare_setGen I.bare rfl) fun b z => absurd z (by simp)
  | succ m ih =>
    intro s hg hl ⟨gs, hgs, hgo⟩
    have hgl : g < s.gens.size := (Array.getElem?_eq_some_iff.mp hgs).1
    refine codeAny_builtin F.entry_any_loop ?_
    rw [Around.under_plainId F.plain_any_loop _]
    show wpAny _ A.in1 (pyNext (.ref go.1) >>= _) _ _ s
    refine wpAny_bind (wpAny_gsz (n := g + 1) hgl (next_genG (A := A.in1) (F := fun _ _ s => ∃ σ H, Inv X' [go] σ H s ∧ Qe H) (Er := fun _ _ => False) hh hl hd hg hgs hgo (fun v s₁ gs' hbare hv => ?_) (fun s₁ hp h' hk => ?_) fun e s₁ he => he.elim))
    · intro hsz
      obtain ⟨σ, H, b, rfl, I, hif⟩ := hv
      refine wpAny_bind (wpAny_holding (wpAny_truthy_bool ?_))
      refine wpAny_bind (wpAny_letGo ?_)
      cases b with
      | false =>
        rw [if_neg (by decide)] at hif
        obtain ⟨i, m', e, pv, tnm, fr, hk⟩ := hif
        obtain rfl : m = m' := by omega
        simp only [Bool.false_eq_true, if_false]
        have hsz1 : g < s₁.gens.size := by
          have q : (s₁.setGen g gs').gens.size = s₁.gens.size := setGen_size _ _ _
          have hsz' : g + 1 ≤ (s₁.setGen g gs').gens.size := hsz
          omega
        refine wpAny_pure ⟨plainId_quiet F.plain_any_loop _, ih _ (hgen _ (I.pin go (List.mem_append_right _ (List.mem_singleton.mpr rfl))).1) I.nolimit ⟨gs', setGen_at hsz1, ?_⟩⟩
        exact hk _ rfl rfl (allBare_setGen (s := s₁.setGen g gs') (allBare_setGen I.bare hbare) rfl)
      | true =>
        rw [if_pos rfl] at hif
        simp only [if_true]
        refine wpAny_bind (wpAny_rule (wpAny_pure ?_))
        exact hstop _ σ H (I.again' (by rfl) rfl (allBare_setGen I.bare hbare)) hif
    · intro hsz
      obtain ⟨σ, H, I, q⟩ := hp
      refine wpAny_bind (wpAny_rule (wpAny_pure ?_))
      refine hend _ σ H ?_ q
      exact I.call' (ch := []) rfl (Un.kept hk) (I.hok.kept hk) (allBare_setGen I.bare rfl) fun b z => absurd z (by simp)
end

/-! ### the making -/
theorem clo_look {cells : List (Str × Addr)} {names : List (Str × NameKind)} (hf : ∀ y ∈ names, y.2 = .free → ∃ c, cells.lookup y.1 = some c) {x : Str} {c : Addr} (h : (cloFrom cells names []).lookup x = some c) : cells.lookup x = some c := by
  rcases cloFrom_mem (PySem.mem_of_lookup h) with z | ⟨h1, h2⟩
  · cases z
  · obtain ⟨c', e⟩ := hf _ h1 rfl
    rw [show cells.lookup x = some c' from e] at h2 ⊢
    rw [h2]
    all_goals rfl
theorem clo_has {cells : List (Str × Addr)} {names : List (Str × NameKind)} {x : Str} (h : names.lookup x = some .free) : ∃ c, (cloFrom cells names []).lookup x = some c :=
  mem_lookup (cloFrom_has (PySem.mem_of_lookup h))
theorem capSt_at {es : Ents} {σ : L2.St} {i : Nat} {v : V} (h : (capSt es σ)[i]? = some (some v)) : ∃ x j, es[i]? = some (x, some j) ∧ σ[j]? = some (some v) := by
  unfold capSt at h
  rw [List.getElem?_map] at h
  cases e : es[i]? with
  | none => rw [e] at h; cases h
  | some p =>
    obtain ⟨x, o⟩ := p
    rw [e] at h
    cases o with
    | none => cases h
    | some j =>
      refine ⟨x, j, rfl, ?_⟩
      have h' : (σ[j]?).getD none = some v := Option.some.inj h
      cases e2 : σ[j]? with
      | none => rw [e2] at h'; cases h'
      | some w => rw [e2] at h'; exact congrArg some h'

section
variable {X : Cx} {pins : List (Addr × Obj)} {σ : L2.St} {H : Hp} {s : Shared}

/-- the frame of the expression, as it is made -/
theorem inv_gen {sc scope : Scope} {es : Ents} {fp : List Addr} {A' : Around} {code : Value} {go : Addr × Obj} {s4 s5 : Shared} {itv : Value} (hsc : X.env.scope = sc) (S : GSc sc scope X.N es) (hhd : A'.handled = none)
    (hfr : A'.frames = some (genEnv scope (cloFrom X.env.cells scope.names []) s4.heap.objs.size code builtinsNs X.env :: X.stack))
    (I : Inv X pins σ H s4) (hf : ∀ b ∈ fp, FpOk X pins H b) (hlt : ∀ b ∈ fp, b < s4.heap.objs.size) (os : s5.os = s4.os) (bare : AllBare s5.gens) (kp : ∀ b o, s4.heap.get? b = some o → s5.heap.get? b = some o)
    (ns : s5.heap.Ns s4.heap.objs.size (fun y => if y = ".0" then some itv else none)) (hgo : s5.heap.get? go.1 = some go.2) (hgs : s4.heap.objs.size < go.1) (hgd : ∀ v, go.2.data ≠ .cell v) :
    Inv (gcx X (es.map (·.1)) fp (genEnv scope (cloFrom X.env.cells scope.names []) s4.heap.objs.size code builtinsNs X.env) A' s4 H) [go] (capSt es σ) H s5 := by
  subst hsc
  have hfree : ∀ y ∈ scope.names, y.2 = .free → ∃ c, X.env.cells.lookup y.1 = some c := fun y hy e => I.ok.has y.1 (S.fre y hy e)
  have gone : ∀ a, s4.heap.objs.size ≤ a → H a = none := fun a ha => I.hok.fresh ha
  have hCf : ∀ b, b ∈ frs X.stack → b < s4.heap.objs.size := fun b hb => by
    rcases List.mem_cons.mp (I.stkSub b hb) with z | z
    · rw [z]; exact I.lt
    · obtain ⟨_, o, ho, _⟩ := I.funs.mem z
      exact Heap.lt_size ho
  refine ⟨⟨I.ok.mod, S.kind, I.ok.glob, rfl, Nat.le_refl _, fun x y c h1 h2 => I.ok.inj x y c (clo_look hfree h1) (clo_look hfree h2), fun x hx => ?_, fun x c h => (by cases h), fun _ => hhd, hfr, .inr ⟨rfl, rfl⟩, fun b hb => ⟨Nat.ne_of_lt (hlt b hb), fun x c h => (hf b hb).2.2.2.2.1 x c (clo_look hfree h)⟩,
    fun b o e => I.bs b o e, Nat.le_trans I.ok.bsz I.sz, fun b o e hb => ?_, fun b hb hm => ?_, I.stack, I.stkFree⟩,
    os, bare, Un.kept kp, ⟨_, ns, fun i x v h1 h2 h3 => ?_⟩, fun x c h => ?_, gone _ (Nat.le_refl _), fun x c h => I.freeC x c (clo_look hfree h), fun p hp => ?_, I.hok.kept kp, ?_⟩
  · have hx : scope.names.lookup x = some .cell ∨ scope.names.lookup x = some .free := hx
    rcases hx with hx | hx
    · exact absurd rfl (S.cell _ (PySem.mem_of_lookup hx))
    · exact clo_has hx
  · rcases (hf b hb).2.2.2.1 with z | z
    · exact I.ok.noex b o e z
    · exact absurd (Nat.lt_of_lt_of_le (Heap.lt_size e) (Nat.le_trans I.ok.bsz z)) (Nat.lt_irrefl _)
  · obtain ⟨h1, h2, h3, _⟩ := hf b hb
    rcases List.mem_cons.mp (I.stkSub b hm) with z | z
    · exact h2 z
    · exact h3 z
  · obtain ⟨x', j, h4, h5⟩ := capSt_at h2
    have hx' : x' = x := by
      have h1' : (es.map (·.1))[i]? = some x := h1
      rw [List.getElem?_map, h4] at h1'
      exact Option.some.inj h1'
    subst hx'
    have hc := List.all_eq_true.mp S.caps (x', some j) (List.mem_of_getElem? h4)
    simp only [Bool.and_eq_true, beq_iff_eq] at hc
    obtain ⟨hN, hfr'⟩ := hc
    have hk := S.fre (x', .free) (PySem.mem_of_lookup hfr') rfl
    obtain ⟨m, hn, hl⟩ := I.loc
    obtain ⟨u, r, l⟩ := hl j x' v hN h5 (.inr hk)
    refine ⟨u, r, ?_⟩
    rcases l with ⟨hk', _⟩ | ⟨_, c, hcell, hat⟩
    · exfalso
      have hk'' : X.env.scope.names.lookup x' = some .local := hk'
      rcases hk with z | z <;> (rw [show X.env.scope.names.lookup x' = _ from z] at hk''; cases hk'')
    · obtain ⟨c', hc'⟩ := clo_has (cells := X.env.cells) hfr'
      have e := clo_look hfree hc'
      rw [hcell] at e
      cases e
      obtain ⟨o, ho, hd⟩ := hat
      exact .inr ⟨.inr hfr', c, hc', o, kp _ _ ho, hd⟩
  · obtain ⟨v, o, ho, hd⟩ := I.cell x c (clo_look hfree h)
    exact ⟨v, o, kp _ _ ho, hd⟩
  · have e : p = go := List.mem_singleton.mp (show p ∈ [go] from hp)
    subst e
    refine ⟨hgo, gone _ (Nat.le_of_lt hgs), Nat.ne_of_gt hgs, fun hb => ?_, hgd⟩
    exact absurd (Nat.lt_trans hgs (hCf _ hb)) (Nat.lt_irrefl _)
  · show (capSt es σ).length = (es.map (·.1)).length
    unfold capSt
    rw [List.length_map, List.length_map]
end

/-- the reading: Pv, by the turn and what is left of turns; fin: the value that ends the walk -/
def tGen (fin : Bool) (P : Addr) (es : Ents) (wi : TI) (g : TG) (t : TE) : TE := fun σ H Q => wi σ H fun J H1 => TabG H1 P ∧ ∀ H2, Tabbed P H1 H2 → ∃ Pv : Nat → Nat → L2.St → Hp → Prop, (∃ m, Pv 0 m (capSt es σ) H2) ∧
  ∀ i m σ' H', Pv i m σ' H' → (J.stop i H' ∧ Q (.bl (!fin)) H') ∨ (J.go i H' ∧ ∀ x H'', J.yld i H' x H'' → g x σ' H'' fun σ2 H3 => t σ2 H3 fun v H4 => ∃ b, v = .bl b ∧ if b = fin then Q (.bl fin) H4 else ∃ m', m = m' + 1 ∧ Pv (i + 1) m' σ2 H4)

/-- a generator that has not begun -/
def Ready (X : Cx) (pins : List (Addr × Obj)) (σ : L2.St) (fin : Bool) (Q : VK) (u : Value) (s' : Shared) : Prop :=
  ∃ (X' : Cx) (fp : List Addr) (go : Addr × Obj) (g : Nat) (tn : Nat → Heap → Prop) (Pv : Nat → Nat → L2.St → Hp → Prop) (m : Nat), X'.prog = X.prog ∧ X'.w = X.w ∧ u = .ref go.1 ∧ s'.heap.IsGen go.1 g ∧ s'.heap.NoLimit ∧ (∀ h : Heap, h.get? go.1 = some go.2 → h.IsGen go.1 g) ∧
    (∃ gs, s'.gens[g]? = some gs ∧ gs.Goes (model X.prog X.w) X.A.in1.in1 (GRet X' go (Q (.bl (!fin)))) (GProt X' fp go tn Pv fin (Q (.bl fin))) (m + 1) (.send .none) (s'.setGen g .running)) ∧
    ∀ σ' H' s'', Inv X' [go] σ' H' s'' → Inv X pins σ H' s''

theorem gen_made {k : Nat} {c P : Addr} {elt tg iter : Expr} {gpos : Pos} {scope : Scope} {es : Ents} {wi : TI} {g : TG} {t : TE} {fin : Bool} {pins : List (Addr × Obj)} {s : Shared} {σ : L2.St} {H : Hp} {Q : VK} {X : Cx}
    (hr : Room (k + 1) X.A) (TB : TabB X.base X.mg c P) (hcode : X.env.code = .ref c) (S : GSc X.env.scope scope X.N es) (hi : PI X tg iter wi)
    (hgt : ∀ fp cl C code A' s H, PG (gcx X (es.map (·.1)) fp (genEnv scope cl C code builtinsNs X.env) A' s H) tg g)
    (helt : ∀ fp cl C code A' s H, Room k A' → PE (gcx X (es.map (·.1)) fp (genEnv scope cl C code builtinsNs X.env) A' s H) elt t)
    (hs : ∀ v, genFold iter X.env v = pure v) (I : Inv X pins σ H s) (h : tGen fin P es wi g t σ H Q) :
    wpAny (model X.prog X.w) X.A (eval (.GeneratorExp elt [⟨tg, iter, [], 0⟩] scope gpos) X.env) (Ready X pins σ fin Q) X.xe s := by
  have hfree : ∀ y ∈ scope.names, y.2 = .free → ∃ c, X.env.cells.lookup y.1 = some c := fun y hy e => I.ok.has y.1 (S.fre y hy e)
  refine wpAny_GeneratorExp_make S.co (closure_ok hfree) S.cell S.dot S.kind (by have := hr.dp; omega) ?_ hs
  refine thn (hi.run pins s σ H _ I h) fun xv s1 h1 => thn h1 fun itv s2 hp => ?_
  obtain ⟨it, fp, tn, J, H1, rfl, I1, T, st, hf, ⟨ps, hP, ht⟩, hR⟩ := hp
  have hPs : s2.heap.get? P = some { cls := .none, data := .fields ps } := I1.hok P _ hP
  have cd : PySem.W.CodeHd s2.heap c P := TB.code.keeps fun b u e => I1.bk b u e
  have nP : ∀ b, H1 b = none → b ≠ P := fun b e z => by rw [z, hP] at e; cases e
  refine ⟨I1.nolimit, ?_⟩
  have cont : ∀ (code : Value) (h3 : Heap) (tk : Nat) (ps' : Array Value), Heap.ExtBut P s2.heap h3 → s2.heap.objs.size ≤ h3.objs.size → h3.get? P = some { cls := .none, data := .fields ps' } → (∃ more, ps' = ps ++ more) → TriplesOk ps'.toList →
      wpAny (model X.prog X.w) X.A (builtinsFor X.env.globals X.env.builtins) (fun bi s₄ =>
        ∀ h', h'.Ns s₄.heap.objs.size (fun y => if y = ".0" then some (.ref it) else none) → Heap.SameBut s₄.heap.objs.size (s₄.heap.push { cls := .type "frame", data := .dict #[] }) h' →
          Ready X pins σ fin Q (.ref h'.objs.size) { s₄ with
            gens := s₄.gens.push (.fresh (.compStart (.GeneratorExp elt [⟨tg, iter, [], 0⟩] scope gpos) 0 (.ref it) .none (genEnv scope (cloFrom X.env.cells scope.names []) s₄.heap.objs.size code bi X.env))),
            toks := s₄.toks + 1 + 1 + 1,
            heap := h'.push { cls := .type "generator", data := .fields #[.int s₄.gens.size 0, .str "<genexpr>" (s₄.toks + 1), .str (X.env.qual ++ "<genexpr>") (s₄.toks + 1 + 1)] } }) X.xe { s2 with heap := h3, toks := tk } := by
    intro code h3 tk ps' hx hsz hP3 hmore ht3
    obtain ⟨more, em⟩ := hmore
    subst em
    obtain ⟨bm, ob, e1, e2, e3, e4, e5, e6, e7, e8⟩ := TB.bm
    have keep3 : ∀ b u, b ≠ P → s2.heap.get? b = some u → h3.get? b = some u := fun b u hb e => hx b u hb e
    have I4 : Inv X pins σ (upd H1 P (.tbl (ps ++ more))) { s2 with heap := h3, toks := tk } := inv_tab (g' := s2.gens) (d' := s2.drawn) (t' := tk) I1 hP keep3 hP3 I1.bare
    have hTb : Tabbed P H1 (upd H1 P (.tbl (ps ++ more))) := ⟨⟨_, upd_same, ht3⟩, fun b hb => upd_ne hb⟩
    obtain ⟨Pv, ⟨m, pv⟩, turn⟩ := hR _ hTb
    have hf4 : ∀ b ∈ fp, FpOk X pins (upd H1 P (.tbl (ps ++ more))) b := fun b hb => by
      obtain ⟨f0, fr⟩ := hf b hb
      exact ⟨by rw [upd_ne (nP b f0)]; exact f0, fr⟩
    have st4 : tn 0 h3 := T.keep _ _ _ st fun b hb o e => keep3 b o (nP b (hf b hb).1) e
    have lt4 : ∀ b ∈ fp, b < h3.objs.size := fun b hb => by
      obtain ⟨o, ho, _⟩ := T.obj _ _ st4 b hb
      exact Heap.lt_size ho
    refine wpAny_builtinsFor (m := X.mg) (by rw [I1.ok.glob]; exact (I1.mod.glob.keeps I1.bk).extBut hx TB.gP) e1 e2 (keep3 _ _ e4 (I1.bk _ _ e5)) e6 e7 e8 ?_
    intro h' hn' hs'
    have hsz' : h'.objs.size = h3.objs.size + 1 := by rw [hs'.1]; exact Heap.size_push ..
    have keep' : ∀ b o, h3.get? b = some o → h'.get? b = some o := fun b o e => hs'.extBut b o (Nat.ne_of_lt (Heap.lt_size e)) (Heap.get?_push_of_some _ e)
    have main : ∀ (go : Obj) (nm qn : Value) (tk5 : Nat) (GS : Array GenState), go.cls = .type "generator" → go.data = .fields #[.int s2.gens.size 0, nm, qn] → go.slots = #[] → (∀ h : Heap, (h.push go).get? h.objs.size = some go) → AllBare GS →
        GS[s2.gens.size]? = some (.fresh (.compStart (.GeneratorExp elt [⟨tg, iter, [], 0⟩] scope gpos) 0 (.ref it) .none (genEnv scope (cloFrom X.env.cells scope.names []) h3.objs.size code builtinsNs X.env))) →
        Ready X pins σ fin Q (.ref h'.objs.size) { s2 with gens := GS, toks := tk5, heap := h'.push go } := by
      intro go nm qn tk5 GS hgc hgd hgsl hgp hGb hGS
      have hgen : ∀ h : Heap, h.get? h'.objs.size = some go → h.IsGen h'.objs.size s2.gens.size := fun h e => ⟨go, nm, qn, e, hgc, hgd, hgsl⟩
      have keep5 : ∀ b o, h3.get? b = some o → (h'.push go).get? b = some o := fun b o e => Heap.get?_push_of_some _ (keep' b o e)
      have kO : ∀ A' : Around, A' = X.A.in1.in1.deeper (genEnv scope (cloFrom X.env.cells scope.names []) h3.objs.size code builtinsNs X.env) → A'.frames = some (genEnv scope (cloFrom X.env.cells scope.names []) h3.objs.size code builtinsNs X.env :: X.stack) := fun A' e => by
        rw [e]
        exact Around.frames_deeper (A := X.A.in1.in1) I1.ok.frames
      have I5 : ∀ s5 : Shared, s5.os = s2.os → AllBare s5.gens → s5.heap = h'.push go → Inv (gcx X (es.map (·.1)) fp (genEnv scope (cloFrom X.env.cells scope.names []) h3.objs.size code builtinsNs X.env) (X.A.in1.in1.deeper (genEnv scope (cloFrom X.env.cells scope.names []) h3.objs.size code builtinsNs X.env)) { s2 with heap := h3, toks := tk } (upd H1 P (.tbl (ps ++ more))))
          [(h'.objs.size, go)] (capSt es σ) (upd H1 P (.tbl (ps ++ more))) s5 := fun s5 o5 b5 e5 =>
        inv_gen (s4 := { s2 with heap := h3, toks := tk }) rfl S hr.hd (kO _ rfl) I4 hf4 lt4 o5 b5 (by rw [e5]; exact keep5) (by rw [e5]; exact hn'.push _) (by rw [e5]; exact hgp h') (by show h3.objs.size < h'.objs.size; omega) (fun v q => by rw [hgd] at q; cases q)
      refine ⟨gcx X (es.map (·.1)) fp (genEnv scope (cloFrom X.env.cells scope.names []) h3.objs.size code builtinsNs X.env) (X.A.in1.in1.deeper (genEnv scope (cloFrom X.env.cells scope.names []) h3.objs.size code builtinsNs X.env)) { s2 with heap := h3, toks := tk } (upd H1 P (.tbl (ps ++ more))), fp, (h'.objs.size, go), s2.gens.size, tn, Pv, m, rfl, rfl, rfl, hgen _ (hgp h'), I4.nolimit.keeps keep5, hgen, ⟨_, hGS, rfl, ?_⟩, fun σ' H' s'' I' => ?_⟩
      · refine seg_first (A := X.A.in1.in1) (X := X) (N' := es.map (·.1)) (fp := fp) (env := genEnv scope (cloFrom X.env.cells scope.names []) h3.objs.size code builtinsNs X.env) (s0 := { s2 with heap := h3, toks := tk }) (H0 := upd H1 P (.tbl (ps ++ more))) (fin := fin) (Qe := Q (.bl (!fin))) (Qs := Q (.bl fin)) rfl S.co T
          (hgt ..) (helt _ _ _ _ _ _ _ ⟨hr.hd, ?_, ?_⟩) (fun b hb => ?_) turn m _ (({ s2 with gens := GS, toks := tk5, heap := h'.push go } : Shared).setGen s2.gens.size .running) _ _ pv (I5 (({ s2 with gens := GS, toks := tk5, heap := h'.push go } : Shared).setGen s2.gens.size .running) rfl (allBare_setGen (s := { s2 with gens := GS, toks := tk5, heap := h'.push go }) hGb rfl) rfl) (T.keep _ _ _ st4 fun b _ o e => keep5 b o e) fun b hb => (hf4 b hb).1
        · have := hr.dp
          show X.A.depth + 1 + 3 * k + 5 < _
          omega
        · have := hr.un
          show X.A.units + 1 + 1 + 3 + 16 * k + 200 < _
          omega
        · obtain ⟨f0, f1, f2, f3, f4, f5⟩ := hf4 b hb
          refine ⟨Nat.ne_of_lt (lt4 b hb), fun hm => ?_, fun x c h => f4 x c (clo_look hfree h), fun z => ?_⟩
          · rcases List.mem_cons.mp (I4.stkSub b hm) with z | z
            · exact f1 z
            · exact f2 z
          · have z' : h'.objs.size = b := z
            have q := lt4 b hb
            rw [← z', hsz'] at q
            exact absurd q (Nat.not_lt_of_le (Nat.le_succ _))
      · refine I4.call' (ch := fp) I'.os I'.base I'.hok I'.bare fun b hb => ?_
        obtain ⟨f0, f1, f2, f3, f4, f5⟩ := hf4 b hb
        exact ⟨f3, f1, f4, f5⟩
    exact main _ _ _ _ _ rfl rfl rfl (fun h => Heap.get?_push_size _ rfl) (AllBare.push I1.bare rfl) (Array.getElem?_push_size ..)
  cases hfd : codeAmong gpos ps.toList with
  | none =>
    refine wpAny_genexprCodeX hcode (cd.code hPs ht) (cd.tab hPs) hfd fun c' h' tk hx hge hlt hco' _ htab' _ => ?_
    obtain ⟨o1, vs, f1, tf, fl, tg', inF, tx, tt, op, _, _, _, _, _, _, _, _, _, htr, _⟩ := hco'
    exact cont _ h' tk _ hx (Nat.le_trans hge (Nat.le_of_lt hlt)) htab'.2 ⟨_, rfl⟩ htr
  | some cv =>
    refine wpAny_genexprCode_hit hcode (cd.code hPs ht) hfd ?_
    exact cont cv s2.heap s2.toks ps (Heap.ExtBut.refl _ _) (Nat.le_refl _) hPs ⟨#[], by simp⟩ ht

section
variable {k : Nat} {c P : Addr} {elt tg iter : Expr} {p pos gpos : Pos} {scope : Scope} {es : Ents} {wi : TI} {g : TG} {t : TE} {X : Cx}
theorem pe_allG (hr : Room (k + 1) X.A) (hg : Gl X "all") (hm : X.mg "all" = none) (TB : TabB X.base X.mg c P) (hcode : X.env.code = .ref c) (S : GSc X.env.scope scope X.N es) (hi : PI X tg iter wi)
    (hgt : ∀ fp cl C code A' s H, PG (gcx X (es.map (·.1)) fp (genEnv scope cl C code builtinsNs X.env) A' s H) tg g)
    (helt : ∀ fp cl C code A' s H, Room k A' → PE (gcx X (es.map (·.1)) fp (genEnv scope cl C code builtinsNs X.env) A' s H) elt t)
    (hs : ∀ v, genFold iter X.env v = pure v := by intro _; rfl) (hb : bootBuiltins "all" = some (.builtin "all") := by decide +kernel)
    (he : starEach [.GeneratorExp elt [⟨tg, iter, [], 0⟩] scope gpos] X.env = (false, eval (.GeneratorExp elt [⟨tg, iter, [], 0⟩] scope gpos) X.env) :: starEach [] X.env := by rfl) :
    PE X (.Call (.Name "all" p) [.GeneratorExp elt [⟨tg, iter, [], 0⟩] scope gpos] [] pos) (tGen false P es wi g t) := by
  refine ⟨fun pins s σ H Q I h => ?_⟩
  refine wpAny_Call_Name_kw (ld_blt I hg hm hb ?_)
  refine PyProof.Rows.callWith_builtin1 ?_ he (by rfl)
  rw [he]
  show wpAny _ _ (spliced ((false, eval (.GeneratorExp elt [⟨tg, iter, [], 0⟩] scope gpos) X.env) :: backTo pos (starEach [] X.env))) _ _ s
  refine Calls.spliced_cons (thn (gen_made hr TB hcode S hi hgt helt hs I h) fun u s1 hR => ?_)
  obtain ⟨X', fp, go, gn, tn, Pv, m, hP, hw, rfl, hg1, hl1, hgen, hgoes, hback⟩ := hR
  refine Calls.spliced_nil ?_
  refine call_function_tree F.kind_all F.plain_all F.entry_all (F.args_all1 _) ?_
  unfold Builtin.«all»
  refine wpAny_bind (m := oneArg "all" _) (wpAny_pure ?_)
  refine wpAny_bind (wpAny_pyIter_gen hg1 ?_)
  rw [← hP, ← hw] at hgoes ⊢
  refine wpAny_pure ⟨plainId_quiet F.plain_all_loop _, all_loop (Qe := Q (.bl true)) (Qs := Q (.bl false)) hr.hd (by have := hr.dp; omega) hgen (fun s' σ' H' I' q => ?_) (fun s' σ' H' I' q => ?_) m s1 hg1 hl1 hgoes⟩
  · exact ⟨.bl true, H', hback _ _ _ I', rfl, q⟩
  · exact ⟨.bl false, H', hback _ _ _ I', rfl, q⟩
theorem pe_anyG (hr : Room (k + 1) X.A) (hg : Gl X "any") (hm : X.mg "any" = none) (TB : TabB X.base X.mg c P) (hcode : X.env.code = .ref c) (S : GSc X.env.scope scope X.N es) (hi : PI X tg iter wi)
    (hgt : ∀ fp cl C code A' s H, PG (gcx X (es.map (·.1)) fp (genEnv scope cl C code builtinsNs X.env) A' s H) tg g)
    (helt : ∀ fp cl C code A' s H, Room k A' → PE (gcx X (es.map (·.1)) fp (genEnv scope cl C code builtinsNs X.env) A' s H) elt t)
    (hs : ∀ v, genFold iter X.env v = pure v := by intro _; rfl) (hb : bootBuiltins "any" = some (.builtin "any") := by decide +kernel)
    (he : starEach [.GeneratorExp elt [⟨tg, iter, [], 0⟩] scope gpos] X.env = (false, eval (.GeneratorExp elt [⟨tg, iter, [], 0⟩] scope gpos) X.env) :: starEach [] X.env := by rfl) :
    PE X (.Call (.Name "any" p) [.GeneratorExp elt [⟨tg, iter, [], 0⟩] scope gpos] [] pos) (tGen true P es wi g t) := by
  refine ⟨fun pins s σ H Q I h => ?_⟩
  refine wpAny_Call_Name_kw (ld_blt I hg hm hb ?_)
  refine PyProof.Rows.callWith_builtin1 ?_ he (by rfl)
  rw [he]
  show wpAny _ _ (spliced ((false, eval (.GeneratorExp elt [⟨tg, iter, [], 0⟩] scope gpos) X.env) :: backTo pos (starEach [] X.env))) _ _ s
  refine Calls.spliced_cons (thn (gen_made hr TB hcode S hi hgt helt hs I h) fun u s1 hR => ?_)
  obtain ⟨X', fp, go, gn, tn, Pv, m, hP, hw, rfl, hg1, hl1, hgen, hgoes, hback⟩ := hR
  refine Calls.spliced_nil ?_
  refine call_function_tree F.kind_any F.plain_any F.entry_any (F.args_any1 _) ?_
  unfold Builtin.«any»
  refine wpAny_bind (m := oneArg "any" _) (wpAny_pure ?_)
  refine wpAny_bind (wpAny_pyIter_gen hg1 ?_)
  rw [← hP, ← hw] at hgoes ⊢
  refine wpAny_pure ⟨plainId_quiet F.plain_any_loop _, any_loop (Qe := Q (.bl false)) (Qs := Q (.bl true)) hr.hd (by have := hr.dp; omega) hgen (fun s' σ' H' I' q => ?_) (fun s' σ' H' I' q => ?_) m s1 hg1 hl1 hgoes⟩
  · exact ⟨.bl false, H', hback _ _ _ I', rfl, q⟩
  · exact ⟨.bl true, H', hback _ _ _ I', rfl, q⟩
end
end Gx

/-! Plain data of any depth, and how a heap holds it. -/
namespace Dv
open PySem PySem.Spec PyProof.Rows L2 GxR Gx

inductive D where
  | non | bl (b : Bool) | int (i : Int) | str (s : Str) | tup (ds : List D)

section
variable (K : PySem.W.Frag) (H : Hp)
mutual
def At : V → D → Prop
  | v, .non => v = .non
  | v, .bl b => v = .bl b
  | v, .int i => v = .int i
  | v, .str s => v = .str s
  | v, .tup ds => ∃ a xs, v = .ref a ∧ SqT K H a xs ∧ Ats xs ds
def Ats : List V → List D → Prop
  | xs, [] => xs = []
  | xs, d :: ds => ∃ x r, xs = x :: r ∧ At x d ∧ Ats r ds
end
end

/-- H' is H but for what is new, the lists at ms, and tables, which may grow -/
structure Ex (T ms : List Addr) (H H' : Hp) : Prop where
  keep : ∀ b o, b ∉ ms → H b = some o → (∀ ps, o ≠ .tbl ps) → H' b = some o
  tups : ∀ b xs, Rd H b (.tup xs) → Rd H' b (.tup xs)
  tabs : (∀ P ∈ T, TabG H P) → ∀ P ∈ T, TabG H' P
  there : ∀ b o, H b = some o → ∃ o', H' b = some o'

section
variable {K : PySem.W.Frag} {T ms : List Addr} {H H1 H2 H' : Hp}
theorem Ex.refl : Ex T ms H H := ⟨fun _ _ _ h _ => h, fun _ _ h => h, fun h => h, fun _ o h => ⟨o, h⟩⟩
theorem Ex.trans (a : Ex T ms H H1) (b : Ex T ms H1 H2) : Ex T ms H H2 :=
  ⟨fun c o n h t => b.keep c o n (a.keep c o n h t) t, fun c xs h => b.tups c xs (a.tups c xs h), fun h => b.tabs (a.tabs h), fun c o h => let ⟨o', e⟩ := a.there c o h; b.there c o' e⟩
theorem Ex.mono {ms' : List Addr} (a : Ex T ms H H1) (h : ∀ b ∈ ms, b ∈ ms') : Ex T ms' H H1 :=
  ⟨fun c o n q t => a.keep c o (fun z => n (h c z)) q t, a.tups, a.tabs, a.there⟩
theorem Ex.nil (a : Ex T [] H H1) : Ex T ms H H1 := a.mono fun _ h => by cases h
theorem tabG_upd {P p : Addr} {o : HO} (h : TabG H P) (n : P ≠ p) : TabG (upd H p o) P := by
  obtain ⟨ps, e, t⟩ := h
  exact ⟨ps, by rw [upd_ne n]; exact e, t⟩
theorem rd_upd {b p : Addr} {xs : List V} {o : HO} (h : Rd H b (.tup xs)) (n : b ≠ p) : Rd (upd H p o) b (.tup xs) := by
  rcases h with h | ⟨ob, h⟩
  · exact .inl (by rw [upd_ne n]; exact h)
  · exact .inr ⟨ob, by rw [upd_ne n]; exact h⟩
theorem rd_ne {b p : Addr} {xs : List V} (h : Rd H b (.tup xs)) (n : H p = none) : b ≠ p := by
  rcases h with h | ⟨ob, h⟩
  · exact ne_of_none h n
  · exact ne_of_none h n
/-- a new object -/
theorem upd_there {p b : Addr} {o u : HO} (h : H b = some u) : ∃ o', upd H p o b = some o' := by
  by_cases e : b = p
  · exact ⟨o, by rw [e, upd_same]⟩
  · exact ⟨u, by rw [upd_ne e]; exact h⟩
theorem Ex.new {p : Addr} {o : HO} (n : H p = none) : Ex T ms H (upd H p o) := by
  refine ⟨fun b u _ h _ => by rw [upd_ne (ne_of_none h n)]; exact h, fun b xs h => rd_upd h (rd_ne h n), fun h P hP => ?_, fun b u h => upd_there h⟩
  obtain ⟨ps, e, t⟩ := h P hP
  exact tabG_upd ⟨ps, e, t⟩ (ne_of_none e n)
/-- an object that was new is written again -/
theorem Ex.put {p : Addr} {o : HO} (a : Ex T ms H H1) (n : H p = none) (hT : ∀ P ∈ T, TabG H P) : Ex T ms H (upd H1 p o) := by
  refine ⟨fun b u m h t => by rw [upd_ne (ne_of_none h n)]; exact a.keep b u m h t, fun b xs h => rd_upd (a.tups b xs h) (rd_ne h n), fun h P hP => ?_, fun b u h => let ⟨_, e⟩ := a.there b u h; upd_there e⟩
  obtain ⟨ps, e, t⟩ := hT P hP
  exact tabG_upd (a.tabs h P hP) (ne_of_none e n)
/-- a list at ms is written -/
theorem Ex.write {m : Addr} {o : HO} {xs : List V} (hm : m ∈ ms) (h : H m = some (.lst xs)) : Ex T ms H (upd H m o) := by
  refine ⟨fun b u n e t => by rw [upd_ne (fun z => n (by rw [z]; exact hm))]; exact e, fun b ys e => ?_, fun hh P hP => ?_, fun b u h => upd_there h⟩
  · have nb : b ≠ m := fun z => by
      subst z
      rcases e with e | ⟨ob, e⟩ <;> (rw [h] at e; cases e)
    exact rd_upd e nb
  · obtain ⟨ps, e, t⟩ := hh P hP
    exact tabG_upd ⟨ps, e, t⟩ (fun z => by subst z; rw [h] at e; cases e)
/-- a table has grown -/
theorem Ex.tab {P : Addr} (h : TabG H P) (t : Tabbed P H H') : Ex T ms H H' := by
  obtain ⟨⟨ps, e, _⟩, ht⟩ := And.intro h t
  refine ⟨fun b o _ q n => ?_, fun b xs q => ?_, fun hh Q hQ => ?_, fun b o q => ?_⟩
  · rw [ht.2 b fun z => by subst z; rw [e] at q; cases q; exact n _ rfl]; exact q
  · have nb : b ≠ P := fun z => by
      subst z
      rcases q with q | ⟨ob, q⟩ <;> (rw [e] at q; cases q)
    rcases q with q | ⟨ob, q⟩
    · exact .inl (by rw [ht.2 b nb]; exact q)
    · exact .inr ⟨ob, by rw [ht.2 b nb]; exact q⟩
  · by_cases z : Q = P
    · rw [z]; exact ht.1
    · obtain ⟨ps', e', t'⟩ := hh Q hQ
      exact ⟨ps', by rw [ht.2 Q z]; exact e', t'⟩
  · by_cases z : b = P
    · obtain ⟨ps', e', _⟩ := ht.1
      exact ⟨_, by rw [z]; exact e'⟩
    · exact ⟨o, by rw [ht.2 b z]; exact q⟩
/-- what is new behind is new ahead -/
theorem Ex.free {p : Addr} (a : Ex T ms H H1) (n : H1 p = none) : H p = none := by
  cases e : H p with
  | none => rfl
  | some o =>
    obtain ⟨o', e'⟩ := a.there p o e
    rw [n] at e'; cases e'
theorem Ex.sqT (a : Ex T ms H H1) {b : Addr} {xs : List V} (h : SqT K H b xs) : SqT K H1 b xs := h.imp (a.tups b xs) id
theorem Ex.sqL (a : Ex T ms H H1) {b : Addr} {xs : List V} (n : b ∉ ms) (h : SqL K H b xs) : SqL K H1 b xs := by
  refine h.imp (fun z => ?_) id
  rcases z with z | ⟨o, z⟩
  · exact .inl (a.keep _ _ n z fun ps e => by cases e)
  · exact .inr ⟨o, a.keep _ _ n z fun ps e => by cases e⟩

mutual
theorem At.ext (a : Ex T ms H H1) : ∀ {v : V} {d : D}, At K H v d → At K H1 v d
  | v, .non, h => by unfold At at h ⊢; exact h
  | v, .bl b, h => by unfold At at h ⊢; exact h
  | v, .int i, h => by unfold At at h ⊢; exact h
  | v, .str s, h => by unfold At at h ⊢; exact h
  | v, .tup ds, h => by
    unfold At at h ⊢
    obtain ⟨p, xs, e, q, r⟩ := h
    exact ⟨p, xs, e, a.sqT q, Ats.ext a r⟩
theorem Ats.ext (a : Ex T ms H H1) : ∀ {xs : List V} {ds : List D}, Ats K H xs ds → Ats K H1 xs ds
  | xs, [], h => by unfold Ats at h ⊢; exact h
  | xs, d :: ds, h => by
    unfold Ats at h ⊢
    obtain ⟨x, r, e, q, t⟩ := h
    exact ⟨x, r, e, At.ext a q, Ats.ext a t⟩
end
theorem at_non {v : V} : At K H v .non ↔ v = .non := by unfold At; exact Iff.rfl
theorem at_bl {v : V} {b : Bool} : At K H v (.bl b) ↔ v = .bl b := by unfold At; exact Iff.rfl
theorem at_int {v : V} {i : Int} : At K H v (.int i) ↔ v = .int i := by unfold At; exact Iff.rfl
theorem at_str {v : V} {s : Str} : At K H v (.str s) ↔ v = .str s := by unfold At; exact Iff.rfl
theorem at_tup {v : V} {ds : List D} : At K H v (.tup ds) ↔ ∃ a xs, v = .ref a ∧ SqT K H a xs ∧ Ats K H xs ds := by
  constructor
  · intro h; unfold At at h; exact h
  · intro h; unfold At; exact h
theorem ats_nil {xs : List V} : Ats K H xs [] ↔ xs = [] := by unfold Ats; exact Iff.rfl
theorem ats_cons {xs : List V} {d : D} {ds : List D} : Ats K H xs (d :: ds) ↔ ∃ x r, xs = x :: r ∧ At K H x d ∧ Ats K H r ds := by
  constructor
  · intro h; unfold Ats at h; exact h
  · intro h; unfold Ats; exact h
theorem Ats.mk_nil : Ats K H [] [] := ats_nil.mpr rfl
theorem Ats.mk {x : V} {d : D} {xs : List V} {ds : List D} (h : At K H x d) (t : Ats K H xs ds) : Ats K H (x :: xs) (d :: ds) := ats_cons.mpr ⟨x, xs, rfl, h, t⟩
theorem Ats.length : ∀ {xs : List V} {ds : List D}, Ats K H xs ds → xs.length = ds.length
  | xs, [], h => by rw [ats_nil.mp h]; rfl
  | xs, d :: ds, h => by
    obtain ⟨x, r, rfl, _, t⟩ := ats_cons.mp h
    rw [List.length_cons, List.length_cons, t.length]
theorem Ats.get : ∀ {xs : List V} {ds : List D} {i : Nat} {d : D}, Ats K H xs ds → ds[i]? = some d → ∃ x, xs[i]? = some x ∧ At K H x d
  | xs, [], i, d, h, e => by simp at e
  | xs, d' :: ds, 0, d, h, e => by
    obtain ⟨x, r, rfl, q, _⟩ := ats_cons.mp h
    obtain rfl : d' = d := by simpa using e
    exact ⟨x, rfl, q⟩
  | xs, d' :: ds, i + 1, d, h, e => by
    obtain ⟨x, r, rfl, _, t⟩ := ats_cons.mp h
    obtain ⟨y, h1, h2⟩ := t.get (i := i) (d := d) (by simpa using e)
    exact ⟨y, by simpa using h1, h2⟩
theorem Ats.get' {xs : List V} {ds : List D} {i : Nat} {x : V} (h : Ats K H xs ds) (e : xs[i]? = some x) : ∃ d, ds[i]? = some d ∧ At K H x d := by
  have hl := h.length
  have hi : i < ds.length := by rw [← hl]; exact (List.getElem?_eq_some_iff.mp e).1
  obtain ⟨y, h1, h2⟩ := h.get (List.getElem?_eq_getElem hi)
  rw [e] at h1; cases h1
  exact ⟨_, List.getElem?_eq_getElem hi, h2⟩
theorem Ats.append : ∀ {xs ys : List V} {ds es : List D}, Ats K H xs ds → Ats K H ys es → Ats K H (xs ++ ys) (ds ++ es)
  | xs, ys, [], es, h, t => by rw [ats_nil.mp h]; exact t
  | xs, ys, d :: ds, es, h, t => by
    obtain ⟨x, r, rfl, q, s⟩ := ats_cons.mp h
    exact Ats.mk q (Ats.append s t)
theorem Ats.of_forall : ∀ {xs : List V} {ds : List D}, xs.length = ds.length → (∀ (i : Nat) (x : V) (d : D), xs[i]? = some x → ds[i]? = some d → At K H x d) → Ats K H xs ds
  | [], [], _, _ => Ats.mk_nil
  | x :: xs, d :: ds, hl, h => Ats.mk (h 0 x d rfl rfl) (Ats.of_forall (by simpa using hl) fun i x d h1 h2 => h (i + 1) x d (by simpa using h1) (by simpa using h2))
/-- a new tuple of data -/
theorem At.new {p : Addr} {xs : List V} {ds : List D} (h : H p = some (.tup xs)) (r : Ats K H xs ds) : At K H (.ref p) (.tup ds) := at_tup.mpr ⟨p, xs, rfl, SqT.of h, r⟩
/-- laid at p over H -/
theorem At.laid {p : Addr} {xs : List V} {ds : List D} (n : H p = none) (r : Ats K H xs ds) : At K (upd H p (.tup xs)) (.ref p) (.tup ds) :=
  At.new upd_same (Ats.ext (T := []) (ms := []) (Ex.new n) r)
theorem At.t1 {v : V} {d1 : D} (h : At K H v (.tup [d1])) : ∃ a x1, v = .ref a ∧ SqT K H a [x1] ∧ At K H x1 d1 := by
  obtain ⟨a, xs, rfl, q, r⟩ := at_tup.mp h
  obtain ⟨x1, _, rfl, h1, r⟩ := ats_cons.mp r
  cases ats_nil.mp r
  exact ⟨a, x1, rfl, q, h1⟩
theorem At.t2 {v : V} {d1 d2 : D} (h : At K H v (.tup [d1, d2])) : ∃ a x1 x2, v = .ref a ∧ SqT K H a [x1, x2] ∧ At K H x1 d1 ∧ At K H x2 d2 := by
  obtain ⟨a, xs, rfl, q, r⟩ := at_tup.mp h
  obtain ⟨x1, _, rfl, h1, r⟩ := ats_cons.mp r
  obtain ⟨x2, _, rfl, h2, r⟩ := ats_cons.mp r
  cases ats_nil.mp r
  exact ⟨a, x1, x2, rfl, q, h1, h2⟩
theorem At.t3 {v : V} {d1 d2 d3 : D} (h : At K H v (.tup [d1, d2, d3])) : ∃ a x1 x2 x3, v = .ref a ∧ SqT K H a [x1, x2, x3] ∧ At K H x1 d1 ∧ At K H x2 d2 ∧ At K H x3 d3 := by
  obtain ⟨a, xs, rfl, q, r⟩ := at_tup.mp h
  obtain ⟨x1, _, rfl, h1, r⟩ := ats_cons.mp r
  obtain ⟨x2, _, rfl, h2, r⟩ := ats_cons.mp r
  obtain ⟨x3, _, rfl, h3, r⟩ := ats_cons.mp r
  cases ats_nil.mp r
  exact ⟨a, x1, x2, x3, rfl, q, h1, h2, h3⟩
theorem At.t4 {v : V} {d1 d2 d3 d4 : D} (h : At K H v (.tup [d1, d2, d3, d4])) : ∃ a x1 x2 x3 x4, v = .ref a ∧ SqT K H a [x1, x2, x3, x4] ∧ At K H x1 d1 ∧ At K H x2 d2 ∧ At K H x3 d3 ∧ At K H x4 d4 := by
  obtain ⟨a, xs, rfl, q, r⟩ := at_tup.mp h
  obtain ⟨x1, _, rfl, h1, r⟩ := ats_cons.mp r
  obtain ⟨x2, _, rfl, h2, r⟩ := ats_cons.mp r
  obtain ⟨x3, _, rfl, h3, r⟩ := ats_cons.mp r
  obtain ⟨x4, _, rfl, h4, r⟩ := ats_cons.mp r
  cases ats_nil.mp r
  exact ⟨a, x1, x2, x3, x4, rfl, q, h1, h2, h3, h4⟩
end

/-! ### conditions -/
inductive C where
  | tru | fls | less (a b : Int) | same (a b : Int) | emp (a : Int) | nt (c : C) | all (cs : List C) | any (cs : List C)
mutual
def encC : C → D
  | .tru => .tup [.str "true"]
  | .fls => .tup [.str "false"]
  | .less a b => .tup [.str "less", .int a, .int b]
  | .same a b => .tup [.str "same", .int a, .int b]
  | .emp a => .tup [.str "empty", .int a]
  | .nt c => .tup [.str "not", encC c]
  | .all cs => .tup [.str "all", .tup (encCs cs)]
  | .any cs => .tup [.str "any", .tup (encCs cs)]
def encCs : List C → List D
  | [] => []
  | c :: cs => encC c :: encCs cs
end
theorem encCs_length : ∀ cs : List C, (encCs cs).length = cs.length
  | [] => by unfold encCs; rfl
  | c :: cs => by unfold encCs; rw [List.length_cons, List.length_cons, encCs_length cs]
theorem encCs_get : ∀ (cs : List C) (i : Nat), (encCs cs)[i]? = (cs[i]?).map encC
  | [], i => by unfold encCs; simp
  | c :: cs, 0 => by unfold encCs; simp
  | c :: cs, i + 1 => by
    unfold encCs
    rw [List.getElem?_cons_succ, List.getElem?_cons_succ]
    exact encCs_get cs i
def worth (v : Int) (h : List (Option Int)) (p : Int) : Option Int := if p = -1 then some v else if p = -2 then none else (h[p.toNat]?).getD none
def ltO : Option Int → Option Int → Bool
  | some x, some y => decide (x < y)
  | _, _ => false
def eqO : Option Int → Option Int → Bool
  | some x, some y => decide (x = y)
  | _, _ => false
mutual
def hold (v : Int) (h : List (Option Int)) : C → Bool
  | .tru => true
  | .fls => false
  | .less a b => ltO (worth v h a) (worth v h b)
  | .same a b => eqO (worth v h a) (worth v h b)
  | .emp a => (worth v h a).isNone
  | .nt c => !hold v h c
  | .all cs => holdA v h cs
  | .any cs => holdE v h cs
def holdA (v : Int) (h : List (Option Int)) : List C → Bool
  | [] => true
  | c :: cs => hold v h c && holdA v h cs
def holdE (v : Int) (h : List (Option Int)) : List C → Bool
  | [] => false
  | c :: cs => hold v h c || holdE v h cs
end
/-- places below r; depth at most n -/
def plOk (r : Nat) (p : Int) : Prop := -1 ≤ p ∧ p < r
mutual
def okC (r : Nat) : Nat → C → Prop
  | _, .tru => True
  | _, .fls => True
  | _, .less a b => plOk r a ∧ plOk r b
  | _, .same a b => plOk r a ∧ plOk r b
  | _, .emp a => plOk r a
  | 0, .nt _ => False
  | n + 1, .nt c => okC r n c
  | 0, .all _ => False
  | n + 1, .all cs => cs.length ≤ 100000 ∧ okCs r n cs
  | 0, .any _ => False
  | n + 1, .any cs => cs.length ≤ 100000 ∧ okCs r n cs
def okCs (r : Nat) : Nat → List C → Prop
  | _, [] => True
  | n, c :: cs => okC r n c ∧ okCs r n cs
end

/-- a def whose code object stands at c -/
structure FunT (K : PySem.W.Frag) (x qual : Str) (st : Stmt) (f : Addr) (fd : FuncData) (c : Addr) : Prop where
  ex : ∃ (oc : Value) (od : Option Addr) (kV doc pm : Value) (an : Option Addr) (ct : Value) (osl : Array (Option Value)),
    fd = PySem.W.fnOf x qual (defArgs st) (defBody st) (defScope st) .none kV doc pm an (.ref c) ct ∧ K.lookup f = some ⟨oc, od, .func fd, osl⟩ ∧ PySem.W.codeIn K (.ref c) qual = true
  kp : PySem.W.keepIn K (.ref f) = true
section
variable {P : Program} {w : World} {K : PySem.W.Frag} {mg : Str → Option Value} {base : Heap}
theorem FunT.ok {x qual : Str} {st : Stmt} {f c : Addr} {fd : FuncData} {N ps : List Str} {k : Nat} {sp : Sp} (F : FunT K x qual st f fd c) (S : FnScope N ps (defScope st)) (len : ∀ vs H Q E, sp vs H Q E → vs.length = ps.length)
    (hbody : ∀ (A : Around) (outer : List Env) (s : Shared) (H : Hp) (vs : List V) (Q : VK) (E : XK), Room k (A.deeper (envOfC qual (defScope st) s.heap.objs.size f (.ref c))) → sp vs H Q E →
      ∃ t, PSs (cxOf CX0 P w K mg base N qual (defScope st) f (.ref c) A outer s H E).nox (defBody st) t ∧ t { nx := fun _ H' => Q .non H', rt := Q } (start N vs) H) : FnOk P w K mg base CX0 (k + 1) f fd ps sp := by
  obtain ⟨oc, od, kV, doc, pm, an, ct, osl, rfl, lk, hcd⟩ := F.ex
  refine fn_of lk hcd S len fun A outer s H vs Q E hr hsp => ?_
  obtain ⟨t, h, q⟩ := hbody A outer s H vs Q E hr hsp
  exact ⟨t, h.nox, q⟩
theorem FunT.fn {x qual : Str} {st : Stmt} {f c : Addr} {fd : FuncData} (F : FunT K x qual st f fd c) : Fun K x qual st f fd := by
  obtain ⟨oc, od, kV, doc, pm, an, ct, osl, h⟩ := F.ex
  exact ⟨⟨oc, od, kV, doc, pm, an, .ref c, ct, osl, h⟩, F.kp⟩
theorem funT_mk {x qual : Str} {st : Stmt} {f c : Addr} {oc : Value} {od an : Option Addr} {osl : Array (Option Value)} {kV doc pm ct : Value} (l : K.lookup f = some ⟨oc, od, .func (PySem.W.fnOf x qual (defArgs st) (defBody st) (defScope st) .none kV doc pm an (.ref c) ct), osl⟩)
    (cc : PySem.W.codeIn K (.ref c) qual = true) (k : PySem.W.keepIn K (.ref f) = true) : FunT K x qual st f (PySem.W.fnOf x qual (defArgs st) (defBody st) (defScope st) .none kV doc pm an (.ref c) ct) c := ⟨⟨oc, od, kV, doc, pm, an, ct, osl, rfl, l, cc⟩, k⟩
end

/-- the tables stand -/
def Wd (T : List Addr) (H : Hp) : Prop := ∀ P ∈ T, TabG H P
theorem Ex.wd {T ms : List Addr} {H H1 : Hp} (a : Ex T ms H H1) (h : Wd T H) : Wd T H1 := a.tabs h

/-! ### held values -/
def oV : Option Int → V
  | none => .non
  | some i => .int i
def encO : Option Int → D
  | none => .non
  | some i => .int i
def encH (h : List (Option Int)) : D := .tup (h.map encO)
theorem at_encO {K : PySem.W.Frag} {H : Hp} {v : V} {o : Option Int} : At K H v (encO o) ↔ v = oV o := by
  cases o with
  | none => exact at_non
  | some i => exact at_int
theorem ats_encO {K : PySem.W.Frag} {H : Hp} : ∀ {xs : List V} {h : List (Option Int)}, Ats K H xs (h.map encO) ↔ xs = h.map oV
  | xs, [] => ats_nil
  | xs, o :: h => by
    rw [List.map_cons, ats_cons, List.map_cons]
    constructor
    · rintro ⟨x, r, rfl, h1, h2⟩
      rw [at_encO.mp h1, ats_encO.mp h2]
    · rintro rfl
      exact ⟨_, _, rfl, at_encO.mpr rfl, ats_encO.mpr rfl⟩
theorem at_encH {K : PySem.W.Frag} {H : Hp} {v : V} {h : List (Option Int)} : At K H v (encH h) ↔ ∃ a, v = .ref a ∧ SqT K H a (h.map oV) := by
  unfold encH
  rw [at_tup]
  constructor
  · rintro ⟨a, xs, rfl, q, r⟩
    rw [ats_encO.mp r] at q
    exact ⟨a, rfl, q⟩
  · rintro ⟨a, rfl, q⟩
    exact ⟨a, _, rfl, q, ats_encO.mpr rfl⟩
theorem worth_new (v : Int) (h : List (Option Int)) : worth v h (-1) = some v := rfl
theorem worth_nothing (v : Int) (h : List (Option Int)) : worth v h (-2) = none := rfl
theorem worth_at {v : Int} {h : List (Option Int)} {p : Int} (h0 : 0 ≤ p) : worth v h p = (h[p.toNat]?).getD none := by
  unfold worth
  rw [if_neg (by omega), if_neg (by omega)]
theorem oV_at {v : Int} {h : List (Option Int)} {p : Int} (h0 : 0 ≤ p) (h1 : p < h.length) : atI (h.map oV) p = some (oV (worth v h p)) := by
  have hk : p.toNat < h.length := by omega
  have ek : p = ((p.toNat : Nat) : Int) := by omega
  rw [worth_at h0, List.getElem?_eq_getElem hk]
  have q : atI (h.map oV) ((p.toNat : Nat) : Int) = some (oV h[p.toNat]) := atI_nat (by rw [List.getElem?_map, List.getElem?_eq_getElem hk]; rfl)
  rw [← ek] at q
  exact q

theorem ifStrNe {x y : Str} {A B : Prop} (h : x ≠ y) (b : B) : if decide (V.str x = V.str y) = true then A else B := by
  rw [decide_eq_false (fun e => h (V.str.inj e)), if_neg Bool.false_ne_true]
  exact b
theorem ifStrEq {x : Str} {A B : Prop} (a : A) : if decide (V.str x = V.str x) = true then A else B := by
  rw [decide_eq_true rfl, if_pos rfl]
  exact a
theorem decStr {x y : Str} : decide (V.str x = V.str y) = decide (x = y) := by
  by_cases h : x = y
  · rw [h, decide_eq_true rfl, decide_eq_true rfl]
  · rw [decide_eq_false h, decide_eq_false fun e => h (V.str.inj e)]
theorem holdA_cons (v : Int) (h : List (Option Int)) (c : C) (cs : List C) : holdA v h (c :: cs) = (hold v h c && holdA v h cs) := by
  conv => lhs; unfold holdA
theorem holdE_cons (v : Int) (h : List (Option Int)) (c : C) (cs : List C) : holdE v h (c :: cs) = (hold v h c || holdE v h cs) := by
  conv => lhs; unfold holdE
theorem okCs_get {r n : Nat} : ∀ {cs : List C} {i : Nat} {c : C}, okCs r n cs → cs[i]? = some c → okC r n c
  | [], i, c, h, e => by simp at e
  | c' :: cs, 0, c, h, e => by
    unfold okCs at h
    obtain rfl : c' = c := by simpa using e
    exact h.1
  | c' :: cs, i + 1, c, h, e => by
    unfold okCs at h
    exact okCs_get h.2 (by simpa using e)
/-- the parts of a condition, in a tuple -/
theorem part_at {K : PySem.W.Frag} {H : Hp} {xs : List V} {cs : List C} {i : Nat} (h : Ats K H xs (encCs cs)) (hi : i < cs.length) : ∃ x, xs[i]? = some x ∧ At K H x (encC cs[i]) :=
  h.get (by rw [encCs_get, List.getElem?_eq_getElem hi]; rfl)

/-- a list of ints that is drawn from -/
def Dr (H : Hp) (dr : Addr) : Prop := ∃ ds : List Int, H dr = some (.lst (ds.map V.int))
theorem small5000 {n : Nat} (h : n ≤ 5000) : n < sizeLine := Nat.lt_of_le_of_lt h (by decide)
theorem iv_set {ns : List Int} {j : Nat} {z : Int} : (ns.map V.int).set j (.int z) = (ns.set j z).map V.int := by rw [List.map_set]
theorem iv_snoc {ns : List Int} {z : Int} : ns.map V.int ++ [.int z] = (ns ++ [z]).map V.int := by rw [List.map_append]; rfl
theorem iv_at {ns : List Int} {k : Int} (h0 : 0 ≤ k) (h1 : k < ns.length) : atI (ns.map V.int) k = some (.int (ns.getD k.toNat 0)) := by
  have hk : k.toNat < ns.length := by omega
  have ek : k = ((k.toNat : Nat) : Int) := by omega
  have q : atI (ns.map V.int) ((k.toNat : Nat) : Int) = some (.int ns[k.toNat]) := atI_nat (by rw [List.getElem?_map, List.getElem?_eq_getElem hk]; rfl)
  rw [← ek] at q
  rw [q, List.getD_eq_getElem?_getD, List.getElem?_eq_getElem hk]
  rfl
theorem ix_nat {n : Nat} {i : Int} (h0 : 0 ≤ i) (h1 : i < n) : ixN n i = some i.toNat := by
  unfold ixN
  rw [if_pos h0, if_pos h1]

theorem yesIf {σ : L2.St} {H : Hp} {A B : Hp → Prop} (h : A H) : tYes σ H (fun b H3 => if b = true then A H3 else B H3) := by
  show (if true = true then A H else B H)
  rw [if_pos rfl]
  exact h

/-- an item of a written menu -/
theorem menu_at {xs : List V} {x : Int} (h0 : 0 ≤ x) (h1 : x < xs.length) : ∃ v, v ∈ xs ∧ atI xs x = some v := by
  have hk : x.toNat < xs.length := by omega
  have ek : x = ((x.toNat : Nat) : Int) := by omega
  have q : atI xs ((x.toNat : Nat) : Int) = some xs[x.toNat] := atI_nat (List.getElem?_eq_getElem hk)
  rw [← ek] at q
  exact ⟨_, List.getElem_mem hk, q⟩
def tyN : D → String
  | .non => "NoneType"
  | .bl _ => "bool"
  | .int _ => "int"
  | .str _ => "str"
  | .tup _ => "tuple"
theorem ty_sqT {K : PySem.W.Frag} {H : Hp} {a : Addr} {xs : List V} (h : SqT K H a xs) : TyX K H (.ref a) (.type "tuple") := by
  rcases h with (h | ⟨o, h⟩) | ⟨o, its, n, h, c, _⟩
  · exact .base (.tup h)
  · exact .fTuple h
  · exact .kTuple h c
theorem ty_at {K : PySem.W.Frag} {H : Hp} {v : V} {d : D} (h : At K H v d) : TyX K H v (.type (tyN d)) := by
  cases d with
  | non => rw [at_non.mp h]; exact .base .non
  | bl b => rw [at_bl.mp h]; exact .base (.bl b)
  | int i => rw [at_int.mp h]; exact .base (.int i)
  | str x => rw [at_str.mp h]; exact .base (.str x)
  | tup ds =>
    obtain ⟨a, xs, rfl, q, _⟩ := at_tup.mp h
    exact ty_sqT q
mutual
def okD : Nat → D → Prop
  | 0, .tup _ => False
  | n + 1, .tup ds => ds.length ≤ 100000 ∧ okDs n ds
  | _, _ => True
def okDs : Nat → List D → Prop
  | _, [] => True
  | n, d :: ds => okD n d ∧ okDs n ds
end
theorem okDs_get {n : Nat} : ∀ {ds : List D} {i : Nat} {d : D}, okDs n ds → ds[i]? = some d → okD n d
  | [], i, d, h, e => by simp at e
  | d' :: ds, 0, d, h, e => by
    unfold okDs at h
    obtain rfl : d' = d := by simpa using e
    exact h.1
  | d' :: ds, i + 1, d, h, e => by
    unfold okDs at h
    exact okDs_get h.2 (by simpa using e)
theorem nat_at {xs : List V} {i : Nat} {x : V} (h : xs[i]? = some x) : atI xs (0 + (i : Int)) = some x := by
  rw [Int.zero_add]
  exact atI_nat h

theorem inV_true : ∀ bs : List Bool, inV (.bl true) (bs.map V.bl) = bs.any id
  | [] => rfl
  | b :: bs => by
    show (eqV (.bl b) (.bl true) || inV (.bl true) (bs.map V.bl)) = (id b || bs.any id)
    rw [inV_true bs]
    cases b <;> rfl
theorem inV_false : ∀ bs : List Bool, inV (.bl false) (bs.map V.bl) = !bs.all id
  | [] => rfl
  | b :: bs => by
    show (eqV (.bl b) (.bl false) || inV (.bl false) (bs.map V.bl)) = !(id b && bs.all id)
    rw [inV_false bs]
    cases b <;> simp [eqV]
theorem flat_bls : ∀ bs : List Bool, (bs.map V.bl).all flatV = true
  | [] => rfl
  | _ :: bs => flat_bls bs
theorem holdE_any (v : Int) (h : List (Option Int)) : ∀ cs : List C, (cs.map (hold v h)).any id = holdE v h cs
  | [] => by unfold holdE; rfl
  | c :: cs => by rw [holdE_cons, List.map_cons, List.any_cons, holdE_any v h cs]; rfl
theorem holdA_all (v : Int) (h : List (Option Int)) : ∀ cs : List C, (cs.map (hold v h)).all id = holdA v h cs
  | [] => by unfold holdA; rfl
  | c :: cs => by rw [holdA_cons, List.map_cons, List.all_cons, holdA_all v h cs]; rfl

mutual
theorem okC_succ {r : Nat} : ∀ {n : Nat} {c : C}, okC r n c → okC r (n + 1) c
  | _, .tru, _ => by unfold okC; trivial
  | _, .fls, _ => by unfold okC; trivial
  | _, .less a b, h => by unfold okC at h ⊢; exact h
  | _, .same a b, h => by unfold okC at h ⊢; exact h
  | _, .emp a, h => by unfold okC at h ⊢; exact h
  | 0, .nt c, h => by unfold okC at h; exact h.elim
  | n + 1, .nt c, h => by unfold okC at h ⊢; exact okC_succ h
  | 0, .all cs, h => by unfold okC at h; exact h.elim
  | n + 1, .all cs, h => by unfold okC at h ⊢; exact ⟨h.1, okCs_succ h.2⟩
  | 0, .any cs, h => by unfold okC at h; exact h.elim
  | n + 1, .any cs, h => by unfold okC at h ⊢; exact ⟨h.1, okCs_succ h.2⟩
theorem okCs_succ {r : Nat} : ∀ {n : Nat} {cs : List C}, okCs r n cs → okCs r (n + 1) cs
  | _, [], _ => by unfold okCs; trivial
  | n, c :: cs, h => by unfold okCs at h ⊢; exact ⟨okC_succ h.1, okCs_succ h.2⟩
end
theorem okC_mono {r n n' : Nat} {c : C} (h : okC r n c) (l : n ≤ n') : okC r n' c := by
  induction l with
  | refl => exact h
  | step _ ih => exact okC_succ ih
theorem okC_less {r n : Nat} {a b : Int} (ha : plOk r a) (hb : plOk r b) : okC r n (.less a b) := by unfold okC; exact ⟨ha, hb⟩
theorem okC_same {r n : Nat} {a b : Int} (ha : plOk r a) (hb : plOk r b) : okC r n (.same a b) := by unfold okC; exact ⟨ha, hb⟩
theorem okC_emp {r n : Nat} {a : Int} (ha : plOk r a) : okC r n (.emp a) := by unfold okC; exact ha
theorem okC_tru {r n : Nat} : okC r n .tru := by unfold okC; trivial
theorem okC_fls {r n : Nat} : okC r n .fls := by unfold okC; trivial
theorem okC_nt {r n : Nat} {c : C} (h : okC r n c) : okC r (n + 1) (.nt c) := by unfold okC; exact h
theorem okC_all {r n : Nat} {cs : List C} (l : cs.length ≤ 100000) (h : okCs r n cs) : okC r (n + 1) (.all cs) := by unfold okC; exact ⟨l, h⟩
theorem okC_any {r n : Nat} {cs : List C} (l : cs.length ≤ 100000) (h : okCs r n cs) : okC r (n + 1) (.any cs) := by unfold okC; exact ⟨l, h⟩
theorem okCs_nil {r n : Nat} : okCs r n [] := by unfold okCs; trivial
theorem okCs_cons {r n : Nat} {c : C} {cs : List C} (h : okC r n c) (t : okCs r n cs) : okCs r n (c :: cs) := by unfold okCs; exact ⟨h, t⟩
theorem okCs_snoc {r n : Nat} : ∀ {cs : List C} {c : C}, okCs r n cs → okC r n c → okCs r n (cs ++ [c])
  | [], c, _, h => okCs_cons h okCs_nil
  | c' :: cs, c, t, h => by
    unfold okCs at t
    exact okCs_cons t.1 (okCs_snoc t.2 h)
theorem encCs_snoc : ∀ (cs : List C) (c : C), encCs (cs ++ [c]) = encCs cs ++ [encC c]
  | [], c => by unfold encCs; simp [encCs]
  | c' :: cs, c => by
    show encCs (c' :: (cs ++ [c])) = encCs (c' :: cs) ++ [encC c]
    conv => lhs; unfold encCs
    conv => rhs; unfold encCs
    rw [encCs_snoc cs c]
    rfl
section
variable {K : PySem.W.Frag} {H : Hp} {p : Addr}
theorem at_less {v : V} {a b : Int} (h : At K H v (.tup [.str "less", .int a, .int b])) : At K H v (encC (.less a b)) := by unfold encC; exact h
theorem new_less {a b : Int} (n : H p = none) : At K (upd H p (.tup [.str "less", .int a, .int b])) (.ref p) (encC (.less a b)) := by
  unfold encC
  exact At.laid n (Ats.mk (at_str.mpr rfl) (Ats.mk (at_int.mpr rfl) (Ats.mk (at_int.mpr rfl) Ats.mk_nil)))
theorem new_same {a b : Int} (n : H p = none) : At K (upd H p (.tup [.str "same", .int a, .int b])) (.ref p) (encC (.same a b)) := by
  unfold encC
  exact At.laid n (Ats.mk (at_str.mpr rfl) (Ats.mk (at_int.mpr rfl) (Ats.mk (at_int.mpr rfl) Ats.mk_nil)))
theorem new_emp {a : Int} (n : H p = none) : At K (upd H p (.tup [.str "empty", .int a])) (.ref p) (encC (.emp a)) := by
  unfold encC
  exact At.laid n (Ats.mk (at_str.mpr rfl) (Ats.mk (at_int.mpr rfl) Ats.mk_nil))
theorem new_tru (n : H p = none) : At K (upd H p (.tup [.str "true"])) (.ref p) (encC .tru) := by
  unfold encC
  exact At.laid n (Ats.mk (at_str.mpr rfl) Ats.mk_nil)
theorem new_fls (n : H p = none) : At K (upd H p (.tup [.str "false"])) (.ref p) (encC .fls) := by
  unfold encC
  exact At.laid n (Ats.mk (at_str.mpr rfl) Ats.mk_nil)
theorem new_nt {v : V} {c : C} (n : H p = none) (h : At K H v (encC c)) : At K (upd H p (.tup [.str "not", v])) (.ref p) (encC (.nt c)) := by
  unfold encC
  exact At.laid n (Ats.mk (at_str.mpr rfl) (Ats.mk h Ats.mk_nil))
theorem new_all {v : V} {cs : List C} (n : H p = none) (h : At K H v (.tup (encCs cs))) : At K (upd H p (.tup [.str "all", v])) (.ref p) (encC (.all cs)) := by
  unfold encC
  exact At.laid n (Ats.mk (at_str.mpr rfl) (Ats.mk h Ats.mk_nil))
theorem new_any {v : V} {cs : List C} (n : H p = none) (h : At K H v (.tup (encCs cs))) : At K (upd H p (.tup [.str "any", v])) (.ref p) (encC (.any cs)) := by
  unfold encC
  exact At.laid n (Ats.mk (at_str.mpr rfl) (Ats.mk h Ats.mk_nil))
theorem ats_c1 {x : V} {c : C} (h : At K H x (encC c)) : Ats K H [x] (encCs [c]) := by
  unfold encCs encCs
  exact Ats.mk h Ats.mk_nil
theorem ats_c2 {x y : V} {c d : C} (h : At K H x (encC c)) (h2 : At K H y (encC d)) : Ats K H [x, y] (encCs [c, d]) := by
  unfold encCs encCs encCs
  exact Ats.mk h (Ats.mk h2 Ats.mk_nil)
end
theorem Dr.new {H : Hp} {dr p : Addr} {o : HO} (h : Dr H dr) (n : H p = none) : Dr (upd H p o) dr := by
  obtain ⟨ds, e⟩ := h
  exact ⟨ds, by rw [upd_ne (ne_of_none e n)]; exact e⟩
theorem Dr.put {H : Hp} {dr p : Addr} {o : HO} (h : Dr H dr) (n : dr ≠ p) : Dr (upd H p o) dr := by
  obtain ⟨ds, e⟩ := h
  exact ⟨ds, by rw [upd_ne n]; exact e⟩
theorem Dr.ne {H : Hp} {dr p : Addr} (h : Dr H dr) (n : H p = none) : p ≠ dr := by
  obtain ⟨ds, e⟩ := h
  exact (ne_of_none e n).symm
theorem Ex.lst {T ms : List Addr} {H H1 : Hp} (a : Ex T ms H H1) {p : Addr} {xs : List V} (n : p ∉ ms) (h : H p = some (.lst xs)) : H1 p = some (.lst xs) := a.keep p _ n h fun ps e => by cases e

theorem sqL_stay {K : PySem.W.Frag} {T : List Addr} {H0 H H' : Hp} {a dr : Addr} {xs : List V} (h : SqL K H0 a xs) (n : H0 dr = none) (e0 : Ex T [] H0 H) (e : Ex T [dr] H H') : SqL K H' a xs := by
  rcases h with h | h
  · have ne : a ≠ dr := by
      rcases h with h | ⟨o, h⟩
      · exact ne_of_none h n
      · exact ne_of_none h n
    exact e.sqL (by simpa using ne) (e0.sqL (by simp) (.inl h))
  · exact .inr h
theorem flat_rep {x : V} : ∀ n : Nat, (List.replicate n [x]).flatten = List.replicate n x
  | 0 => rfl
  | n + 1 => by rw [List.replicate_succ, List.flatten_cons, flat_rep n, List.replicate_succ]; rfl
theorem encCs_rep (c : C) : ∀ n : Nat, encCs (List.replicate n c) = List.replicate n (encC c)
  | 0 => by unfold encCs; rfl
  | n + 1 => by rw [List.replicate_succ, List.replicate_succ]; conv => lhs; unfold encCs; rw [encCs_rep c n]
theorem ats_rep {K : PySem.W.Frag} {H : Hp} {x : V} {d : D} (h : At K H x d) : ∀ n : Nat, Ats K H (List.replicate n x) (List.replicate n d)
  | 0 => Ats.mk_nil
  | n + 1 => by rw [List.replicate_succ, List.replicate_succ]; exact Ats.mk h (ats_rep h n)
theorem encCs_app : ∀ (cs ds : List C), encCs (cs ++ ds) = encCs cs ++ encCs ds
  | [], ds => by
    have e : encCs [] = [] := by unfold encCs; rfl
    rw [e]
    rfl
  | c :: cs, ds => by
    show encCs (c :: (cs ++ ds)) = _
    conv => lhs; unfold encCs
    conv => rhs; lhs; unfold encCs
    rw [encCs_app cs ds]
    rfl
theorem okCs_rep {r n : Nat} {c : C} (h : okC r n c) : ∀ k : Nat, okCs r n (List.replicate k c)
  | 0 => okCs_nil
  | k + 1 => by rw [List.replicate_succ]; exact okCs_cons h (okCs_rep h k)
theorem okCs_app {r n : Nat} : ∀ {cs ds : List C}, okCs r n cs → okCs r n ds → okCs r n (cs ++ ds)
  | [], ds, _, h => h
  | c :: cs, ds, t, h => by
    unfold okCs at t
    exact okCs_cons t.1 (okCs_app t.2 h)
/-- an item put into a row of one and the same -/
theorem ins_rep {K : PySem.W.Frag} {H : Hp} {x y : V} {c d : C} (hx : At K H x (encC c)) (hy : At K H y (encC d)) (n i : Nat) :
    Ats K H ((List.replicate n x).take i ++ [y] ++ (List.replicate n x).drop i) (encCs (List.replicate (min i n) c ++ [d] ++ List.replicate (n - i) c)) := by
  rw [List.take_replicate, List.drop_replicate, encCs_app, encCs_app, encCs_rep, encCs_rep]
  refine ((ats_rep hx _).append ?_).append (ats_rep hx _)
  unfold encCs encCs
  exact Ats.mk hy Ats.mk_nil
theorem ins_ok {r m : Nat} {c d : C} (hc : okC r m c) (hd : okC r m d) (n i : Nat) : okCs r m (List.replicate (min i n) c ++ [d] ++ List.replicate (n - i) c) :=
  okCs_app (okCs_app (okCs_rep hc _) (okCs_cons hd okCs_nil)) (okCs_rep hc _)
theorem ins_len {c d : C} (n i : Nat) (h : i ≤ n) : (List.replicate (min i n) c ++ [d] ++ List.replicate (n - i) c).length = n + 1 := by
  rw [List.length_append, List.length_append, List.length_replicate, List.length_replicate, List.length_singleton]
  omega
end Dv

/-! for i, x in enumerate(a tuple). -/
namespace PySem
open Sem (wp)
open AutoSeq1 (wpAny_loadPart')
theorem meets_enumT {v : Value} {o : Obj} {H : Heap → Prop} (B : Begins v o H) :
    Meets (Builtin.«enumerate.__new__» ⟨[.type "enumerate", v], []⟩) (fun _ R s => H s.heap ∧
      R (.ok (.ret (.ref (s.heap.push o).objs.size))) { s with heap := (s.heap.push o).push { cls := .type "enumerate", data := .fields #[.none, .bool false, .ref s.heap.objs.size, rawInt 0, .none, .none] } }) :=
  .of_wp fun prog w A R s h => by
    obtain ⟨hp, g, d, tk, os⟩ := s
    obtain ⟨h1, h⟩ := h
    have hsub := sub_enumerate
    have q1 : ∀ {A' : Around} {E : Value → Shared → Prop} {Q : Value → Shared → Prop}, Q (.ref hp.objs.size) ⟨hp.push o, g, d, tk, os⟩ → wpAny (model prog w) A' (pyIter v) Q E ⟨hp, g, d, tk, os⟩ :=
      fun q => B.iter prog w _ _ ⟨hp, g, d, tk, os⟩ _ h1 q
    wp_walk using q1
    refine wpAny_stack_any fun st => wpAny_pure ?_
    split
    · rename_i c _ _ _ _ _
      cases (c == Value.type "enumerate")
      all_goals
        wp_walk using q1
        exact ⟨_, rfl, h⟩
    · wp_walk using q1
      exact ⟨_, rfl, h⟩
section
variable {prog : Program} {w : World} {A : Around} {E : Value → Shared → Prop} {s : Shared}
theorem enumT_begins {v : Value} {o : Obj} {H : Heap → Prop} {Q : Value → Shared → Prop} (B : Begins v o H) (h1 : H s.heap)
    (h : ∀ h', IsEnum h' (s.heap.objs.size + 1) s.heap.objs.size 0 .none → h'.get? s.heap.objs.size = some o → (∀ b o, s.heap.get? b = some o → h'.get? b = some o) → Q (.ref (s.heap.objs.size + 1)) { s with heap := h' }) :
    wpAny (model prog w) A (call (.type "enumerate") [v]) Q E s := by
  refine callType_new F.called_enumerate (by decide) (F.typeCall_enumerate_1 _) (F.newCall_enumerate_1 _) (fun obj => F.args_object_init_2 obj _) F.entry_enumerate_new (meets_enumT B) ⟨h1, ?_⟩
  have hz : (s.heap.push o).objs.size = s.heap.objs.size + 1 := Heap.size_push ..
  show _ ∧ _
  rw [hz]
  have he : IsEnum ((s.heap.push o).push { cls := .type "enumerate", data := .fields #[.none, .bool false, .ref s.heap.objs.size, rawInt 0, .none, .none] }) (s.heap.objs.size + 1) s.heap.objs.size 0 .none := by
    have z := Heap.get?_push_size (s.heap.push o) (o := { cls := .type "enumerate", data := .fields #[.none, .bool false, .ref s.heap.objs.size, rawInt 0, .none, .none] }) rfl
    rw [hz] at z
    exact z
  exact ⟨⟨_, he, rfl⟩, h _ he (Heap.get?_push_of_some _ (Heap.get?_push_size _ B.free)) fun b o x => Heap.get?_push_of_some _ (Heap.get?_push_of_some _ x)⟩
end
end PySem
namespace Ent
open PySem PySem.Spec PyProof.Rows L2
/-- the items of the tuple at a, each in a new pair with its place -/
def IteT (K : PySem.W.Frag) (a : Addr) : It :=
  ⟨fun i H => ∃ (xs : List V) (x : V), SqT K H a xs ∧ xs[i]? = some x, fun i H v H' => ∃ T x, v = .ref T ∧ H T = none ∧ H' = upd H T (.tup [.int (i : Nat), x]) ∧ ∀ xs, SqT K H a xs → xs[i]? = some x, fun i H => ∃ xs : List V, SqT K H a xs ∧ xs.length ≤ i⟩
theorem turn_enumT {P : Program} {w : World} {K : PySem.W.Frag} {elts : List Expr} {kk : Nat} {tpos : Pos} (a e it : Addr) (hae : a ≠ e) (hai : a ≠ it) :
    Turn P w K (.Tuple elts kk tpos) (IteT K a) [e, it] e (fun i h => (∃ old, IsEnum h e it ((i : Nat) : Int) old) ∧ h.IsTupleIter it a i ∧ e ≠ it) where
  mem := by simp
  obj := fun i h st b hb => by
    obtain ⟨⟨old, he⟩, ⟨o, ho, hc, hd⟩, _⟩ := st
    have e' : b = e ∨ b = it := by simpa using hb
    rcases e' with z | z
    · rw [z]; exact ⟨_, he, fun v q => nomatch q⟩
    · rw [z]; exact ⟨o, ho, fun v q => by rw [hd] at q; cases q⟩
  keep := fun i h h' st k => let ⟨⟨old, he⟩, hi, hne⟩ := st; ⟨⟨old, k e (by simp) _ he⟩, hi.at fun o q => k it (by simp) o q, hne⟩
  item := by
    intro X hP hw hK hc i pins s σ H E I hf st hg
    subst hP hw hK
    obtain ⟨⟨old, he⟩, hit, hne⟩ := st
    obtain ⟨xs, x, hq, hx⟩ := hg
    obtain ⟨its, rv, p, hz⟩ := I.tuple hq
    obtain ⟨u, hu, ru⟩ := rv.get hx
    have hel : e < s.heap.objs.size := Heap.lt_size he
    have hil : it < s.heap.objs.size := by obtain ⟨_, q, _⟩ := hit; exact Heap.lt_size q
    have hlt : i < its.toArray.size := by
      rw [List.size_toArray]
      exact (List.getElem?_eq_some_iff.mp hu).1
    refine wpAny_pyNext_enum_itemD (Draws.tuple (A := X.A.in1) (I.ok.hd hc) it a hai its.toArray) he ⟨hit, show s.heap.IsTuple a its.toArray from p⟩ hlt hne (by simp [hne, Ne.symm hae]) fun y h' tk hy ho hst hT hsz hk => ?_
    obtain ⟨hit', _⟩ := hst
    have ey : y = u := by
      have hu' : its.toArray[i]? = some u := by simpa using hu
      rw [hy] at hu'
      exact Option.some.inj hu'
    subst ey
    refine ⟨_, rfl, wpAny_letOwnedTupleGo_enum (s := { s with heap := h', toks := tk + 1 }) ho fun h'' he' sb => ?_⟩
    have hT2 : h''.get? s.heap.objs.size = some { cls := .type "tuple", data := .seq #[.int i tk, y] } := (sb.2 _ (Nat.ne_of_gt hel)).trans hT
    have new : ObjOk X.prog X.w (upd H s.heap.objs.size (.tup [.int (i : Nat), x])) h'' s.heap.objs.size (.tup [.int (i : Nat), x]) :=
      ⟨by show 2 ≤ sizeLine; decide, [.int i tk, y], .cons ⟨_, rfl⟩ (.cons ru .nil), ⟨_, hT2, rfl, _, rfl⟩⟩
    have I1 : Inv X pins σ (upd H s.heap.objs.size (.tup [.int (i : Nat), x])) { s with heap := h'', toks := tk + 1 } :=
      I.turnedNew (ch := [e, it]) (fun b ob hb q => (sb.2 b (fun z => hb (by simp [z]))).trans (hk b ob (fun z => hb (by simp [z])) (fun z => hb (by simp [z])) q)) hf (Nat.le_refl _) new
    refine ⟨.ref s.heap.objs.size, _, I1, rfl, ⟨_, x, rfl, I.hok.fresh (Nat.le_refl _), rfl, fun ys hy => by rw [I.tuple_inj hy hq]; exact hx⟩, ⟨⟨y, ?_⟩, hit'.at fun o q => (sb.2 it (Ne.symm hne)).trans q, hne⟩, fun b hb => ?_⟩
    · have e1 : ((i + 1 : Nat) : Int) = (i : Int) + 1 := by omega
      rw [e1]
      exact he'
    · have hb' : b < s.heap.objs.size := by
        have e' : b = e ∨ b = it := by simpa using hb
        rcases e' with z | z
        · rw [z]; exact hel
        · rw [z]; exact hil
      rw [upd_ne (Nat.ne_of_lt hb')]
      exact (hf b hb).1
  done := by
    intro X hP hw hK hc i pins s σ H E I hf st hg
    subst hP hw hK
    obtain ⟨⟨old, he⟩, hit, hne⟩ := st
    obtain ⟨xs, hq, hx⟩ := hg
    obtain ⟨its, rv, p, hz⟩ := I.tuple hq
    obtain ⟨f0, f1, f2, f3, f4, f5⟩ := hf it (by simp)
    have hl := rv.length
    have D : Draws X.prog X.w X.A.in1 it [it, a] i (fun _ _ => False) (fun j h => h.IsTupleIter it a j ∧ h.IsTuple a its.toArray ∧ j = i) := {
      live := fun _ _ st => let ⟨o, ho, _⟩ := st.1; ⟨o, ho⟩
      frame := fun _ _ _ st hk => ⟨st.1.at fun o e => hk it (by simp) o e, st.2.1.at fun o e => hk a (by simp) o e, st.2.2⟩
      item := fun j s Q E hj st hQ => absurd st.2.2 (Nat.ne_of_lt hj)
      done := fun s Q E st hE => wpAny_nextOf_tuple_end (I.ok.hd hc) st.1 st.2.1 (by simp; omega) hE }
    exact wpAny_pyNext_enum_endD D he ⟨hit, show s.heap.IsTuple a its.toArray from p, rfl⟩ fun h' eb => ⟨rfl, I.turned (t' := s.toks) (fun b o hb q => eb b o hb q) f0 f1 f3 f4 f5⟩
  self := fun A i s Q E st h => let ⟨⟨_, he⟩, _⟩ := st; wpAny_pyIter_enum he h
def iEnumT (K : PySem.W.Frag) (ta : TA) : TI := fun σ H R => ta σ H fun vs H1 => ∃ a xs, vs = [.ref a] ∧ SqT K H1 a xs ∧ R (IteT K a) H1
theorem pi_enumT {X : Cx} {e : Expr} {ta : TA} {p pos tpos : Pos} {elts : List Expr} {kk : Nat} (hg : Gl X "enumerate") (hm : X.mg "enumerate" = none) (ha : PA X [e] ta) (hs : starEach [e] X.env = [(false, eval e X.env)] := by rfl) :
    PI X (.Tuple elts kk tpos) (.Call (.Name "enumerate" p) [e] [] pos) (iEnumT X.K ta) := by
  refine ⟨fun pins s σ H R I h => ?_⟩
  refine Call_ (ld_blt I hg hm boot_enumerate (PyProof.Rows.callWith_type1 (thn (ha.run pos pins s σ H _ I h) fun us s1 ⟨vs, H1, I1, r1, q1⟩ => ?_) hs rfl))
  obtain ⟨a, xs, ex, hq, q⟩ := q1
  subst ex
  cases r1 with
  | cons r rr =>
    cases rr
    cases r
    obtain ⟨its, rv, p', hz⟩ := I1.tuple hq
    have hlt : a < s1.heap.objs.size := p'.lt
    refine enumT_begins (begins_tuple a its.toArray) (show s1.heap.IsTuple a its.toArray from p') fun h' he hit hk => wpAny_pyIter_enum he ?_
    have I2 : Inv X pins σ H1 { s1 with heap := h' } := I1.kept (t' := s1.toks) hk
    refine ⟨s1.heap.objs.size + 1, [s1.heap.objs.size + 1, s1.heap.objs.size], _, _, H1, rfl, I2, turn_enumT a (s1.heap.objs.size + 1) s1.heap.objs.size (Nat.ne_of_lt (Nat.lt_succ_of_lt hlt)) (Nat.ne_of_lt hlt), ⟨⟨.none, he⟩, ⟨_, hit, rfl, rfl⟩, Nat.succ_ne_self _⟩, fun b hb => ?_, q⟩
    have e' : b = s1.heap.objs.size + 1 ∨ b = s1.heap.objs.size := by simpa using hb
    have hle : s1.heap.objs.size ≤ b := by
      rcases e' with z | z
      · rw [z]; exact Nat.le_add_right _ _
      · rw [z]; exact Nat.le_refl _
    exact I1.fpOk hle (I1.hok.fresh hle)
end Ent

/-! tuple * int, the count 0 and 1 too. -/
namespace Tm
open PySem PySem.Spec PyProof.Rows L2
open PySem.AutoSeq1 (wpAny_loadPart')
theorem mul_one (l : Addr) (items : Array Value) (n : Nat) (dd : Option Addr) (sl : Array (Option Value)) (u : Tok) :
    Meets (Builtin.«tuple.__mul__» ⟨[.ref l, .int 1 u], []⟩) (fun _ R s => s.heap.get? l = some { cls := .type "tuple", dict := dd, data := .seq items n, slots := sl } ∧ R (.ok (.ret (Value.ref l))) s) :=
  .of_wp fun prog w A R s h => by
    obtain ⟨hp, g, d, tk, os⟩ := s
    obtain ⟨hl, h⟩ := h
    have f1 := AutoSeq1.idx_int
    have c1 : (items.isEmpty || (1 : Int) == 1) = true := by simp
    wp_walk using wpAny_loadPart' hl
    repeat (first
      | (refine wpAny_ite_false (decide_eq_false (by decide)) ?_; wp_walk using wpAny_loadPart' hl)
      | (refine wpAny_ite_true (decide_eq_true c1) ?_; wp_walk using wpAny_loadPart' hl)
      | (rw [if_pos c1]; wp_walk using wpAny_loadPart' hl))
    exact ⟨_, rfl, h⟩
theorem mul_zero (l : Addr) (items : Array Value) (n : Nat) (dd : Option Addr) (sl : Array (Option Value)) (u : Tok) (hne : items.isEmpty = false) :
    Meets (Builtin.«tuple.__mul__» ⟨[.ref l, .int 0 u], []⟩) (fun _ R s => s.heap.get? l = some { cls := .type "tuple", dict := dd, data := .seq items n, slots := sl } ∧
      R (.ok (.ret (Value.ref s.heap.objs.size))) { s with heap := s.heap.push { cls := Value.type "tuple", data := Data.seq #[] }, toks := s.toks }) :=
  .of_wp fun prog w A R s h => by
    obtain ⟨hp, g, d, tk, os⟩ := s
    obtain ⟨hl, h⟩ := h
    have f1 := AutoSeq1.idx_int
    have c1 : ¬ (items.isEmpty || (0 : Int) == 1) = true := by rw [hne]; decide
    wp_walk using wpAny_loadPart' hl
    repeat (first
      | (refine wpAny_ite_false (decide_eq_false c1) ?_; wp_walk using wpAny_loadPart' hl)
      | (refine wpAny_ite_false (decide_eq_false (by decide)) ?_; wp_walk using wpAny_loadPart' hl)
      | (refine wpAny_ite_true (decide_eq_true (by simp)) ?_; wp_walk using wpAny_loadPart' hl))
    exact ⟨_, rfl, h⟩
def rRepN (K : PySem.W.Frag) : R2 := fun x y H Q => ∃ l k xs, x = .ref l ∧ y = .int k ∧ SqT K H l xs ∧ xs ≠ [] ∧ 0 ≤ k ∧ k ≤ 1000 ∧ xs.length ≤ 1000 ∧
  ∀ p H', (H' = H ∨ (H p = none ∧ H' = upd H p (.tup (List.replicate k.toNat xs).flatten))) → SqT K H' p (List.replicate k.toNat xs).flatten → Q (.ref p) H'
section
variable {X : Cx}
theorem op_repN : OpR X (binaryOp .Mult) (rRepN X.K) := by
  intro pins s σ H x y v u Q I rx ry h
  obtain ⟨l, k, xs, ex, ey, hT, hne, h0, h1, hz, q⟩ := h
  by_cases h2 : 2 ≤ k
  · exact op_repT pins s σ H x y v u Q I rx ry ⟨l, k, xs, ex, ey, hT, hne, h2, h1, hz, fun p np => q p _ (.inr ⟨np, rfl⟩) (SqT.of upd_same)⟩
  subst ex ey
  cases rx
  obtain ⟨t, rfl⟩ := ry
  obtain ⟨its, r, ⟨⟨cls, dd, data, sl⟩, ho, hc, n, hd⟩, hs⟩ := I.tuple hT
  simp only at hc hd
  subst hc hd
  have hi : its.toArray.isEmpty = false := by
    cases its with
    | nil => cases r; exact absurd rfl hne
    | cons a b => rfl
  by_cases e1 : k = 1
  · subst e1
    refine wpAny_binaryOp_repeat_ref (T := "tuple") (U := "int") (by decide) ⟨_, ho, rfl⟩ (fun s' => typeIs_int s' 1 t) noFill_tuple_mul F.fills_int_mul F.slot_int_rmul repeat_tuple F.slot_int_index.lookup
      (call_meets F.slot_int_rmul (typeIs_int s 1 t) F.entry_int_rmul (F.args_int_rmul_2 _ _) (int_rmul_tuple 1 t l its.toArray n dd sl)
        ⟨ho, rfl, ⟨_, ho, rfl⟩, call_meets F.slot_tuple_mul ⟨_, ho, rfl⟩ F.entry_tuple_mul (F.args_tuple_mul_2 _ _) (mul_one l its.toArray n dd sl t) ⟨ho, ?_⟩⟩)
    have e : (List.replicate (1 : Int).toNat xs).flatten = xs := by
      show [xs].flatten = xs
      simp
    refine ⟨.ref l, H, I, rfl, q l H (.inl rfl) ?_⟩
    rw [e]
    exact hT
  · have e0 : k = 0 := by omega
    subst e0
    refine wpAny_binaryOp_repeat_ref (T := "tuple") (U := "int") (by decide) ⟨_, ho, rfl⟩ (fun s' => typeIs_int s' 0 t) noFill_tuple_mul F.fills_int_mul F.slot_int_rmul repeat_tuple F.slot_int_index.lookup
      (call_meets F.slot_int_rmul (typeIs_int s 0 t) F.entry_int_rmul (F.args_int_rmul_2 _ _) (int_rmul_tuple 0 t l its.toArray n dd sl)
        ⟨ho, rfl, ⟨_, ho, rfl⟩, call_meets F.slot_tuple_mul ⟨_, ho, rfl⟩ F.entry_tuple_mul (F.args_tuple_mul_2 _ _) (mul_zero l its.toArray n dd sl t hi) ⟨ho, ?_⟩⟩)
    have nf : H s.heap.objs.size = none := I.hok.fresh (Nat.le_refl _)
    refine ⟨.ref s.heap.objs.size, _, I.laid (t' := s.toks) (o := .tup []) (fun b ob q => Heap.get?_push_of_some _ q) (Nat.le_refl _) ?_, rfl, q _ _ (.inr ⟨nf, rfl⟩) (SqT.of upd_same)⟩
    exact ⟨Nat.zero_le _, [], .nil, IsTup.new _ _⟩
end
end Tm

/-! Machines as data. -/
namespace Dv
open PySem PySem.Spec PyProof.Rows L2 GxR Gx

structure Case where
  cond : C
  moves : List Int
  says : List (Int × Int)
  nxt : Nat
structure M where
  tags : Nat
  regs : Nat
  steps : List (List (List Case))
def encSay (p : Int × Int) : D := .tup [.int p.1, .int p.2]
def encCase (c : Case) : D := .tup [encC c.cond, .tup (c.moves.map .int), .tup (c.says.map encSay), .int c.nxt]
def encCases (cs : List Case) : D := .tup (cs.map encCase)
def encSt (s : List (List Case)) : D := .tup (s.map encCases)
def encM (m : M) : D := .tup [.int m.tags, .int m.regs, .tup (m.steps.map encSt)]
def encCt (st : Nat) (h : List (Option Int)) : D := .tup [.int st, encH h]
def encE (e : Nat × Int) : D := .tup [.int e.1, .int e.2]
def encA1 (p : Int × Option Int) : D := .tup [.int p.1, encO p.2]
def encA (a : List (Int × Option Int)) : D := .tup (a.map encA1)

structure okCase (r S n : Nat) (c : Case) : Prop where
  cond : okC r n c.cond
  mlen : c.moves.length = r
  mv : ∀ s ∈ c.moves, -2 ≤ s ∧ s < r
  say : ∀ p ∈ c.says, 0 ≤ p.1 ∧ -2 ≤ p.2 ∧ p.2 < r
  slen : c.says.length ≤ 1000
  nxt : c.nxt < S
structure okM (n : Nat) (m : M) : Prop where
  tags : 1 ≤ m.tags
  tmax : m.tags ≤ 1000
  rmax : m.regs ≤ 1000
  some : 0 < m.steps.length
  smax : m.steps.length ≤ 1000
  all : ∀ s ∈ m.steps, s.length = m.tags
  cases : ∀ s ∈ m.steps, ∀ cs ∈ s, cs.length ≤ 1000 ∧ ∀ c ∈ cs, okCase m.regs m.steps.length n c

def M.cases (m : M) (st t : Nat) : List Case := (m.steps.getD st []).getD t []
def holdC (v : Int) (h : List (Option Int)) (c : Case) : Bool := hold v h c.cond
def idxC (v : Int) (h : List (Option Int)) (cs : List Case) : Option Nat := cs.findIdx? (holdC v h)
def saidC (v : Int) (h : List (Option Int)) (c : Case) : List (Int × Option Int) := c.says.map fun p => (p.1, worth v h p.2)
def keptC (v : Int) (h : List (Option Int)) (c : Case) : List (Option Int) := c.moves.map (worth v h)
/-- the standing, the held values and the answer behind an entry -/
def readM (m : M) (st : Nat) (h : List (Option Int)) (e : Nat × Int) : Nat × List (Option Int) × List (Int × Option Int) :=
  match (m.cases st e.1).find? (holdC e.2 h) with
  | none => (st, h, [])
  | some c => (c.nxt, keptC e.2 h c, saidC e.2 h c)
def encR (r : Nat × List (Option Int) × List (Int × Option Int)) : D := .tup [encCt r.1 r.2.1, encA r.2.2]
def oN : Option Nat → V
  | none => .non
  | some k => .int k

theorem M.cases_at {m : M} {st t : Nat} {n : Nat} (ok : okM n m) (hs : st < m.steps.length) (ht : t < m.tags) :
    ∃ s, m.steps[st]? = some s ∧ s[t]? = some (m.cases st t) ∧ (m.cases st t).length ≤ 1000 ∧ ∀ c ∈ m.cases st t, okCase m.regs m.steps.length n c := by
  have hm : m.steps[st] ∈ m.steps := List.getElem_mem hs
  have hl : t < m.steps[st].length := by rw [ok.all _ hm]; exact ht
  have e : m.cases st t = m.steps[st][t] := by
    unfold M.cases
    have e1 : m.steps.getD st [] = m.steps[st] := by
      rw [List.getD_eq_getElem?_getD, List.getElem?_eq_getElem hs]
      rfl
    rw [e1, List.getD_eq_getElem?_getD, List.getElem?_eq_getElem hl]
    rfl
  refine ⟨m.steps[st], List.getElem?_eq_getElem hs, by rw [e]; exact List.getElem?_eq_getElem hl, ?_⟩
  rw [e]
  exact ok.cases _ hm _ (List.getElem_mem hl)

section
variable {K : PySem.W.Frag} {H : Hp} {α : Type} {f : α → D}
theorem Ats.at {xs : List V} {l : List α} {i : Nat} {a : α} (h : Ats K H xs (l.map f)) (e : l[i]? = some a) : ∃ x, xs[i]? = some x ∧ At K H x (f a) :=
  h.get (by rw [List.getElem?_map, e]; rfl)
theorem Ats.len {xs : List V} {l : List α} (h : Ats K H xs (l.map f)) : xs.length = l.length := by rw [h.length, List.length_map]
theorem Ats.snoc {xs : List V} {l : List α} {x : V} {a : α} (h : Ats K H xs (l.map f)) (hx : At K H x (f a)) : Ats K H (xs ++ [x]) ((l ++ [a]).map f) := by
  rw [List.map_append]
  exact h.append (Ats.mk hx Ats.mk_nil)
theorem ats_int {xs : List V} {l : List Int} : Ats K H xs (l.map D.int) ↔ xs = l.map V.int := by
  constructor
  · intro h
    refine List.ext_getElem? fun i => ?_
    rw [List.getElem?_map]
    cases e : l[i]? with
    | none =>
      have hl := h.len
      have : l.length ≤ i := List.getElem?_eq_none_iff.mp e
      rw [List.getElem?_eq_none (by omega)]
      rfl
    | some a =>
      obtain ⟨x, h1, h2⟩ := h.at e
      rw [h1, at_int.mp h2]
      rfl
  · rintro rfl
    refine Ats.of_forall (by rw [List.length_map, List.length_map]) fun i x d h1 h2 => ?_
    rw [List.getElem?_map] at h1 h2
    cases e : l[i]? with
    | none => rw [e] at h1; cases h1
    | some a =>
      rw [e] at h1 h2
      cases h1
      cases h2
      exact at_int.mpr rfl
end
theorem at_natI {xs : List V} {i : Nat} {x : V} (h : xs[i]? = some x) : atI xs ((i : Nat) : Int) = some x := atI_nat h
theorem idxC_find (v : Int) (h : List (Option Int)) (cs : List Case) : (idxC v h cs = none ∧ cs.find? (holdC v h) = none) ∨ ∃ k c, idxC v h cs = some k ∧ cs[k]? = some c ∧ cs.find? (holdC v h) = some c := by
  unfold idxC
  induction cs with
  | nil => exact .inl ⟨rfl, rfl⟩
  | cons c cs ih =>
    rw [List.findIdx?_cons, List.find?_cons]
    cases hb : holdC v h c with
    | true => exact .inr ⟨0, c, by simp, rfl, rfl⟩
    | false =>
      rcases ih with ⟨h1, h2⟩ | ⟨k, c', h1, h2, h3⟩
      · exact .inl ⟨by simp [h1], h2⟩
      · exact .inr ⟨k + 1, c', by simp [h1], by simpa using h2, h3⟩
/-- a search that has come to i -/
theorem idxC_drop (v : Int) (h : List (Option Int)) (cs : List Case) {i : Nat} (hn : ∀ j c, j < i → cs[j]? = some c → holdC v h c = false) {c : Case} (hc : cs[i]? = some c) (hb : holdC v h c = true) : idxC v h cs = some i := by
  unfold idxC
  rw [List.findIdx?_eq_some_iff_getElem]
  obtain ⟨hi, e⟩ := List.getElem?_eq_some_iff.mp hc
  refine ⟨hi, by rw [e]; exact hb, fun j hj => ?_⟩
  rw [hn j _ hj (List.getElem?_eq_getElem (by omega))]
  exact Bool.false_ne_true
theorem idxC_none (v : Int) (h : List (Option Int)) (cs : List Case) (hn : ∀ (j : Nat) (c : Case), cs[j]? = some c → holdC v h c = false) : idxC v h cs = none := by
  unfold idxC
  rw [List.findIdx?_eq_none_iff]
  intro c hc
  obtain ⟨j, hj, e⟩ := List.getElem_of_mem hc
  exact hn j c (by rw [List.getElem?_eq_getElem hj, e])

/-! ### a list that is made item by item -/
def Col (K : PySem.W.Frag) (T ms : List Addr) (D : Addr) (H H' : Hp) (ds : List Dv.D) : Prop := Ex T ms H H' ∧ ∃ xs, H' D = some (.lst xs) ∧ Ats K H' xs ds
section
variable {K : PySem.W.Frag} {T ms : List Addr} {D : Addr} {H H0 H1 H2 : Hp} {ds : List Dv.D}
theorem Col.start (e : Ex T ms H H0) (n : H0 D = none) : Col K T ms D H (upd H0 D (.lst [])) [] := ⟨e.trans (Ex.new n), [], upd_same, Ats.mk_nil⟩
theorem Col.put (c : Col K T ms D H H1 ds) (free : H D = none) (nD : D ∉ ms) (wd : Wd T H) (e : Ex T ms H1 H2) {x : V} {d : Dv.D} (hx : At K H2 x d) (hl : ds.length ≤ 5000) :
    ∃ acc, H2 D = some (.lst acc) ∧ acc.length < sizeLine ∧ Col K T ms D H (upd H2 D (.lst (acc ++ [x]))) (ds ++ [d]) := by
  obtain ⟨ex, xs, hD, ats⟩ := c
  have hD2 : H2 D = some (.lst xs) := e.lst nD hD
  have exw : Ex T [D] H2 (upd H2 D (.lst (xs ++ [x]))) := Ex.write (by simp) hD2
  exact ⟨xs, hD2, small5000 (by rw [ats.length]; exact hl), (ex.trans e).put free wd, xs ++ [x], upd_same, ((ats.ext e).append (Ats.mk hx Ats.mk_nil)).ext exw⟩
theorem Col.ne (c : Col K T ms D H H1 ds) {p : Addr} (n : H1 p = none) : D ≠ p := by
  obtain ⟨_, xs, hD, _⟩ := c
  exact ne_of_none hD n
end
theorem Col.ext {K : PySem.W.Frag} {T ms : List Addr} {D : Addr} {H H1 H2 : Hp} {ds : List Dv.D} (c : Col K T ms D H H1 ds) (nD : D ∉ ms) (e : Ex T ms H1 H2) : Col K T ms D H H2 ds := by
  obtain ⟨ex, xs, hD, ats⟩ := c
  exact ⟨ex.trans e, xs, e.lst nD hD, ats.ext e⟩
theorem take_map {α β : Type} (f : α → β) (l : List α) {i : Nat} {a : α} (h : l[i]? = some a) : (l.take i).map f ++ [f a] = (l.take (i + 1)).map f := by
  rw [List.take_add_one, h, List.map_append]
  rfl
theorem take_len {α β : Type} (f : α → β) (l : List α) (i n : Nat) (h : l.length ≤ n) : ((l.take i).map f).length ≤ n := by
  rw [List.length_map, List.length_take]
  exact Nat.le_trans (Nat.min_le_right _ _) h
theorem oV_len {h : List (Option Int)} : (h.map oV).length = h.length := List.length_map ..
theorem wipe1 {σ : L2.St} {i : Nat} {x : Option V} : wipe ((wipe σ [i]).set i x) [i] = wipe σ [i] := by
  show (((σ.set i none).set i x).set i none) = σ.set i none
  rw [List.set_set, List.set_set]
theorem wipe2 {σ : L2.St} {i j : Nat} {x y : Option V} (h : i ≠ j) : wipe (((wipe σ [i, j]).set i x).set j y) [i, j] = wipe σ [i, j] := by
  show (((((σ.set j none).set i none).set i x).set j y).set j none).set i none = (σ.set j none).set i none
  rw [List.set_set, List.set_comm _ _ h, List.set_set, List.set_comm _ _ h, List.set_set, List.set_set]

/-! ### logs -/
abbrev Ct := Nat × List (Option Int)
def stepM (m : M) (c : Ct) (e : Nat × Int) : Ct := ((readM m c.1 c.2 e).1, (readM m c.1 c.2 e).2.1)
def contM (m : M) (c : Ct) (es : List (Nat × Int)) : Ct := es.foldl (stepM m) c
def answersM (m : M) : Ct → List (Nat × Int) → List (List (Int × Option Int))
  | _, [] => []
  | c, e :: es => (readM m c.1 c.2 e).2.2 :: answersM m (stepM m c e) es
theorem answersM_append (m : M) : ∀ (c : Ct) (es fs : List (Nat × Int)), answersM m c (es ++ fs) = answersM m c es ++ answersM m (contM m c es) fs
  | c, [], fs => rfl
  | c, e :: es, fs => by
    show _ :: answersM m (stepM m c e) (es ++ fs) = _
    rw [answersM_append m (stepM m c e) es fs]
    rfl
theorem contM_append (m : M) (c : Ct) (es fs : List (Nat × Int)) : contM m c (es ++ fs) = contM m (contM m c es) fs := List.foldl_append
theorem answersM_length (m : M) : ∀ (c : Ct) (es : List (Nat × Int)), (answersM m c es).length = es.length
  | c, [] => rfl
  | c, e :: es => by
    show (answersM m (stepM m c e) es).length + 1 = es.length + 1
    rw [answersM_length m]
structure okCt (m : M) (c : Ct) : Prop where
  st : c.1 < m.steps.length
  len : c.2.length = m.regs
theorem okCt.step {m : M} {c : Ct} {n : Nat} {e : Nat × Int} (h : okCt m c) (ok : okM n m) (ht : e.1 < m.tags) : okCt m (stepM m c e) := by
  obtain ⟨_, _, _, _, hc⟩ := M.cases_at ok h.st ht
  unfold stepM readM
  cases ef : (m.cases c.1 e.1).find? (holdC e.2 c.2) with
  | none => exact h
  | some k =>
    have okc := hc k (List.mem_of_find?_eq_some ef)
    exact ⟨okc.nxt, by show (keptC e.2 c.2 k).length = m.regs; unfold keptC; rw [List.length_map, okc.mlen]⟩
theorem okCt.cont {m : M} {n : Nat} (ok : okM n m) : ∀ {es : List (Nat × Int)} {c : Ct}, okCt m c → (∀ e ∈ es, e.1 < m.tags) → okCt m (contM m c es)
  | [], c, h, _ => h
  | e :: es, c, h, ht => okCt.cont ok (es := es) (h.step ok (ht e (by simp))) fun f hf => ht f (by simp [hf])
/-- a log that lies in a list or in a tuple -/
def Sq (K : PySem.W.Frag) (H : Hp) (a : Addr) (xs : List V) : Prop := SqL K H a xs ∨ SqT K H a xs
def Lg (K : PySem.W.Frag) (H : Hp) (v : V) (es : List (Nat × Int)) : Prop := ∃ a xs, v = .ref a ∧ Sq K H a xs ∧ Ats K H xs (es.map encE)
section
variable {K : PySem.W.Frag} {T : List Addr} {H H1 : Hp}
theorem Sq.ext {a : Addr} {xs : List V} (h : Sq K H a xs) (e : Ex T [] H H1) : Sq K H1 a xs := h.imp (e.sqL (by simp)) e.sqT
theorem Lg.ext {v : V} {es : List (Nat × Int)} (h : Lg K H v es) (e : Ex T [] H H1) : Lg K H1 v es := by
  obtain ⟨a, xs, rfl, s, t⟩ := h
  exact ⟨a, xs, rfl, s.ext e, t.ext e⟩
theorem Lg.tup {v : V} {es : List (Nat × Int)} (h : At K H v (.tup (es.map encE))) : Lg K H v es := by
  obtain ⟨a, xs, rfl, s, t⟩ := at_tup.mp h
  exact ⟨a, xs, rfl, .inr s, t⟩
end
theorem pi_or {X : Cx} {tg e : Expr} {u v : TI} (h1 : PI X tg e u) (h2 : PI X tg e v) : PI X tg e (fun σ H R => u σ H R ∨ v σ H R) :=
  ⟨fun pins s σ H R I h => h.elim (h1.run pins s σ H R I) (h2.run pins s σ H R I)⟩
end Dv

/-! == of data at any depth. -/
namespace Dv
open PySem PySem.Spec PyProof.Rows L2 GxR Gx
mutual
def toPy : D → PyData
  | .non => .none
  | .bl b => .bool b
  | .int i => .int i
  | .str s => .str s
  | .tup ds => .tuple (toPys ds)
def toPys : List D → List PyData
  | [] => []
  | d :: ds => toPy d :: toPys ds
end
mutual
def plD : Nat → D → Prop
  | 0, .tup _ => False
  | n + 1, .tup ds => plDs n ds
  | _, .str _ => False
  | _, _ => True
def plDs : Nat → List D → Prop
  | _, [] => True
  | n, d :: ds => plD n d ∧ plDs n ds
end
section
variable {K : PySem.W.Frag} {H : Hp}
mutual
theorem At.dp : ∀ {v : V} {d : D}, At K H v d → Dp K H v (toPy d)
  | v, .non, h => by rw [at_non.mp h]; unfold toPy; exact .non
  | v, .bl b, h => by rw [at_bl.mp h]; unfold toPy; exact .bl b
  | v, .int i, h => by rw [at_int.mp h]; unfold toPy; exact .int i
  | v, .str s, h => by rw [at_str.mp h]; unfold toPy; exact .str s
  | v, .tup ds, h => by
    obtain ⟨a, xs, rfl, q, r⟩ := at_tup.mp h
    unfold toPy
    exact .tup q (Ats.dp r)
theorem Ats.dp : ∀ {xs : List V} {ds : List D}, Ats K H xs ds → DpAll K H xs (toPys ds)
  | xs, [], h => by rw [ats_nil.mp h]; unfold toPys; exact .nil
  | xs, d :: ds, h => by
    obtain ⟨x, r, rfl, q, t⟩ := ats_cons.mp h
    unfold toPys
    exact .cons (At.dp q) (Ats.dp t)
end
end
mutual
theorem plD_lay : ∀ {n : Nat} {d : D}, plD n d → (toPy d).canLay0 = true ∧ (toPy d).depth ≤ n
  | n, .non, _ => by unfold toPy PyData.canLay0 PyData.depth; exact ⟨rfl, Nat.zero_le _⟩
  | n, .bl b, _ => by unfold toPy PyData.canLay0 PyData.depth; exact ⟨rfl, Nat.zero_le _⟩
  | n, .int i, _ => by unfold toPy PyData.canLay0 PyData.depth; exact ⟨rfl, Nat.zero_le _⟩
  | 0, .str s, h => by unfold plD at h; exact h.elim
  | n + 1, .str s, h => by unfold plD at h; exact h.elim
  | 0, .tup ds, h => by unfold plD at h; exact h.elim
  | n + 1, .tup ds, h => by
    unfold plD at h
    have z := plDs_lay h
    unfold toPy PyData.canLay0 PyData.depth
    exact ⟨z.1, Nat.succ_le_succ z.2⟩
theorem plDs_lay : ∀ {n : Nat} {ds : List D}, plDs n ds → PyData.canLayAll0 (toPys ds) = true ∧ PyData.depthAll (toPys ds) ≤ n
  | n, [], _ => by unfold toPys PyData.canLayAll0 PyData.depthAll; exact ⟨rfl, Nat.zero_le _⟩
  | n, d :: ds, h => by
    unfold plDs at h
    have z1 := plD_lay h.1
    have z2 := plDs_lay h.2
    unfold toPys PyData.canLayAll0 PyData.depthAll
    exact ⟨by rw [z1.1, z2.1]; rfl, Nat.max_le.mpr ⟨z1.2, z2.2⟩⟩
end
theorem plD_shaped {n : Nat} {d : D} (h : plD n d) (hn : n ≤ 64) : SeqAt.shaped (toPy d) = true := by
  have z := plD_lay h
  unfold SeqAt.shaped
  rw [z.1, decide_eq_true (Nat.le_trans z.2 hn)]
  rfl
theorem plD_refl {n : Nat} {d : D} (h : plD n d) : PyData.eqv (toPy d) (toPy d) = true := SeqAt.eqv_refl _ (plD_lay h).1
/-- equal data, compared -/
theorem eqD_same {K : PySem.W.Frag} {H : Hp} {x y : V} {d : D} {n : Nat} {Q : VK} (hx : At K H x d) (hy : At K H y d) (h : plD n d) (hn : n ≤ 64) (q : Q (.bl true) H) : rEqD K x y H Q :=
  ⟨_, _, hx.dp, hy.dp, plD_shaped h hn, plD_shaped h hn, by rw [plD_refl h]; exact q⟩
theorem neD_same {K : PySem.W.Frag} {H : Hp} {x y : V} {d : D} {n : Nat} {Q : VK} (hx : At K H x d) (hy : At K H y d) (h : plD n d) (hn : n ≤ 64) (q : Q (.bl false) H) : rNeD K x y H Q :=
  ⟨_, _, hx.dp, hy.dp, plD_shaped h hn, plD_shaped h hn, by rw [plD_refl h]; exact q⟩
theorem plDs_map {α : Type} {f : α → D} {n : Nat} : ∀ {l : List α}, (∀ a ∈ l, plD n (f a)) → plDs n (l.map f)
  | [], _ => by rw [List.map_nil]; unfold plDs; trivial
  | a :: l, h => by
    rw [List.map_cons]
    unfold plDs
    exact ⟨h a (by simp), plDs_map fun b hb => h b (by simp [hb])⟩
theorem plD_int {n : Nat} {i : Int} : plD n (.int i) := by cases n <;> (unfold plD; trivial)
theorem plD_tup {n : Nat} {ds : List D} (h : plDs n ds) : plD (n + 1) (.tup ds) := by unfold plD; exact h
theorem plDs_cons {n : Nat} {d : D} {ds : List D} (h : plD n d) (t : plDs n ds) : plDs n (d :: ds) := by unfold plDs; exact ⟨h, t⟩
theorem plDs_nil {n : Nat} : plDs n [] := by unfold plDs; trivial
theorem plD_encO {n : Nat} {o : Option Int} : plD n (encO o) := by cases o <;> cases n <;> (unfold encO plD; trivial)
theorem plD_encH {n : Nat} {h : List (Option Int)} : plD (n + 1) (encH h) := plD_tup (plDs_map fun _ _ => plD_encO)
theorem plD_encCt {n st : Nat} {h : List (Option Int)} : plD (n + 2) (encCt st h) := plD_tup (plDs_cons plD_int (plDs_cons plD_encH plDs_nil))
theorem plD_encA {n : Nat} {a : List (Int × Option Int)} : plD (n + 2) (encA a) := plD_tup (plDs_map fun _ _ => plD_tup (plDs_cons plD_int (plDs_cons plD_encO plDs_nil)))
theorem plD_answers {n : Nat} {l : List (List (Int × Option Int))} : plD (n + 3) (.tup (l.map encA)) := plD_tup (plDs_map fun _ _ => plD_encA)
theorem plD_encE {n : Nat} {e : Nat × Int} : plD (n + 1) (encE e) := plD_tup (plDs_cons plD_int (plDs_cons plD_int plDs_nil))
theorem plD_log {n : Nat} {es : List (Nat × Int)} : plD (n + 2) (.tup (es.map encE)) := plD_tup (plDs_map fun _ _ => plD_encE)
/-- a list and a list of the same data -/
theorem neD_lists {K : PySem.W.Frag} {H : Hp} {a b : Addr} {xs ys : List V} {ds : List D} {n : Nat} {Q : VK} (h1 : SqL K H a xs) (hx : Ats K H xs ds) (h2 : SqL K H b ys) (hy : Ats K H ys ds) (h : plDs n ds) (hn : n ≤ 63) (q : Q (.bl false) H) : rNeD K (.ref a) (.ref b) H Q := by
  have z := plDs_lay h
  have s : SeqAt.shaped (.list (toPys ds)) = true := by
    unfold SeqAt.shaped
    have e1 : (PyData.list (toPys ds)).canLay0 = true := by unfold PyData.canLay0; exact z.1
    have e2 : (PyData.list (toPys ds)).depth ≤ 64 := by unfold PyData.depth; omega
    rw [e1, decide_eq_true e2]
    rfl
  refine ⟨.list (toPys ds), .list (toPys ds), .lst h1 hx.dp, .lst h2 hy.dp, s, s, ?_⟩
  rw [SeqAt.eqv_refl _ (SeqAt.canLay_of_shaped s)]
  exact q
end Dv

/-! == of two different data -/
namespace Dv
open PySem PySem.Spec PyProof.Rows L2 GxR Gx
mutual
def dqD : Nat → D → Prop
  | 0, .tup _ => False
  | n + 1, .tup ds => dqDs n ds
  | _, .str s => (toPy (.str s)).canLay0 = true
  | _, .bl _ => False
  | _, _ => True
def dqDs : Nat → List D → Prop
  | _, [] => True
  | n, d :: ds => dqD n d ∧ dqDs n ds
end
mutual
theorem dqD_lay : ∀ {n : Nat} {d : D}, dqD n d → (toPy d).canLay0 = true ∧ (toPy d).depth ≤ n
  | n, .non, _ => by unfold toPy PyData.canLay0 PyData.depth; exact ⟨rfl, Nat.zero_le _⟩
  | 0, .bl b, h => by unfold dqD at h; exact h.elim
  | n + 1, .bl b, h => by unfold dqD at h; exact h.elim
  | n, .int i, _ => by unfold toPy PyData.canLay0 PyData.depth; exact ⟨rfl, Nat.zero_le _⟩
  | 0, .str s, h => by unfold dqD at h; exact ⟨h, by unfold toPy PyData.depth; exact Nat.zero_le _⟩
  | n + 1, .str s, h => by unfold dqD at h; exact ⟨h, by unfold toPy PyData.depth; exact Nat.zero_le _⟩
  | 0, .tup ds, h => by unfold dqD at h; exact h.elim
  | n + 1, .tup ds, h => by
    unfold dqD at h
    have z := dqDs_lay h
    unfold toPy PyData.canLay0 PyData.depth
    exact ⟨z.1, Nat.succ_le_succ z.2⟩
theorem dqDs_lay : ∀ {n : Nat} {ds : List D}, dqDs n ds → PyData.canLayAll0 (toPys ds) = true ∧ PyData.depthAll (toPys ds) ≤ n
  | n, [], _ => by unfold toPys PyData.canLayAll0 PyData.depthAll; exact ⟨rfl, Nat.zero_le _⟩
  | n, d :: ds, h => by
    unfold dqDs at h
    have z1 := dqD_lay h.1
    have z2 := dqDs_lay h.2
    unfold toPys PyData.canLayAll0 PyData.depthAll
    exact ⟨by rw [z1.1, z2.1]; rfl, Nat.max_le.mpr ⟨z1.2, z2.2⟩⟩
end
theorem dq_bl {n : Nat} {b : Bool} : ¬ dqD n (.bl b) := fun h => by cases n <;> (unfold dqD at h; exact h.elim)
mutual
theorem dqD_eq : ∀ {n m : Nat} {d e : D}, dqD n d → dqD m e → PyData.eqv (toPy d) (toPy e) = true → d = e
  | n, m, .non, .non, _, _, _ => rfl
  | n, m, .bl b, e, h, _, _ => (dq_bl h).elim
  | n, m, d, .bl b, _, h, _ => (dq_bl h).elim
  | n, m, .int i, .int j, _, _, q => by unfold toPy PyData.eqv at q; rw [beq_iff_eq.mp q]
  | n, m, .str i, .str j, _, _, q => by unfold toPy PyData.eqv at q; rw [beq_iff_eq.mp q]
  | 0, m, .tup ds, .tup es, h, g, q => by unfold dqD at h; exact h.elim
  | n + 1, 0, .tup ds, .tup es, h, g, q => by unfold dqD at g; exact g.elim
  | n + 1, m + 1, .tup ds, .tup es, h, g, q => by
    unfold dqD at h g
    unfold toPy PyData.eqv at q
    rw [dqDs_eq h g q]
  | n, m, .non, .int _, _, _, q => by unfold toPy PyData.eqv at q; cases q
  | n, m, .non, .str _, _, _, q => by unfold toPy PyData.eqv at q; cases q
  | n, m, .non, .tup _, _, _, q => by unfold toPy PyData.eqv at q; cases q
  | n, m, .int _, .non, _, _, q => by unfold toPy PyData.eqv at q; cases q
  | n, m, .int _, .str _, _, _, q => by unfold toPy PyData.eqv at q; cases q
  | n, m, .int _, .tup _, _, _, q => by unfold toPy PyData.eqv at q; cases q
  | n, m, .str _, .non, _, _, q => by unfold toPy PyData.eqv at q; cases q
  | n, m, .str _, .int _, _, _, q => by unfold toPy PyData.eqv at q; cases q
  | n, m, .str _, .tup _, _, _, q => by unfold toPy PyData.eqv at q; cases q
  | n, m, .tup _, .non, _, _, q => by unfold toPy PyData.eqv at q; cases q
  | n, m, .tup _, .int _, _, _, q => by unfold toPy PyData.eqv at q; cases q
  | n, m, .tup _, .str _, _, _, q => by unfold toPy PyData.eqv at q; cases q
theorem dqDs_eq : ∀ {n m : Nat} {ds es : List D}, dqDs n ds → dqDs m es → PyData.eqvAll (toPys ds) (toPys es) = true → ds = es
  | n, m, [], [], _, _, _ => rfl
  | n, m, [], _ :: _, _, _, q => by unfold toPys PyData.eqvAll at q; cases q
  | n, m, _ :: _, [], _, _, q => by unfold toPys PyData.eqvAll at q; cases q
  | n, m, d :: ds, e :: es, h, g, q => by
    unfold dqDs at h g
    unfold toPys PyData.eqvAll at q
    have q2 := Bool.and_eq_true_iff.mp q
    rw [dqD_eq h.1 g.1 q2.1, dqDs_eq h.2 g.2 q2.2]
end
theorem dqD_shaped {n : Nat} {d : D} (h : dqD n d) (hn : n ≤ 64) : SeqAt.shaped (toPy d) = true := by
  have z := dqD_lay h
  unfold SeqAt.shaped
  rw [z.1, decide_eq_true (Nat.le_trans z.2 hn)]
  rfl
theorem dqDs_shaped {n : Nat} {ds : List D} (h : dqDs n ds) (hn : n ≤ 63) : SeqAt.shaped (.list (toPys ds)) = true := by
  have z := dqDs_lay h
  unfold SeqAt.shaped
  have e1 : (PyData.list (toPys ds)).canLay0 = true := by unfold PyData.canLay0; exact z.1
  have e2 : (PyData.list (toPys ds)).depth ≤ 64 := by unfold PyData.depth; omega
  rw [e1, decide_eq_true e2]
  rfl
section
variable {K : PySem.W.Frag} {H : Hp} {Q : VK}
theorem eqD_case {x y : V} {d e : D} {n m : Nat} (hx : At K H x d) (hy : At K H y e) (h : dqD n d) (g : dqD m e) (hn : n ≤ 64) (hm : m ≤ 64) (q1 : d = e → Q (.bl true) H) (q2 : d ≠ e → Q (.bl false) H) : rEqD K x y H Q := by
  refine ⟨_, _, hx.dp, hy.dp, dqD_shaped h hn, dqD_shaped g hm, ?_⟩
  cases c : PyData.eqv (toPy d) (toPy e) with
  | true => exact q1 (dqD_eq h g c)
  | false => exact q2 fun he => by subst he; rw [SeqAt.eqv_refl _ (dqD_lay h).1] at c; cases c
theorem neD_case {x y : V} {d e : D} {n m : Nat} (hx : At K H x d) (hy : At K H y e) (h : dqD n d) (g : dqD m e) (hn : n ≤ 64) (hm : m ≤ 64) (q1 : d = e → Q (.bl false) H) (q2 : d ≠ e → Q (.bl true) H) : rNeD K x y H Q := by
  refine ⟨_, _, hx.dp, hy.dp, dqD_shaped h hn, dqD_shaped g hm, ?_⟩
  cases c : PyData.eqv (toPy d) (toPy e) with
  | true => exact q1 (dqD_eq h g c)
  | false => exact q2 fun he => by subst he; rw [SeqAt.eqv_refl _ (dqD_lay h).1] at c; cases c
theorem eqL_case {a b : Addr} {xs ys : List V} {ds es : List D} {n m : Nat} (h1 : SqL K H a xs) (hx : Ats K H xs ds) (h2 : SqL K H b ys) (hy : Ats K H ys es) (h : dqDs n ds) (g : dqDs m es) (hn : n ≤ 63) (hm : m ≤ 63) (q1 : ds = es → Q (.bl true) H) (q2 : ds ≠ es → Q (.bl false) H) : rEqD K (.ref a) (.ref b) H Q := by
  refine ⟨.list (toPys ds), .list (toPys es), .lst h1 hx.dp, .lst h2 hy.dp, dqDs_shaped h hn, dqDs_shaped g hm, ?_⟩
  show Q (.bl (PyData.eqvAll (toPys ds) (toPys es))) H
  cases c : PyData.eqvAll (toPys ds) (toPys es) with
  | true => exact q1 (dqDs_eq h g c)
  | false =>
    refine q2 fun he => ?_
    subst he
    have := SeqAt.eqv_refl _ (SeqAt.canLay_of_shaped (dqDs_shaped h hn))
    rw [show PyData.eqv (.list (toPys ds)) (.list (toPys ds)) = PyData.eqvAll (toPys ds) (toPys ds) from rfl, c] at this
    cases this
theorem neL_case {a b : Addr} {xs ys : List V} {ds es : List D} {n m : Nat} (h1 : SqL K H a xs) (hx : Ats K H xs ds) (h2 : SqL K H b ys) (hy : Ats K H ys es) (h : dqDs n ds) (g : dqDs m es) (hn : n ≤ 63) (hm : m ≤ 63) (q1 : ds = es → Q (.bl false) H) (q2 : ds ≠ es → Q (.bl true) H) : rNeD K (.ref a) (.ref b) H Q := by
  refine ⟨.list (toPys ds), .list (toPys es), .lst h1 hx.dp, .lst h2 hy.dp, dqDs_shaped h hn, dqDs_shaped g hm, ?_⟩
  show Q (.bl (!PyData.eqvAll (toPys ds) (toPys es))) H
  cases c : PyData.eqvAll (toPys ds) (toPys es) with
  | true => exact q1 (dqDs_eq h g c)
  | false =>
    refine q2 fun he => ?_
    subst he
    have := SeqAt.eqv_refl _ (SeqAt.canLay_of_shaped (dqDs_shaped h hn))
    rw [show PyData.eqv (.list (toPys ds)) (.list (toPys ds)) = PyData.eqvAll (toPys ds) (toPys ds) from rfl, c] at this
    cases this
end
theorem dqD_int {n : Nat} {i : Int} : dqD n (.int i) := by cases n <;> (unfold dqD; trivial)
theorem dqD_non {n : Nat} : dqD n .non := by cases n <;> (unfold dqD; trivial)
theorem dqD_tup {n : Nat} {ds : List D} (h : dqDs n ds) : dqD (n + 1) (.tup ds) := by unfold dqD; exact h
theorem dqDs_cons {n : Nat} {d : D} {ds : List D} (h : dqD n d) (t : dqDs n ds) : dqDs n (d :: ds) := by unfold dqDs; exact ⟨h, t⟩
theorem dqDs_nil {n : Nat} : dqDs n [] := by unfold dqDs; trivial
theorem dqDs_map {α : Type} {f : α → D} {n : Nat} : ∀ {l : List α}, (∀ a ∈ l, dqD n (f a)) → dqDs n (l.map f)
  | [], _ => by rw [List.map_nil]; unfold dqDs; trivial
  | a :: l, h => by
    rw [List.map_cons]
    unfold dqDs
    exact ⟨h a (by simp), dqDs_map fun b hb => h b (by simp [hb])⟩
theorem dqD_encO {n : Nat} {o : Option Int} : dqD n (encO o) := by cases o <;> cases n <;> (unfold encO dqD; trivial)
theorem dqD_encH {n : Nat} {h : List (Option Int)} : dqD (n + 1) (encH h) := dqD_tup (dqDs_map fun _ _ => dqD_encO)
theorem dqD_encA1 {n : Nat} {a : Int × Option Int} : dqD (n + 1) (encA1 a) := dqD_tup (dqDs_cons dqD_int (dqDs_cons dqD_encO dqDs_nil))
theorem dqD_encA {n : Nat} {a : List (Int × Option Int)} : dqD (n + 2) (encA a) := dqD_tup (dqDs_map fun _ _ => dqD_encA1)
theorem dqD_answers {n : Nat} {l : List (List (Int × Option Int))} : dqD (n + 3) (.tup (l.map encA)) := dqD_tup (dqDs_map fun _ _ => dqD_encA)
theorem encO_inj {a b : Option Int} (h : encO a = encO b) : a = b := by
  cases a <;> cases b
  · rfl
  · unfold encO at h; cases h
  · unfold encO at h; cases h
  · unfold encO at h; cases h; rfl
theorem map_inj {α β : Type} {f : α → β} (hf : ∀ a b, f a = f b → a = b) : ∀ {as bs : List α}, as.map f = bs.map f → as = bs
  | [], [], _ => rfl
  | [], _ :: _, h => by cases h
  | _ :: _, [], h => by cases h
  | a :: as, b :: bs, h => by
    rw [List.map_cons, List.map_cons] at h
    have := List.cons.inj h
    rw [hf _ _ this.1, map_inj hf this.2]
theorem encH_inj {a b : List (Option Int)} (h : encH a = encH b) : a = b := map_inj (fun _ _ => encO_inj) (D.tup.inj h)
theorem encA1_inj {a b : Int × Option Int} (h : encA1 a = encA1 b) : a = b := by
  obtain ⟨a1, a2⟩ := a
  obtain ⟨b1, b2⟩ := b
  have h2 := D.tup.inj h
  have h3 := List.cons.inj h2
  have e1 : a1 = b1 := D.int.inj h3.1
  have e2 : a2 = b2 := encO_inj (List.cons.inj h3.2).1
  rw [e1, e2]
theorem encA_inj {a b : List (Int × Option Int)} (h : encA a = encA b) : a = b := map_inj (fun _ _ => encA1_inj) (D.tup.inj h)
end Dv

/-! Rising changes of values, and the sizes of ints. -/
namespace Dv
open PySem PySem.Spec PyProof.Rows L2 GxR Gx

/-! ### sizes -/
def Bd (n : Nat) (x : Int) : Prop := x.natAbs < 2 ^ n
theorem Bd.mono {n m : Nat} {x : Int} (h : Bd n x) (e : n ≤ m) : Bd m x := Nat.lt_of_lt_of_le h (Nat.pow_le_pow_right (by decide) e)
theorem Bd.add {n : Nat} {x y : Int} (h : Bd n x) (g : Bd n y) : Bd (n + 1) (x + y) := by
  unfold Bd at *
  rw [Nat.pow_succ]
  have := Int.natAbs_add_le x y
  generalize 2 ^ n = z at *
  omega
theorem Bd.neg {n : Nat} {x : Int} (h : Bd n x) : Bd n (-x) := by
  unfold Bd at *
  rw [Int.natAbs_neg]
  exact h
theorem Bd.sub {n : Nat} {x y : Int} (h : Bd n x) (g : Bd n y) : Bd (n + 1) (x - y) := by
  rw [Int.sub_eq_add_neg]
  exact h.add g.neg
theorem Bd.mul {n m : Nat} {x y : Int} (h : Bd n x) (g : Bd m y) : Bd (n + m) (x * y) := wide_lt h g
theorem Bd.le {n : Nat} {x y : Int} (h : Bd n y) (g : x.natAbs ≤ y.natAbs) : Bd n x := Nat.lt_of_le_of_lt g h
theorem Bd.div {n : Nat} {x d : Int} (h : Bd n x) (hd : 0 < d) : Bd n (x / d) := h.le (by
  rcases Int.le_total 0 x with c | c
  · have h1 := Int.ediv_nonneg c (Int.le_of_lt hd)
    have h2 := Int.ediv_le_self d c
    omega
  · have h1 : x ≤ x / d := (Int.le_ediv_iff_mul_le hd).mpr (by
      have : x * d ≤ x * 1 := Int.mul_le_mul_of_nonpos_left c (by omega)
      omega)
    have h2 : x / d ≤ 0 := by
      have : x / d < 1 := Int.ediv_lt_of_lt_mul hd (by omega)
      omega
    omega)
theorem bd_small {n : Nat} {x : Int} (h : x.natAbs < 1048576) (e : 20 ≤ n) : Bd n x :=
  Nat.lt_of_lt_of_le (show x.natAbs < 2 ^ 20 from h) (Nat.pow_le_pow_right (by decide) e)
theorem bd_near {n : Nat} {x b : Int} (h : x.natAbs ≤ b.natAbs + 1009) (g : Bd n b) (e : 20 ≤ n) : Bd (n + 1) x := by
  have p : 2 ^ 20 ≤ 2 ^ n := Nat.pow_le_pow_right (by decide) e
  have q : (2 : Nat) ^ 20 = 1048576 := by decide
  unfold Bd at *
  rw [Nat.pow_succ]
  generalize 2 ^ n = z at *
  omega
theorem bd_bits {n : Nat} {x : Int} (h : Builtin.Int.intBits x ≤ n) : Bd n x := by
  unfold Builtin.Int.intBits at h
  split at h
  · rename_i z
    have : x = 0 := by simpa using z
    subst this
    exact Nat.pos_of_ne_zero (by simp)
  · exact Nat.lt_of_lt_of_le Nat.lt_log2_self (Nat.pow_le_pow_right (by decide) h)
theorem bd_sum {n : Nat} : ∀ {l : List Int}, (∀ z ∈ l, Bd n z) → Bd (n + l.length) l.sum
  | [], _ => Nat.pos_of_ne_zero (by simp)
  | z :: l, h => by
    rw [List.sum_cons]
    exact ((h z (by simp)).mono (Nat.le_add_right _ _)).add (bd_sum fun y hy => h y (by simp [hy]))

theorem cut_take {xs : List V} {av : Int} (h0 : 0 ≤ av) : cutV xs none (some av) = xs.take av.toNat := by
  obtain ⟨k, rfl⟩ := Int.eq_ofNat_of_zero_le h0
  unfold cutV
  rw [HT.sIx_nat, HT.sIx_none, Int.toNat_natCast, List.drop_zero, Nat.sub_zero]
  by_cases c : k ≤ xs.length
  · rw [Nat.min_eq_left c]
  · rw [Nat.min_eq_right (by omega), List.take_of_length_le (Nat.le_refl _), List.take_of_length_le (by omega)]
def rTupK (K : PySem.W.Frag) : List V → Hp → VK → Prop := fun xs H Q => ∃ p ys, xs = [V.ref p] ∧ ((SqL K H p ys ∧ ∀ (l : Addr), H l = none → Q (V.ref l) (upd H l (HO.tup ys))) ∨ SqT K H p ys ∧ Q (V.ref p) H)
def rLenK2 (K : PySem.W.Frag) : List V → Hp → VK → Prop := fun xs H Q => ∃ p ys, xs = [V.ref p] ∧ (SqL K H p ys ∨ SqT K H p ys) ∧ Q (V.int ys.length) H
/-! ### rising changes -/
def Rise (f : Int → Int) : Prop := ∀ x y, x < y → f x < f y
theorem Rise.lt {f : Int → Int} (h : Rise f) (x y : Int) : f x < f y ↔ x < y := by
  constructor
  · intro g
    rcases Int.lt_trichotomy x y with c | c | c
    · exact c
    · subst c; omega
    · have := h _ _ c; omega
  · exact h x y
theorem Rise.eq {f : Int → Int} (h : Rise f) (x y : Int) : f x = f y ↔ x = y := by
  constructor
  · intro g
    rcases Int.lt_trichotomy x y with c | c | c
    · have := h _ _ c; omega
    · exact c
    · have := h _ _ c; omega
  · rintro rfl; rfl
structure Ch where
  s : Int
  ss : List Int
def Ch.ok (c : Ch) : Prop := c.ss.length = 6 ∧ (∀ z ∈ c.ss, 1 ≤ z ∧ Bd 1048700 z) ∧ Bd 1048700 c.s
def Ch.f (c : Ch) (v : Int) : Int := c.s + v / 6 * c.ss.sum + (c.ss.take (v % 6).toNat).sum
theorem Ch.rise {c : Ch} (h : c.ok) : Rise c.f := by
  obtain ⟨s, ss⟩ := c
  obtain ⟨hl, hp, _⟩ := h
  match ss, hl, hp with
  | [a, b, d, e, g, i], _, hp =>
  have ha := (hp a (by simp)).1
  have hb := (hp b (by simp)).1
  have hd := (hp d (by simp)).1
  have he := (hp e (by simp)).1
  have hg := (hp g (by simp)).1
  have hi := (hp i (by simp)).1
  clear hp
  have eS : ([a, b, d, e, g, i] : List Int).sum = a + b + d + e + g + i := by simp [List.sum_cons]; omega
  have p0 : ((([a, b, d, e, g, i] : List Int).take ((0 : Int)).toNat)).sum = 0 := rfl
  have p1 : ((([a, b, d, e, g, i] : List Int).take ((1 : Int)).toNat)).sum = a := by show ([a] : List Int).sum = a; simp
  have p2 : ((([a, b, d, e, g, i] : List Int).take ((2 : Int)).toNat)).sum = a + b := by show ([a, b] : List Int).sum = _; simp
  have p3 : ((([a, b, d, e, g, i] : List Int).take ((3 : Int)).toNat)).sum = a + b + d := by show ([a, b, d] : List Int).sum = _; simp; omega
  have p4 : ((([a, b, d, e, g, i] : List Int).take ((4 : Int)).toNat)).sum = a + b + d + e := by show ([a, b, d, e] : List Int).sum = _; simp; omega
  have p5 : ((([a, b, d, e, g, i] : List Int).take ((5 : Int)).toNat)).sum = a + b + d + e + g := by show ([a, b, d, e, g] : List Int).sum = _; simp; omega
  intro x y hxy
  show s + x / 6 * ([a, b, d, e, g, i] : List Int).sum + (([a, b, d, e, g, i] : List Int).take (x % 6).toNat).sum < s + y / 6 * ([a, b, d, e, g, i] : List Int).sum + (([a, b, d, e, g, i] : List Int).take (y % 6).toNat).sum
  rw [eS]
  have hx := Int.emod_nonneg x (show (6 : Int) ≠ 0 by decide)
  have hx6 := Int.emod_lt_of_pos x (show (0 : Int) < 6 by decide)
  have hy := Int.emod_nonneg y (show (6 : Int) ≠ 0 by decide)
  have hy6 := Int.emod_lt_of_pos y (show (0 : Int) < 6 by decide)
  have dx := Int.mul_ediv_add_emod x 6
  have dy := Int.mul_ediv_add_emod y 6
  have key : x / 6 = y / 6 ∧ x % 6 < y % 6 ∨ x / 6 + 1 ≤ y / 6 := by omega
  generalize x / 6 = qx at *
  generalize y / 6 = qy at *
  generalize x % 6 = rx at *
  generalize y % 6 = ry at *
  have hmul : qx + 1 ≤ qy → qx * (a + b + d + e + g + i) + (a + b + d + e + g + i) ≤ qy * (a + b + d + e + g + i) := fun h => by
    have := Int.mul_le_mul_of_nonneg_right h (show 0 ≤ a + b + d + e + g + i by omega)
    rw [Int.add_mul, Int.one_mul] at this
    exact this
  rcases (by omega : rx = 0 ∨ rx = 1 ∨ rx = 2 ∨ rx = 3 ∨ rx = 4 ∨ rx = 5) with rfl | rfl | rfl | rfl | rfl | rfl <;>
  rcases (by omega : ry = 0 ∨ ry = 1 ∨ ry = 2 ∨ ry = 3 ∨ ry = 4 ∨ ry = 5) with rfl | rfl | rfl | rfl | rfl | rfl <;>
  (simp only [p0, p1, p2, p3, p4, p5]
   rcases key with ⟨rfl, k⟩ | k
   · omega
   · have := hmul k
     omega)
theorem Ch.bd {c : Ch} {n : Nat} {v : Int} (h : c.ok) (hv : Bd n v) : Bd (n + 1048708) (c.f v) := by
  obtain ⟨hl, hp, hs⟩ := h
  have b1 : Bd 1048706 c.ss.sum := by
    have := bd_sum (n := 1048700) (l := c.ss) fun z hz => (hp z hz).2
    rw [hl] at this
    exact this
  have b2 : Bd 1048706 (c.ss.take (v % 6).toNat).sum := by
    have := bd_sum (n := 1048700) (l := c.ss.take (v % 6).toNat) fun z hz => (hp z (List.mem_of_mem_take hz)).2
    refine this.mono ?_
    rw [List.length_take]
    omega
  have b3 := (hv.div (d := 6) (by decide)).mul b1
  unfold Ch.f
  exact ((hs.mono (by omega)).add b3).add (b2.mono (by omega))
/-- a change lies at v, apart from dr -/
def AtCh (H : Hp) (dr : Addr) (v : V) (c : Ch) : Prop := ∃ a b, v = .ref a ∧ a ≠ dr ∧ b ≠ dr ∧ H a = some (.lst [.int c.s, .ref b]) ∧ H b = some (.lst (c.ss.map V.int))
theorem AtCh.ext {H H1 : Hp} {T : List Addr} {dr : Addr} {v : V} {c : Ch} (h : AtCh H dr v c) (e : Ex T [dr] H H1) : AtCh H1 dr v c := by
  obtain ⟨a, b, rfl, na, nb, ha, hb⟩ := h
  exact ⟨a, b, rfl, na, nb, e.lst (by simpa using na) ha, e.lst (by simpa using nb) hb⟩

/-! ### machines see the order alone -/
def mapH (f : Int → Int) (h : List (Option Int)) : List (Option Int) := h.map (Option.map f)
def chE (f : Int → Int) (p : Int × Option Int) : Int × Option Int := (p.1, p.2.map f)
def chL (f : Int → Int) (e : Nat × Int) : Nat × Int := (e.1, f e.2)
def toA (e : Nat × Int) : Int × Option Int := (e.1, some e.2)
theorem mapH_len {f : Int → Int} {h : List (Option Int)} : (mapH f h).length = h.length := List.length_map ..
theorem enc_toA (es : List (Nat × Int)) : es.map encE = (es.map toA).map encA1 := by
  rw [List.map_map]
  rfl
theorem chL_toA (f : Int → Int) (es : List (Nat × Int)) : (es.map toA).map (chE f) = (es.map (chL f)).map toA := by
  rw [List.map_map, List.map_map]
  rfl
section
variable {f : Int → Int}
theorem worth_map (v : Int) (h : List (Option Int)) (p : Int) : worth (f v) (mapH f h) p = (worth v h p).map f := by
  unfold worth mapH
  split
  · rfl
  · split
    · rfl
    · rw [List.getElem?_map]
      cases h[p.toNat]? <;> rfl
theorem ltO_map (r : Rise f) (a b : Option Int) : ltO (a.map f) (b.map f) = ltO a b := by
  cases a <;> cases b <;> try rfl
  rename_i x y
  show decide (f x < f y) = decide (x < y)
  rw [decide_eq_decide]
  exact r.lt x y
theorem eqO_map (r : Rise f) (a b : Option Int) : eqO (a.map f) (b.map f) = eqO a b := by
  cases a <;> cases b <;> try rfl
  rename_i x y
  show decide (f x = f y) = decide (x = y)
  rw [decide_eq_decide]
  exact r.eq x y
mutual
theorem hold_map (r : Rise f) (v : Int) (h : List (Option Int)) : ∀ c : C, hold (f v) (mapH f h) c = hold v h c
  | .tru => by unfold hold; rfl
  | .fls => by unfold hold; rfl
  | .less a b => by unfold hold; rw [worth_map, worth_map, ltO_map r]
  | .same a b => by unfold hold; rw [worth_map, worth_map, eqO_map r]
  | .emp a => by unfold hold; rw [worth_map]; cases worth v h a <;> rfl
  | .nt c => by unfold hold; rw [hold_map r v h c]
  | .all cs => by unfold hold; exact holdA_map r v h cs
  | .any cs => by unfold hold; exact holdE_map r v h cs
theorem holdA_map (r : Rise f) (v : Int) (h : List (Option Int)) : ∀ cs : List C, holdA (f v) (mapH f h) cs = holdA v h cs
  | [] => by unfold holdA; rfl
  | c :: cs => by rw [holdA_cons, holdA_cons, hold_map r v h c, holdA_map r v h cs]
theorem holdE_map (r : Rise f) (v : Int) (h : List (Option Int)) : ∀ cs : List C, holdE (f v) (mapH f h) cs = holdE v h cs
  | [] => by unfold holdE; rfl
  | c :: cs => by rw [holdE_cons, holdE_cons, hold_map r v h c, holdE_map r v h cs]
end
theorem saidC_map (v : Int) (h : List (Option Int)) (c : Case) : saidC (f v) (mapH f h) c = (saidC v h c).map (chE f) := by
  unfold saidC
  rw [List.map_map]
  refine List.map_congr_left fun p _ => ?_
  show (p.1, worth (f v) (mapH f h) p.2) = (p.1, (worth v h p.2).map f)
  rw [worth_map]
theorem keptC_map (v : Int) (h : List (Option Int)) (c : Case) : keptC (f v) (mapH f h) c = mapH f (keptC v h c) := by
  unfold keptC
  show _ = List.map _ _
  rw [List.map_map]
  refine List.map_congr_left fun p _ => ?_
  rw [worth_map]
  rfl
theorem readM_map (r : Rise f) (m : M) (st : Nat) (h : List (Option Int)) (e : Nat × Int) :
    readM m st (mapH f h) (chL f e) = ((readM m st h e).1, mapH f (readM m st h e).2.1, (readM m st h e).2.2.map (chE f)) := by
  unfold readM
  have ef : holdC (chL f e).2 (mapH f h) = holdC e.2 h := funext fun c => hold_map r e.2 h c.cond
  rw [ef]
  show (match (m.cases st e.1).find? (holdC e.2 h) with | none => _ | some c => _) = _
  cases (m.cases st e.1).find? (holdC e.2 h) with
  | none => rfl
  | some c =>
    show (c.nxt, keptC (f e.2) (mapH f h) c, saidC (f e.2) (mapH f h) c) = _
    rw [saidC_map, keptC_map]
def mapC (f : Int → Int) (c : Ct) : Ct := (c.1, mapH f c.2)
theorem stepM_map (r : Rise f) (m : M) (c : Ct) (e : Nat × Int) : stepM m (mapC f c) (chL f e) = mapC f (stepM m c e) := by
  show ((readM m c.1 (mapH f c.2) (chL f e)).1, (readM m c.1 (mapH f c.2) (chL f e)).2.1) = _
  rw [readM_map r]
  rfl
theorem contM_map (r : Rise f) (m : M) : ∀ (c : Ct) (es : List (Nat × Int)), contM m (mapC f c) (es.map (chL f)) = mapC f (contM m c es)
  | c, [] => rfl
  | c, e :: es => by
    show contM m (stepM m (mapC f c) (chL f e)) (es.map (chL f)) = mapC f (contM m (stepM m c e) es)
    rw [stepM_map r, contM_map r m _ es]
theorem answersM_map (r : Rise f) (m : M) : ∀ (c : Ct) (es : List (Nat × Int)), answersM m (mapC f c) (es.map (chL f)) = (answersM m c es).map (List.map (chE f))
  | c, [] => rfl
  | c, e :: es => by
    show (readM m c.1 (mapH f c.2) (chL f e)).2.2 :: answersM m (stepM m (mapC f c) (chL f e)) (es.map (chL f)) = _ :: _
    rw [readM_map r, stepM_map r, answersM_map r m _ es]
theorem mapH_rep (n : Nat) : mapH f (List.replicate n none) = List.replicate n none := by
  unfold mapH
  rw [List.map_replicate]
  rfl
end
/-! ### where values come from -/
def PH (P : Int → Prop) (h : List (Option Int)) : Prop := ∀ x, some x ∈ h → P x
def PA (P : Int → Prop) (a : List (Int × Option Int)) : Prop := ∀ p ∈ a, ∀ x, p.2 = some x → P x
section
variable {P : Int → Prop}
theorem worth_P {v : Int} {h : List (Option Int)} {p : Int} (hh : PH P h) (hv : P v) {x : Int} (e : worth v h p = some x) : P x := by
  unfold worth at e
  split at e
  · cases e; exact hv
  · split at e
    · cases e
    · cases g : h[p.toNat]? with
      | none => rw [g] at e; cases e
      | some o =>
        rw [g] at e
        exact hh x (by
          have : o = some x := e
          rw [this] at g
          exact List.mem_of_getElem? g)
theorem readM_P (m : M) (st : Nat) {h : List (Option Int)} {e : Nat × Int} (hh : PH P h) (he : P e.2) : PH P (readM m st h e).2.1 ∧ PA P (readM m st h e).2.2 := by
  unfold readM
  cases (m.cases st e.1).find? (holdC e.2 h) with
  | none => exact ⟨hh, fun p hp => by cases hp⟩
  | some c =>
    refine ⟨fun x hx => ?_, fun p hp x hx => ?_⟩
    · obtain ⟨s, _, e'⟩ := List.mem_map.mp hx
      exact worth_P hh he e'
    · obtain ⟨s, _, rfl⟩ := List.mem_map.mp hp
      exact worth_P hh he hx
theorem answersM_P (m : M) : ∀ {c : Ct} {es : List (Nat × Int)}, PH P c.2 → (∀ e ∈ es, P e.2) → ∀ a ∈ answersM m c es, PA P a
  | c, [], _, _, a, h => by cases h
  | c, e :: es, hc, he, a, h => by
    have r := readM_P m c.1 hc (he e (by simp))
    rcases List.mem_cons.mp h with rfl | h
    · exact r.2
    · exact answersM_P m (c := stepM m c e) r.1 (fun f hf => he f (by simp [hf])) a h
theorem contM_P (m : M) : ∀ {c : Ct} {es : List (Nat × Int)}, PH P c.2 → (∀ e ∈ es, P e.2) → PH P (contM m c es).2
  | c, [], hc, _ => hc
  | c, e :: es, hc, he => contM_P m (c := stepM m c e) (es := es) (readM_P m c.1 hc (he e (by simp))).1 fun f hf => he f (by simp [hf])
theorem PH_rep (n : Nat) : PH P (List.replicate n none) := fun x h => by
  have := (List.mem_replicate.mp h).2
  cases this
end
theorem plogA {P : Int → Prop} {es : List (Nat × Int)} (h : ∀ e ∈ es, P e.2) : PA P (es.map toA) := fun p hp x hx => by
  obtain ⟨e, he, rfl⟩ := List.mem_map.mp hp
  cases hx
  exact h e he
theorem chL_tag {f : Int → Int} {t : Nat} {es : List (Nat × Int)} (h : ∀ e ∈ es, e.1 < t) : ∀ e ∈ es.map (chL f), e.1 < t := fun p hp => by
  obtain ⟨e, he, rfl⟩ := List.mem_map.mp hp
  exact h e he
theorem chL_P {P : Int → Prop} {f : Int → Int} {es : List (Nat × Int)} (h : ∀ e ∈ es, P (f e.2)) : ∀ e ∈ es.map (chL f), P e.2 := fun p hp => by
  obtain ⟨e, he, rfl⟩ := List.mem_map.mp hp
  exact h e he
/-- a log that was changed -/
theorem at_chL {K : PySem.W.Frag} {H : Hp} {v : V} {f : Int → Int} {es : List (Nat × Int)} (h : At K H v (.tup (((es.map toA).map (chE f)).map encA1))) : At K H v (.tup ((es.map (chL f)).map encE)) := by
  rw [chL_toA, ← enc_toA] at h
  exact h
theorem at_toA {K : PySem.W.Frag} {H : Hp} {v : V} {es : List (Nat × Int)} (h : At K H v (.tup (es.map encE))) : At K H v (.tup ((es.map toA).map encA1)) := by
  rw [← enc_toA]
  exact h
end Dv

/-! Turned machines. -/
namespace Dv
open PySem PySem.Spec PyProof.Rows L2 GxR Gx
mutual
def turnC : C → C
  | .tru => .tru
  | .fls => .fls
  | .less a b => .less b a
  | .same a b => .same a b
  | .emp a => .emp a
  | .nt c => .nt (turnC c)
  | .all cs => .all (turnCs cs)
  | .any cs => .any (turnCs cs)
def turnCs : List C → List C
  | [] => []
  | c :: cs => turnC c :: turnCs cs
end
theorem turnCs_map : ∀ cs : List C, turnCs cs = cs.map turnC
  | [] => by unfold turnCs; rfl
  | c :: cs => by unfold turnCs; rw [List.map_cons, turnCs_map cs]
theorem turnCs_len (cs : List C) : (turnCs cs).length = cs.length := by rw [turnCs_map, List.length_map]
def turnCase (c : Case) : Case := { c with cond := turnC c.cond }
def turnM (m : M) : M := { m with steps := m.steps.map (List.map (List.map turnCase)) }
mutual
theorem okC_turn {r : Nat} : ∀ {n : Nat} {c : C}, okC r n c → okC r n (turnC c)
  | n, .tru, h => by unfold turnC; exact h
  | n, .fls, h => by unfold turnC; exact h
  | n, .less a b, h => by unfold turnC; unfold okC at *; exact ⟨h.2, h.1⟩
  | n, .same a b, h => by unfold turnC; exact h
  | n, .emp a, h => by unfold turnC; exact h
  | 0, .nt c, h => by unfold okC at h; exact h.elim
  | n + 1, .nt c, h => by unfold turnC; unfold okC at *; exact okC_turn h
  | 0, .all cs, h => by unfold okC at h; exact h.elim
  | n + 1, .all cs, h => by unfold turnC; unfold okC at *; rw [turnCs_len]; exact ⟨h.1, okCs_turn h.2⟩
  | 0, .any cs, h => by unfold okC at h; exact h.elim
  | n + 1, .any cs, h => by unfold turnC; unfold okC at *; rw [turnCs_len]; exact ⟨h.1, okCs_turn h.2⟩
theorem okCs_turn {r : Nat} : ∀ {n : Nat} {cs : List C}, okCs r n cs → okCs r n (turnCs cs)
  | n, [], h => by unfold turnCs; exact h
  | n, c :: cs, h => by unfold turnCs; unfold okCs at *; exact ⟨okC_turn h.1, okCs_turn h.2⟩
end
theorem turnC_nt (c : C) : turnC (.nt c) = .nt (turnC c) := by conv => lhs; unfold turnC
theorem turnC_all (cs : List C) : turnC (.all cs) = .all (turnCs cs) := by conv => lhs; unfold turnC
theorem turnC_any (cs : List C) : turnC (.any cs) = .any (turnCs cs) := by conv => lhs; unfold turnC
theorem turnCs_cons (c : C) (cs : List C) : turnCs (c :: cs) = turnC c :: turnCs cs := by conv => lhs; unfold turnCs
mutual
theorem turnC_turn : ∀ c : C, turnC (turnC c) = c
  | .tru => by unfold turnC turnC; rfl
  | .fls => by unfold turnC turnC; rfl
  | .less a b => by unfold turnC turnC; rfl
  | .same a b => by unfold turnC turnC; rfl
  | .emp a => by unfold turnC turnC; rfl
  | .nt c => by rw [turnC_nt, turnC_nt, turnC_turn c]
  | .all cs => by rw [turnC_all, turnC_all, turnCs_turn cs]
  | .any cs => by rw [turnC_any, turnC_any, turnCs_turn cs]
theorem turnCs_turn : ∀ cs : List C, turnCs (turnCs cs) = cs
  | [] => by unfold turnCs turnCs; rfl
  | c :: cs => by rw [turnCs_cons, turnCs_cons, turnC_turn c, turnCs_turn cs]
end
theorem encCs_map : ∀ cs : List C, encCs cs = cs.map encC
  | [] => by unfold encCs; rfl
  | c :: cs => by unfold encCs; rw [List.map_cons, encCs_map cs]
theorem encCs_turn (cs : List C) : cs.map (fun c => encC (turnC c)) = encCs (turnCs cs) := by
  rw [encCs_map, turnCs_map, List.map_map]
  rfl
theorem okCase_turn {r S n : Nat} {c : Case} (h : okCase r S n c) : okCase r S n (turnCase c) := ⟨okC_turn h.cond, h.mlen, h.mv, h.say, h.slen, h.nxt⟩
theorem okM_turn {n : Nat} {m : M} (h : okM n m) : okM n (turnM m) := by
  refine ⟨h.tags, h.tmax, h.rmax, by show 0 < (List.map _ _).length; rw [List.length_map]; exact h.some, by show (List.map _ _).length ≤ _; rw [List.length_map]; exact h.smax, fun s hs => ?_, fun s hs cs hcs => ?_⟩
  · obtain ⟨s', hs', rfl⟩ := List.mem_map.mp hs
    rw [List.length_map]
    exact h.all s' hs'
  · obtain ⟨s', hs', rfl⟩ := List.mem_map.mp hs
    obtain ⟨cs', hcs', rfl⟩ := List.mem_map.mp hcs
    have r := h.cases s' hs' cs' hcs'
    refine ⟨by rw [List.length_map]; exact r.1, fun c hc => ?_⟩
    obtain ⟨c', hc', rfl⟩ := List.mem_map.mp hc
    show okCase m.regs (List.map _ m.steps).length n (turnCase c')
    rw [List.length_map]
    exact okCase_turn (r.2 c' hc')
theorem turnM_cases (m : M) (st t : Nat) : (turnM m).cases st t = (m.cases st t).map turnCase := by
  show ((m.steps.map (List.map (List.map turnCase))).getD st []).getD t [] = ((m.steps.getD st []).getD t []).map turnCase
  rw [List.getD_eq_getElem?_getD, List.getD_eq_getElem?_getD, List.getElem?_map]
  rw [List.getD_eq_getElem?_getD (l := m.steps), List.getD_eq_getElem?_getD]
  cases m.steps[st]? with
  | none => rfl
  | some s =>
    show ((List.map (List.map turnCase) s)[t]?).getD [] = ((s[t]?).getD []).map turnCase
    rw [List.getElem?_map]
    cases s[t]? <;> rfl
theorem turnM_steps (m : M) : (turnM m).steps.length = m.steps.length := List.length_map ..
theorem okCt_turn {m : M} {c : Ct} (h : okCt m c) : okCt (turnM m) c := ⟨by rw [turnM_steps]; exact h.st, h.len⟩
/-! ### falling changes -/
def Fall (f : Int → Int) : Prop := ∀ x y, x < y → f y < f x
theorem fall_neg : Fall (fun x => -x) := fun x y h => by show -y < -x; omega
section
variable {f : Int → Int}
theorem Fall.lt (h : Fall f) (x y : Int) : f y < f x ↔ x < y := by
  constructor
  · intro g
    rcases Int.lt_trichotomy x y with c | c | c
    · exact c
    · subst c; omega
    · have := h _ _ c; omega
  · exact h x y
theorem Fall.eq (h : Fall f) (x y : Int) : f x = f y ↔ x = y := by
  constructor
  · intro g
    rcases Int.lt_trichotomy x y with c | c | c
    · have := h _ _ c; omega
    · exact c
    · have := h _ _ c; omega
  · rintro rfl; rfl
theorem ltO_fall (r : Fall f) (a b : Option Int) : ltO (b.map f) (a.map f) = ltO a b := by
  cases a <;> cases b <;> try rfl
  rename_i x y
  show decide (f y < f x) = decide (x < y)
  rw [decide_eq_decide]
  exact r.lt x y
theorem eqO_fall (r : Fall f) (a b : Option Int) : eqO (a.map f) (b.map f) = eqO a b := by
  cases a <;> cases b <;> try rfl
  rename_i x y
  show decide (f x = f y) = decide (x = y)
  rw [decide_eq_decide]
  exact r.eq x y
mutual
theorem hold_turn (r : Fall f) (v : Int) (h : List (Option Int)) : ∀ c : C, hold (f v) (mapH f h) (turnC c) = hold v h c
  | .tru => by unfold turnC; unfold hold; rfl
  | .fls => by unfold turnC; unfold hold; rfl
  | .less a b => by unfold turnC; unfold hold; rw [worth_map, worth_map, ltO_fall r]
  | .same a b => by unfold turnC; unfold hold; rw [worth_map, worth_map, eqO_fall r]
  | .emp a => by unfold turnC; unfold hold; rw [worth_map]; cases worth v h a <;> rfl
  | .nt c => by unfold turnC; unfold hold; rw [hold_turn r v h c]
  | .all cs => by unfold turnC; unfold hold; exact holdA_turn r v h cs
  | .any cs => by unfold turnC; unfold hold; exact holdE_turn r v h cs
theorem holdA_turn (r : Fall f) (v : Int) (h : List (Option Int)) : ∀ cs : List C, holdA (f v) (mapH f h) (turnCs cs) = holdA v h cs
  | [] => by unfold turnCs; unfold holdA; rfl
  | c :: cs => by unfold turnCs; rw [holdA_cons, holdA_cons, hold_turn r v h c, holdA_turn r v h cs]
theorem holdE_turn (r : Fall f) (v : Int) (h : List (Option Int)) : ∀ cs : List C, holdE (f v) (mapH f h) (turnCs cs) = holdE v h cs
  | [] => by unfold turnCs; unfold holdE; rfl
  | c :: cs => by unfold turnCs; rw [holdE_cons, holdE_cons, hold_turn r v h c, holdE_turn r v h cs]
end
theorem readM_turn (r : Fall f) (m : M) (st : Nat) (h : List (Option Int)) (e : Nat × Int) :
    readM (turnM m) st (mapH f h) (chL f e) = ((readM m st h e).1, mapH f (readM m st h e).2.1, (readM m st h e).2.2.map (chE f)) := by
  unfold readM
  rw [turnM_cases, List.find?_map]
  have ef : holdC (chL f e).2 (mapH f h) ∘ turnCase = holdC e.2 h := funext fun c => hold_turn r e.2 h c.cond
  rw [ef]
  show (match ((m.cases st e.1).find? (holdC e.2 h)).map turnCase with | none => _ | some c => _) = _
  cases (m.cases st e.1).find? (holdC e.2 h) with
  | none => rfl
  | some c =>
    show (c.nxt, keptC (f e.2) (mapH f h) (turnCase c), saidC (f e.2) (mapH f h) (turnCase c)) = _
    rw [saidC_map, keptC_map]
    rfl
theorem stepM_turn (r : Fall f) (m : M) (c : Ct) (e : Nat × Int) : stepM (turnM m) (mapC f c) (chL f e) = mapC f (stepM m c e) := by
  show ((readM (turnM m) c.1 (mapH f c.2) (chL f e)).1, (readM (turnM m) c.1 (mapH f c.2) (chL f e)).2.1) = _
  rw [readM_turn r]
  rfl
theorem answersM_turn (r : Fall f) (m : M) : ∀ (c : Ct) (es : List (Nat × Int)), answersM (turnM m) (mapC f c) (es.map (chL f)) = (answersM m c es).map (List.map (chE f))
  | c, [] => rfl
  | c, e :: es => by
    show (readM (turnM m) c.1 (mapH f c.2) (chL f e)).2.2 :: answersM (turnM m) (stepM (turnM m) (mapC f c) (chL f e)) (es.map (chL f)) = _ :: _
    rw [readM_turn r, stepM_turn r, answersM_turn r m _ es]
end
theorem encCase_turn (c : Case) : encCase (turnCase c) = .tup [encC (turnC c.cond), .tup (c.moves.map .int), .tup (c.says.map encSay), .int c.nxt] := rfl
theorem wipe_get (k : Nat) : ∀ (vs : List Nat) (σ : L2.St), (wipe σ vs)[k]? = if k ∈ vs then (σ[k]?).map (fun _ => none) else σ[k]?
  | [], σ => by
    rw [if_neg (by simp)]
    rfl
  | v :: vs, σ => by
    show ((wipe σ vs).set v none)[k]? = _
    rw [List.getElem?_set]
    have ih := wipe_get k vs σ
    by_cases h : v = k
    · subst h
      simp only [List.mem_cons, true_or, if_true, wipe_length]
      by_cases hl : v < σ.length
      · simp [hl]
      · simp [hl]
    · rw [if_neg h, ih]
      have : k ∈ v :: vs ↔ k ∈ vs := by simp; exact fun e => absurd e.symm h
      simp only [this]
theorem wipe_set {vs : List Nat} {σ : L2.St} {i : Nat} {x : Option V} (h : i ∈ vs) : wipe (σ.set i x) vs = wipe σ vs := by
  refine List.ext_getElem? fun k => ?_
  rw [wipe_get, wipe_get, List.getElem?_set]
  split
  · rename_i hk
    split
    · rename_i e
      subst e
      split
      · rename_i hl
        rw [List.getElem?_eq_getElem hl]
        rfl
      · rename_i hl
        rw [List.getElem?_eq_none (Nat.le_of_not_lt hl)]
    · rfl
  · rename_i hk
    rw [if_neg (fun e => hk (by rw [← e]; exact h))]
theorem wipe_wipe {vs : List Nat} {σ : L2.St} : wipe (wipe σ vs) vs = wipe σ vs := by
  refine List.ext_getElem? fun k => ?_
  rw [wipe_get, wipe_get]
  split
  · cases σ[k]? <;> rfl
  · rfl
theorem wipe4 {vs : List Nat} {σ : L2.St} {i j k l : Nat} {x y z u : Option V} (h1 : i ∈ vs) (h2 : j ∈ vs) (h3 : k ∈ vs) (h4 : l ∈ vs) : wipe (((((wipe σ vs).set i x).set j y).set k z).set l u) vs = wipe σ vs := by
  rw [wipe_set h4, wipe_set h3, wipe_set h2, wipe_set h1, wipe_wipe]
theorem Col.put' {K : PySem.W.Frag} {T ms : List Addr} {D : Addr} {H H1 H2 : Hp} {ds : List Dv.D} (c : Col K T ms D H H1 ds) (free : H D = none) (nD : D ∉ ms) (wd : Wd T H) (e : Ex T ms H1 H2) {x : V} {d : Dv.D} (hx : At K H2 x d) (hl : ds.length ≤ 100000) :
    ∃ acc, H2 D = some (.lst acc) ∧ acc.length < sizeLine ∧ Col K T ms D H (upd H2 D (.lst (acc ++ [x]))) (ds ++ [d]) := by
  obtain ⟨ex, xs, hD, ats⟩ := c
  have hD2 : H2 D = some (.lst xs) := e.lst nD hD
  have exw : Ex T [D] H2 (upd H2 D (.lst (xs ++ [x]))) := Ex.write (by simp) hD2
  exact ⟨xs, hD2, Nat.lt_of_le_of_lt (by rw [ats.length]; exact hl) (by decide), (ex.trans e).put free wd, xs ++ [x], upd_same, ((ats.ext e).append (Ats.mk hx Ats.mk_nil)).ext exw⟩
end Dv

/-! Whether a machine is right. -/
namespace Dv
open PySem PySem.Spec PyProof.Rows L2 GxR Gx
/-- a statement that is never come to -/
theorem ps_dead {X : Cx} {st : Stmt} : PS X st (fun _ _ _ => False) := ⟨fun _ _ _ _ _ _ h => h.elim⟩
def plI (r p : Int) : Bool := decide (-1 ≤ p) && decide (p < r)
mutual
def plB (r : Int) : C → Bool
  | .tru => true
  | .fls => true
  | .less a b => plI r a && plI r b
  | .same a b => plI r a && plI r b
  | .emp a => plI r a
  | .nt c => plB r c
  | .all cs => plBs r cs
  | .any cs => plBs r cs
def plBs (r : Int) : List C → Bool
  | [] => true
  | c :: cs => plB r c && plBs r cs
end
theorem plBs_cons (r : Int) (c : C) (cs : List C) : plBs r (c :: cs) = (plB r c && plBs r cs) := by conv => lhs; unfold plBs

mutual
def dpC : Nat → C → Prop
  | 0, .nt _ => False
  | n + 1, .nt c => dpC n c
  | 0, .all _ => False
  | n + 1, .all cs => cs.length ≤ 100000 ∧ dpCs n cs
  | 0, .any _ => False
  | n + 1, .any cs => cs.length ≤ 100000 ∧ dpCs n cs
  | _, _ => True
def dpCs : Nat → List C → Prop
  | _, [] => True
  | n, c :: cs => dpC n c ∧ dpCs n cs
end
theorem dpCs_get {n : Nat} : ∀ {cs : List C} {i : Nat} {c : C}, dpCs n cs → cs[i]? = some c → dpC n c
  | [], i, c, h, e => by simp at e
  | c' :: cs, 0, c, h, e => by
    unfold dpCs at h
    obtain rfl : c' = c := by simpa using e
    exact h.1
  | c' :: cs, i + 1, c, h, e => by
    unfold dpCs at h
    exact dpCs_get h.2 (by simpa using e)
theorem pl_of {r : Nat} {p : Int} (h : plOk r p) : plI r p = true := by
  unfold plOk at h
  unfold plI
  rw [decide_eq_true h.1, decide_eq_true h.2]
  rfl
mutual
theorem okC_dp {r : Nat} : ∀ {n : Nat} {c : C}, okC r n c → dpC n c ∧ plB r c = true
  | n, .tru, h => by unfold dpC plB; cases n <;> exact ⟨trivial, rfl⟩
  | n, .fls, h => by unfold dpC plB; cases n <;> exact ⟨trivial, rfl⟩
  | n, .less a b, h => by unfold dpC plB; unfold okC at h; rw [pl_of h.1, pl_of h.2]; cases n <;> exact ⟨trivial, rfl⟩
  | n, .same a b, h => by unfold dpC plB; unfold okC at h; rw [pl_of h.1, pl_of h.2]; cases n <;> exact ⟨trivial, rfl⟩
  | n, .emp a, h => by unfold dpC plB; unfold okC at h; rw [pl_of h]; cases n <;> exact ⟨trivial, rfl⟩
  | 0, .nt c, h => by unfold okC at h; exact h.elim
  | n + 1, .nt c, h => by unfold dpC plB; unfold okC at h; exact okC_dp h
  | 0, .all cs, h => by unfold okC at h; exact h.elim
  | n + 1, .all cs, h => by unfold dpC plB; unfold okC at h; have r := okCs_dp h.2; exact ⟨⟨h.1, r.1⟩, r.2⟩
  | 0, .any cs, h => by unfold okC at h; exact h.elim
  | n + 1, .any cs, h => by unfold dpC plB; unfold okC at h; have r := okCs_dp h.2; exact ⟨⟨h.1, r.1⟩, r.2⟩
theorem okCs_dp {r : Nat} : ∀ {n : Nat} {cs : List C}, okCs r n cs → dpCs n cs ∧ plBs r cs = true
  | n, [], h => by unfold dpCs plBs; exact ⟨trivial, rfl⟩
  | n, c :: cs, h => by
    unfold okCs at h
    have r1 := okC_dp h.1
    have r2 := okCs_dp h.2
    rw [plBs_cons, r1.2, r2.2]
    unfold dpCs
    exact ⟨⟨r1.1, r2.1⟩, rfl⟩
end
/-- a condition is an atom, or not, all, any -/
theorem shapeC (r : Int) (c : C) : (∃ (wo : Str) (ps : List Int), encC c = .tup (.str wo :: ps.map .int) ∧ wo ≠ "not" ∧ inV (V.str wo) [V.str "all", V.str "any"] = false ∧ plB r c = ps.all (plI r) ∧ ps.length ≤ 2) ∨ (∃ d, c = .nt d) ∨ (∃ cs, c = .all cs) ∨ ∃ cs, c = .any cs := by
  cases c with
  | tru => exact .inl ⟨"true", [], by unfold encC; rfl, by decide +kernel, by decide +kernel, by unfold plB; rfl, by decide⟩
  | fls => exact .inl ⟨"false", [], by unfold encC; rfl, by decide +kernel, by decide +kernel, by unfold plB; rfl, by decide⟩
  | less a b => exact .inl ⟨"less", [a, b], by unfold encC; rfl, by decide +kernel, by decide +kernel, by unfold plB; simp, by simp⟩
  | same a b => exact .inl ⟨"same", [a, b], by unfold encC; rfl, by decide +kernel, by decide +kernel, by unfold plB; simp, by simp⟩
  | emp a => exact .inl ⟨"empty", [a], by unfold encC; rfl, by decide +kernel, by decide +kernel, by unfold plB; simp, by simp⟩
  | nt d => exact .inr (.inl ⟨d, rfl⟩)
  | all cs => exact .inr (.inr (.inl ⟨cs, rfl⟩))
  | any cs => exact .inr (.inr (.inr ⟨cs, rfl⟩))
theorem cut_drop2 {xs : List V} {av : Int} (h0 : 0 ≤ av) (h1 : av ≤ xs.length) : cutV xs (some av) none = xs.drop av.toNat := by
  obtain ⟨k, rfl⟩ := Int.eq_ofNat_of_zero_le h0
  have hk : k ≤ xs.length := by omega
  unfold cutV
  rw [HT.sIx_nat, HT.sIx_none, Int.toNat_natCast, Nat.min_eq_left hk, List.take_of_length_le (by rw [List.length_drop]; exact Nat.le_refl _)]
theorem slA_drop {K : PySem.W.Frag} {H : Hp} {T : List Addr} {Q : VK} {a : Addr} {xs : List V} {av : Int} (sq : SqT K H a xs) (h0 : 0 ≤ av) (h1 : av ≤ xs.length) (q : ∀ p H', SqT K H' p (xs.drop av.toNat) → Ex T [] H H' → Q (.ref p) H') : rSlA K (.ref a) (some av) none H Q := by
  refine ⟨a, xs, rfl, sq, fun hw => q a H ?_ Ex.refl, fun _ p np => q p _ (SqT.of ?_) (Ex.new np)⟩
  · obtain ⟨k, rfl⟩ := Int.eq_ofNat_of_zero_le h0
    have hk : k ≤ xs.length := by omega
    have := hw.1
    rw [HT.sIx_nat] at this
    have e : k = 0 := by omega
    subst e
    exact sq
  · rw [upd_same, cut_drop2 h0 h1]
end Dv

/-! Built machines. -/
namespace Dv
open PySem PySem.Spec PyProof.Rows L2 GxR Gx
theorem tup_new {K : PySem.W.Frag} {T : List Addr} {H : Hp} {xs : List V} {ds : List D} {Q : V → Hp → Prop} (hl : xs.length ≤ sizeLine) (r : Ats K H xs ds) (k : ∀ v H', At K H' v (.tup ds) → Ex T [] H H' → Q v H') :
    xs.length ≤ sizeLine ∧ ∀ p, H p = none → Q (.ref p) (upd H p (.tup xs)) := ⟨hl, fun p np => k _ _ (At.laid np r) (Ex.new np)⟩
theorem bd_near2 {n : Nat} {x b : Int} (h : x.natAbs ≤ b.natAbs + 100000) (g : Bd n b) (e : 20 ≤ n) : Bd (n + 1) x := by
  have p : 2 ^ 20 ≤ 2 ^ n := Nat.pow_le_pow_right (by decide) e
  have q : (2 : Nat) ^ 20 = 1048576 := by decide
  unfold Bd at *
  rw [Nat.pow_succ]
  generalize 2 ^ n = z at *
  omega
theorem answersM_rows (m : M) : ∀ (es : List (Nat × Int)) (st : Nat → Ct) (row : Nat → List (Int × Option Int)), (∀ k e, es[k]? = some e → readM m (st k).1 (st k).2 e = ((st (k + 1)).1, (st (k + 1)).2, row k)) →
    answersM m (st 0) es = (List.range es.length).map row
  | [], st, row, _ => rfl
  | e :: es, st, row, h => by
    have h0 := h 0 e rfl
    show (readM m (st 0).1 (st 0).2 e).2.2 :: answersM m (stepM m (st 0) e) es = _
    have e1 : stepM m (st 0) e = st 1 := by
      unfold stepM
      rw [h0]
    rw [e1, answersM_rows m es (fun k => st (k + 1)) (fun k => row (k + 1)) (fun k e' he => h (k + 1) e' (by simpa using he)), h0, List.length_cons, List.range_succ_eq_map, List.map_cons, List.map_map]
    rfl
theorem last_at {xs : List Int} (h : xs ≠ []) : atI (xs.map V.int) (-1) = some (.int (xs.getLast h)) := by
  have e : xs.map V.int = xs.dropLast.map V.int ++ [.int (xs.getLast h)] := by
    conv => lhs; rw [← List.dropLast_concat_getLast h]
    rw [List.map_append]
    rfl
  rw [e]
  exact atI_last _ _
def asLog (xs : List Int) : List (Nat × Int) := xs.map fun x => (0, x)
theorem asLog_get {xs : List Int} {k : Nat} {e : Nat × Int} (h : (asLog xs)[k]? = some e) : e = (0, xs.getD k 0) ∧ k < xs.length := by
  unfold asLog at h
  rw [List.getElem?_map] at h
  cases g : xs[k]? with
  | none => rw [g] at h; cases h
  | some x =>
    rw [g] at h
    cases h
    refine ⟨?_, (List.getElem?_eq_some_iff.mp g).1⟩
    rw [List.getD_eq_getElem?_getD, g]
    rfl
theorem asLog_len (xs : List Int) : (asLog xs).length = xs.length := List.length_map ..
theorem take_all {xs : List Int} {k : Nat} (h : k < xs.length) (p : Int → Bool) : (xs.take (k + 1)).all p = ((xs.take k).all p && p (xs.getD k 0)) := by
  rw [List.take_add_one, List.getElem?_eq_getElem h, List.all_append, List.getD_eq_getElem?_getD, List.getElem?_eq_getElem h]
  simp
mutual
def tuD : Nat → D → Prop
  | _, .int _ => True
  | _, .str _ => True
  | n + 1, .tup ds => ds.length ≤ 100000 ∧ tuDs n ds
  | _, _ => False
def tuDs : Nat → List D → Prop
  | _, [] => True
  | n, d :: ds => tuD n d ∧ tuDs n ds
end
theorem tuDs_get {n : Nat} : ∀ {ds : List D} {i : Nat} {d : D}, tuDs n ds → ds[i]? = some d → tuD n d
  | [], i, d, h, e => by simp at e
  | d' :: ds, 0, d, h, e => by
    unfold tuDs at h
    obtain rfl : d' = d := by simpa using e
    exact h.1
  | d' :: ds, i + 1, d, h, e => by
    unfold tuDs at h
    exact tuDs_get h.2 (by simpa using e)
theorem eqvAll_ints : ∀ xs ys : List Int, PyData.eqvAll (toPys (xs.map D.int)) (toPys (ys.map D.int)) = decide (xs = ys)
  | [], [] => by unfold toPys PyData.eqvAll; rfl
  | [], y :: ys => by rw [List.map_nil, List.map_cons]; unfold toPys PyData.eqvAll; rw [decide_eq_false (by simp)]
  | x :: xs, [] => by rw [List.map_nil, List.map_cons]; unfold toPys PyData.eqvAll; rw [decide_eq_false (by simp)]
  | x :: xs, y :: ys => by
    rw [List.map_cons, List.map_cons]
    unfold toPys PyData.eqvAll
    rw [eqvAll_ints xs ys]
    unfold toPy PyData.eqv
    by_cases h : x = y
    · subst h
      simp
    · simp [h]
theorem neD_ints {K : PySem.W.Frag} {H : Hp} {a b : Addr} {xs ys : List Int} {Q : VK} (h1 : SqL K H a (xs.map V.int)) (h2 : SqL K H b (ys.map V.int)) (q : Q (.bl (!decide (xs = ys))) H) : rNeD K (.ref a) (.ref b) H Q := by
  have sh : ∀ zs : List Int, SeqAt.shaped (.list (toPys (zs.map D.int))) = true := fun zs => by
    have z := plDs_lay (plDs_map (n := 0) (f := D.int) (l := zs) fun _ _ => plD_int)
    unfold SeqAt.shaped
    have e1 : (PyData.list (toPys (zs.map D.int))).canLay0 = true := by unfold PyData.canLay0; exact z.1
    have e2 : (PyData.list (toPys (zs.map D.int))).depth ≤ 64 := by unfold PyData.depth; omega
    rw [e1, decide_eq_true e2]
    rfl
  refine ⟨_, _, .lst h1 (ats_int.mpr rfl : Ats K H _ (xs.map D.int)).dp, .lst h2 (ats_int.mpr rfl : Ats K H _ (ys.map D.int)).dp, sh xs, sh ys, ?_⟩
  show Q (.bl (!PyData.eqvAll _ _)) H
  rw [eqvAll_ints]
  exact q
theorem rep_bool {K : PySem.W.Frag} {H : Hp} {T : List Addr} {Q : VK} {x : V} {ds : List D} {b : Bool} (hx : At K H x (.tup ds)) (hne : ds ≠ []) (hl : ds.length ≤ 1000) (q : ∀ v H', At K H' v (.tup (if b = true then ds else [])) → Ex T [] H H' → Q v H') :
    Tm.rRepN K x (.int (if b = true then 1 else 0)) H Q := by
  obtain ⟨a, xs, rfl, sq, ats⟩ := at_tup.mp hx
  have l := ats.length
  refine ⟨a, _, xs, rfl, rfl, sq, fun e => hne (by subst e; cases ds with | nil => rfl | cons => simp at l), by split <;> decide, by split <;> decide, by omega, fun p H' hH sq' => ?_⟩
  have ex : Ex T [] H H' := by
    rcases hH with rfl | ⟨n, rfl⟩
    · exact Ex.refl
    · exact Ex.new n
  refine q _ _ (at_tup.mpr ⟨p, _, rfl, sq', ?_⟩) ex
  cases b with
  | true =>
    show Ats K H' (List.replicate (1 : Int).toNat xs).flatten ds
    have e : (List.replicate (1 : Int).toNat xs).flatten = xs := by show (xs ++ []) = xs; rw [List.append_nil]
    rw [e]
    exact ats.ext ex
  | false => exact Ats.mk_nil
/-! records -/
def recM : M := ⟨1, 1, [[[⟨.any [.emp 0, .less 0 (-1)], [-1], [(0, -1)], 0⟩]]]⟩
theorem recM_ok : okM 3 recM := by
  refine ⟨by decide, by decide, by decide, by decide, by decide, fun s hs => ?_, fun s hs cs hcs => ?_⟩
  · obtain rfl := List.mem_singleton.mp hs; rfl
  · obtain rfl := List.mem_singleton.mp hs
    obtain rfl := List.mem_singleton.mp hcs
    refine ⟨by decide, fun c hc => ?_⟩
    obtain rfl := List.mem_singleton.mp hc
    refine ⟨by show okC 1 3 (.any [.emp 0, .less 0 (-1)]); simp [okC, okCs, plOk], rfl, fun s hs => ?_, fun s hs => ?_, by decide, by decide⟩
    · obtain rfl := List.mem_singleton.mp hs; decide
    · obtain rfl := List.mem_singleton.mp hs; decide
theorem recM_read (o : Option Int) (x : Int) : readM recM 0 [o] (0, x) = if (o.isNone || ltO o (some x)) = true then (0, [some x], [(0, some x)]) else (0, [o], []) := by
  have e : M.cases recM 0 0 = [⟨.any [.emp 0, .less 0 (-1)], [-1], [(0, -1)], 0⟩] := rfl
  have w0 : worth x [o] 0 = o := rfl
  have hh : hold x [o] (.any [.emp 0, .less 0 (-1)]) = (o.isNone || ltO o (some x)) := by
    unfold hold
    rw [holdE_cons, holdE_cons]
    unfold hold holdE
    rw [w0, worth_new, Bool.or_false]
  have e1 : (readM recM 0 [o] (0, x)) = (match (M.cases recM 0 0).find? (holdC x [o]) with | none => (0, [o], []) | some c => (c.nxt, keptC x [o] c, saidC x [o] c)) := rfl
  rw [e1, e]
  cases hb : (o.isNone || ltO o (some x)) with
  | true =>
    rw [List.find?_cons_of_pos (by unfold holdC; rw [hh, hb]), if_pos rfl]
    rfl
  | false =>
    rw [List.find?_cons_of_neg (by unfold holdC; rw [hh, hb]; exact Bool.false_ne_true), if_neg Bool.false_ne_true]
    rfl
def recF (o : Option Int) (z : Int) : Bool := o.isNone || ltO o (some z)
def recStep (o : Option Int) (x : Int) : Option Int := if recF o x = true then some x else o
theorem recF_step (o : Option Int) (x z : Int) : recF (recStep o x) z = (recF o z && decide (x < z)) := by
  cases o with
  | none => rfl
  | some m =>
    unfold recStep
    show recF (if decide (m < x) = true then some x else some m) z = (decide (m < z) && decide (x < z))
    by_cases c : m < x
    · rw [if_pos (decide_eq_true c)]
      show decide (x < z) = _
      by_cases d : x < z
      · rw [decide_eq_true d, decide_eq_true (by omega : m < z)]; rfl
      · rw [decide_eq_false d, Bool.and_false]
    · rw [if_neg (by rw [decide_eq_false c]; exact Bool.false_ne_true)]
      show decide (m < z) = _
      by_cases d : m < z
      · rw [decide_eq_true d, decide_eq_true (by omega : x < z)]; rfl
      · rw [decide_eq_false d, Bool.false_and]
def recO (xs : List Int) : Nat → Option Int
  | 0 => none
  | k + 1 => recStep (recO xs k) (xs.getD k 0)
def recRow (xs : List Int) (k : Nat) : List (Int × Option Int) := if (xs.take k).all (fun y => decide (y < xs.getD k 0)) = true then [(0, some (xs.getD k 0))] else []
theorem recO_all (xs : List Int) (z : Int) : ∀ k, k ≤ xs.length → (xs.take k).all (fun y => decide (y < z)) = recF (recO xs k) z
  | 0, _ => rfl
  | k + 1, h => by
    rw [take_all (by omega), recO_all xs z k (by omega)]
    exact (recF_step _ _ _).symm
def recDue (xs : List Int) : List (List (Int × Option Int)) := (List.range xs.length).map (recRow xs)
theorem rec_due (xs : List Int) : answersM recM (0, [none]) (asLog xs) = recDue xs := by
  have h := answersM_rows recM (asLog xs) (fun k => (0, [recO xs k])) (recRow xs) fun k e he => by
    obtain ⟨rfl, hk⟩ := asLog_get he
    show readM recM 0 [recO xs k] (0, xs.getD k 0) = _
    rw [recM_read]
    show (if recF (recO xs k) (xs.getD k 0) = true then _ else _) = (0, [recStep (recO xs k) (xs.getD k 0)], recRow xs k)
    unfold recStep recRow
    rw [recO_all xs _ k (by omega)]
    cases recF (recO xs k) (xs.getD k 0) <;> rfl
  rw [asLog_len] at h
  exact h
/-! band -/
def bandM : M := ⟨1, 2, [[[⟨.emp 0, [-1, -1], [(0, -1), (1, -1)], 0⟩, ⟨.less (-1) 0, [-1, 1], [(0, -1), (1, 1)], 0⟩, ⟨.less 1 (-1), [0, -1], [(0, 0), (1, -1)], 0⟩]]]⟩
def turnsM : M := ⟨1, 2, [[[⟨.all [.less 0 1, .less (-1) 1], [1, -1], [(0, 1)], 0⟩, ⟨.all [.less 1 0, .less 1 (-1)], [1, -1], [(1, 1)], 0⟩, ⟨.tru, [1, -1], [], 0⟩]]]⟩
def runsM : M := ⟨1, 2, [[[⟨.emp 0, [-1, -1], [], 0⟩, ⟨.less 1 (-1), [0, -1], [], 0⟩, ⟨.tru, [-1, -1], [(0, 0)], 0⟩]]]⟩
/-- one standing, one tag -/
theorem ok_one {r : Nat} {cs : List Case} (hr : r ≤ 1000) (hl : cs.length ≤ 1000) (h : ∀ c ∈ cs, okCase r 1 3 c) : okM 3 ⟨1, r, [[cs]]⟩ := by
  refine ⟨by show 1 ≤ 1; decide, by show 1 ≤ 1000; decide, hr, by show 0 < 1; decide, by show 1 ≤ 1000; decide, fun s hs => ?_, fun s hs ds hds => ?_⟩
  · obtain rfl := List.mem_singleton.mp hs; rfl
  · obtain rfl := List.mem_singleton.mp hs
    obtain rfl := List.mem_singleton.mp hds
    exact ⟨hl, h⟩
theorem ok_case {r : Nat} {c : C} {mv : List Int} {sy : List (Int × Int)} (h1 : okC r 3 c) (h2 : mv.length = r) (h3 : ∀ s ∈ mv, -2 ≤ s ∧ s < r) (h4 : ∀ p ∈ sy, 0 ≤ p.1 ∧ -2 ≤ p.2 ∧ p.2 < r) (h5 : sy.length ≤ 1000) : okCase r 1 3 ⟨c, mv, sy, 0⟩ :=
  ⟨h1, h2, h3, h4, h5, by show 0 < 1; decide⟩
theorem bandM_ok : okM 3 bandM := ok_one (by decide) (by decide) fun c hc => by
  simp only [List.mem_cons, List.not_mem_nil, or_false] at hc
  rcases hc with rfl | rfl | rfl <;> exact ok_case (by simp [okC, okCs, plOk]) rfl (by decide) (by decide) (by decide)
theorem turnsM_ok : okM 3 turnsM := ok_one (by decide) (by decide) fun c hc => by
  simp only [List.mem_cons, List.not_mem_nil, or_false] at hc
  rcases hc with rfl | rfl | rfl <;> exact ok_case (by simp [okC, okCs, plOk]) rfl (by decide) (by decide) (by decide)
theorem runsM_ok : okM 3 runsM := ok_one (by decide) (by decide) fun c hc => by
  simp only [List.mem_cons, List.not_mem_nil, or_false] at hc
  rcases hc with rfl | rfl | rfl <;> exact ok_case (by simp [okC, okCs, plOk]) rfl (by decide) (by decide) (by decide)
/-- the first case that holds, of one standing -/
theorem read_one (r : Nat) (cs : List Case) (h : List (Option Int)) (x : Int) : readM ⟨1, r, [[cs]]⟩ 0 h (0, x) = (match cs.find? (holdC x h) with | none => (0, h, []) | some c => (c.nxt, keptC x h c, saidC x h c)) := rfl
theorem find3 {α : Type} (p : α → Bool) (a b c : α) : [a, b, c].find? p = if p a = true then some a else if p b = true then some b else if p c = true then some c else none := by
  cases h1 : p a <;> cases h2 : p b <;> cases h3 : p c <;> simp [h1, h2, h3]
theorem band_read0 (x : Int) : readM bandM 0 [none, none] (0, x) = (0, [some x, some x], [(0, some x), (1, some x)]) := by
  have e := read_one 2 [⟨.emp 0, [-1, -1], [(0, -1), (1, -1)], 0⟩, ⟨.less (-1) 0, [-1, 1], [(0, -1), (1, 1)], 0⟩, ⟨.less 1 (-1), [0, -1], [(0, 0), (1, -1)], 0⟩] [none, none] x
  have h1 : holdC x [none, none] ⟨.emp 0, [-1, -1], [(0, -1), (1, -1)], 0⟩ = true := by unfold holdC hold; rfl
  rw [find3, if_pos h1] at e
  exact e
theorem band_read (l h x : Int) : readM bandM 0 [some l, some h] (0, x) = if x < l then (0, [some x, some h], [(0, some x), (1, some h)]) else if h < x then (0, [some l, some x], [(0, some l), (1, some x)]) else (0, [some l, some h], []) := by
  have e := read_one 2 [⟨.emp 0, [-1, -1], [(0, -1), (1, -1)], 0⟩, ⟨.less (-1) 0, [-1, 1], [(0, -1), (1, 1)], 0⟩, ⟨.less 1 (-1), [0, -1], [(0, 0), (1, -1)], 0⟩] [some l, some h] x
  have h1 : holdC x [some l, some h] ⟨.emp 0, [-1, -1], [(0, -1), (1, -1)], 0⟩ = false := by unfold holdC hold; rfl
  have h2 : holdC x [some l, some h] ⟨.less (-1) 0, [-1, 1], [(0, -1), (1, 1)], 0⟩ = decide (x < l) := by unfold holdC hold; rfl
  have h3 : holdC x [some l, some h] ⟨.less 1 (-1), [0, -1], [(0, 0), (1, -1)], 0⟩ = decide (h < x) := by unfold holdC hold; rfl
  rw [find3, h1, h2, h3, if_neg Bool.false_ne_true] at e
  by_cases c : x < l
  · rw [if_pos c]
    rw [decide_eq_true c, if_pos rfl] at e
    exact e
  · rw [if_neg c]
    rw [decide_eq_false c, if_neg Bool.false_ne_true] at e
    by_cases d : h < x
    · rw [if_pos d]
      rw [decide_eq_true d, if_pos rfl] at e
      exact e
    · rw [if_neg d]
      rw [decide_eq_false d, if_neg Bool.false_ne_true] at e
      exact e
def bandStep (o : Option (Int × Int)) (x : Int) : Option (Int × Int) :=
  match o with
  | none => some (x, x)
  | some (l, h) => if x < l then some (x, h) else if h < x then some (l, x) else some (l, h)
def bandO (xs : List Int) : Nat → Option (Int × Int)
  | 0 => none
  | k + 1 => bandStep (bandO xs k) (xs.getD k 0)
def bandSay (o : Option (Int × Int)) : List (Int × Option Int) :=
  match o with
  | none => []
  | some (l, h) => [(0, some l), (1, some h)]
def bandRow (xs : List Int) (k : Nat) : List (Int × Option Int) := if bandO xs (k + 1) = bandO xs k then [] else bandSay (bandO xs (k + 1))
def bandDue (xs : List Int) : List (List (Int × Option Int)) := (List.range xs.length).map (bandRow xs)
def bandHeld (o : Option (Int × Int)) : List (Option Int) :=
  match o with
  | none => [none, none]
  | some (l, h) => [some l, some h]
theorem band_step (o : Option (Int × Int)) (x : Int) : readM bandM 0 (bandHeld o) (0, x) = (0, bandHeld (bandStep o x), if bandStep o x = o then [] else bandSay (bandStep o x)) := by
  cases o with
  | none => exact band_read0 x
  | some p =>
    obtain ⟨l, h⟩ := p
    show readM bandM 0 [some l, some h] (0, x) = _
    rw [band_read]
    unfold bandStep
    show _ = (0, bandHeld (if x < l then some (x, h) else if h < x then some (l, x) else some (l, h)), if (if x < l then some (x, h) else if h < x then some (l, x) else some (l, h)) = some (l, h) then [] else bandSay (if x < l then some (x, h) else if h < x then some (l, x) else some (l, h)))
    by_cases c : x < l
    · rw [if_pos c, if_pos c, if_neg (by simp; omega)]
      rfl
    · rw [if_neg c, if_neg c]
      by_cases d : h < x
      · rw [if_pos d, if_pos d, if_neg (by simp; omega)]
        rfl
      · rw [if_neg d, if_neg d, if_pos rfl]
        rfl
theorem band_due (xs : List Int) : answersM bandM (0, [none, none]) (asLog xs) = bandDue xs := by
  have h := answersM_rows bandM (asLog xs) (fun k => (0, bandHeld (bandO xs k))) (bandRow xs) fun k e he => by
    obtain ⟨rfl, hk⟩ := asLog_get he
    exact band_step _ _
  rw [asLog_len] at h
  exact h
/-- the least and the greatest of the first k -/
theorem bandO_spec (xs : List Int) : ∀ k, 0 < k → k ≤ xs.length → ∃ l h, bandO xs k = some (l, h) ∧ l ∈ xs.take k ∧ h ∈ xs.take k ∧ ∀ y ∈ xs.take k, l ≤ y ∧ y ≤ h
  | 0, h0, _ => by omega
  | k + 1, _, hk => by
    have et : xs.take (k + 1) = xs.take k ++ [xs.getD k 0] := by
      rw [List.take_add_one, List.getD_eq_getElem?_getD, List.getElem?_eq_getElem (by omega : k < xs.length)]
      rfl
    rw [et]
    generalize hx : xs.getD k 0 = x
    show ∃ l h, bandStep (bandO xs k) (xs.getD k 0) = some (l, h) ∧ _
    rw [hx]
    by_cases h0 : k = 0
    · subst h0
      refine ⟨x, x, rfl, by simp, by simp, fun y hy => ?_⟩
      simp at hy
      omega
    · obtain ⟨l, h, e, hl, hh, ha⟩ := bandO_spec xs k (by omega) (by omega)
      have lh := (ha l hl).2
      rw [e]
      unfold bandStep
      show ∃ l' h', (if x < l then some (x, h) else if h < x then some (l, x) else some (l, h)) = some (l', h') ∧ _
      by_cases c : x < l
      · rw [if_pos c]
        refine ⟨x, h, rfl, by simp, by simp [hh], fun y hy => ?_⟩
        rcases List.mem_append.mp hy with hy | hy
        · have := ha y hy; omega
        · obtain rfl := List.mem_singleton.mp hy; omega
      · rw [if_neg c]
        by_cases d : h < x
        · rw [if_pos d]
          refine ⟨l, x, rfl, by simp [hl], by simp, fun y hy => ?_⟩
          rcases List.mem_append.mp hy with hy | hy
          · have := ha y hy; omega
          · obtain rfl := List.mem_singleton.mp hy; omega
        · rw [if_neg d]
          refine ⟨l, h, rfl, by simp [hl], by simp [hh], fun y hy => ?_⟩
          rcases List.mem_append.mp hy with hy | hy
          · exact ha y hy
          · obtain rfl := List.mem_singleton.mp hy; omega
/-! turning points -/
theorem turns_read (a b : Option Int) (x : Int) : readM turnsM 0 [a, b] (0, x) = (0, [b, some x], if (ltO a b && ltO (some x) b) = true then [(0, b)] else if (ltO b a && ltO b (some x)) = true then [(1, b)] else []) := by
  have e := read_one 2 [⟨.all [.less 0 1, .less (-1) 1], [1, -1], [(0, 1)], 0⟩, ⟨.all [.less 1 0, .less 1 (-1)], [1, -1], [(1, 1)], 0⟩, ⟨.tru, [1, -1], [], 0⟩] [a, b] x
  have h1 : holdC x [a, b] ⟨.all [.less 0 1, .less (-1) 1], [1, -1], [(0, 1)], 0⟩ = (ltO a b && ltO (some x) b) := by
    unfold holdC hold
    rw [holdA_cons, holdA_cons]
    unfold hold holdA
    rw [Bool.and_true]
    rfl
  have h2 : holdC x [a, b] ⟨.all [.less 1 0, .less 1 (-1)], [1, -1], [(1, 1)], 0⟩ = (ltO b a && ltO b (some x)) := by
    unfold holdC hold
    rw [holdA_cons, holdA_cons]
    unfold hold holdA
    rw [Bool.and_true]
    rfl
  have h3 : holdC x [a, b] ⟨.tru, [1, -1], [], 0⟩ = true := by unfold holdC hold; rfl
  rw [find3, h1, h2, h3] at e
  refine e.trans ?_
  cases (ltO a b && ltO (some x) b) <;> cases (ltO b a && ltO b (some x)) <;> rfl
def turnsO (xs : List Int) : Nat → List (Option Int)
  | 0 => [none, none]
  | 1 => [none, some (xs.getD 0 0)]
  | k + 2 => [some (xs.getD k 0), some (xs.getD (k + 1) 0)]
def turnsRow (xs : List Int) (k : Nat) : List (Int × Option Int) :=
  if k < 2 then [] else if xs.getD (k - 2) 0 < xs.getD (k - 1) 0 ∧ xs.getD k 0 < xs.getD (k - 1) 0 then [(0, some (xs.getD (k - 1) 0))]
  else if xs.getD (k - 1) 0 < xs.getD (k - 2) 0 ∧ xs.getD (k - 1) 0 < xs.getD k 0 then [(1, some (xs.getD (k - 1) 0))] else []
def turnsDue (xs : List Int) : List (List (Int × Option Int)) := (List.range xs.length).map (turnsRow xs)
theorem turns_due (xs : List Int) : answersM turnsM (0, [none, none]) (asLog xs) = turnsDue xs := by
  have h := answersM_rows turnsM (asLog xs) (fun k => (0, turnsO xs k)) (turnsRow xs) fun k e he => by
    obtain ⟨rfl, hk⟩ := asLog_get he
    match k with
    | 0 => exact turns_read none none _
    | 1 => exact turns_read none (some _) _
    | k + 2 =>
      show readM turnsM 0 [some (xs.getD k 0), some (xs.getD (k + 1) 0)] (0, xs.getD (k + 2) 0) = (0, [some (xs.getD (k + 1) 0), some (xs.getD (k + 2) 0)], turnsRow xs (k + 2))
      rw [turns_read]
      unfold turnsRow
      rw [if_neg (show ¬ k + 2 < 2 by omega)]
      show (0, _, (if (decide (xs.getD k 0 < xs.getD (k + 1) 0) && decide (xs.getD (k + 2) 0 < xs.getD (k + 1) 0)) = true then _ else if (decide (xs.getD (k + 1) 0 < xs.getD k 0) && decide (xs.getD (k + 1) 0 < xs.getD (k + 2) 0)) = true then _ else _)) = (0, _, (if xs.getD k 0 < xs.getD (k + 1) 0 ∧ xs.getD (k + 2) 0 < xs.getD (k + 1) 0 then _ else if xs.getD (k + 1) 0 < xs.getD k 0 ∧ xs.getD (k + 1) 0 < xs.getD (k + 2) 0 then _ else _))
      simp only [Bool.and_eq_true, decide_eq_true_eq]
      rfl
  rw [asLog_len] at h
  exact h
/-! runs -/
theorem runs_read0 (x : Int) : readM runsM 0 [none, none] (0, x) = (0, [some x, some x], []) := by
  have e := read_one 2 [⟨.emp 0, [-1, -1], [], 0⟩, ⟨.less 1 (-1), [0, -1], [], 0⟩, ⟨.tru, [-1, -1], [(0, 0)], 0⟩] [none, none] x
  have h1 : holdC x [none, none] ⟨.emp 0, [-1, -1], [], 0⟩ = true := by unfold holdC hold; rfl
  rw [find3, if_pos h1] at e
  exact e
theorem runs_read (f p x : Int) : readM runsM 0 [some f, some p] (0, x) = if p < x then (0, [some f, some x], []) else (0, [some x, some x], [(0, some f)]) := by
  have e := read_one 2 [⟨.emp 0, [-1, -1], [], 0⟩, ⟨.less 1 (-1), [0, -1], [], 0⟩, ⟨.tru, [-1, -1], [(0, 0)], 0⟩] [some f, some p] x
  have h1 : holdC x [some f, some p] ⟨.emp 0, [-1, -1], [], 0⟩ = false := by unfold holdC hold; rfl
  have h2 : holdC x [some f, some p] ⟨.less 1 (-1), [0, -1], [], 0⟩ = decide (p < x) := by unfold holdC hold; rfl
  have h3 : holdC x [some f, some p] ⟨.tru, [-1, -1], [(0, 0)], 0⟩ = true := by unfold holdC hold; rfl
  rw [find3, h1, h2, h3, if_neg Bool.false_ne_true] at e
  by_cases c : p < x
  · rw [if_pos c]
    rw [decide_eq_true c, if_pos rfl] at e
    exact e
  · rw [if_neg c]
    rw [decide_eq_false c, if_neg Bool.false_ne_true, if_pos rfl] at e
    exact e
def firstI (xs : List Int) : Nat → Nat
  | 0 => 0
  | k + 1 => if 0 < k ∧ xs.getD k 0 ≤ xs.getD (k - 1) 0 then k else firstI xs k
def runsRow (xs : List Int) (k : Nat) : List (Int × Option Int) := if 0 < k ∧ xs.getD k 0 ≤ xs.getD (k - 1) 0 then [(0, some (xs.getD (firstI xs k) 0))] else []
def runsDue (xs : List Int) : List (List (Int × Option Int)) := (List.range xs.length).map (runsRow xs)
def runsO (xs : List Int) : Nat → List (Option Int)
  | 0 => [none, none]
  | k + 1 => [some (xs.getD (firstI xs (k + 1)) 0), some (xs.getD k 0)]
theorem firstI_lt (xs : List Int) : ∀ k, firstI xs k ≤ k
  | 0 => Nat.le_refl _
  | k + 1 => by
    unfold firstI
    have := firstI_lt xs k
    split <;> omega
theorem runs_due (xs : List Int) : answersM runsM (0, [none, none]) (asLog xs) = runsDue xs := by
  have h := answersM_rows runsM (asLog xs) (fun k => (0, runsO xs k)) (runsRow xs) fun k e he => by
    obtain ⟨rfl, hk⟩ := asLog_get he
    match k with
    | 0 => exact runs_read0 _
    | k + 1 =>
      show readM runsM 0 [some (xs.getD (firstI xs (k + 1)) 0), some (xs.getD k 0)] (0, xs.getD (k + 1) 0) = (0, [some (xs.getD (firstI xs (k + 2)) 0), some (xs.getD (k + 1) 0)], runsRow xs (k + 1))
      rw [runs_read]
      unfold runsRow
      have ef : firstI xs (k + 2) = if 0 < k + 1 ∧ xs.getD (k + 1) 0 ≤ xs.getD k 0 then k + 1 else firstI xs (k + 1) := rfl
      rw [ef]
      show _ = (0, _, if 0 < k + 1 ∧ xs.getD (k + 1) 0 ≤ xs.getD k 0 then [(0, some (xs.getD (firstI xs (k + 1)) 0))] else [])
      by_cases c : xs.getD k 0 < xs.getD (k + 1) 0
      · rw [if_pos c, if_neg (by omega), if_neg (by omega)]
      · rw [if_neg c, if_pos (by omega), if_pos (by omega)]
  rw [asLog_len] at h
  exact h
end Dv

/-! Tuples cut and joined; machines as data to any depth. -/
namespace Dv
open PySem PySem.Spec PyProof.Rows L2 GxR Gx
/-- how many cases there are at a place, at most -/
def wid (w : Nat) (m : M) : Prop := ∀ s ∈ m.steps, ∀ cs ∈ s, cs.length ≤ w
section
variable {K : PySem.W.Frag} {H : Hp} {T : List Addr} {Q : VK}
theorem slT_take {a : Addr} {xs : List V} {av : Int} (sq : SqT K H a xs) (h0 : 0 ≤ av) (h1 : av ≤ xs.length) (q : ∀ p H', SqT K H' p (xs.take av.toNat) → Ex T [] H H' → Q (.ref p) H') : rSlA K (.ref a) none (some av) H Q := by
  obtain ⟨k, rfl⟩ := Int.eq_ofNat_of_zero_le h0
  have hk : k ≤ xs.length := by omega
  refine ⟨a, xs, rfl, sq, fun hw => q a H ?_ Ex.refl, fun _ p np => q p _ (SqT.of ?_) (Ex.new np)⟩
  · have e : k = xs.length := by
      have := hw.2
      rw [HT.sIx_nat] at this
      omega
    rw [Int.toNat_natCast, e, List.take_length]
    exact sq
  · rw [upd_same]
    unfold cutV
    rw [HT.sIx_nat, HT.sIx_none, Int.toNat_natCast, List.drop_zero, Nat.min_eq_left hk]
    rfl
theorem catT_at {x y : V} {ds es : List D} (hx : At K H x (.tup ds)) (hy : At K H y (.tup es)) (hl : ds.length + es.length ≤ 1000000) (q : ∀ v H', At K H' v (.tup (ds ++ es)) → Ex T [] H H' → Q v H') : rCatA K x y H Q := by
  have hl' : ds.length + es.length ≤ sizeLine := Nat.le_trans hl (by decide)
  obtain ⟨a, xs, rfl, sa, ta⟩ := at_tup.mp hx
  obtain ⟨b, ys, rfl, sb, tb⟩ := at_tup.mp hy
  refine ⟨a, b, xs, ys, rfl, rfl, sa, sb, by rw [ta.length, tb.length]; exact hl', fun e => q _ _ ?_ Ex.refl, fun _ e => q _ _ ?_ Ex.refl, fun _ _ p np => q _ _ (At.laid np (ta.append tb)) (Ex.new np)⟩
  · subst e
    have := ta.length
    cases ds with
    | nil => exact hy
    | cons => simp at this
  · subst e
    have := tb.length
    cases es with
    | nil => rw [List.append_nil]; exact hx
    | cons => simp at this
theorem Ats.takeD : ∀ {xs : List V} {ds : List D} (k : Nat), Ats K H xs ds → Ats K H (xs.take k) (ds.take k)
  | xs, ds, 0, _ => by rw [List.take_zero, List.take_zero]; exact Ats.mk_nil
  | xs, [], k + 1, h => by rw [ats_nil.mp h, List.take_nil, List.take_nil]; exact Ats.mk_nil
  | xs, d :: ds, k + 1, h => by
    obtain ⟨x, r, rfl, q, t⟩ := ats_cons.mp h
    exact Ats.mk q (Ats.takeD k t)
theorem Ats.dropD : ∀ {xs : List V} {ds : List D} (k : Nat), Ats K H xs ds → Ats K H (xs.drop k) (ds.drop k)
  | xs, ds, 0, h => h
  | xs, [], k + 1, h => by rw [ats_nil.mp h, List.drop_nil, List.drop_nil]; exact Ats.mk_nil
  | xs, d :: ds, k + 1, h => by
    obtain ⟨x, r, rfl, q, t⟩ := ats_cons.mp h
    exact Ats.dropD k t
/-- t[k:], as data -/
theorem dropT_at {a : Addr} {ds : List D} {av : Int} (h : At K H (.ref a) (.tup ds)) (h0 : 0 ≤ av) (h1 : av ≤ ds.length) (q : ∀ v H', At K H' v (.tup (ds.drop av.toNat)) → Ex T [] H H' → Q v H') : rSlA K (.ref a) (some av) none H Q := by
  obtain ⟨_, xs, e, sq, ats⟩ := at_tup.mp h
  cases e
  exact slA_drop (T := T) sq h0 (by rw [ats.length]; exact h1) fun p H' sq' ex => q _ _ (at_tup.mpr ⟨p, _, rfl, sq', (ats.ext ex).dropD _⟩) ex
theorem takeT_at {a : Addr} {ds : List D} {av : Int} (h : At K H (.ref a) (.tup ds)) (h0 : 0 ≤ av) (h1 : av ≤ ds.length) (q : ∀ v H', At K H' v (.tup (ds.take av.toNat)) → Ex T [] H H' → Q v H') : rSlA K (.ref a) none (some av) H Q := by
  obtain ⟨_, xs, e, sq, ats⟩ := at_tup.mp h
  cases e
  exact slT_take (T := T) sq h0 (by rw [ats.length]; exact h1) fun p H' sq' ex => q _ _ (at_tup.mpr ⟨p, _, rfl, sq', (ats.ext ex).takeD _⟩) ex
end
theorem okCs_of {r n : Nat} : ∀ {cs : List C}, (∀ c ∈ cs, okC r n c) → okCs r n cs
  | [], _ => by unfold okCs; trivial
  | c :: cs, h => by unfold okCs; exact ⟨h c (by simp), okCs_of fun d hd => h d (by simp [hd])⟩
theorem okDi {n : Nat} {i : Int} : okD n (.int i) := by cases n <;> (unfold okD; trivial)
theorem okDst {n : Nat} {s : Str} : okD n (.str s) := by cases n <;> (unfold okD; trivial)
theorem okDm {α : Type} {f : α → D} {n : Nat} : ∀ {l : List α}, (∀ a ∈ l, okD n (f a)) → okDs n (l.map f)
  | [], _ => by rw [List.map_nil]; unfold okDs; trivial
  | a :: l, h => by
    rw [List.map_cons]
    unfold okDs
    exact ⟨h a (by simp), okDm fun b hb => h b (by simp [hb])⟩
theorem okDt {n : Nat} {ds : List D} (hl : ds.length ≤ 100000) (h : okDs n ds) : okD (n + 1) (.tup ds) := by unfold okD; exact ⟨hl, h⟩
theorem okDc {n : Nat} {d : D} {ds : List D} (h : okD n d) (t : okDs n ds) : okDs n (d :: ds) := by unfold okDs; exact ⟨h, t⟩
theorem okDn {n : Nat} : okDs n [] := by unfold okDs; trivial
mutual
theorem okD_succ' : ∀ {n : Nat} {d : D}, okD n d → okD (n + 1) d
  | n, .non, _ => by cases n <;> (unfold okD; trivial)
  | n, .bl _, _ => by cases n <;> (unfold okD; trivial)
  | n, .int _, _ => okDi
  | n, .str _, _ => okDst
  | 0, .tup ds, h => by unfold okD at h; exact h.elim
  | n + 1, .tup ds, h => by unfold okD at h; exact okDt h.1 (okDs_succ' h.2)
theorem okDs_succ' : ∀ {n : Nat} {ds : List D}, okDs n ds → okDs (n + 1) ds
  | n, [], _ => okDn
  | n, d :: ds, h => by unfold okDs at h; exact okDc (okD_succ' h.1) (okDs_succ' h.2)
end
mutual
theorem okD_encC {r : Nat} : ∀ {n : Nat} {c : C}, okC r n c → okD (2 * n + 2) (encC c)
  | n, .tru, _ => by unfold encC; exact okDt (by simp) (okDc okDst okDn)
  | n, .fls, _ => by unfold encC; exact okDt (by simp) (okDc okDst okDn)
  | n, .less a b, _ => by unfold encC; exact okDt (by simp) (okDc okDst (okDc okDi (okDc okDi okDn)))
  | n, .same a b, _ => by unfold encC; exact okDt (by simp) (okDc okDst (okDc okDi (okDc okDi okDn)))
  | n, .emp a, _ => by unfold encC; exact okDt (by simp) (okDc okDst (okDc okDi okDn))
  | 0, .nt c, h => by unfold okC at h; exact h.elim
  | n + 1, .nt c, h => by
    unfold okC at h
    unfold encC
    have : okD (2 * n + 2 + 1) (encC c) := okD_succ' (okD_encC h)
    exact okDt (by simp) (okDc okDst (okDc this okDn))
  | 0, .all cs, h => by unfold okC at h; exact h.elim
  | n + 1, .all cs, h => by
    unfold okC at h
    unfold encC
    exact okDt (by simp) (okDc okDst (okDc (okDt (by rw [encCs_length]; exact h.1) (okDs_encCs h.2)) okDn))
  | 0, .any cs, h => by unfold okC at h; exact h.elim
  | n + 1, .any cs, h => by
    unfold okC at h
    unfold encC
    exact okDt (by simp) (okDc okDst (okDc (okDt (by rw [encCs_length]; exact h.1) (okDs_encCs h.2)) okDn))
theorem okDs_encCs {r : Nat} : ∀ {n : Nat} {cs : List C}, okCs r n cs → okDs (2 * n + 2) (encCs cs)
  | n, [], _ => by unfold encCs; exact okDn
  | n, c :: cs, h => by
    unfold okCs at h
    unfold encCs
    exact okDc (okD_encC h.1) (okDs_encCs h.2)
end
theorem okD_encCase {r S n : Nat} {c : Case} (h : okCase r S n c) (hr : r ≤ 1000) : okD (2 * n + 3) (encCase c) := by
  refine okDt (by simp) (okDc (okD_encC h.cond) (okDc ?_ (okDc ?_ (okDc okDi okDn))))
  · exact okDt (by rw [List.length_map, h.mlen]; omega) (okDm fun _ _ => okDi)
  · refine okDt (by rw [List.length_map]; have := h.slen; omega) (okDm fun p _ => ?_)
    have : okD (2 * n + 1) (encSay p) := okDt (by simp) (okDc okDi (okDc okDi okDn))
    exact this
theorem okD_encM {n : Nat} {m : M} (h : okM n m) : okD (2 * n + 7) (Dv.encM m) := by
  have r := h.rmax
  refine okDt (by simp) (okDc okDi (okDc okDi (okDc ?_ okDn)))
  refine okDt (by rw [List.length_map]; have := h.smax; omega) (okDm fun s hs => ?_)
  refine okDt (by rw [List.length_map, h.all s hs]; have := h.tmax; omega) (okDm fun cs hcs => ?_)
  have hc := h.cases s hs cs hcs
  exact okDt (by rw [List.length_map]; omega) (okDm fun c hc' => okD_encCase (hc.2 c hc') r)
theorem okM_mono {n n' : Nat} {m : M} (h : okM n m) (l : n ≤ n') : okM n' m :=
  ⟨h.tags, h.tmax, h.rmax, h.some, h.smax, h.all, fun s hs cs hcs => ⟨(h.cases s hs cs hcs).1, fun c hc => let k := (h.cases s hs cs hcs).2 c hc; ⟨okC_mono k.cond l, k.mlen, k.mv, k.say, k.slen, k.nxt⟩⟩⟩
theorem turnM_turn (m : M) : turnM (turnM m) = m := by
  have e : (List.map (List.map turnCase)) ∘ (List.map (List.map turnCase)) = id := funext fun s => by
    show List.map (List.map turnCase) (List.map (List.map turnCase) s) = s
    rw [List.map_map]
    have e2 : (List.map turnCase) ∘ (List.map turnCase) = id := funext fun cs => by
      show List.map turnCase (List.map turnCase cs) = cs
      rw [List.map_map]
      have e3 : turnCase ∘ turnCase = id := funext fun c => by
        show ({ c with cond := turnC (turnC c.cond) } : Case) = c
        rw [turnC_turn]
      rw [e3, List.map_id]
    rw [e2, List.map_id]
  show ({ m with steps := (m.steps.map (List.map (List.map turnCase))).map (List.map (List.map turnCase)) } : M) = m
  rw [List.map_map, e, List.map_id]
end Dv

/-! Cases that are parted, and cases that never come. -/
namespace Dv
open PySem PySem.Spec PyProof.Rows L2 GxR Gx
abbrev Rest := List Int × List (Int × Int) × Nat
def restC (c : Case) : Rest := (c.moves, c.says, c.nxt)
def outC (v : Int) (h : List (Option Int)) (cs : List Case) : Option Rest := (cs.find? (holdC v h)).map restC
theorem outC_append (v : Int) (h : List (Option Int)) (a b : List Case) : outC v h (a ++ b) = (outC v h a).or (outC v h b) := by
  unfold outC
  rw [List.find?_append]
  cases a.find? (holdC v h) <;> rfl
theorem readM_out {m m' : M} {st : Nat} {h : List (Option Int)} {e : Nat × Int} (q : outC e.2 h (m.cases st e.1) = outC e.2 h (m'.cases st e.1)) : readM m st h e = readM m' st h e := by
  unfold outC at q
  unfold readM
  cases h1 : (m.cases st e.1).find? (holdC e.2 h) with
  | none =>
    rw [h1] at q
    cases h2 : (m'.cases st e.1).find? (holdC e.2 h) with
    | none => rfl
    | some d => rw [h2] at q; cases q
  | some c =>
    rw [h1] at q
    cases h2 : (m'.cases st e.1).find? (holdC e.2 h) with
    | none => rw [h2] at q; cases q
    | some d =>
      rw [h2] at q
      have r : restC c = restC d := Option.some.inj q
      obtain ⟨c1, c2, c3, c4⟩ := c
      obtain ⟨d1, d2, d3, d4⟩ := d
      unfold restC at r
      simp only [Prod.mk.injEq] at r
      obtain ⟨rfl, rfl, rfl⟩ := r
      rfl
/-- two machines with the same answers everywhere -/
structure SameM (m m' : M) : Prop where
  tags : m'.tags = m.tags
  regs : m'.regs = m.regs
  len : m'.steps.length = m.steps.length
  out : ∀ st t v h, outC v h (m'.cases st t) = outC v h (m.cases st t)
theorem SameM.read {m m' : M} (s : SameM m m') (st : Nat) (h : List (Option Int)) (e : Nat × Int) : readM m' st h e = readM m st h e := readM_out (s.out _ _ _ _)
theorem SameM.refl (m : M) : SameM m m := ⟨rfl, rfl, rfl, fun _ _ _ _ => rfl⟩
theorem SameM.trans {m m' m'' : M} (a : SameM m m') (b : SameM m' m'') : SameM m m'' := ⟨b.tags.trans a.tags, b.regs.trans a.regs, b.len.trans a.len, fun st t v h => (b.out st t v h).trans (a.out st t v h)⟩
theorem SameM.answers {m m' : M} (s : SameM m m') : ∀ (c : Ct) (es : List (Nat × Int)), answersM m' c es = answersM m c es
  | c, [] => rfl
  | c, e :: es => by
    show (readM m' c.1 c.2 e).2.2 :: answersM m' (stepM m' c e) es = (readM m c.1 c.2 e).2.2 :: answersM m (stepM m c e) es
    have e1 : stepM m' c e = stepM m c e := by unfold stepM; rw [s.read]
    rw [s.read, e1, s.answers _ es]
theorem SameM.okCt {m m' : M} (s : SameM m m') {c : Ct} (h : okCt m c) : okCt m' c := ⟨by rw [s.len]; exact h.st, by rw [s.regs]; exact h.len⟩
theorem hold_less (v : Int) (h : List (Option Int)) (a b : Int) : hold v h (.less a b) = ltO (worth v h a) (worth v h b) := by unfold hold; rfl
theorem hold_same (v : Int) (h : List (Option Int)) (a b : Int) : hold v h (.same a b) = eqO (worth v h a) (worth v h b) := by unfold hold; rfl
theorem hold_emp (v : Int) (h : List (Option Int)) (a : Int) : hold v h (.emp a) = (worth v h a).isNone := by unfold hold; rfl
theorem hold_nt (v : Int) (h : List (Option Int)) (c : C) : hold v h (.nt c) = !hold v h c := by conv => lhs; unfold hold
theorem hold_all (v : Int) (h : List (Option Int)) (cs : List C) : hold v h (.all cs) = holdA v h cs := by conv => lhs; unfold hold
theorem hold_any (v : Int) (h : List (Option Int)) (cs : List C) : hold v h (.any cs) = holdE v h cs := by conv => lhs; unfold hold
theorem holdA_nil (v : Int) (h : List (Option Int)) : holdA v h [] = true := by unfold holdA; rfl
theorem holdE_nil (v : Int) (h : List (Option Int)) : holdE v h [] = false := by unfold holdE; rfl
/-! the four parts -/
def partsC (a b : Int) : List C := [.less a b, .same a b, .less b a, .any [.emp a, .emp b]]
theorem parts_some (a b v : Int) (h : List (Option Int)) : ∃ p ∈ partsC a b, hold v h p = true := by
  unfold partsC
  cases ha : worth v h a with
  | none => exact ⟨.any [.emp a, .emp b], by simp, by rw [hold_any, holdE_cons, hold_emp, ha]; rfl⟩
  | some x =>
    cases hb : worth v h b with
    | none => exact ⟨.any [.emp a, .emp b], by simp, by rw [hold_any, holdE_cons, holdE_cons, hold_emp, hold_emp, hb]; simp⟩
    | some y =>
      rcases Int.lt_trichotomy x y with c | c | c
      · exact ⟨.less a b, by simp, by rw [hold_less, ha, hb]; exact decide_eq_true c⟩
      · exact ⟨.same a b, by simp, by rw [hold_same, ha, hb]; exact decide_eq_true c⟩
      · exact ⟨.less b a, by simp, by rw [hold_less, ha, hb]; exact decide_eq_true c⟩
def partCase (c : Case) (p : C) : Case := { c with cond := .all [c.cond, p] }
theorem hold_part (v : Int) (h : List (Option Int)) (c : Case) (p : C) : holdC v h (partCase c p) = (holdC v h c && hold v h p) := by
  show hold v h (.all [c.cond, p]) = (hold v h c.cond && hold v h p)
  rw [hold_all, holdA_cons, holdA_cons, holdA_nil, Bool.and_true]
theorem out_parted {c : Case} {a b : Int} {fs : List Case} (h1 : ∀ f ∈ fs, ∃ p, f = partCase c p) (h2 : ∀ p ∈ partsC a b, partCase c p ∈ fs) (v : Int) (h : List (Option Int)) : outC v h fs = outC v h [c] := by
  unfold outC
  cases hc : holdC v h c with
  | false =>
    rw [List.find?_eq_none.mpr fun f hf => ?_, List.find?_eq_none.mpr fun f hf => ?_]
    · obtain rfl := List.mem_singleton.mp hf
      rw [hc]
      exact Bool.false_ne_true
    · obtain ⟨p, rfl⟩ := h1 f hf
      rw [hold_part, hc]
      exact Bool.false_ne_true
  | true =>
    have e2 : ([c] : List Case).find? (holdC v h) = some c := List.find?_cons_of_pos hc
    rw [e2]
    obtain ⟨p, hp, hv⟩ := parts_some a b v h
    have hm := h2 p hp
    cases hf : fs.find? (holdC v h) with
    | none =>
      have := List.find?_eq_none.mp hf _ hm
      rw [hold_part, hc, hv] at this
      exact absurd rfl this
    | some f =>
      obtain ⟨p', rfl⟩ := h1 f (List.mem_of_find?_eq_some hf)
      rfl
/-! cases that never come -/
def neverC (a b : Int) : List C := [.all [.less a b, .less b a], .less a a, .all [.less a (-1), .less (-1) b, .nt (.less a b)], .all [.same a b, .less a b]]
theorem ltO_irr (x : Option Int) : ltO x x = false := by
  cases x with
  | none => rfl
  | some z => show decide (z < z) = false; exact decide_eq_false (by omega)
theorem never_none (a b v : Int) (h : List (Option Int)) : ∀ p ∈ neverC a b, hold v h p = false := by
  intro p hp
  unfold neverC at hp
  simp only [List.mem_cons, List.not_mem_nil, or_false] at hp
  rcases hp with rfl | rfl | rfl | rfl
  · rw [hold_all, holdA_cons, holdA_cons, holdA_nil, hold_less, hold_less]
    cases worth v h a with
    | none => rfl
    | some x =>
      cases worth v h b with
      | none => rfl
      | some y =>
        show (decide (x < y) && (decide (y < x) && true)) = false
        by_cases c : x < y
        · rw [decide_eq_false (by omega : ¬ y < x)]; simp
        · rw [decide_eq_false c]; rfl
  · rw [hold_less]
    exact ltO_irr _
  · rw [hold_all, holdA_cons, holdA_cons, holdA_cons, holdA_nil, hold_less, hold_less, hold_nt, hold_less, worth_new]
    cases worth v h a with
    | none => rfl
    | some x =>
      cases worth v h b with
      | none => show (decide (x < v) && (false && _)) = false; rw [Bool.false_and, Bool.and_false]
      | some y =>
        show (decide (x < v) && (decide (v < y) && ((!decide (x < y)) && true))) = false
        by_cases c : x < v
        · by_cases d : v < y
          · rw [decide_eq_true (by omega : x < y)]; simp
          · rw [decide_eq_false d]; simp
        · rw [decide_eq_false c]; rfl
  · rw [hold_all, holdA_cons, holdA_cons, holdA_nil, hold_same, hold_less]
    cases worth v h a with
    | none => rfl
    | some x =>
      cases worth v h b with
      | none => rfl
      | some y =>
        show (decide (x = y) && (decide (x < y) && true)) = false
        by_cases c : x = y
        · rw [decide_eq_false (by omega : ¬ x < y)]; simp
        · rw [decide_eq_false c]; rfl
theorem out_never {c : Case} {a b : Int} (hc : c.cond ∈ neverC a b) (v : Int) (h : List (Option Int)) : outC v h [c] = none := by
  unfold outC
  rw [List.find?_cons_of_neg (by unfold holdC; rw [never_none a b v h _ hc]; exact Bool.false_ne_true)]
  rfl
/-! a machine with other cases at one place -/
def putCs (m : M) (st t : Nat) (cs : List Case) : M := { m with steps := m.steps.set st ((m.steps.getD st []).set t cs) }
theorem putCs_cases (m : M) (st t : Nat) (cs : List Case) (hs : st < m.steps.length) (ht : t < (m.steps.getD st []).length) (st' t' : Nat) : (putCs m st t cs).cases st' t' = if st' = st ∧ t' = t then cs else m.cases st' t' := by
  unfold M.cases
  show ((m.steps.set st ((m.steps.getD st []).set t cs)).getD st' []).getD t' [] = _
  rw [List.getD_eq_getElem?_getD (l := m.steps.set _ _), List.getElem?_set]
  by_cases e : st = st'
  · subst e
    rw [if_pos rfl, if_pos hs]
    show (((m.steps.getD st []).set t cs)).getD t' [] = _
    rw [List.getD_eq_getElem?_getD (l := List.set _ _ _), List.getElem?_set]
    by_cases e2 : t = t'
    · subst e2
      rw [if_pos rfl, if_pos ht, if_pos ⟨rfl, rfl⟩]
      rfl
    · rw [if_neg e2, if_neg (fun z => e2 z.2.symm), ← List.getD_eq_getElem?_getD]
  · rw [if_neg e, if_neg (fun z => e z.1.symm), ← List.getD_eq_getElem?_getD]
theorem putCs_same {m : M} {st t : Nat} {cs : List Case} (hs : st < m.steps.length) (ht : t < (m.steps.getD st []).length) (h : ∀ v hh, outC v hh cs = outC v hh (m.cases st t)) : SameM m (putCs m st t cs) :=
  ⟨rfl, rfl, by unfold putCs; rw [List.length_set], fun st' t' v hh => by
    rw [putCs_cases m st t cs hs ht]
    split
    · rename_i z
      rw [z.1, z.2]
      exact h v hh
    · rfl⟩
theorem putCs_ok {m : M} {n st t : Nat} {cs : List Case} (ok : okM n m) (hs : st < m.steps.length) (hl : cs.length ≤ 1000) (hc : ∀ c ∈ cs, okCase m.regs m.steps.length (n + 1) c) : okM (n + 1) (putCs m st t cs) := by
  have ok' := okM_mono ok (n' := n + 1) (by omega)
  have es : m.steps.getD st [] = m.steps[st] := by rw [List.getD_eq_getElem?_getD, List.getElem?_eq_getElem hs]; rfl
  refine ⟨ok.tags, ok.tmax, ok.rmax, by unfold putCs; rw [List.length_set]; exact ok.some, by unfold putCs; rw [List.length_set]; exact ok.smax, fun s hs' => ?_, fun s hs' ds hds => ?_⟩
  · rcases List.mem_or_eq_of_mem_set hs' with h | rfl
    · exact ok.all s h
    · rw [List.length_set, es]
      exact ok.all _ (List.getElem_mem hs)
  · show ds.length ≤ 1000 ∧ ∀ c ∈ ds, okCase m.regs (m.steps.set st _).length (n + 1) c
    rw [List.length_set]
    rcases List.mem_or_eq_of_mem_set hs' with h | rfl
    · exact ok'.cases s h ds hds
    · rcases List.mem_or_eq_of_mem_set hds with h | rfl
      · rw [es] at h
        exact ok'.cases _ (List.getElem_mem hs) ds h
      · exact ⟨hl, hc⟩
theorem putCs_wid {m : M} {w st t : Nat} {cs : List Case} (hw : wid w m) (hs : st < m.steps.length) {w' : Nat} (hl : cs.length ≤ w') (l : w ≤ w') : wid w' (putCs m st t cs) := by
  have es : m.steps.getD st [] = m.steps[st] := by rw [List.getD_eq_getElem?_getD, List.getElem?_eq_getElem hs]; rfl
  intro s hs' ds hds
  rcases List.mem_or_eq_of_mem_set hs' with h | rfl
  · exact Nat.le_trans (hw s h ds hds) l
  · rcases List.mem_or_eq_of_mem_set hds with h | rfl
    · rw [es] at h
      exact Nat.le_trans (hw _ (List.getElem_mem hs) ds h) l
    · exact hl
theorem set_split {α : Type} (l : List α) (i : Nat) (a : α) (h : i < l.length) : l.set i a = l.take i ++ [a] ++ l.drop (i + 1) := by
  rw [List.set_eq_take_append_cons_drop, if_pos h, List.append_assoc]
  rfl
end Dv

/-! Set comprehensions of ints. -/
namespace Dv
open PySem PySem.Spec PyProof.Rows L2 GxR Gx
def tScI (w : World) (wi : TI) (g : TG) (tt : TT) (te : TE) (own : List Nat) : TE := fun σ H Q =>
  wi σ H fun J Ha => ∀ Z, Ha Z = none →
    ∃ W : Nat → Nat → Hp → Prop, (∃ m, W 0 m (upd Ha Z (SetO w Z (fun _ => false) 0))) ∧
      ∀ i m Hb, W i m Hb → (J.stop i Hb ∧ Q (.ref Z) Hb) ∨
        (J.go i Hb ∧ ∃ R : Hp → Prop, (∀ Hc, R Hc → ∃ m', m' < m ∧ W (i + 1) m' Hc) ∧
          ∀ x Hc, J.yld i Hb x Hc → g x (wipe σ own) Hc fun σ2 Hd => wipe σ2 own = wipe σ own ∧ tt σ2 Hd fun b He =>
            if b = true then te σ2 He fun y Hf => ∃ (k : Int) (S : Int → Bool) (n : Nat), y = .int k ∧ Hf Z = some (SetO w Z S n) ∧ n + 1 < scanBound ∧
              R (upd Hf Z (SetO w Z (fun j => S j || decide (j = k)) (if S k = true then n else n + 1)))
            else R He)
section
variable {X : Cx}
theorem addI_goes {pins : List (Addr × Obj)} {σ : L2.St} {H : Hp} {s : Shared} {E : Value → Shared → Prop} {Z : Addr} {S : Int → Bool} {n : Nat} {k : Int} {tk : Tok} {F : Value → Shared → Prop}
    (inv : Inv X pins σ H s) (at_ : H Z = some (SetO X.w Z S n)) (few : n + 1 < scanBound)
    (go : ∀ s', Inv X pins σ (upd H Z (SetO X.w Z (fun j => S j || decide (j = k)) (if S k = true then n else n + 1))) s' → F .none s') :
    wpAny (model X.prog X.w) X.A (call (.builtin "set.add") [.ref Z, .int k tk]) F E s :=
  setR_add (setO_get inv at_) few fun hp same made =>
    go _ (inv.write (e := Z) (t' := s.toks + 1) (by rw [at_]; trivial) (.inl rfl) (fun b u nb hu => (same.2 b nb).trans hu) (let ⟨o, _, _, _, ho, _⟩ := made; ⟨o, ho⟩) (setO_new made))
/-- a set comprehension whose members are ints, in a def -/
theorem pe_scI {elt tg iter : Expr} {ifs : List Expr} {scope : Scope} {own : List (PySem.Str × Nat)} {pos : Pos} {wi : TI} {g : TG} {tt : TT} {te : TE}
    (calm : X.calm = true) (nodup : X.N.Nodup) (pi : PI X tg iter wi) (blk : BlkOk X.N X.env.scope scope own)
    (pgs : ∀ (s : Shared) (H : Hp) (C : Addr) (cl : List (PySem.Str × Addr)) (fp : List Addr), PG (X.blk s H scope (compEnvC scope cl C X.env) fp) tg g)
    (ptt : ∀ (s : Shared) (H : Hp) (C : Addr) (cl : List (PySem.Str × Addr)) (fp : List Addr), PTs (X.blk s H scope (compEnvC scope cl C X.env) fp) ifs tt)
    (pel : ∀ (s : Shared) (H : Hp) (C : Addr) (cl : List (PySem.Str × Addr)) (fp : List Addr), PE (X.blk s H scope (compEnvC scope cl C X.env) fp) elt te)
    (fold : ∀ x, foldedSetIterable iter X.env x = pure x := by intro _; rfl) :
    PE X (.SetComp elt [⟨tg, iter, ifs, 0⟩] scope pos) (tScI X.w wi g tt te (own.map (·.2))) := by
  refine ⟨fun pins s σ H Q inv h => ?_⟩
  rw [PpSet.eval_SetComp]
  have captured : ∀ y ∈ scope.names, y.2 = .free → ∃ c, X.env.cells.lookup y.1 = some c := fun y ym ye =>
    (blk.free y ym ye).elim (fun z => inv.ok.has _ (.inl z)) (fun z => inv.ok.has _ (.inr z))
  refine wpAny_comprehension_free (use := none) rfl fold (closure_ok captured) blk.kind (fun y ym ye => by rw [blk.uniq y ym, ye])
    (thn (pi.run pins s σ H _ inv h) fun iv sa ha => thn ha fun jv sb hb => ?_)
  obtain ⟨ita, fp, tn, J, Hb, ej, invb, TT, stb, fpb, plan⟩ := hb
  subst ej
  refine PpSet.newSet_ok (newEnv_comp ?_)
  generalize eZ : sb.heap.objs.size = Z
  have free : Hb Z = none := invb.hok.fresh (Nat.le_of_eq eZ)
  obtain ⟨W, ⟨m0, w0⟩, turn⟩ := plan Z free
  generalize esc : ({ sb with heap := sb.heap.push { cls := .type "set", dict := none, data := .set #[] 0 (.fresh 0 0 (!X.w.params.followText "set-order")) } } : Shared) = sc
  have invc : Inv X pins σ (upd Hb Z (SetO X.w Z (fun _ => false) 0)) sc := by
    rw [← esc]
    exact invb.laid (t' := sb.toks) (fun b o e => Heap.get?_push_of_some _ e) (Nat.le_of_eq eZ) (by rw [← eZ]; exact setO_new (setR_fresh X.w))
  have hc : sc.heap = sb.heap.push { cls := .type "set", dict := none, data := .set #[] 0 (.fresh 0 0 (!X.w.params.followText "set-order")) } := by rw [← esc]
  have below : ∀ b ∈ fp, b < sb.heap.objs.size := fun b bm => let ⟨_, eo, _⟩ := TT.obj _ _ stb b bm; Heap.lt_size eo
  have fpc : ∀ b ∈ fp, FpOk X pins (upd Hb Z (SetO X.w Z (fun _ => false) 0)) b ∧ b < sc.heap.objs.size := fun b bm => by
    have lt := below b bm
    refine ⟨⟨(upd_ne (by rw [← eZ]; exact Nat.ne_of_lt lt)).trans (fpb b bm).1, (fpb b bm).2⟩, ?_⟩
    rw [hc, Heap.size_push]
    exact Nat.lt_succ_of_lt lt
  have stc : tn 0 sc.heap := TT.keep _ _ _ stb fun b _ o e => by rw [hc]; exact Heap.get?_push_of_some _ e
  have invd := block_start invc blk nodup fpc
  have pgr := pgs sc (upd Hb Z (SetO X.w Z (fun _ => false) 0)) sc.heap.objs.size (cellsFrom (sc.heap.objs.size + 1) scope.names (cloFrom X.env.cells scope.names [])) fp
  have ptr := ptt sc (upd Hb Z (SetO X.w Z (fun _ => false) 0)) sc.heap.objs.size (cellsFrom (sc.heap.objs.size + 1) scope.names (cloFrom X.env.cells scope.names [])) fp
  have per := pel sc (upd Hb Z (SetO X.w Z (fun _ => false) 0)) sc.heap.objs.size (cellsFrom (sc.heap.objs.size + 1) scope.names (cloFrom X.env.cells scope.names [])) fp
  have none_ : ∀ b ∈ fp, (upd Hb Z (SetO X.w Z (fun _ => false) 0)) b = none := fun b bm => (fpc b bm).1.1
  show codeAny _ _ (.compStart (.SetComp elt [⟨tg, iter, ifs, 0⟩] scope pos) 0 (.ref ita) (.ref Z) (compEnvC scope (cellsFrom (sc.heap.objs.size + 1) scope.names (cloFrom X.env.cells scope.names [])) sc.heap.objs.size X.env)) (compPost (model X.prog X.w) X.A X.xe none (EP X pins σ Q) (.ref Z) sc.heap.objs.size) { sc with heap := pushCells (sc.heap.push { cls := .type "dict", data := .dict #[] }) scope.names }
  generalize eE : compEnvC scope (cellsFrom (sc.heap.objs.size + 1) scope.names (cloFrom X.env.cells scope.names [])) sc.heap.objs.size X.env = en at invd pgr ptr per ⊢
  have enl : en.locals = sc.heap.objs.size := by rw [← eE]; rfl
  generalize eH : upd Hb Z (SetO X.w Z (fun _ => false) 0) = Hc at invc invd pgr ptr per w0 none_ fpc
  generalize esd : ({ sc with heap := pushCells (sc.heap.push { cls := .type "dict", data := .dict #[] }) scope.names } : Shared) = sd at invd ⊢
  have std : tn 0 sd.heap := TT.keep _ _ _ stc fun b _ o e => by rw [← esd]; exact pushCells_keeps _ _ _ _ (Heap.get?_push_of_some _ e)
  have stays : ∀ {σ' : L2.St} {H' : Hp} {s' : Shared}, Inv (X.blk sc Hc scope en fp) [] σ' H' s' → (∀ b ∈ fp, H' b = none) → ∀ b ∈ fp, FpOk (X.blk sc Hc scope en fp) [] H' b :=
    fun {σ' H' s'} iv nn b bm => ⟨nn b bm, (iv.ok.exf b bm).1, iv.ok.exfs b bm, .inl bm, fun x c ec => (iv.ok.exf b bm).2 x c ec, fun p pm => absurd (show p ∈ ([] : List (Addr × Obj)) ++ [] from pm) (by simp)⟩
  have whole : codeAny (model X.prog X.w) X.A (.compLoop (.SetComp elt [⟨tg, iter, ifs, 0⟩] scope pos) 0 (.ref ita) (.ref Z) en) (compPost (model X.prog X.w) X.A X.xe none (EP X pins σ Q) (.ref Z) sc.heap.objs.size) sd := by
    refine PpSet.compLoopS_any (fun n s' => ∃ i H', Inv (X.blk sc Hc scope en fp) [] (wipe σ (own.map (·.2))) H' s' ∧ tn i s'.heap ∧ (∀ b ∈ fp, H' b = none) ∧ W i n H') ?_ m0 ⟨0, Hc, invd, std, none_, w0⟩
    rintro n se ⟨i, He, inve, ste, nonee, we⟩
    rcases turn i n He we with ⟨halt, done⟩ | ⟨going, R, back, step⟩
    · refine thnF (TT.done (X.blk sc Hc scope en fp) rfl rfl rfl calm i [] se _ He (fun _ _ => False) inve (stays inve nonee) ste halt) fun r sf ⟨er, invf⟩ => ?_
      subst er
      have invg : Inv X pins σ He sf := invc.call' (ch := fp) invf.os invf.base invf.hok invf.bare fun b bm => ⟨(fpc b bm).1.2.2.2.1, (fpc b bm).1.2.1, (fpc b bm).1.2.2.2.2.1, (fpc b bm).1.2.2.2.2.2⟩
      have gone : He sc.heap.objs.size = none := by rw [← enl]; exact invf.free
      obtain ⟨mm, ns, _⟩ := invf.loc
      have ns' : sf.heap.Ns en.locals mm := ns
      rw [enl] at ns'
      refine ⟨mm, ns', fun hh sm => ?_⟩
      obtain ⟨g0, g1, g2, g3, g4, g5⟩ := invc.fpOk (Nat.le_refl _) gone
      exact ⟨.ref Z, He, invg.turned (t' := sf.toks) (fun b o hb e => (sm.2 b hb).trans e) g0 g1 g3 g4 g5, rfl, done⟩
    · refine thnF (TT.item (X.blk sc Hc scope en fp) rfl rfl rfl calm i [] se _ He (fun _ _ => False) inve (stays inve nonee) ste going) fun r sf ⟨u, er, hf⟩ => ?_
      subst er
      refine thnF hf fun _ sg ⟨x, Hg, invg, rg, yg, stg, noneg⟩ => ?_
      refine thnF (pgr.run _ sg _ Hg x u _ (invg.pinned (stays invg noneg) (TT.obj _ _ stg)) rg (step x Hg yg)) fun _ sh ⟨σh, Hh, invh, wh, qh⟩ => ?_
      refine thnF (ptr.run _ sh σh Hh _ invh qh) fun b si ⟨Hi, invi, qi⟩ => ?_
      have over : ∀ {s' : Shared} {H' : Hp}, Inv (X.blk sc Hc scope en fp) ([] ++ pinsAt fp sg.heap) σh H' s' → R H' →
          ∃ m, m < n ∧ ∃ i H', Inv (X.blk sc Hc scope en fp) [] (wipe σ (own.map (·.2))) H' s' ∧ tn i s'.heap ∧ (∀ b ∈ fp, H' b = none) ∧ W i m H' := fun {s' H'} iv rr => by
        obtain ⟨m', less, w'⟩ := back H' rr
        have pinned : ∀ b ∈ fp, ∀ o, sg.heap.get? b = some o → s'.heap.get? b = some o ∧ H' b = none := fun b bm o eo =>
          ⟨(iv.pin (b, o) (List.mem_append_right _ (List.mem_append_right _ (mem_pinsAt bm eo)))).1, (iv.pin (b, o) (List.mem_append_right _ (List.mem_append_right _ (mem_pinsAt bm eo)))).2.1⟩
        have ll : (wipe σ (own.map (·.2))).length = σh.length := (congrArg List.length wh.symm).trans (wipe_length _ _)
        refine ⟨m', less, i + 1, H', (iv.unpinned (pins := [])).weak ll (fun j v ev => ?_), TT.keep _ _ _ stg fun b bm o eo => (pinned b bm o eo).1, fun b bm => ?_, w'⟩
        · rw [← wh] at ev
          exact (wipe_some ev).1
        · obtain ⟨o, eo, _⟩ := TT.obj _ _ stg b bm
          exact (pinned b bm o eo).2
      cases b with
      | false =>
        rw [if_neg Bool.false_ne_true] at qi ⊢
        exact over invi qi
      | true =>
        rw [if_pos rfl] at qi ⊢
        refine thnF (per.run _ si σh Hi _ invi qi) fun z sj ⟨yv, Hj, invj, rj, kk, SS, nn, ey, atZ, few, rr⟩ => ?_
        subst ey
        obtain ⟨tk, rfl⟩ := (show ∃ tk, z = Value.int kk tk from rj)
        exact addI_goes (X := X.blk sc Hc scope en fp) invj atZ few fun sk invk => over invk rr
  exact PpSet.codeAny_compStart_set whole (TT.self X.A 0 _ _ _ std whole)
end
end Dv

/-! set(xs) of a list of hit. -/
namespace Dv
open PySem PySem.Spec PyProof.Rows L2 GxR Gx
section
variable {P : Program} {w : World} {A : Around} {E : Value → Shared → Prop} {s : Shared}
/-- the object of a new set -/
abbrev setObj (w : World) : Obj := { cls := .type "set", dict := none, data := .set #[] 0 (.fresh 0 0 (!w.params.followText "set-order")) }
set_option maxHeartbeats 8000000 in
theorem set_of_list {l : Addr} {items : Array Value} (ns : List Int) {Q : Value → Shared → Prop} (calm : A.handled = none) (isl : s.heap.IsList l items) (hit : IntsAre items.toList ns) (few : ns.length + 1 < scanBound)
    (k : ∀ (h' : Heap) (tk c : Nat), SetR w h' s.heap.objs.size (fun j => decide (j ∈ ns)) c → c ≤ ns.length → (∀ b o, s.heap.get? b = some o → h'.get? b = some o) →
      Q (.ref s.heap.objs.size) { s with heap := h', toks := tk }) : wpAny (model P w) A (call (.type "set") [.ref l]) Q E s := by
  have len : items.size = ns.length := by
    have z := IntsAre.length hit
    rwa [Array.length_toList] at z
  obtain ⟨cc, tl, mro⟩ := F.called_set.mro
  have made := F.called_set.made
  have subt := F.called_set.sub
  refine wpAny_call (codeAny_of_tree (show wpAny _ _ (callAny (.type "set") _) _ _ _ from wpAny_pure ⟨Code.quiet_builtin _ (by decide +kernel), codeAny_builtin F.entry_type_call ?_⟩))
  rw [Around.under_plain (weight_type_call_type "set" [.ref l] []) rfl]
  have nt := F.called_set.notType
  have cr := F.called_set.canCreate
  have tc := F.typeCall_set_1 (.ref l)
  repeat (any_goals (first | assumption | wp_step))
  refine codeAny_mono (code_set_led1 (.ref l) (E := E) (Q₁ := fun obj sa => obj = .ref s.heap.objs.size ∧ sa = { s with heap := s.heap.push (setObj w) }) ⟨rfl, rfl⟩) fun r sb hb => ?_
  rcases r with e | fl
  · exact hb
  · cases fl with
    | ret obj =>
      obtain ⟨rfl, rfl⟩ := hb
      have atS : (s.heap.push (setObj w)).get? s.heap.objs.size = some (setObj w) := Heap.get?_push_size _ rfl
      have isS : Shared.TypeIs { s with heap := s.heap.push (setObj w) } (.ref s.heap.objs.size) "set" := ⟨_, atS, rfl⟩
      have look := F.called_set.init.lookup
      have bnd := F.called_set.init.bind (.ref s.heap.objs.size)
      repeat (any_goals (first | assumption | wp_step))
      refine codeAny_mono (codeAny_call_builtin (R := wants (fun r sc => r = .none ∧ ∃ h' tk c, sc = { s with heap := h', toks := tk } ∧ SetR w h' s.heap.objs.size (fun j => decide (j ∈ ns)) c ∧ c ≤ ns.length ∧ (∀ b o, s.heap.get? b = some o → h'.get? b = some o)) E)
        F.called_set.init.plain F.entry_set_init (check_set_init_1 isS ?_)) fun rb sc hc => ?_
      · obtain ⟨⟨ocls, odict, odata, oslots⟩, ol, oc, nl, od⟩ := isl
        simp only at oc od
        subst oc
        subst od
        have ol' : (s.heap.push (setObj w)).get? l = some { cls := .type "list", dict := odict, data := .seq items nl, slots := oslots } := Heap.get?_push_of_some _ ol
        have s1 := F.sub_list_set
        have s2 := F.sub_list_frozenset
        have nd : (Value.type "list" == Value.type "dict") = false := by decide
        have isl1 : (s.heap.push (setObj w)).IsList l items := ⟨_, ol', rfl, nl, rfl⟩
        unfold Builtin.«set.__init__» noKeywords Builtin.Frozenset.updateFrom
        generalize hPI : pyIter = PI
        wp_walk
        subst hPI
        refine wpAny_pyIter_list isl1 (wpAny_bind (wpAny_runValue ?_))
        have lt : l < s.heap.objs.size := Heap.lt_size ol
        have sz : (s.heap.push (setObj w)).objs.size = s.heap.objs.size + 1 := Heap.size_push ..
        have neI : l ≠ (s.heap.push (setObj w)).objs.size := by rw [sz]; exact Nat.ne_of_lt (Nat.lt_succ_of_lt lt)
        have notin : s.heap.objs.size ∉ [(s.heap.push (setObj w)).objs.size, l] := by
          intro z
          rcases List.mem_cons.mp z with e1 | e1
          · rw [sz] at e1; exact absurd e1 (by omega)
          · rw [← List.mem_singleton.mp e1] at lt; exact Nat.lt_irrefl _ lt
        have vals : ∀ (i : Nat) (v : Value), items[i]? = some v → ∃ k t, ns[i]? = some k ∧ v = .int k t := fun i v hv => by
          have hi : i < ns.length := len ▸ (Array.getElem?_eq_some_iff.mp hv).1
          obtain ⟨t, ev⟩ := PyProof.Rows.IntsAre.int_at hit i v (by rw [Array.getElem?_toList]; exact hv)
          exact ⟨ns[i], t, List.getElem?_eq_getElem hi, by rw [ev, List.getD_eq_getElem?_getD, List.getElem?_eq_getElem hi] <;> rfl⟩
        refine set_update_ints ((Walks.list (by simp [calm]) _ l neI items).toS) s.heap.objs.size notin ns len few vals (items.size - 0) 0 _ (by omega) (Nat.zero_le _) ⟨⟨_, Heap.get?_push_size _ rfl, rfl, rfl⟩, (isl1.push _)⟩ ?start ?stop
        case start => exact ⟨0, Nat.le_refl 0, setR_new_at (Heap.get?_push_of_some _ atS)⟩
        case stop =>
          rintro ⟨h', g2, d', tk', os'⟩ c' moved lc made'
          have eg : g2 = s.gens := moved.gens
          have ed : d' = s.drawn := moved.drawn
          have eo : os' = s.os := moved.os
          subst eg; subst ed; subst eo
          refine wpAny_pure (show wpAny _ _ (ret Value.none) _ _ _ from wpAny_pure ⟨rfl, h', tk', c', rfl, made', len ▸ lc, fun b o e => ?_⟩)
          have b0 : b < s.heap.objs.size := Heap.lt_size e
          refine moved.heap b o (fun z => ?_) (Heap.get?_push_of_some _ (Heap.get?_push_of_some _ e))
          rcases List.mem_cons.mp z with e1 | e1
          · rw [e1] at b0; exact Nat.lt_irrefl _ b0
          · rw [List.mem_singleton.mp e1, sz] at b0; exact Nat.lt_irrefl _ (Nat.lt_of_succ_lt b0)
      · rcases rb with e | fl2
        · exact hc
        · cases fl2 with
          | ret r =>
            obtain ⟨rfl, h', tk, c', rfl, hs', hl', hk'⟩ := hc
            repeat (any_goals (first | assumption | wp_step))
            exact k _ _ _ hs' hl' hk'
          | _ => exact hc.elim
    | _ => exact hb.elim
end
section
variable {X : Cx}
def rSetI (K : PySem.W.Frag) (w : World) : List V → Hp → VK → Prop := fun xs H Q => ∃ (l : Addr) (ns : List Int), xs = [V.ref l] ∧ SqL K H l (ns.map V.int) ∧ ns.length ≤ 3000 ∧
  ∀ p c, H p = none → c ≤ ns.length → Q (.ref p) (upd H p (SetO w p (fun j => decide (j ∈ ns)) c))
theorem cr_setI (calm : X.calm = true := by rfl) : CallR X (.type "set") (rSetI X.K X.w) := by
  intro pins s σ H xs us Q inv r h
  obtain ⟨l, ns, rfl, sq, few, q⟩ := h
  rw [Vals.ref1 r]
  obtain ⟨its, rv, isl, _⟩ := inv.list sq
  refine set_of_list ns (inv.ok.hd calm) isl.isList (by simpa using ints_of_vals rv) (by unfold scanBound; omega) fun h' tk c made lc keep => ?_
  exact ⟨.ref s.heap.objs.size, upd H s.heap.objs.size (SetO X.w s.heap.objs.size (fun j => decide (j ∈ ns)) c), inv.laid (t' := tk) keep (Nat.le_refl _) (setO_new made), rfl, q _ c (inv.hok.fresh (Nat.le_refl _)) lc⟩
end
end Dv

/-! Values at one spot. -/
namespace Dv
open PySem PySem.Spec PyProof.Rows L2 GxR Gx
/-- g keeps the order of the values that P tells -/
def Emb (P : Int → Prop) (g : Int → Int) : Prop := ∀ x y, P x → P y → (g x < g y ↔ x < y) ∧ (g x = g y ↔ x = y)
section
variable {P : Int → Prop} {g : Int → Int}
theorem ltO_on (e : Emb P g) {a b : Option Int} (ha : ∀ x, a = some x → P x) (hb : ∀ x, b = some x → P x) : ltO (a.map g) (b.map g) = ltO a b := by
  cases a with
  | none => rfl
  | some x =>
    cases b with
    | none => rfl
    | some y =>
      show decide (g x < g y) = decide (x < y)
      rw [decide_eq_decide]
      exact (e x y (ha x rfl) (hb y rfl)).1
theorem eqO_on (e : Emb P g) {a b : Option Int} (ha : ∀ x, a = some x → P x) (hb : ∀ x, b = some x → P x) : eqO (a.map g) (b.map g) = eqO a b := by
  cases a with
  | none => rfl
  | some x =>
    cases b with
    | none => rfl
    | some y =>
      show decide (g x = g y) = decide (x = y)
      rw [decide_eq_decide]
      exact (e x y (ha x rfl) (hb y rfl)).2
variable {v : Int} {h : List (Option Int)}
mutual
theorem hold_on (e : Emb P g) (hh : PH P h) (hv : P v) : ∀ c : C, hold (g v) (mapH g h) c = hold v h c
  | .tru => by unfold hold; rfl
  | .fls => by unfold hold; rfl
  | .less a b => by rw [hold_less, hold_less, worth_map, worth_map]; exact ltO_on e (fun x ex => worth_P hh hv ex) (fun x ex => worth_P hh hv ex)
  | .same a b => by rw [hold_same, hold_same, worth_map, worth_map]; exact eqO_on e (fun x ex => worth_P hh hv ex) (fun x ex => worth_P hh hv ex)
  | .emp a => by rw [hold_emp, hold_emp, worth_map]; cases worth v h a <;> rfl
  | .nt c => by rw [hold_nt, hold_nt, hold_on e hh hv c]
  | .all cs => by rw [hold_all, hold_all]; exact holdA_on e hh hv cs
  | .any cs => by rw [hold_any, hold_any]; exact holdE_on e hh hv cs
theorem holdA_on (e : Emb P g) (hh : PH P h) (hv : P v) : ∀ cs : List C, holdA (g v) (mapH g h) cs = holdA v h cs
  | [] => by rw [holdA_nil, holdA_nil]
  | c :: cs => by rw [holdA_cons, holdA_cons, hold_on e hh hv c, holdA_on e hh hv cs]
theorem holdE_on (e : Emb P g) (hh : PH P h) (hv : P v) : ∀ cs : List C, holdE (g v) (mapH g h) cs = holdE v h cs
  | [] => by rw [holdE_nil, holdE_nil]
  | c :: cs => by rw [holdE_cons, holdE_cons, hold_on e hh hv c, holdE_on e hh hv cs]
end
theorem readM_on (e : Emb P g) (hh : PH P h) (m : M) (st t : Nat) (hv : P v) :
    readM m st (mapH g h) (t, g v) = ((readM m st h (t, v)).1, mapH g (readM m st h (t, v)).2.1, (readM m st h (t, v)).2.2.map (chE g)) := by
  have ef : holdC (g v) (mapH g h) = holdC v h := funext fun c => hold_on e hh hv c.cond
  have e1 : readM m st (mapH g h) (t, g v) = (match (m.cases st t).find? (holdC (g v) (mapH g h)) with | none => (st, mapH g h, []) | some c => (c.nxt, keptC (g v) (mapH g h) c, saidC (g v) (mapH g h) c)) := rfl
  have e2 : readM m st h (t, v) = (match (m.cases st t).find? (holdC v h) with | none => (st, h, []) | some c => (c.nxt, keptC v h c, saidC v h c)) := rfl
  rw [e1, e2, ef]
  cases (m.cases st t).find? (holdC v h) with
  | none => rfl
  | some c =>
    show (c.nxt, keptC (g v) (mapH g h) c, saidC (g v) (mapH g h) c) = _
    rw [saidC_map, keptC_map]
end
/-- v1 and v2 stand alike to what is held -/
def SpotOf (h : List (Option Int)) (a b : Int) : Prop := ∀ y, some y ∈ h → y ≠ a ∧ y ≠ b ∧ (y < a ↔ y < b)
def swapV (a b : Int) : Int → Int := fun x => if x = a then b else x
theorem swap_at (a b : Int) : swapV a b a = b := if_pos rfl
theorem swap_emb {h : List (Option Int)} {a b : Int} (s : SpotOf h a b) : Emb (fun x => some x ∈ h ∨ x = a) (swapV a b) := by
  have out : ∀ x, some x ∈ h → swapV a b x = x := fun x hx => if_neg (s x hx).1
  rintro x y (hx | rfl) (hy | rfl)
  · rw [out x hx, out y hy]; exact ⟨Iff.rfl, Iff.rfl⟩
  · rw [out x hx, swap_at]
    have k := s x hx
    exact ⟨⟨fun z => k.2.2.mpr z, fun z => k.2.2.mp z⟩, ⟨fun z => absurd z k.2.1, fun z => absurd z k.1⟩⟩
  · rw [out y hy, swap_at]
    have k := s y hy
    refine ⟨⟨fun z => ?_, fun z => ?_⟩, ⟨fun z => absurd z.symm k.2.1, fun z => absurd z.symm k.1⟩⟩
    · have := k.2.2; have := k.1; omega
    · have := k.2.2; have := k.2.1; omega
  · exact ⟨by omega, by simp⟩
theorem swap_held {h : List (Option Int)} {a b : Int} (s : SpotOf h a b) : mapH (swapV a b) h = h := by
  unfold mapH
  conv => rhs; rw [← List.map_id h]
  refine List.map_congr_left fun o ho => ?_
  cases o with
  | none => rfl
  | some y => show some (swapV a b y) = some y; unfold swapV; rw [if_neg (s y ho).1]
theorem read_spot {h : List (Option Int)} {a b : Int} (s : SpotOf h a b) (m : M) (st t : Nat) : readM m st h (t, b) = ((readM m st h (t, a)).1, mapH (swapV a b) (readM m st h (t, a)).2.1, (readM m st h (t, a)).2.2.map (chE (swapV a b))) := by
  have e := readM_on (v := a) (swap_emb s) (fun x hx => .inl hx) m st t (.inr rfl)
  rw [swap_held s, swap_at] at e
  exact e
end Dv

/-! Ranks of held values. -/
namespace Dv
open PySem PySem.Spec PyProof.Rows L2 GxR Gx
def ins (x : Int) : List Int → List Int
  | [] => [x]
  | y :: l => if x < y then x :: y :: l else if x = y then y :: l else y :: ins x l
theorem mem_ins {x z : Int} : ∀ {l : List Int}, z ∈ ins x l ↔ z = x ∨ z ∈ l
  | [] => by simp [ins]
  | y :: l => by
    unfold ins
    split
    · simp
    · split
      · next h => simp [h]
      · rw [List.mem_cons, mem_ins, List.mem_cons]
        constructor
        · rintro (h | h | h)
          · exact .inr (.inl h)
          · exact .inl h
          · exact .inr (.inr h)
        · rintro (h | h | h)
          · exact .inr (.inl h)
          · exact .inl h
          · exact .inr (.inr h)
theorem ins_sorted {x : Int} : ∀ {l : List Int}, l.Pairwise (· < ·) → (ins x l).Pairwise (· < ·)
  | [], _ => by simp [ins]
  | y :: l, h => by
    have h' := List.pairwise_cons.mp h
    unfold ins
    split
    · next c =>
      refine List.pairwise_cons.mpr ⟨fun z hz => ?_, h⟩
      rcases List.mem_cons.mp hz with e | e
      · omega
      · have := h'.1 z e
        omega
    · split
      · exact h
      · refine List.pairwise_cons.mpr ⟨fun z hz => ?_, ins_sorted h'.2⟩
        rcases mem_ins.mp hz with e | e
        · omega
        · exact h'.1 z e
theorem insN_len {x : Int} : ∀ {l : List Int}, l.Pairwise (· < ·) → (ins x l).length = if x ∈ l then l.length else l.length + 1
  | [], _ => by simp [ins]
  | y :: l, h => by
    have h' := List.pairwise_cons.mp h
    unfold ins
    split
    · next c =>
      rw [if_neg]
      · rfl
      · intro m
        rcases List.mem_cons.mp m with e | e
        · omega
        · have := h'.1 x e
          omega
    · split
      · next c => rw [if_pos (by simp [c])]
      · next c1 c2 =>
        rw [List.length_cons, insN_len h'.2]
        by_cases m : x ∈ l
        · rw [if_pos m, if_pos (by simp [m])]
          rfl
        · rw [if_neg m, if_neg (by simp [m, c2])]
          rfl
def srt (l : List Int) : List Int := l.foldl (fun a x => ins x a) []
theorem srt_snoc {l : List Int} {x : Int} : srt (l ++ [x]) = ins x (srt l) := by unfold srt; rw [List.foldl_append]; rfl
theorem srt_both (l : List Int) : ∀ n, (srt (l.take n)).Pairwise (· < ·) ∧ ∀ z, z ∈ srt (l.take n) ↔ z ∈ l.take n
  | 0 => by simp [srt]
  | n + 1 => by
    have ih := srt_both l n
    rw [List.take_add_one]
    cases e : l[n]? with
    | none => simpa using ih
    | some x =>
      show (srt (l.take n ++ [x])).Pairwise (· < ·) ∧ ∀ z, z ∈ srt (l.take n ++ [x]) ↔ z ∈ l.take n ++ [x]
      rw [srt_snoc]
      refine ⟨ins_sorted ih.1, fun z => ?_⟩
      rw [mem_ins, ih.2, List.mem_append, List.mem_singleton]
      exact or_comm
theorem srt_sorted (l : List Int) : (srt l).Pairwise (· < ·) := by have := (srt_both l l.length).1; rwa [List.take_length] at this
theorem mem_srt {l : List Int} {z : Int} : z ∈ srt l ↔ z ∈ l := by have := (srt_both l l.length).2 z; rwa [List.take_length] at this
theorem srt_unique : ∀ {a b : List Int}, a.Pairwise (· < ·) → b.Pairwise (· < ·) → (∀ y, y ∈ a ↔ y ∈ b) → a = b
  | [], [], _, _, _ => rfl
  | [], y :: b, _, _, h => by have := (h y).mpr (by simp); cases this
  | y :: a, [], _, _, h => by have := (h y).mp (by simp); cases this
  | x :: a, y :: b, ha, hb, h => by
    have ha' := List.pairwise_cons.mp ha
    have hb' := List.pairwise_cons.mp hb
    have e : x = y := by
      rcases List.mem_cons.mp ((h x).mp (by simp)) with e | e
      · exact e
      · rcases List.mem_cons.mp ((h y).mpr (by simp)) with e2 | e2
        · exact e2.symm
        · have := ha'.1 y e2
          have := hb'.1 x e
          omega
    subst e
    rw [srt_unique ha'.2 hb'.2 fun z => ?_]
    constructor
    · intro hz
      rcases List.mem_cons.mp ((h z).mp (by simp [hz])) with e | e
      · have := ha'.1 z hz
        omega
      · exact e
    · intro hz
      rcases List.mem_cons.mp ((h z).mpr (by simp [hz])) with e | e
      · have := hb'.1 z hz
        omega
      · exact e
theorem srt_eq {l ks : List Int} (h : ks.Pairwise (· < ·)) (m : ∀ y, y ∈ ks ↔ y ∈ l) : ks = srt l := srt_unique h (srt_sorted l) fun y => by rw [m, mem_srt]
theorem srt_filter (l : List Int) (p : Int → Bool) : srt (l.filter p) = (srt l).filter p := (srt_eq ((srt_sorted l).filter _) fun y => by rw [List.mem_filter, List.mem_filter, mem_srt]).symm
theorem srt_map (l : List Int) {g : Int → Int} (h : ∀ x ∈ l, ∀ y ∈ l, x < y → g x < g y) : srt (l.map g) = (srt l).map g := by
  refine (srt_eq (List.pairwise_map.mpr ((srt_sorted l).imp_of_mem fun ha hb c => h _ (mem_srt.mp ha) _ (mem_srt.mp hb) c)) fun y => ?_).symm
  rw [List.mem_map, List.mem_map]
  simp only [mem_srt]
/-- how many are less -/
def cnt (ks : List Int) (v : Int) : Nat := (ks.filter fun y => decide (y < v)).length
theorem cnt_at : ∀ {ks : List Int} {i : Nat}, ks.Pairwise (· < ·) → (hi : i < ks.length) → cnt ks ks[i] = i
  | x :: ks, 0, h, _ => by
    have h' := List.pairwise_cons.mp h
    show (List.filter (fun y => decide (y < x)) (x :: ks)).length = 0
    rw [List.length_eq_zero_iff, List.filter_eq_nil_iff]
    intro y hy
    rw [decide_eq_true_iff]
    rcases List.mem_cons.mp hy with e | e
    · omega
    · have := h'.1 y e
      omega
  | x :: ks, i + 1, h, hi => by
    have h' := List.pairwise_cons.mp h
    have hi' : i < ks.length := Nat.lt_of_succ_lt_succ hi
    show (List.filter (fun y => decide (y < ks[i])) (x :: ks)).length = i + 1
    rw [List.filter_cons_of_pos (by rw [decide_eq_true_iff]; exact h'.1 _ (List.getElem_mem _)), List.length_cons]
    exact congrArg (· + 1) (cnt_at h'.2 hi')
theorem cnt_of {ks : List Int} {v : Int} (h : ks.Pairwise (· < ·)) (m : v ∈ ks) : ∃ i, ∃ hi : i < ks.length, ks[i] = v ∧ cnt ks v = i := by
  obtain ⟨i, hi, rfl⟩ := List.getElem_of_mem m
  exact ⟨i, hi, rfl, cnt_at h hi⟩
theorem at_lt {ks : List Int} {i j : Nat} (h : ks.Pairwise (· < ·)) (hi : i < ks.length) (hj : j < ks.length) : ks[i] < ks[j] ↔ i < j := by
  have w := List.pairwise_iff_getElem.mp h
  constructor
  · intro c
    rcases Nat.lt_trichotomy i j with a | a | a
    · exact a
    · subst a
      omega
    · have := w j i hj hi a
      omega
  · exact w i j hi hj
theorem cnt_lt {ks : List Int} {x y : Int} (h : ks.Pairwise (· < ·)) (hx : x ∈ ks) (hy : y ∈ ks) : cnt ks x < cnt ks y ↔ x < y := by
  obtain ⟨i, hi, rfl, e1⟩ := cnt_of h hx
  obtain ⟨j, hj, rfl, e2⟩ := cnt_of h hy
  rw [e1, e2, at_lt h hi hj]
theorem cnt_le (ks : List Int) (v : Int) : cnt ks v ≤ ks.length := List.length_filter_le ..
/-- the held values -/
def kn (h : List (Option Int)) : List Int := srt (h.filterMap id)
theorem kn_sorted (h : List (Option Int)) : (kn h).Pairwise (· < ·) := srt_sorted _
theorem mem_kn {h : List (Option Int)} {v : Int} : v ∈ kn h ↔ some v ∈ h := by unfold kn; rw [mem_srt, List.mem_filterMap]; simp
theorem srt_len (l : List Int) : ∀ n, (srt (l.take n)).length ≤ n
  | 0 => by simp [srt]
  | n + 1 => by
    have ih := srt_len l n
    rw [List.take_add_one]
    cases e : l[n]? with
    | none => simp; omega
    | some x =>
      show (srt (l.take n ++ [x])).length ≤ n + 1
      rw [srt_snoc, insN_len (srt_sorted _)]
      split <;> omega
theorem kn_len (h : List (Option Int)) : (kn h).length ≤ h.length := by
  have := srt_len (h.filterMap id) (h.filterMap id).length
  rw [List.take_length] at this
  exact Nat.le_trans this (List.length_filterMap_le _ _)
def rkF (h : List (Option Int)) : Int → Int := fun v => (cnt (kn h) v : Nat)
def ranksH (h : List (Option Int)) : List (Option Int) := mapH (rkF h) h
theorem fm_map (g : Int → Int) (h : List (Option Int)) : (mapH g h).filterMap id = (h.filterMap id).map g := by
  unfold mapH
  rw [List.filterMap_map, List.map_filterMap]
  rfl
theorem kn_map {g : Int → Int} {h : List (Option Int)} (r : ∀ x y, some x ∈ h → some y ∈ h → x < y → g x < g y) : kn (mapH g h) = (kn h).map g := by
  unfold kn
  rw [fm_map]
  refine srt_map _ fun x hx y hy c => r x y ?_ ?_ c
  · simpa using hx
  · simpa using hy
theorem cnt_map {ks : List Int} {g : Int → Int} {v : Int} (r : ∀ x ∈ ks, (g x < g v ↔ x < v)) : cnt (ks.map g) (g v) = cnt ks v := by
  unfold cnt
  rw [List.filter_map, List.length_map]
  congr 1
  refine List.filter_congr fun x hx => ?_
  show decide (g x < g v) = decide (x < v)
  rw [decide_eq_decide]
  exact r x hx
theorem lt_iff {h : List (Option Int)} {g : Int → Int} (r : ∀ x y, some x ∈ h → some y ∈ h → x < y → g x < g y) {x y : Int} (hx : some x ∈ h) (hy : some y ∈ h) : g x < g y ↔ x < y := by
  constructor
  · intro c
    rcases Int.lt_trichotomy x y with a | a | a
    · exact a
    · subst a
      omega
    · have := r y x hy hx a
      omega
  · exact r x y hx hy
theorem ranks_map {g : Int → Int} {h : List (Option Int)} (r : ∀ x y, some x ∈ h → some y ∈ h → x < y → g x < g y) : ranksH (mapH g h) = ranksH h := by
  unfold ranksH rkF
  rw [kn_map r]
  unfold mapH
  rw [List.map_map]
  refine List.map_congr_left fun o ho => ?_
  cases o with
  | none => rfl
  | some v =>
    show some (((cnt ((kn h).map g) (g v) : Nat) : Int)) = some ((cnt (kn h) v : Nat) : Int)
    rw [cnt_map fun x hx => lt_iff r (mem_kn.mp hx) ho]
theorem rk_mono {h : List (Option Int)} : ∀ x y, some x ∈ h → some y ∈ h → x < y → rkF h x < rkF h y := fun x y hx hy c => by
  have := (cnt_lt (kn_sorted h) (mem_kn.mpr hx) (mem_kn.mpr hy)).mpr c
  unfold rkF
  omega
theorem ranks_ranks (h : List (Option Int)) : ranksH (ranksH h) = ranksH h := ranks_map rk_mono
theorem kn_ranks (h : List (Option Int)) : kn (ranksH h) = (List.range (kn h).length).map fun (i : Nat) => (i : Int) := by
  unfold ranksH
  rw [kn_map rk_mono]
  refine List.ext_getElem (by simp) fun i h1 h2 => ?_
  rw [List.getElem_map, List.getElem_map, List.getElem_range]
  rw [List.length_map] at h1
  unfold rkF
  rw [cnt_at (kn_sorted h) h1]
theorem ranks_top {h : List (Option Int)} {M : Int} (g : ∀ x, some x ∈ h → x < M) : ranksH (h ++ [some M]) = ranksH h ++ [some (((kn h).length : Nat) : Int)] := by
  have e : kn (h ++ [some M]) = kn h ++ [M] := by
    refine (srt_eq (List.pairwise_append.mpr ⟨kn_sorted h, by simp, fun x hx y hy => ?_⟩) fun y => ?_).symm
    · obtain rfl := List.mem_singleton.mp hy
      exact g x (mem_kn.mp hx)
    · rw [List.mem_append, List.mem_singleton, mem_kn]
      simp
  unfold ranksH rkF mapH
  rw [List.map_append, e]
  congr 1
  · refine List.map_congr_left fun o ho => ?_
    cases o with
    | none => rfl
    | some v =>
      have c := g v ho
      show some (((cnt (kn h ++ [M]) v : Nat) : Int)) = some ((cnt (kn h) v : Nat) : Int)
      unfold cnt
      rw [List.filter_append, List.filter_cons_of_neg (by rw [decide_eq_true_iff]; omega), List.filter_nil, List.append_nil]
  · show [some (((cnt (kn h ++ [M]) M : Nat) : Int))] = _
    congr 3
    unfold cnt
    rw [List.filter_append, List.filter_cons_of_neg (by rw [decide_eq_true_iff]; omega), List.filter_nil, List.append_nil, List.filter_eq_self.mpr]
    intro x hx
    rw [decide_eq_true_iff]
    exact g x (mem_kn.mp hx)
theorem ranks_low {h : List (Option Int)} {m : Int} (g : ∀ x, some x ∈ h → m < x) : ranksH (some m :: h) = some 0 :: mapH (· + 1) (ranksH h) := by
  have e : kn (some m :: h) = m :: kn h := by
    refine (srt_eq (List.pairwise_cons.mpr ⟨fun x hx => g x (mem_kn.mp hx), kn_sorted h⟩) fun y => ?_).symm
    rw [List.mem_cons, mem_kn]
    simp
  unfold ranksH rkF mapH
  rw [List.map_cons, e, List.map_map]
  congr 1
  · show some (((cnt (m :: kn h) m : Nat) : Int)) = some 0
    have : cnt (m :: kn h) m = 0 := by
      unfold cnt
      rw [List.length_eq_zero_iff, List.filter_eq_nil_iff]
      intro y hy
      rw [decide_eq_true_iff]
      rcases List.mem_cons.mp hy with e | e
      · omega
      · have := g y (mem_kn.mp e)
        omega
    rw [this]
    rfl
  · refine List.map_congr_left fun o ho => ?_
    cases o with
    | none => rfl
    | some v =>
      have c := g v ho
      show some (((cnt (m :: kn h) v : Nat) : Int)) = some (((cnt (kn h) v : Nat) : Int) + 1)
      unfold cnt
      rw [List.filter_cons_of_pos (by rw [decide_eq_true_iff]; exact c), List.length_cons]
      rfl
theorem firstMet_srt (val : Nat → Int) : ∀ i, (firstMet val i).length = (srt ((List.range i).map val)).length
  | 0 => rfl
  | i + 1 => by
    rw [firstMet_succ, List.range_succ, List.map_append, List.map_singleton, srt_snoc, insN_len (srt_sorted _)]
    have a := firstMet_any val i (val i)
    have ih := firstMet_srt val i
    unfold step_dedup
    by_cases c : val i ∈ (List.range i).map val
    · rw [if_pos (mem_srt.mpr c), if_pos, ih]
      rw [a, List.any_eq_true]
      exact ⟨_, c, by simp⟩
    · rw [if_neg (fun z => c (mem_srt.mp z)), if_neg]
      · rw [List.length_append, ih]; rfl
      · rw [a, List.any_eq_true]
        rintro ⟨z, hz, e⟩
        exact c (by have : z = val i := by simpa using e
                    rwa [← this])
theorem Ex.dk {T ms : List Addr} {H H1 : Hp} (a : Ex T ms H H1) {p : Addr} {kvs : List (Key × V)} (n : p ∉ ms) (h : H p = some (.dK kvs)) : H1 p = some (.dK kvs) := a.keep p _ n h fun ps e => by cases e
theorem take_srt (ns : List Int) : (List.range ns.length).map (fun i => ns.getD i 0) = ns := by
  refine List.ext_getElem (by simp) fun i h1 h2 => ?_
  rw [List.getElem_map, List.getElem_range, List.getD_eq_getElem?_getD, List.getElem?_eq_getElem h2]
  rfl
open PySem.W in
def tLenSetD (K : PySem.W.Frag) (ta : TE) : TE := fun σ H Q => ta σ H fun x H1 => ∃ (l : Addr) (ns : List Int), x = .ref l ∧ SqL K H1 l (ns.map V.int) ∧ ns.length ≤ 4000 ∧ Q (.int ((srt ns).length : Nat)) H1
theorem pe_lenSetD {X : Cx} {a : Expr} {ta : TE} {p p2 q pos : Pos} (hg : Gl X "len") (hm : X.mg "len" = none) (hg2 : Gl X "set") (hm2 : X.mg "set" = none) (ha : PE X a ta) (hc : X.calm = true := by rfl)
    (na : starEach [a] X.env = (false, eval a X.env) :: starEach [] X.env := by rfl) : PE X (.Call (.Name "len" p) [.Call (.Name "set" p2) [a] [] q] [] pos) (tLenSetD X.K ta) := by
  refine ⟨fun pins s σ H Q I h => ?_⟩
  refine Call_ (ld_blt I hg hm boot_len ?_)
  refine PyProof.Rows.callWith_builtin1 (PyProof.Rows.args_cons ?_ rfl) rfl rfl
  refine Call_ (ld_blt I hg2 hm2 boot_set ?_)
  refine PyProof.Rows.callWith_type1 (PyProof.Rows.args_cons (thn (ha.run pins s σ H _ I h) fun v s1 ⟨x, H1, I1, r1, q1⟩ => PyProof.Rows.args_nil ?_) na) na rfl
  obtain ⟨l, ns, rfl, hq, hl, q1⟩ := q1
  cases r1
  obtain ⟨its, r, pl, hz⟩ := I1.list hq
  have hlen : its.toArray.size = ns.length := by rw [List.size_toArray, ← r.length, List.length_map]
  refine call_set_list (I1.ok.hd hc) pl.isList (by simpa using ints_of_vals r) (by rw [hlen]; unfold scanBound; omega) fun h' tk hS hk => ?_
  refine PyProof.Rows.args_nil ?_
  have le := firstMet_length_le (fun i => ns.getD i 0) ns.length
  rw [hlen] at hS
  have en := firstMet_srt (fun i => ns.getD i 0) ns.length
  rw [take_srt] at en
  rw [en] at hS le
  obtain ⟨o, es, ep, t, ho, hex, hd, _, _, _, hf, hn⟩ := hS
  have I2 : Inv X pins σ H1 { s1 with heap := h', toks := tk } := I1.kept fun b o e => hk b o (Heap.lt_size e) e
  exact call_len_set ho hex hd hf (by rw [hn] <;> omega) ⟨.int (srt ns).length, H1, I2.tok _, ⟨_, by rw [hn]⟩, q1⟩
theorem eqD_lists {K : PySem.W.Frag} {H : Hp} {a b : Addr} {xs ys : List V} {ds : List D} {n : Nat} {Q : VK} (h1 : SqL K H a xs) (hx : Ats K H xs ds) (h2 : SqL K H b ys) (hy : Ats K H ys ds) (h : plDs n ds) (hn : n ≤ 63) (q : Q (.bl true) H) : rEqD K (.ref a) (.ref b) H Q := by
  have z := plDs_lay h
  have s : SeqAt.shaped (.list (toPys ds)) = true := by
    unfold SeqAt.shaped
    have e1 : (PyData.list (toPys ds)).canLay0 = true := by unfold PyData.canLay0; exact z.1
    have e2 : (PyData.list (toPys ds)).depth ≤ 64 := by unfold PyData.depth; omega
    rw [e1, decide_eq_true e2]
    rfl
  refine ⟨.list (toPys ds), .list (toPys ds), .lst h1 hx.dp, .lst h2 hy.dp, s, s, ?_⟩
  rw [SeqAt.eqv_refl _ (SeqAt.canLay_of_shaped s)]
  exact q
end Dv

/-! Tight logs. -/
namespace Dv
open PySem PySem.Spec PyProof.Rows L2 GxR Gx
def vals (es : List (Nat × Int)) : List Int := es.map (·.2)
def tgF (es : List (Nat × Int)) : Int → Int := fun v => (cnt (srt (vals es)) v : Nat)
def tightL (es : List (Nat × Int)) : List (Nat × Int) := es.map (chL (tgF es))
theorem tightL_len (es : List (Nat × Int)) : (tightL es).length = es.length := List.length_map ..
theorem vals_map (g : Int → Int) (es : List (Nat × Int)) : vals (es.map (chL g)) = (vals es).map g := by
  unfold vals
  rw [List.map_map, List.map_map]
  rfl
theorem tight_map {g : Int → Int} {es : List (Nat × Int)} (r : ∀ x ∈ vals es, ∀ y ∈ vals es, x < y → g x < g y) : tightL (es.map (chL g)) = tightL es := by
  unfold tightL tgF
  rw [vals_map, srt_map _ r, List.map_map]
  refine List.map_congr_left fun e he => ?_
  have me : e.2 ∈ vals es := List.mem_map.mpr ⟨e, he, rfl⟩
  show (e.1, ((cnt ((srt (vals es)).map g) (g e.2) : Nat) : Int)) = (e.1, ((cnt (srt (vals es)) e.2 : Nat) : Int))
  rw [cnt_map fun x hx => ?_]
  constructor
  · intro c
    rcases Int.lt_trichotomy x e.2 with a | a | a
    · exact a
    · rw [a] at c
      omega
    · have := r _ me _ (mem_srt.mp hx) a
      omega
  · exact r _ (mem_srt.mp hx) _ me
theorem tg_lt {es : List (Nat × Int)} {x y : Int} (hx : x ∈ vals es) (hy : y ∈ vals es) : tgF es x < tgF es y ↔ x < y := by
  have := cnt_lt (srt_sorted (vals es)) (mem_srt.mpr hx) (mem_srt.mpr hy)
  unfold tgF
  rw [← this]
  omega
theorem tight_tight (es : List (Nat × Int)) : tightL (tightL es) = tightL es := tight_map fun x hx y hy c => (tg_lt hx hy).mpr c
theorem srt_le {l P : List Int} (h : ∀ x ∈ l, x ∈ P) : (srt l).length ≤ P.length := by
  have e : srt l = srt (P.filter fun x => decide (x ∈ l)) := srt_unique (srt_sorted _) (srt_sorted _) fun y => by
    rw [mem_srt, mem_srt, List.mem_filter, decide_eq_true_iff]
    exact ⟨fun z => ⟨h y z, z⟩, fun z => z.2⟩
  rw [e]
  have := srt_len (P.filter fun x => decide (x ∈ l)) (P.filter fun x => decide (x ∈ l)).length
  rw [List.take_length] at this
  exact Nat.le_trans this (List.length_filter_le _ _)
def pool (b : Int) : List Int := [b + 1000, b - 1000, 0, -b, b, b + 1, b + 2, b + 3, b + 4, b + 5, b + 6, b + 7, b + 8]
theorem pool_abs {b x : Int} (h : x ∈ pool b) : x.natAbs ≤ b.natAbs + 1009 := by
  unfold pool at h
  simp only [List.mem_cons, List.not_mem_nil, or_false] at h
  omega
theorem pool_near {b t : Int} (h0 : 0 ≤ t) (h1 : t < 9) : b + t ∈ pool b := by
  unfold pool
  simp only [List.mem_cons, List.not_mem_nil, or_false]
  omega
/-- alike at a place -/
def likeB (as bs : List (Nat × Int)) (n k : Nat) : Bool := decide ((vals as).getD k 0 < (vals as).getD n 0) == decide ((vals bs).getD k 0 < (vals bs).getD n 0) && decide ((vals as).getD n 0 < (vals as).getD k 0) == decide ((vals bs).getD n 0 < (vals bs).getD k 0)
theorem vals_len (es : List (Nat × Int)) : (vals es).length = es.length := List.length_map ..
theorem tight_vals (es : List (Nat × Int)) : vals (tightL es) = (vals es).map (tgF es) := vals_map _ _
theorem like_of_tight {as bs : List (Nat × Int)} {n k : Nat} (e : tightL as = tightL bs) (hn : n < as.length) (hk : k < as.length) : likeB as bs n k = true := by
  have l : as.length = bs.length := by rw [← tightL_len as, e, tightL_len]
  have v : (vals as).map (tgF as) = (vals bs).map (tgF bs) := by rw [← tight_vals, e, tight_vals]
  have at' : ∀ {i : Nat} (hi : i < as.length), tgF as ((vals as).getD i 0) = tgF bs ((vals bs).getD i 0) := fun {i} hi => by
    have h1 : i < (vals as).length := by rw [vals_len]; exact hi
    have h2 : i < (vals bs).length := by rw [vals_len]; omega
    have := congrArg (fun z => z[i]?) v
    simp only [List.getElem?_map, List.getElem?_eq_getElem h1, List.getElem?_eq_getElem h2, Option.map_some] at this
    rw [List.getD_eq_getElem?_getD, List.getD_eq_getElem?_getD, List.getElem?_eq_getElem h1, List.getElem?_eq_getElem h2]
    exact Option.some.inj this
  have mem : ∀ {es : List (Nat × Int)} {i : Nat}, i < es.length → (vals es).getD i 0 ∈ vals es := fun {es i} hi => by
    have h1 : i < (vals es).length := by rw [vals_len]; exact hi
    rw [List.getD_eq_getElem?_getD, List.getElem?_eq_getElem h1]
    exact List.getElem_mem _
  unfold likeB
  rw [Bool.and_eq_true, beq_iff_eq, beq_iff_eq, decide_eq_decide, decide_eq_decide, ← tg_lt (mem hk) (mem hn), ← tg_lt (mem hn) (mem hk), at' hk, at' hn, tg_lt (mem (by omega)) (mem (by omega)), tg_lt (mem (by omega)) (mem (by omega))]
  exact ⟨Iff.rfl, Iff.rfl⟩
theorem tight_of_like {es : List (Nat × Int)} {n : Nat} {v : Int} (hn : n < es.length) (h : ∀ k < es.length, likeB (es.set n ((es[n]).1, v)) es n k = true) : tightL (es.set n ((es[n]).1, v)) = tightL es := by
  have hn' : n < (vals es).length := by rw [vals_len]; exact hn
  have vs : vals (es.set n ((es[n]).1, v)) = (vals es).set n v := by unfold vals; rw [List.map_set]
  have g0 : ∀ k, (hk : k < (vals es).length) → (vals es).getD k 0 = (vals es)[k] := fun k hk => by rw [List.getD_eq_getElem?_getD, List.getElem?_eq_getElem hk]; rfl
  have gn : ((vals es).set n v).getD n 0 = v := by rw [List.getD_eq_getElem?_getD, List.getElem?_set_self hn']; rfl
  have gk : ∀ k, (hk : k < (vals es).length) → k ≠ n → ((vals es).set n v).getD k 0 = (vals es)[k] := fun k hk ne => by rw [List.getD_eq_getElem?_getD, List.getElem?_set_ne (Ne.symm ne), List.getElem?_eq_getElem hk]; rfl
  have key : ∀ k, (hk : k < (vals es).length) → k ≠ n → ((vals es)[k] < v ↔ (vals es)[k] < (vals es)[n]) ∧ (v < (vals es)[k] ↔ (vals es)[n] < (vals es)[k]) := fun k hk ne => by
    have := h k (by rw [← vals_len]; exact hk)
    unfold likeB at this
    rw [vs, Bool.and_eq_true, beq_iff_eq, beq_iff_eq, decide_eq_decide, decide_eq_decide, gn, gk k hk ne, g0 k hk, g0 n hn'] at this
    exact this
  have e : es.set n ((es[n]).1, v) = es.map (chL fun x => if x = (vals es)[n] then v else x) := by
    refine List.ext_getElem (by simp) fun i h1 h2 => ?_
    rw [List.length_set] at h1
    rw [List.getElem_map, List.getElem_set]
    have ve : ∀ j, (hj : j < es.length) → (vals es)[j]'(by rw [vals_len]; exact hj) = (es[j]).2 := fun j hj => by unfold vals; rw [List.getElem_map]
    split
    · next c =>
      subst c
      show _ = ((es[n]).1, if (es[n]).2 = (vals es)[n] then v else (es[n]).2)
      rw [if_pos (ve n hn).symm]
    · next c =>
      show es[i] = ((es[i]).1, if (es[i]).2 = (vals es)[n] then v else (es[i]).2)
      by_cases z : (es[i]).2 = (vals es)[n]
      · rw [if_pos z]
        have kk := key i (by rw [vals_len]; exact h1) (fun w => c w.symm)
        rw [ve i h1] at kk
        have : (es[i]).2 = v := by
          rcases Int.lt_trichotomy (es[i]).2 v with a | a | a
          · have := kk.1.mp a
            omega
          · exact a
          · have := kk.2.mp a
            omega
        rw [← this]
      · rw [if_neg z]
  rw [e]
  refine tight_map fun x hx y hy c => ?_
  obtain ⟨i, hi, rfl⟩ := List.getElem_of_mem hx
  obtain ⟨j, hj, rfl⟩ := List.getElem_of_mem hy
  by_cases a : (vals es)[i] = (vals es)[n]
  · have b : ¬ (vals es)[j] = (vals es)[n] := by omega
    show (if (vals es)[i] = (vals es)[n] then v else (vals es)[i]) < (if (vals es)[j] = (vals es)[n] then v else (vals es)[j])
    rw [if_pos a, if_neg b]
    exact (key j hj (fun w => b (by subst w; rfl))).2.mpr (by omega)
  · by_cases b : (vals es)[j] = (vals es)[n]
    · show (if (vals es)[i] = (vals es)[n] then v else (vals es)[i]) < (if (vals es)[j] = (vals es)[n] then v else (vals es)[j])
      rw [if_neg a, if_pos b]
      exact (key i hi (fun w => a (by subst w; rfl))).1.mpr (by omega)
    · show (if (vals es)[i] = (vals es)[n] then v else (vals es)[i]) < (if (vals es)[j] = (vals es)[n] then v else (vals es)[j])
      rw [if_neg a, if_neg b]
      exact c
theorem eqvAll_logs : ∀ as bs : List (Nat × Int), PyData.eqvAll (toPys (as.map encE)) (toPys (bs.map encE)) = decide (as = bs)
  | [], [] => by unfold toPys PyData.eqvAll; rfl
  | [], y :: ys => by rw [List.map_nil, List.map_cons]; unfold toPys PyData.eqvAll; rw [decide_eq_false (by simp)]
  | x :: xs, [] => by rw [List.map_nil, List.map_cons]; unfold toPys PyData.eqvAll; rw [decide_eq_false (by simp)]
  | (t, v) :: xs, (u, z) :: ys => by
    rw [List.map_cons, List.map_cons]
    unfold toPys PyData.eqvAll
    rw [eqvAll_logs xs ys]
    have e : PyData.eqv (toPy (encE (t, v))) (toPy (encE (u, z))) = decide ((t, v) = (u, z)) := by
      show PyData.eqv (toPy (.tup [.int t, .int v])) (toPy (.tup [.int u, .int z])) = _
      unfold toPy PyData.eqv
      unfold toPys toPys toPys toPy PyData.eqvAll PyData.eqvAll PyData.eqvAll PyData.eqv
      rw [Bool.eq_iff_iff]
      simp
      omega
    rw [e, Bool.eq_iff_iff]
    simp
theorem eqD_logs {K : PySem.W.Frag} {H : Hp} {x y : V} {as bs : List (Nat × Int)} {Q : VK} (hx : At K H x (.tup (as.map encE))) (hy : At K H y (.tup (bs.map encE))) (q : Q (.bl (decide (as = bs))) H) : rEqD K x y H Q := by
  have s : ∀ zs : List (Nat × Int), SeqAt.shaped (toPy (.tup (zs.map encE))) = true := fun zs => plD_shaped (n := 2) plD_log (by decide)
  refine ⟨_, _, hx.dp, hy.dp, s as, s bs, ?_⟩
  have : PyData.eqv (toPy (.tup (as.map encE))) (toPy (.tup (bs.map encE))) = decide (as = bs) := by
    unfold toPy PyData.eqv
    exact eqvAll_logs as bs
  rw [this]
  exact q
theorem neD_logs {K : PySem.W.Frag} {H : Hp} {x y : V} {as bs : List (Nat × Int)} {Q : VK} (hx : At K H x (.tup (as.map encE))) (hy : At K H y (.tup (bs.map encE))) (q : Q (.bl (!decide (as = bs))) H) : rNeD K x y H Q := by
  have s : ∀ zs : List (Nat × Int), SeqAt.shaped (toPy (.tup (zs.map encE))) = true := fun zs => plD_shaped (n := 2) plD_log (by decide)
  refine ⟨_, _, hx.dp, hy.dp, s as, s bs, ?_⟩
  have : PyData.eqv (toPy (.tup (as.map encE))) (toPy (.tup (bs.map encE))) = decide (as = bs) := by
    unfold toPy PyData.eqv
    exact eqvAll_logs as bs
  rw [this]
  exact q
theorem srt_nodup {l : List Int} (h : l.Nodup) : ∀ n ≤ l.length, (srt (l.take n)).length = n
  | 0, _ => by simp [srt]
  | n + 1, hn => by
    have ih := srt_nodup h n (by omega)
    have hl : n < l.length := by omega
    rw [List.take_add_one, List.getElem?_eq_getElem hl]
    show (srt (l.take n ++ [l[n]])).length = n + 1
    rw [srt_snoc, insN_len (srt_sorted _), if_neg, ih]
    intro m
    obtain ⟨i, hi, e⟩ := List.getElem_of_mem (mem_srt.mp m)
    rw [List.length_take] at hi
    rw [List.getElem_take] at e
    exact List.pairwise_iff_getElem.mp h i n (by omega) hl (by omega) e
theorem setR_len {w : World} {h : Heap} {a : Addr} {ns : List Int} {n : Nat} (R : SetR w h a (fun j => decide (j ∈ ns)) n) : n = (srt ns).length := by
  obtain ⟨o, es, ep, t, _, _, _, _, nd, mem, _, _, hn, _⟩ := R
  have e : srt ns = srt (es.toList.map keyOf) := srt_unique (srt_sorted _) (srt_sorted _) fun y => by rw [mem_srt, mem_srt, ← mem y, decide_eq_true_iff]
  have := srt_nodup nd _ (Nat.le_refl _)
  rw [List.take_length] at this
  rw [e, this, List.length_map, Array.length_toList, hn]
def rSetN (K : PySem.W.Frag) (w : World) : List V → Hp → VK → Prop := fun xs H Q => ∃ (l : Addr) (ns : List Int), xs = [V.ref l] ∧ SqL K H l (ns.map V.int) ∧ ns.length ≤ 3000 ∧
  ∀ p, H p = none → Q (.ref p) (upd H p (SetO w p (fun j => decide (j ∈ ns)) (srt ns).length))
theorem cr_setN {X : Cx} (calm : X.calm = true := by rfl) : CallR X (.type "set") (rSetN X.K X.w) := by
  intro pins s σ H xs us Q inv r h
  obtain ⟨l, ns, rfl, sq, few, q⟩ := h
  rw [Vals.ref1 r]
  obtain ⟨its, rv, isl, _⟩ := inv.list sq
  refine set_of_list ns (inv.ok.hd calm) isl.isList (by simpa using ints_of_vals rv) (by unfold scanBound; omega) fun h' tk c made lc keep => ?_
  obtain rfl := setR_len made
  exact ⟨.ref s.heap.objs.size, upd H s.heap.objs.size (SetO X.w s.heap.objs.size (fun j => decide (j ∈ ns)) (srt ns).length), inv.laid (t' := tk) keep (Nat.le_refl _) (setO_new made), rfl, q _ (inv.hok.fresh (Nat.le_refl _))⟩
end Dv

/-! tuple(enumerate(xs)). -/
namespace PySem
open Sem (wp)
namespace F
theorem enm_no_len : typeLookup (.type "enumerate") "__len__" = pure none := by rw [typeLookup_type, builtinLookup_eq_fast]; kernel_rfl
theorem enm_no_hint : typeLookup (.type "enumerate") "__length_hint__" = pure none := by rw [typeLookup_type, builtinLookup_eq_fast]; kernel_rfl
end F
/-- an enumerate object that has told i items -/
def EnSt (h : Heap) (e it l : Addr) (items : Array Value) (i : Nat) : Prop :=
  h.IsListIter it l i ∧ h.IsList l items ∧ ((∃ old, IsEnum h e it i old) ∨ ∃ old T f oT, IsEnumHeld h e it i old T f ∧ h.get? T = some oT ∧ T ≠ e ∧ T ≠ it)
/-- the told pairs -/
def EnAcc (h : Heap) (base : Addr) (items : Array Value) (acc : Array Value) (i : Nat) : Prop :=
  acc.size = i ∧ ∀ j, j < i → ∃ T x t, acc[j]? = some (.ref T) ∧ items[j]? = some x ∧ base ≤ T ∧ h.get? T = some { cls := .type "tuple", data := .seq #[.int (j : Int) t, x] }
theorem EnSt.keep {h h' : Heap} {e it l : Addr} {items : Array Value} {i : Nat} {S : Addr} (x : EnSt h e it l items i) (hk : ∀ b o, b ≠ S → h.get? b = some o → h'.get? b = some o) (he : e ≠ S) (hi : it ≠ S) (hl : l ≠ S)
    (hT : ∀ T oT, h.get? T = some oT → h'.get? T ≠ none) : EnSt h' e it l items i := by
  obtain ⟨a, b, c⟩ := x
  refine ⟨a.at fun o z => hk it o hi z, b.at fun o z => hk l o hl z, ?_⟩
  rcases c with ⟨old, c⟩ | ⟨old, T, f, oT, c, d, n1, n2⟩
  · exact .inl ⟨old, hk e _ he c⟩
  · cases q : h'.get? T with
    | none => exact absurd q (hT T oT d)
    | some o' => exact .inr ⟨old, T, f, o', hk e _ he c, q, n1, n2⟩
section
variable {prog : Program} {w : World} {A : Around} {E : Value → Shared → Prop} {s : Shared} {R : Result → Shared → Prop}
theorem enm_next {e it l : Addr} {items : Array Value} {i : Nat} {x : Value} {Q : Option Value → Shared → Prop} (hei : e ≠ it) (hle : l ≠ e) (hli : l ≠ it) (hst : EnSt s.heap e it l items i) (hx : items[i]? = some x)
    (hQ : ∀ h', EnSt h' e it l items (i + 1) → h'.get? s.heap.objs.size = some { cls := .type "tuple", data := .seq #[.int i s.toks, x] } → h'.objs.size = s.heap.objs.size + 1 →
      (∀ b o, b ≠ e → b ≠ it → s.heap.get? b = some o → h'.get? b = some o) → Q (some (.ref s.heap.objs.size)) { s with heap := h', toks := s.toks + 1 }) : wpAny (model prog w) A (pyNext (.ref e)) Q E s := by
  obtain ⟨hit, hl, hst⟩ := hst
  have ei : ((i + 1 : Nat) : Int) = (i : Int) + 1 := by omega
  have ilt : it < s.heap.objs.size := by obtain ⟨o, ho, _⟩ := hit; exact Heap.lt_size ho
  rcases hst with ⟨old, he⟩ | ⟨old, T, f, oT, he, hT, n1, n2⟩
  · have elt : e < s.heap.objs.size := Heap.lt_size he
    refine wpAny_pyNext_enum_item he hit hl hx hei fun h' a b c d k => hQ h' ⟨b, hl.at fun o z => k l o hle hli z, .inr ⟨x, s.heap.objs.size, false, _, ?_, c, Nat.ne_of_gt elt, Nat.ne_of_gt ilt⟩⟩ c d k
    rw [ei]
    exact a
  · refine wpAny_pyNext_enum_item_held he hT n1 n2 hit hl hx hei fun h' a b c d k => hQ h' ⟨b, hl.at fun o z => k l o hle hli z, .inr ⟨old, T, true, oT, ?_, k T _ n1 n2 hT, n1, n2⟩⟩ c d k
    rw [ei]
    exact a
theorem enm_end {e it l : Addr} {items : Array Value} {Q : Option Value → Shared → Prop} (hh : A.handled = none) (hst : EnSt s.heap e it l items items.size) (hQ : ∀ h', Heap.ExtBut it s.heap h' → Q none { s with heap := h' }) : wpAny (model prog w) A (pyNext (.ref e)) Q E s := by
  obtain ⟨hit, hl, hst⟩ := hst
  have hx : items[items.size]? = none := Array.getElem?_eq_none (Nat.le_refl _)
  rcases hst with ⟨old, he⟩ | ⟨old, T, f, oT, he, hT, n1, n2⟩
  · exact wpAny_pyNext_enum_end hh he hit hl hx hQ
  · exact wpAny_pyNext_enum_end_held hh he hit hl hx hQ
theorem enm_loop {S e it l base : Addr} {items : Array Value} (hh : A.in1.handled = none) (hei : e ≠ it) (hle : l ≠ e) (hli : l ≠ it) (eS : e ≠ S) (iS : it ≠ S) (lS : l ≠ S) (eb : e < base) (ib : it < base) (Sb : S < base) (hn : items.size ≤ sizeLine) (res : Value) :
    ∀ (k i : Nat) (s : Shared) (acc : Array Value) (c : Nat), items.size - i = k → i ≤ items.size → base ≤ s.heap.objs.size → EnSt s.heap e it l items i → s.heap.get? S = some { cls := .type "list", dict := none, data := .seq acc c, slots := #[] } → EnAcc s.heap base items acc i →
    (∀ h' tk acc' c', (∀ b o, b ≠ S → b ≠ e → b ≠ it → s.heap.get? b = some o → h'.get? b = some o) → h'.get? S = some { cls := .type "list", dict := none, data := .seq acc' c', slots := #[] } → EnAcc h' base items acc' items.size → R (.ok (.ret res)) { s with heap := h', toks := tk }) →
    codeAny (model prog w) A (.builtin "list.extend.loop" ⟨[.ref S, .ref e, res], []⟩) R s := by
  intro k
  induction k with
  | zero =>
    intro i s acc c hk hi hb hst hS hacc hR
    have hin : i = items.size := by omega
    subst hin
    refine codeAny_builtin F.entry_extend_loop ?_
    rw [Around.under_plainId F.plain_extend_loop _]
    show wpAny _ A.in1 (pyNext (.ref e) >>= _) _ _ s
    refine wpAny_bind (enm_end hh hst fun h' x => wpAny_pure (hR h' s.toks acc c (fun b o _ _ n z => x b o n z) (x S _ (Ne.symm iS) hS) ⟨hacc.1, fun j hj => ?_⟩))
    obtain ⟨T, x', t, q1, q2, q3, q4⟩ := hacc.2 j hj
    exact ⟨T, x', t, q1, q2, q3, x T _ (Nat.ne_of_gt (Nat.lt_of_lt_of_le ib q3)) q4⟩
  | succ k ih =>
    intro i s acc c hk hi hb hst hS hacc hR
    have hlt : i < items.size := by omega
    have hx : items[i]? = some items[i] := Array.getElem?_eq_getElem hlt
    refine codeAny_builtin F.entry_extend_loop ?_
    rw [Around.under_plainId F.plain_extend_loop _]
    show wpAny _ A.in1 (pyNext (.ref e) >>= _) _ _ s
    refine wpAny_bind (enm_next hei hle hli hst hx fun h' st' ht hz keep => ?_)
    have hS' := keep S _ (Ne.symm eS) (Ne.symm iS) hS
    show wpAny _ A.in1 (updateSeq S (·.push (Value.ref s.heap.objs.size)) >>= _) _ _ _
    refine wpAny_bind ?_
    have TS : s.heap.objs.size ≠ S := Nat.ne_of_gt (Nat.lt_of_lt_of_le Sb hb)
    refine wpAny_updateSeq hS' rfl (wpAny_pure ⟨plainId_quiet F.plain_extend_loop _, ih (i + 1) _ (acc.push (.ref s.heap.objs.size)) _ (by omega) hlt ?_ (st'.keep (S := S) (fun b o n z => (Heap.get?_update_other _ _ (Ne.symm n)).trans z) eS iS lS fun T oT z => ?_) (Heap.get?_update_self _ hS' rfl) ⟨by rw [Array.size_push, hacc.1], fun j hj => ?_⟩ fun h'' tk acc' c' k2 hS'' hacc' => ?_⟩)
      (by rw [hacc.1]; omega) (by show (acc.push _).size ≤ sizeLine + 1; rw [Array.size_push, hacc.1]; omega)
    · show base ≤ (h'.update S _).objs.size
      rw [Heap.size_update, hz]
      exact Nat.le_succ_of_le hb
    · by_cases q : T = S
      · subst q
        rw [Heap.get?_update_self _ hS' rfl]
        exact fun z => by cases z
      · rw [Heap.get?_update_other _ _ (Ne.symm q), z]
        exact fun z => by cases z
    · rw [Array.getElem?_push]
      by_cases q : j = i
      · subst q
        rw [if_pos hacc.1.symm]
        exact ⟨_, _, _, rfl, hx, hb, (Heap.get?_update_other _ _ (Ne.symm TS)).trans ht⟩
      · have hj' : j < i := by omega
        rw [if_neg (by rw [hacc.1]; exact q)]
        obtain ⟨T, x', t, q1, q2, q3, q4⟩ := hacc.2 j hj'
        have nS : S ≠ T := Nat.ne_of_lt (Nat.lt_of_lt_of_le Sb q3)
        exact ⟨T, x', t, q1, q2, q3, (Heap.get?_update_other _ _ nS).trans (keep T _ (Nat.ne_of_gt (Nat.lt_of_lt_of_le eb q3)) (Nat.ne_of_gt (Nat.lt_of_lt_of_le ib q3)) q4)⟩
    · exact hR h'' tk acc' c' (fun b o n1 n2 n3 z => k2 b o n1 n2 n3 ((Heap.get?_update_other _ _ (Ne.symm n1)).trans (keep b o n2 n3 z))) hS'' hacc'
theorem enm_collect {e it l : Addr} {items : Array Value} {old : Value} {Q : List Value → Shared → Prop} (hh : A.in1.handled = none) (hei : e ≠ it) (hle : l ≠ e) (hli : l ≠ it) (hit : s.heap.IsListIter it l 0) (hl : s.heap.IsList l items) (he0 : IsEnum s.heap e it 0 old) (le : e < s.heap.objs.size) (li : it < s.heap.objs.size) (ll : l < s.heap.objs.size) (hn : items.size ≤ sizeLine)
    (hQ : ∀ h' tk acc, s.heap.objs.size < h'.objs.size → (∀ b o, b < s.heap.objs.size → b ≠ e → b ≠ it → s.heap.get? b = some o → h'.get? b = some o) → EnAcc h' s.heap.objs.size items acc items.size → Q acc.toList { s with heap := h', toks := tk }) : wpAny (model prog w) A (collect (.ref e)) Q E s := by
  have hSI : s.heap.objs.size ≠ e := Nat.ne_of_gt le
  have hst : EnSt s.heap e it l items 0 := ⟨hit, hl, .inl ⟨old, he0⟩⟩
  have T0 : ∀ {h : Heap}, EnSt h e it l items 0 → ({ s with heap := h } : Shared).TypeIs (.ref e) "enumerate" := fun {h} x => by
    rcases x.2.2 with ⟨old, he⟩ | ⟨old, T, f, oT, he, _⟩
    · exact ⟨_, he, rfl⟩
    · exact ⟨_, he, rfl⟩
  unfold collect
  refine wpAny_bind (wpAny_runValue (codeAny_builtin F.entry_proto_collect ?_))
  rw [Around.under_plainId F.plain_proto_collect _]
  show wpAny _ A.in1 (newList [] >>= fun l => again (.builtin "list.__iadd__" ⟨[l, .ref e], []⟩)) _ _ s
  refine wpAny_bind (wpAny_newObj_type ?_)
  refine wpAny_pure ⟨plainId_quiet F.plain_list_iadd _, codeAny_builtin F.entry_list_iadd ?_⟩
  rw [Around.under_plainId F.plain_list_iadd _]
  have keep1 : ∀ b o, s.heap.get? b = some o → (s.heap.push { cls := .type "list", data := .seq ([] : List Value).toArray }).get? b = some o := fun b o z => Heap.get?_push_of_some _ z
  have hst₁ : EnSt (s.heap.push { cls := .type "list", data := .seq ([] : List Value).toArray }) e it l items 0 := hst.keep (S := s.heap.objs.size) (fun b o _ z => keep1 b o z) (Nat.ne_of_lt le) (Nat.ne_of_lt li) (Nat.ne_of_lt ll) fun T oT z => by rw [keep1 T oT z]; exact fun z => by cases z
  show wpAny _ A.in1 (Builtin.List.listExtendWith (.ref s.heap.objs.size) (.ref e) (.ref s.heap.objs.size)) _ _ _
  unfold Builtin.List.listExtendWith
  refine wpAny_bind (wpAny_typeOf (T0 hst₁) ?_)
  have h1 : Builtin.List.listSameRef (.ref s.heap.objs.size) (.ref e) = false := by simp [Builtin.List.listSameRef, hSI]
  have h2 : (Value.type "enumerate" == Value.type "list") = false := by decide
  have h3 : (Value.type "enumerate" == Value.type "tuple") = false := by decide
  simp only [h1, h2, h3, Bool.or_false, Bool.false_eq_true, if_false]
  have self : ∀ {Q' : Value → Shared → Prop} {E' : Value → Shared → Prop} (s' : Shared), s'.heap = s.heap.push { cls := .type "list", data := .seq ([] : List Value).toArray } → Q' (.ref e) s' → wpAny (model prog w) A.in1 (pyIter (.ref e)) Q' E' s' := fun s' es q => by
    exact wpAny_pyIter_enum (by rw [es]; exact keep1 e _ he0) q
  refine wpAny_bind (self _ rfl ?_)
  refine wpAny_bind (wpAny_holding ?_)
  unfold Builtin.List.listLengthHint
  refine wpAny_bind (wpAny_specialOf (T0 hst₁) F.enm_no_len ?_)
  show wpAny _ A.in1 (specialOf (Value.ref e) (Str.ofString "__length_hint__") >>= _) _ _ _
  refine wpAny_bind (wpAny_specialOf (T0 hst₁) F.enm_no_hint ?_)
  refine wpAny_pure ?_
  show wpAny _ A.in1 (rule "list.extend.makes-room" >>= fun _ => Builtin.List.listTouch (.ref s.heap.objs.size) >>= fun _ =>
    again (.builtin "list.extend.loop" ⟨[.ref s.heap.objs.size, .ref e, .ref s.heap.objs.size], []⟩)) _ _ _
  refine wpAny_bind (wpAny_rule ?_)
  have hS₁ : (s.heap.push { cls := .type "list", data := .seq ([] : List Value).toArray }).get? s.heap.objs.size = some { cls := .type "list", data := .seq ([] : List Value).toArray } := Heap.get?_push_size _ rfl
  refine wpAny_bind ?_
  show wpAny _ A.in1 (updateSeq s.heap.objs.size (·.push .none) >>= fun _ => updateSeq s.heap.objs.size (·.pop)) _ _ _
  refine wpAny_bind (wpAny_updateSeq hS₁ rfl ?_)
  have hS₂ := Heap.get?_update_self (Obj.mapSeq (·.push Value.none)) hS₁ rfl
  refine wpAny_updateSeq hS₂ rfl ?_
  have hS₃ := Heap.get?_update_self (Obj.mapSeq (·.pop)) hS₂ rfl
  have oth : ∀ b o, b ≠ s.heap.objs.size → (s.heap.push { cls := .type "list", data := .seq ([] : List Value).toArray }).get? b = some o →
      (((s.heap.push { cls := .type "list", data := .seq ([] : List Value).toArray }).update s.heap.objs.size (Obj.mapSeq (·.push Value.none))).update s.heap.objs.size (Obj.mapSeq (·.pop))).get? b = some o :=
    fun b o hb e => (Heap.get?_update_other _ _ (Ne.symm hb)).trans ((Heap.get?_update_other _ _ (Ne.symm hb)).trans e)
  have hst₃ := hst₁.keep (h' := (((s.heap.push { cls := .type "list", data := .seq ([] : List Value).toArray }).update s.heap.objs.size (Obj.mapSeq (·.push Value.none))).update s.heap.objs.size (Obj.mapSeq (·.pop)))) (S := s.heap.objs.size) (fun b o n z => oth b o n z) (Nat.ne_of_lt le) (Nat.ne_of_lt li) (Nat.ne_of_lt ll) fun T oT z => by
    by_cases q : T = s.heap.objs.size
    · rw [q, hS₃]
      exact fun z => by cases z
    · rw [oth T oT q z]
      exact fun z => by cases z
  refine wpAny_pure ⟨plainId_quiet F.plain_extend_loop _, enm_loop (base := s.heap.objs.size + 1) hh hei hle hli (Nat.ne_of_lt le) (Nat.ne_of_lt li) (Nat.ne_of_lt ll) (Nat.lt_succ_of_lt le) (Nat.lt_succ_of_lt li) (Nat.lt_succ_self _) hn _ items.size 0 _ _ _ rfl (Nat.zero_le _) ?_ hst₃ hS₃ ⟨rfl, fun j hj => absurd hj (Nat.not_lt_zero _)⟩ fun h' tk acc' c' k2 hS' hacc => ?_⟩
  · show s.heap.objs.size + 1 ≤ (((s.heap.push _).update s.heap.objs.size _).update s.heap.objs.size _).objs.size
    rw [Heap.size_update, Heap.size_update, Heap.size_push]
    exact Nat.le_refl _
  show wpAny _ A (load s.heap.objs.size >>= _) _ _ { s with heap := h', toks := tk }
  refine wpAny_bind (wpAny_load hS' ?_)
  refine wpAny_pure (hQ h' tk acc' (Heap.lt_size hS') (fun b o lb n1 n2 z => k2 b o (Nat.ne_of_lt lb) n1 n2 (oth b o (Nat.ne_of_lt lb) (keep1 b o z))) ⟨hacc.1, fun j hj => ?_⟩)
  obtain ⟨T, x', t, q1, q2, q3, q4⟩ := hacc.2 j hj
  exact ⟨T, x', t, q1, q2, Nat.le_of_succ_le q3, q4⟩
theorem code_tuple_new_enm {e it l : Addr} {items : Array Value} {old : Value} {Q₁ : Value → Shared → Prop} (hh : A.handled = none) (hei : e ≠ it) (hle : l ≠ e) (hli : l ≠ it) (hit : s.heap.IsListIter it l 0) (hl : s.heap.IsList l items) (he0 : IsEnum s.heap e it 0 old) (le : e < s.heap.objs.size) (li : it < s.heap.objs.size) (ll : l < s.heap.objs.size) (hn : items.size ≤ sizeLine)
    (h : ∀ h' tk acc, s.heap.objs.size < h'.objs.size → (∀ b o, b < s.heap.objs.size → b ≠ e → b ≠ it → s.heap.get? b = some o → h'.get? b = some o) → EnAcc h' s.heap.objs.size items acc items.size → Q₁ (.ref h'.objs.size) { s with heap := h'.push { cls := .type "tuple", data := .seq acc }, toks := tk }) :
    codeAny (model prog w) A (.call (.builtin "tuple.__new__") ⟨[.type "tuple", .ref e], []⟩) (wants Q₁ E) s := by
  refine codeAny_of_tree ?_
  show wpAny _ A.in1 (do checkBuiltinCall "tuple.__new__" ⟨[.type "tuple", .ref e], []⟩; again (.builtin "tuple.__new__" ⟨[.type "tuple", .ref e], []⟩)) _ _ s
  refine wpAny_bind (wpAny_of_eq (F.newCall_tuple_1 _) (wpAny_pure ⟨plainId_quiet F.plain_tuple_new _, codeAny_builtin F.entry_tuple_new ?_⟩))
  rw [Around.under_plainId F.plain_tuple_new _]
  have hsub := sub_tuple_self
  have hinit := init_tuple_lookup
  have hmh := madeHere_tuple
  have hTI : s.TypeIs (.ref e) "enumerate" := ⟨_, he0, rfl⟩
  wp_walk using wpAny_typeOf hTI, enm_collect (by simp [hh]) hei hle hli hit hl he0 le li ll hn
  intro h' tk acc hz hk hacc
  show wpAny _ _ (Builtin.Tuple.tupleExact acc.toList.toArray >>= fun v => ret v) _ _ _
  unfold Builtin.Tuple.tupleExact
  refine wpAny_bind (wpAny_newObj_type ?_ (by show acc.toList.toArray.size ≤ sizeLine; simp only [Array.toArray_toList]; rw [hacc.1]; exact hn))
  refine wpAny_pure ?_
  have e' : acc.toList.toArray = acc := by simp
  rw [e']
  exact h h' tk acc hz hk hacc
theorem call_tuple_enm {e it l : Addr} {items : Array Value} {old : Value} {Q : Value → Shared → Prop} (hh : A.handled = none) (hei : e ≠ it) (hle : l ≠ e) (hli : l ≠ it) (hit : s.heap.IsListIter it l 0) (hl : s.heap.IsList l items) (he0 : IsEnum s.heap e it 0 old) (le : e < s.heap.objs.size) (li : it < s.heap.objs.size) (ll : l < s.heap.objs.size) (hn : items.size ≤ sizeLine)
    (h : ∀ h' tk acc, s.heap.objs.size < h'.objs.size → (∀ b o, b < s.heap.objs.size → b ≠ e → b ≠ it → s.heap.get? b = some o → h'.get? b = some o) → EnAcc h' s.heap.objs.size items acc items.size → Q (.ref h'.objs.size) { s with heap := h'.push { cls := .type "tuple", data := .seq acc }, toks := tk }) :
    wpAny (model prog w) A (call (.type "tuple") [.ref e]) Q E s := by
  refine callType_codes (Q₁ := fun obj s₁ => s₁.TypeIs obj "tuple" ∧ Q obj s₁) F.called_tuple (F.typeCall_tuple_1 _) F.entry_object_init
    (code_tuple_new_enm (by simp [hh]) hei hle hli hit hl he0 le li ll hn fun h' tk acc hz hk hacc => ⟨⟨_, Heap.get?_push_size _ rfl, rfl⟩, h h' tk acc hz hk hacc⟩) fun obj s₁ h₁ => ?_
  exact ⟨h₁.1, F.args_object_init_2 obj _, object_init_meets F.called_tuple.init.lookup F.called_tuple.made (by decide) prog w A.in1 _ s₁ ⟨h₁.1, rfl, h₁.2⟩⟩
end
end PySem

/-! tuple(enumerate(xs)) in the hand layer. -/
namespace Dv
open PySem PySem.Spec PyProof.Rows L2 GxR Gx LiI
/-- the pairs of places and items -/
def enK : Nat → List V → List (Key × V)
  | _, [] => []
  | j, x :: xs => (Sum.inl (j : Int), x) :: enK (j + 1) xs
theorem enK_len : ∀ (xs : List V) (j : Nat), (enK j xs).length = xs.length
  | [], _ => rfl
  | _ :: xs, j => congrArg (· + 1) (enK_len xs (j + 1))
theorem enK_at : ∀ (xs : List V) (j i : Nat), (enK j xs)[i]? = (xs[i]?).map fun x => (Sum.inl ((j + i : Nat) : Int), x)
  | [], _, _ => rfl
  | x :: xs, j, 0 => rfl
  | x :: xs, j, i + 1 => by
    show (enK (j + 1) xs)[i]? = _
    rw [enK_at xs (j + 1) i, show j + 1 + i = j + (i + 1) by omega]
    rfl
def unR : Value → Addr
  | .ref a => a
  | _ => 0
section
variable {X : Cx}
theorem en_laid {pins : List (Addr × Obj)} {σ : L2.St} {H : Hp} {s : Shared} {h' : Heap} {tk : Nat} {xs : List V} {items acc : Array Value} (I : Inv X pins σ H s) (hz : xs.length ≤ sizeLine) (rv : Vals xs items.toList)
    (hk : ∀ b o, s.heap.get? b = some o → h'.get? b = some o) (hb : s.heap.objs.size ≤ h'.objs.size) (ac : EnAcc h' s.heap.objs.size items acc items.size) :
    ∃ (H' : Hp) (as : List Addr), (∀ b o, H b = some o → H' b = some o) ∧ H h'.objs.size = none ∧ (∀ t ∈ as, H t = none) ∧ h'.objs.size ∉ as ∧ H' h'.objs.size = some (.tup (as.map V.ref)) ∧ Paired (fun (t : Addr) (q : Key × V) => H' t = some (.tup [kV q.1, q.2])) as (enK 0 xs) ∧
      Inv X pins σ H' { s with heap := h'.push { cls := .type "tuple", data := .seq acc }, toks := tk } := by
  have lx : xs.length = items.size := by rw [← Array.length_toList]; exact rv.length
  obtain ⟨asz, acp⟩ := ac
  generalize eas : acc.toList.map unR = as
  have la : as.length = items.size := by rw [← eas, List.length_map, Array.length_toList, asz]
  have get : ∀ j (hj : j < as.length), ∃ x t, acc[j]? = some (.ref as[j]) ∧ items[j]? = some x ∧ s.heap.objs.size ≤ as[j] ∧ h'.get? as[j] = some { cls := .type "tuple", data := .seq #[.int (j : Int) t, x] } := fun j hj => by
    obtain ⟨T, x, t, q1, q2, q3, q4⟩ := acp j (by omega)
    have : as[j] = T := by
      subst eas
      rw [List.getElem_map, Array.getElem_toList]
      rw [(Array.getElem?_eq_some_iff.mp q1).2]
      rfl
    rw [this]
    exact ⟨x, t, q1, q2, q3, q4⟩
  have hacc : acc.toList = as.map Value.ref := by
    refine List.ext_getElem (by rw [Array.length_toList, List.length_map, la, asz]) fun i h1 h2 => ?_
    rw [List.length_map] at h2
    obtain ⟨x, t, q1, _⟩ := get i h2
    rw [List.getElem_map, Array.getElem_toList]
    exact (Array.getElem?_eq_some_iff.mp q1).2
  have nd : as.Nodup := by
    refine List.pairwise_iff_getElem.mpr fun i j hi hj lt e => ?_
    obtain ⟨x, t, _, _, _, q4⟩ := get i hi
    obtain ⟨y, u, _, _, _, r4⟩ := get j hj
    rw [← e, q4] at r4
    have := Option.some.inj r4
    injection this with _ _ d _
    injection d with d
    have z := congrArg (fun (a : Array Value) => a[0]?) d
    simp at z
    omega
  have above : ∀ t ∈ as, s.heap.objs.size ≤ t ∧ t < h'.objs.size := fun t ht => by
    obtain ⟨j, hj, rfl⟩ := List.getElem_of_mem ht
    obtain ⟨_, _, _, _, q3, q4⟩ := get j hj
    exact ⟨q3, Heap.lt_size q4⟩
  have hSn : h'.objs.size ∉ as := fun z => Nat.lt_irrefl _ (above _ z).2
  have new : ∀ t ∈ as, H t = none := fun t ht => I.hok.fresh (above t ht).1
  have newS : H h'.objs.size = none := I.hok.fresh hb
  have hk2 : ∀ b o, s.heap.get? b = some o → (h'.push { cls := .type "tuple", data := .seq acc }).get? b = some o := fun b o q => Heap.get?_push_of_some _ (hk b o q)
  have lk : as.length = (enK 0 xs).length := by rw [enK_len]; omega
  have atP := putT_at as (enK 0 xs) (upd H h'.objs.size (.tup (as.map V.ref))) lk nd
  have off : ∀ b, b ∉ as → b ≠ h'.objs.size → putT (upd H h'.objs.size (.tup (as.map V.ref))) as (enK 0 xs) b = H b := fun b h1 h2 => by rw [putT_off as (enK 0 xs) _ h1, upd_ne h2]
  have low : ∀ b o, s.heap.get? b = some o → b ∉ as ∧ b ≠ h'.objs.size := fun b o e => ⟨fun z => absurd (Heap.lt_size e) (Nat.not_lt.mpr (above b z).1), Nat.ne_of_lt (Nat.lt_of_lt_of_le (Heap.lt_size e) hb)⟩
  have kp : ∀ b u, H b = some u → (putT (upd H h'.objs.size (.tup (as.map V.ref))) as (enK 0 xs)) b = some u := fun b u e => by
    rw [off b (fun z => by rw [new b z] at e; cases e) (fun z => by rw [z, newS] at e; cases e)]
    exact e
  have eS : putT (upd H h'.objs.size (.tup (as.map V.ref))) as (enK 0 xs) h'.objs.size = some (.tup (as.map V.ref)) := by rw [putT_off as (enK 0 xs) _ hSn, upd_same]
  refine ⟨putT (upd H h'.objs.size (.tup (as.map V.ref))) as (enK 0 xs), as, kp, newS, new, hSn, eS, atP, ?_⟩
  refine I.call' (ch := []) rfl ⟨fun b o q _ _ _ => hk2 b o q, fun b o q _ _ _ => ⟨o.slots, hk2 b o q⟩, fun b o q n _ => ?_, fun b o q _ => ⟨o, hk2 b o q⟩, fun b xs q => kp b _ q, fun b o u q => kp b _ q, fun b ps q => ⟨#[], by rw [kp b _ q]; simp⟩⟩ (fun b u q => ?_) I.bare fun b z => by simp at z
  · obtain ⟨z1, z2⟩ := low b o q
    rw [off b z1 z2]
    exact n
  · by_cases hb : b ∈ as
    · obtain ⟨j, pk, e1, e2, e3⟩ := paired_ix atP hb
      rw [e3] at q
      cases q
      have hj : j < as.length := (List.getElem?_eq_some_iff.mp e1).1
      have ej : as[j] = b := (List.getElem?_eq_some_iff.mp e1).2
      obtain ⟨x, t, _, q2, _, q4⟩ := get j hj
      rw [ej] at q4
      rw [enK_at, Nat.zero_add] at e2
      obtain ⟨v, hv, ev⟩ := Option.map_eq_some_iff.mp e2
      subst ev
      obtain ⟨y, g1, g2⟩ := LiI.paired_get rv hv
      rw [Array.getElem?_toList, q2] at g1
      cases g1
      exact ⟨by show 2 ≤ sizeLine; decide, [.int j t, x], .cons ⟨_, rfl⟩ (.cons g2 .nil), ⟨_, Heap.get?_push_of_some _ q4, rfl, _, rfl⟩⟩
    · by_cases hb2 : b = h'.objs.size
      · rw [hb2] at q ⊢
        rw [eS] at q
        cases q
        refine ⟨by rw [List.length_map]; omega, acc.toList, by rw [hacc]; exact LiI.vals_refs as, ?_⟩
        rw [Array.toArray_toList]
        exact ⟨_, Heap.get?_push_size _ rfl, rfl, _, rfl⟩
      · rw [off b hb hb2] at q
        exact (I.hok b u q).stay (fun d v _ y => hk2 d v y) (fun d y => kp d _ y) fun d xs y => kp d _ y
def tTupEnum (K : PySem.W.Frag) (ta : TE) : TE := fun σ H Q => ta σ H fun x H1 => ∃ (l : Addr) (xs : List V), x = .ref l ∧ SqL K H1 l xs ∧ xs.length ≤ 100000 ∧
  ∀ (H' : Hp) (p : Addr) (ts : List Addr), (∀ b o, H1 b = some o → H' b = some o) → H1 p = none → (∀ t ∈ ts, H1 t = none) → p ∉ ts → H' p = some (.tup (ts.map V.ref)) → Paired (fun (t : Addr) (q : Key × V) => H' t = some (.tup [kV q.1, q.2])) ts (enK 0 xs) → Q (.ref p) H'
theorem pe_tupEnum {a : Expr} {ta : TE} {p p2 q pos : Pos} (hg : Gl X "tuple") (hm : X.mg "tuple" = none) (hg2 : Gl X "enumerate") (hm2 : X.mg "enumerate" = none) (ha : PE X a ta) (hc : X.calm = true := by rfl)
    (na : starEach [a] X.env = (false, eval a X.env) :: starEach [] X.env := by rfl) : PE X (.Call (.Name "tuple" p) [.Call (.Name "enumerate" p2) [a] [] q] [] pos) (tTupEnum X.K ta) := by
  refine ⟨fun pins s σ H Q I h => ?_⟩
  refine Call_ (ld_blt I hg hm (u := .type "tuple") (by decide +kernel) ?_)
  refine PyProof.Rows.callWith_type1 (PyProof.Rows.args_cons ?_ rfl) rfl rfl
  refine Call_ (ld_blt I hg2 hm2 boot_enumerate ?_)
  refine PyProof.Rows.callWith_type1 (PyProof.Rows.args_cons (thn (ha.run pins s σ H _ I h) fun v s1 ⟨x, H1, I1, r1, q1⟩ => PyProof.Rows.args_nil ?_) na) na rfl
  obtain ⟨l, xs, rfl, hq, hl, q1⟩ := q1
  cases r1
  obtain ⟨its, rv, pl, hz⟩ := I1.list hq
  refine call_enumerate_list pl.isList fun h' he hit hsz hk => ?_
  refine PyProof.Rows.args_nil ?_
  have ll : l < s1.heap.objs.size := by obtain ⟨o, ho, _⟩ := pl.isList; exact Heap.lt_size ho
  have li : its.toArray.size = xs.length := by rw [List.size_toArray, ← rv.length]
  refine call_tuple_enm (s := { s1 with heap := h' }) (e := s1.heap.objs.size + 1) (it := s1.heap.objs.size) (l := l) (I1.ok.hd hc) (Nat.succ_ne_self _) (Nat.ne_of_lt (Nat.lt_succ_of_lt ll)) (Nat.ne_of_lt ll) hit (pl.isList.at fun o z => hk l o z) he (by show _ < h'.objs.size; rw [hsz]; exact Nat.lt_succ_self _) (by show _ < h'.objs.size; rw [hsz]; omega) (by show _ < h'.objs.size; rw [hsz]; exact Nat.lt_of_lt_of_le ll (by omega)) (by rw [li]; unfold sizeLine; omega) fun h'' tk acc sz hk2 ac => ?_
  have sz' : s1.heap.objs.size + 2 < h''.objs.size := by rw [← hsz]; exact sz
  obtain ⟨H', as, k1, k2, k3, k4, k5, k6, J⟩ := en_laid (tk := tk) (h' := h'') (items := its.toArray) I1 (by unfold sizeLine; omega) rv (fun b o z => hk2 b o (by
      have := Heap.lt_size z
      show b < h'.objs.size
      rw [hsz]
      exact Nat.lt_of_lt_of_le this (by omega)) (Nat.ne_of_lt (Nat.lt_succ_of_lt (Heap.lt_size z))) (Nat.ne_of_lt (Heap.lt_size z)) (hk b o z)) (by omega) ⟨ac.1, fun j hj => by
      obtain ⟨T, x, t, z1, z2, z3, z4⟩ := ac.2 j hj
      refine ⟨T, x, t, z1, z2, Nat.le_trans ?_ z3, z4⟩
      show s1.heap.objs.size ≤ h'.objs.size
      rw [hsz]
      omega⟩
  exact ⟨.ref _, H', J, rfl, q1 H' _ as k1 k2 k3 k4 k5 k6⟩
end
end Dv

/-! Top lists: the machine and what it does. -/
namespace Dv
open PySem PySem.Spec PyProof.Rows L2 GxR Gx
def srcK (k held at' : Nat) : List Int := (((List.range at').map fun (j : Nat) => (j : Int)) ++ [-1] ++ (List.range' at' (held - at')).map fun (j : Nat) => (j : Int)).take k
def movK (k held at' : Nat) : List Int := srcK k held at' ++ (List.range' (srcK k held at').length (k - (srcK k held at').length)).map fun (j : Nat) => (j : Int)
def enP (l : List Int) : List (Int × Int) := l.zipIdx.map fun p => ((p.2 : Int), p.1)
def putK' (k held at' : Nat) (c : C) : Case := ⟨if at' < held then .all [c, .less at' (-1)] else c, movK k held at', enP (srcK k held at'), 0⟩
def grpK (k held : Nat) (c : C) : List Case := (List.range (held + 1)).map fun at' => putK' k held at' c
def topC (k : Nat) : List Case := (List.range k).flatMap (fun held => grpK k held (.emp held)) ++ grpK k k .tru
def topM (k : Nat) : M := ⟨1, k, [[topC k]]⟩
/-- the place of x in a falling list -/
def posD (x : Int) : List Int → Nat
  | [] => 0
  | y :: l => if y < x then 0 else posD x l + 1
theorem posD_le (x : Int) : ∀ l : List Int, posD x l ≤ l.length
  | [] => Nat.le_refl _
  | y :: l => by
    unfold posD
    split
    · exact Nat.zero_le _
    · exact Nat.succ_le_succ (posD_le x l)
theorem posD_before (x : Int) : ∀ {l : List Int} {j : Nat}, j < posD x l → ∀ y, l[j]? = some y → ¬ y < x
  | [], j, h, y, e => by cases e
  | z :: l, j, h, y, e => by
    unfold posD at h
    split at h
    · exact absurd h (Nat.not_lt_zero _)
    · next c =>
      cases j with
      | zero => cases e; exact c
      | succ j => exact posD_before x (Nat.lt_of_succ_lt_succ h) y e
theorem posD_here (x : Int) : ∀ {l : List Int} (y : Int), l[posD x l]? = some y → y < x
  | [], y, e => by cases e
  | z :: l, y, e => by
    unfold posD at e
    split at e
    · next c => cases e; exact c
    · exact posD_here x y e
def insD (x : Int) (l : List Int) : List Int := l.take (posD x l) ++ [x] ++ l.drop (posD x l)
def regK (k : Nat) (d : List Int) : List (Option Int) := d.map some ++ List.replicate (k - d.length) none
theorem regK_at {k : Nat} {d : List Int} {j : Nat} (hd : d.length ≤ k) : (regK k d)[j]?.getD none = d[j]? := by
  unfold regK
  by_cases h : j < d.length
  · rw [List.getElem?_append_left (by rw [List.length_map]; exact h), List.getElem?_map, List.getElem?_eq_getElem h]
    rfl
  · rw [List.getElem?_append_right (by rw [List.length_map]; omega), List.getElem?_eq_none (by omega : d.length ≤ j), List.getElem?_replicate]
    split <;> rfl
theorem worthN {v : Int} {h : List (Option Int)} : worth v h (-1) = some v := rfl
theorem worth_reg {v : Int} {k : Nat} {d : List Int} {j : Nat} (hd : d.length ≤ k) : worth v (regK k d) (j : Int) = d[j]? := by
  unfold worth
  rw [if_neg (by omega), if_neg (by omega), Int.toNat_natCast, regK_at hd]
/-- the case of a group that is carried out -/
theorem grp_find {k held : Nat} {c : C} {x : Int} {d : List Int} (hd : d.length ≤ k) (hc : hold x (regK k d) c = true) (hl : d.length = held) :
    (grpK k held c).find? (holdC x (regK k d)) = some (putK' k held (posD x d) c) := by
  have le := posD_le x d
  have hw : ∀ at', holdC x (regK k d) (putK' k held at' c) = if at' < held then ltO d[at']? (some x) else true := fun at' => by
    show hold x (regK k d) (if at' < held then .all [c, .less at' (-1)] else c) = _
    by_cases h : at' < held
    · rw [if_pos h, if_pos h]
      have e : hold x (regK k d) (.all [c, .less at' (-1)]) = (hold x (regK k d) c && (ltO (worth x (regK k d) at') (worth x (regK k d) (-1)) && true)) := by simp only [hold, holdA]
      rw [e, hc, worth_reg hd, worthN]
      simp
    · rw [if_neg h, if_neg h, hc]
  unfold grpK
  rw [List.find?_eq_some_iff_append]
  refine ⟨?_, (List.range (posD x d)).map (fun at' => putK' k held at' c), (List.range' (posD x d + 1) (held - posD x d)).map (fun at' => putK' k held at' c), ?_, fun a ha => ?_⟩
  · rw [hw]
    split
    · next h =>
      have e : d[posD x d]? = some d[posD x d] := List.getElem?_eq_getElem (by omega)
      rw [e]
      exact decide_eq_true (posD_here x _ e)
    · rfl
  · have : List.range (held + 1) = List.range (posD x d) ++ posD x d :: List.range' (posD x d + 1) (held - posD x d) := by
      rw [List.range_eq_range', List.range_eq_range', show held + 1 = posD x d + (held - posD x d + 1) by omega, ← List.range'_append_1, Nat.zero_add, List.range'_succ]
    rw [this, List.map_append, List.map_cons]
  · obtain ⟨j, hj, rfl⟩ := List.mem_map.mp ha
    rw [List.mem_range] at hj
    rw [hw, if_pos (by omega), List.getElem?_eq_getElem (show j < d.length by omega)]
    show (!decide (d[j] < x)) = true
    rw [decide_eq_false (posD_before x hj _ (List.getElem?_eq_getElem (by omega)))]
    rfl
theorem grp_none {k held : Nat} {x : Int} {d : List Int} (hd : d.length ≤ k) (hl : held < d.length) : (grpK k held (.emp held)).find? (holdC x (regK k d)) = none := by
  rw [List.find?_eq_none]
  intro a ha
  obtain ⟨at', _, rfl⟩ := List.mem_map.mp ha
  have e : hold x (regK k d) (.emp held) = false := by
    unfold hold
    rw [worth_reg hd, List.getElem?_eq_getElem hl]
    rfl
  show ¬ hold x (regK k d) (if at' < held then .all [.emp held, .less at' (-1)] else .emp held) = true
  split
  · unfold hold holdA
    rw [e]
    simp
  · rw [e]
    simp
theorem top_find {k : Nat} {x : Int} {d : List Int} (hd : d.length ≤ k) : ∃ c, (topC k).find? (holdC x (regK k d)) = some (putK' k d.length (posD x d) c) := by
  unfold topC
  rw [List.find?_append, List.find?_flatMap]
  have low : ∀ n ≤ d.length, (List.range n).findSome? (fun held => (grpK k held (.emp held)).find? (holdC x (regK k d))) = none := fun n hn => by
    rw [List.findSome?_eq_none_iff]
    intro held hh
    rw [List.mem_range] at hh
    exact grp_none hd (by omega)
  by_cases h : d.length = k
  · rw [low k (by omega)]
    exact ⟨.tru, by rw [Option.none_or]; rw [← h] at hd ⊢; exact grp_find (k := d.length) (by omega) rfl rfl⟩
  · refine ⟨.emp d.length, ?_⟩
    have : List.range k = List.range d.length ++ d.length :: List.range' (d.length + 1) (k - d.length - 1) := by
      rw [List.range_eq_range', List.range_eq_range', show k = d.length + (k - d.length - 1 + 1) by omega, ← List.range'_append_1, Nat.zero_add, List.range'_succ]
      congr 3
      omega
    rw [this, List.findSome?_append, low _ (Nat.le_refl _), List.findSome?_cons, grp_find hd _ rfl]
    · rfl
    · unfold hold
      rw [worth_reg hd, List.getElem?_eq_none (Nat.le_refl _)]
      rfl
theorem insD_len (x : Int) (l : List Int) : (insD x l).length = l.length + 1 := by
  have := posD_le x l
  unfold insD
  rw [List.length_append, List.length_append, List.length_take, List.length_drop]
  show min _ _ + 1 + _ = _
  omega
theorem src_worth {k : Nat} {x : Int} {d : List Int} (hd : d.length ≤ k) : (srcK k d.length (posD x d)).map (worth x (regK k d)) = ((insD x d).take k).map some := by
  have le := posD_le x d
  unfold srcK insD
  rw [List.map_take, List.map_take]
  congr 1
  rw [List.map_append, List.map_append, List.map_append, List.map_append, List.map_map, List.map_map]
  congr 1
  · congr 1
    refine List.ext_getElem (by simp; omega) fun i h1 h2 => ?_
    rw [List.length_map, List.length_range] at h1
    rw [List.getElem_map, List.getElem_map, List.getElem_range, List.getElem_take]
    show worth x (regK k d) (i : Int) = _
    rw [worth_reg hd, List.getElem?_eq_getElem (by omega)]
  · refine List.ext_getElem (by simp) fun i h1 h2 => ?_
    rw [List.length_map, List.length_range'] at h1
    rw [List.getElem_map, List.getElem_map, List.getElem_range', List.getElem_drop]
    show worth x (regK k d) ((posD x d + 1 * i : Nat) : Int) = _
    rw [worth_reg hd, Nat.one_mul, List.getElem?_eq_getElem (by omega)]
theorem src_len {k : Nat} {x : Int} {d : List Int} (hd : d.length ≤ k) : (srcK k d.length (posD x d)).length = ((insD x d).take k).length := by
  have := congrArg List.length (src_worth (x := x) hd)
  rwa [List.length_map, List.length_map] at this
def enA (d : List Int) : List (Int × Option Int) := d.zipIdx.map fun p => ((p.2 : Int), some p.1)
theorem top_read {k : Nat} {x : Int} {d : List Int} (hd : d.length ≤ k) : readM (topM k) 0 (regK k d) (0, x) = (0, regK k ((insD x d).take k), enA ((insD x d).take k)) := by
  obtain ⟨c, hc⟩ := top_find (k := k) (x := x) hd
  have e : M.cases (topM k) 0 0 = topC k := rfl
  have e1 : readM (topM k) 0 (regK k d) (0, x) = (match (M.cases (topM k) 0 0).find? (holdC x (regK k d)) with | none => (0, regK k d, []) | some c => (c.nxt, keptC x (regK k d) c, saidC x (regK k d) c)) := rfl
  rw [e1, e, hc]
  have sw := src_worth (x := x) hd
  have sl := src_len (x := x) hd
  show (0, (movK k d.length (posD x d)).map (worth x (regK k d)), (enP (srcK k d.length (posD x d))).map (fun p => (p.1, worth x (regK k d) p.2))) = _
  congr 1
  congr 1
  · unfold movK
    rw [List.map_append, sw]
    show _ = ((insD x d).take k).map some ++ List.replicate (k - ((insD x d).take k).length) none
    congr 1
    rw [sl]
    refine List.ext_getElem (by simp) fun i h1 h2 => ?_
    rw [List.length_replicate] at h2
    rw [List.getElem_replicate, List.getElem_map, List.getElem_map, List.getElem_range', worth_reg hd]
    rw [List.length_take, insD_len] at h2
    refine List.getElem?_eq_none ?_
    rw [List.length_take, insD_len]
    omega
  · unfold enP enA
    rw [List.map_map]
    refine List.ext_getElem (by simp [sl]) fun i h1 h2 => ?_
    rw [List.length_map, List.length_zipIdx] at h1 h2
    rw [List.getElem_map, List.getElem_map, List.getElem_zipIdx, List.getElem_zipIdx]
    show (((0 + i : Nat) : Int), worth x (regK k d) (srcK k d.length (posD x d))[i]) = (((0 + i : Nat) : Int), some ((insD x d).take k)[i])
    have g := congrArg (fun z => z[i]?) sw
    simp only [List.getElem?_map, List.getElem?_eq_getElem h1, List.getElem?_eq_getElem h2, Option.map_some] at g
    rw [Option.some.inj g]
/-- the values so far, falling -/
def fallD (xs : List Int) : List Int := xs.foldl (fun l x => insD x l) []
theorem fallD_snoc (xs : List Int) (x : Int) : fallD (xs ++ [x]) = insD x (fallD xs) := by unfold fallD; rw [List.foldl_append]; rfl
theorem posD_take (x : Int) : ∀ (l : List Int) (k : Nat), posD x (l.take k) = min (posD x l) k
  | [], k => by simp [posD]
  | y :: l, 0 => by simp [posD]
  | y :: l, k + 1 => by
    rw [List.take_succ_cons]
    unfold posD
    split
    · simp
    · rw [posD_take x l k]
      omega
theorem ins_take (x : Int) (l : List Int) (k : Nat) : (insD x (l.take k)).take k = (insD x l).take k := by
  have le := posD_le x l
  unfold insD
  rw [posD_take]
  rcases Nat.lt_or_ge (posD x l) k with h | h
  · have cut : ∀ (A B : List Int) (n : Nat), k - A.length ≤ n → (A ++ B.take n).take k = (A ++ B).take k := fun A B n hn => by rw [List.take_append, List.take_append, List.take_take, Nat.min_eq_left hn]
    rw [Nat.min_eq_left (by omega), List.take_take, Nat.min_eq_left (by omega), List.drop_take, cut]
    rw [List.length_append, List.length_take]
    show k - (min _ _ + 1) ≤ _
    omega
  · rw [Nat.min_eq_right h]
    rw [List.take_take, Nat.min_self]
    have a1 : (l.take k).length = k := by rw [List.length_take]; omega
    have a2 : k ≤ (l.take (posD x l)).length := by rw [List.length_take]; omega
    rw [List.append_assoc, List.append_assoc, List.take_append_of_le_length (by omega), List.take_take, Nat.min_self, List.take_append_of_le_length a2, List.take_take, Nat.min_eq_left h]
def topDue (k : Nat) (xs : List Int) : List (List (Int × Option Int)) := (List.range xs.length).map fun i => enA ((fallD (xs.take (i + 1))).take k)
theorem top_due (k : Nat) (xs : List Int) : answersM (topM k) (0, List.replicate k none) (asLog xs) = topDue k xs := by
  have h := answersM_rows (topM k) (asLog xs) (fun i => (0, regK k ((fallD (xs.take i)).take k))) (fun i => enA ((fallD (xs.take (i + 1))).take k)) fun i e he => by
    obtain ⟨rfl, hi⟩ := asLog_get he
    show readM (topM k) 0 (regK k ((fallD (xs.take i)).take k)) (0, xs.getD i 0) = (0, regK k ((fallD (xs.take (i + 1))).take k), enA ((fallD (xs.take (i + 1))).take k))
    rw [top_read (by rw [List.length_take]; exact Nat.min_le_left _ _), ins_take]
    have : xs.take (i + 1) = xs.take i ++ [xs.getD i 0] := by rw [List.take_add_one, List.getD_eq_getElem?_getD, List.getElem?_eq_getElem hi]; rfl
    rw [this, fallD_snoc]
  have e : regK k ((fallD (xs.take 0)).take k) = List.replicate k none := by
    show regK k (([] : List Int).take k) = _
    rw [List.take_nil]
    rfl
  rw [e] at h
  rw [h, asLog_len]
  rfl
end Dv

/-! Top lists: falling lists, right machines, pairs as data. -/
namespace Dv
open PySem PySem.Spec PyProof.Rows L2 GxR Gx
theorem insD_perm (x : Int) (l : List Int) : (insD x l).Perm (x :: l) := by
  unfold insD
  rw [List.append_assoc]
  have h : (l.take (posD x l) ++ ([x] ++ l.drop (posD x l))).Perm (x :: (l.take (posD x l) ++ l.drop (posD x l))) := List.perm_middle
  rwa [List.take_append_drop] at h
theorem insD_fall {x : Int} {l : List Int} (h : l.Pairwise (fun a b => b ≤ a)) : (insD x l).Pairwise (fun a b => b ≤ a) := by
  have le := posD_le x l
  have w := List.pairwise_iff_getElem.mp h
  have bef : ∀ y ∈ l.take (posD x l), x ≤ y := fun y hy => by
    obtain ⟨j, hj, rfl⟩ := List.getElem_of_mem hy
    rw [List.length_take] at hj
    rw [List.getElem_take]
    have := posD_before x (l := l) (j := j) (by omega) _ (List.getElem?_eq_getElem (by omega))
    omega
  have aft : ∀ y ∈ l.drop (posD x l), y ≤ x := fun y hy => by
    obtain ⟨j, hj, rfl⟩ := List.getElem_of_mem hy
    rw [List.length_drop] at hj
    rw [List.getElem_drop]
    have hp : posD x l < l.length := by omega
    have := posD_here x (l := l) _ (List.getElem?_eq_getElem hp)
    by_cases z : j = 0
    · subst z
      simp only [Nat.add_zero]
      omega
    · have := w (posD x l) (posD x l + j) hp (by omega) (by omega)
      omega
  unfold insD
  refine List.pairwise_append.mpr ⟨List.pairwise_append.mpr ⟨h.sublist (List.take_sublist _ _), List.pairwise_singleton _ _, fun a ha b hb => ?_⟩, h.sublist (List.drop_sublist _ _), fun a ha b hb => ?_⟩
  · obtain rfl := List.mem_singleton.mp hb
    exact bef a ha
  · rcases List.mem_append.mp ha with q | q
    · have := bef a q
      have := aft b hb
      omega
    · obtain rfl := List.mem_singleton.mp q
      exact aft b hb
theorem fallD_both (xs : List Int) : ∀ n, (fallD (xs.take n)).Pairwise (fun a b => b ≤ a) ∧ (fallD (xs.take n)).Perm (xs.take n)
  | 0 => ⟨List.Pairwise.nil, List.Perm.nil⟩
  | n + 1 => by
    have ih := fallD_both xs n
    rw [List.take_add_one]
    cases e : xs[n]? with
    | none => simpa using ih
    | some x =>
      show (fallD (xs.take n ++ [x])).Pairwise _ ∧ (fallD (xs.take n ++ [x])).Perm (xs.take n ++ [x])
      rw [fallD_snoc]
      refine ⟨insD_fall ih.1, (insD_perm x _).trans ?_⟩
      exact ((List.Perm.cons x ih.2).trans (List.perm_append_comm (l₁ := [x]) (l₂ := xs.take n)))
theorem fall_of_sorted {xs ys : List Int} (s : ys.Pairwise (· ≤ ·)) (p : ys.Perm xs) : ys.reverse = fallD xs := by
  have f := fallD_both xs xs.length
  rw [List.take_length] at f
  refine List.Perm.eq_of_pairwise (le := fun a b => b ≤ a) (fun a b _ _ h1 h2 => Int.le_antisymm h2 h1) (List.pairwise_reverse.mpr s) f.1 ?_
  exact (List.reverse_perm ys).trans (p.trans f.2.symm)
theorem src_mem {k held a : Nat} (ha : a ≤ held) {z : Int} (h : z ∈ srcK k held a) : z = -1 ∨ ∃ j : Nat, j < held ∧ z = j := by
  unfold srcK at h
  have h := List.mem_of_mem_take h
  rw [List.mem_append, List.mem_append, List.mem_singleton, List.mem_map, List.mem_map] at h
  rcases h with (⟨j, hj, e⟩ | e) | ⟨j, hj, e⟩
  · rw [List.mem_range] at hj
    exact .inr ⟨j, by omega, e.symm⟩
  · exact .inl e
  · rw [List.mem_range'_1] at hj
    exact .inr ⟨j, by omega, e.symm⟩
theorem src_le (k held a : Nat) : (srcK k held a).length ≤ k := by unfold srcK; rw [List.length_take]; exact Nat.min_le_left _ _
theorem put_ok {k held a : Nat} {c : C} (hk : 1 ≤ k) (hk2 : k ≤ 6) (hh : held ≤ k) (ha : a ≤ held) (hc : okC k 2 c) (hc3 : okC k 3 c) : okCase k 1 3 (putK' k held a c) := by
  have sl := src_le k held a
  have sm : ∀ z ∈ srcK k held a, -2 ≤ z ∧ z < (k : Int) := fun z hz => by
    rcases src_mem ha hz with e | ⟨j, hj, e⟩ <;> omega
  refine ⟨?_, ?_, fun z hz => ?_, fun p hp => ?_, ?_, by show 0 < 1; decide⟩
  · show okC k 3 (if a < held then .all [c, .less a (-1)] else c)
    split
    · unfold okC okCs okCs okCs
      refine ⟨by show 2 ≤ 100000; decide, hc, ?_, trivial⟩
      unfold okC plOk
      omega
    · exact hc3
  · show (movK k held a).length = k
    unfold movK
    rw [List.length_append, List.length_map, List.length_range']
    omega
  · unfold putK' movK at hz
    rcases List.mem_append.mp hz with q | q
    · exact sm z q
    · obtain ⟨j, hj, rfl⟩ := List.mem_map.mp q
      rw [List.mem_range'_1] at hj
      omega
  · unfold putK' enP at hp
    obtain ⟨q, hq, rfl⟩ := List.mem_map.mp hp
    have := List.mem_zipIdx hq
    refine ⟨by show (0 : Int) ≤ (q.2 : Nat); omega, ?_⟩
    exact sm _ (by rw [this.2.2]; exact List.getElem_mem _)
  · show (enP (srcK k held a)).length ≤ 1000
    unfold enP
    rw [List.length_map, List.length_zipIdx]
    omega
theorem top_ok {k : Nat} (hk : 1 ≤ k) (hk2 : k ≤ 6) : okM 3 (topM k) := by
  have len : (topC k).length ≤ 1000 := by
    rcases (by omega : k = 1 ∨ k = 2 ∨ k = 3 ∨ k = 4 ∨ k = 5 ∨ k = 6) with rfl | rfl | rfl | rfl | rfl | rfl <;> decide
  refine ⟨by show 1 ≤ 1; decide, by show 1 ≤ 1000; decide, by show k ≤ 1000; omega, by show 0 < 1; decide, by show 1 ≤ 1000; decide, fun s hs => ?_, fun s hs cs hcs => ?_⟩
  · obtain rfl := List.mem_singleton.mp hs
    rfl
  · obtain rfl := List.mem_singleton.mp hs
    obtain rfl := List.mem_singleton.mp hcs
    refine ⟨len, fun c hc => ?_⟩
    unfold topC at hc
    rcases List.mem_append.mp hc with q | q
    · obtain ⟨held, hh, q⟩ := List.mem_flatMap.mp q
      rw [List.mem_range] at hh
      obtain ⟨a, ha, rfl⟩ := List.mem_map.mp q
      rw [List.mem_range] at ha
      show okCase k 1 3 (putK' k held a (.emp held))
      refine put_ok hk hk2 (by omega) (by omega) ?_ ?_ <;> (unfold okC plOk; omega)
    · obtain ⟨a, ha, rfl⟩ := List.mem_map.mp q
      rw [List.mem_range] at ha
      show okCase k 1 3 (putK' k k a .tru)
      refine put_ok hk hk2 (by omega) (by omega) ?_ ?_ <;> (unfold okC; trivial)
end Dv

/-! tuple(enumerate(xs)) as data. -/
namespace Dv
open PySem PySem.Spec PyProof.Rows L2 GxR Gx
variable {K : PySem.W.Frag} {T : List Addr} {H H' : Hp}
theorem Ex.of_ext (kp : ∀ b o, H b = some o → H' b = some o) : Ex T [] H H' :=
  ⟨fun b o _ h _ => kp b o h, fun b xs h => h.imp (kp b _) (fun ⟨o, h⟩ => ⟨o, kp b _ h⟩), fun h P hP => let ⟨ps, e, t⟩ := h P hP; ⟨ps, kp P _ e, t⟩, fun b o h => ⟨o, kp b o h⟩⟩
theorem enum_ats : ∀ (src : List Int) (j : Nat) (ts : List Addr), Paired (fun (t : Addr) (q : Key × V) => H' t = some (.tup [kV q.1, q.2])) ts (enK j (src.map V.int)) →
    Ats K H' (ts.map V.ref) ((src.zipIdx j).map fun p => encSay ((p.2 : Int), p.1))
  | [], _, [], _ => Ats.mk_nil
  | [], _, t :: ts, h => by cases h
  | x :: src, _, [], h => by cases h
  | x :: src, j, t :: ts, h => by
    cases h with
    | cons a b => exact Ats.mk (at_tup.mpr ⟨t, _, rfl, SqT.of a, Ats.mk (at_int.mpr rfl) (Ats.mk (at_int.mpr rfl) Ats.mk_nil)⟩) (enum_ats src (j + 1) ts b)
theorem enum_at {p : Addr} {ts : List Addr} {src : List Int} (hp : H' p = some (.tup (ts.map V.ref))) (h : Paired (fun (t : Addr) (q : Key × V) => H' t = some (.tup [kV q.1, q.2])) ts (enK 0 (src.map V.int))) :
    At K H' (.ref p) (.tup ((enP src).map encSay)) := by
  refine at_tup.mpr ⟨p, _, rfl, SqT.of hp, ?_⟩
  have := enum_ats (K := K) src 0 ts h
  unfold enP
  rw [List.map_map]
  exact this
theorem Col.puts {ms : List Addr} {D0 : Addr} {H0 H1 H2 : Hp} {ds es : List D} {zs : List V} (c : Col K T ms D0 H0 H1 ds) (free : H0 D0 = none) (nD : D0 ∉ ms) (wd : Wd T H0) (e : Ex T ms H1 H2) (hz : Ats K H2 zs es) :
    ∃ acc, H2 D0 = some (.lst acc) ∧ acc.length = ds.length ∧ Col K T ms D0 H0 (upd H2 D0 (.lst (acc ++ zs))) (ds ++ es) := by
  obtain ⟨ex, xs, hD, ats⟩ := c
  have hD2 : H2 D0 = some (.lst xs) := e.lst nD hD
  have exw : Ex T [D0] H2 (upd H2 D0 (.lst (xs ++ zs))) := Ex.write (by simp) hD2
  exact ⟨xs, hD2, ats.length, (ex.trans e).put free wd, xs ++ zs, upd_same, ((ats.ext e).append hz).ext exw⟩
theorem grp_take {k held : Nat} {c : C} {j : Nat} : ((List.range j).map fun a => putK' k held a c) ++ [putK' k held j c] = (List.range (j + 1)).map fun a => putK' k held a c := by
  rw [List.range_succ, List.map_append]
  rfl
theorem grp_len {k held : Nat} {c : C} : (grpK k held c).length = held + 1 := by unfold grpK; rw [List.length_map, List.length_range]
theorem groups_len (k : Nat) : ∀ i, ((List.range i).flatMap fun held => grpK k held (.emp held)).length ≤ i * (i + 1)
  | 0 => by simp
  | i + 1 => by
    rw [List.range_succ, List.flatMap_append, List.length_append]
    have := groups_len k i
    show _ + (grpK k i (.emp i) ++ []).length ≤ _
    rw [List.append_nil, grp_len, Nat.succ_mul, Nat.mul_succ]
    have : i * (i + 1) = i * i + i := Nat.mul_succ i i
    omega
end Dv

/-! Top lists are made of tuples. -/
namespace Dv
open PySem PySem.Spec PyProof.Rows L2 GxR Gx
theorem tuDs_of {α : Type} {f : α → D} {n : Nat} : ∀ {l : List α}, (∀ a ∈ l, tuD n (f a)) → tuDs n (l.map f)
  | [], _ => by rw [List.map_nil]; unfold tuDs; trivial
  | a :: l, h => by
    rw [List.map_cons]
    unfold tuDs
    exact ⟨h a (by simp), tuDs_of fun b hb => h b (by simp [hb])⟩
theorem tuD_int {n : Nat} {i : Int} : tuD n (.int i) := by cases n <;> (unfold tuD; trivial)
theorem put_tu {k held a : Nat} {c : C} (h6 : k ≤ 6) (hc : tuD 2 (encC c)) (hc4 : tuD 4 (encC c)) : tuD 5 (encCase (putK' k held a c)) := by
  have sl := src_le k held a
  have c1 : tuD 4 (encC (if a < held then .all [c, .less a (-1)] else c)) := by
    split
    · have e : encC (.all [c, .less a (-1)]) = .tup [.str "all", .tup [encC c, .tup [.str "less", .int a, .int (-1)]]] := by simp only [encC, encCs]
      rw [e]
      simp [tuD, tuDs, hc]
    · exact hc4
  have c2 : tuD 4 (.tup ((movK k held a).map .int)) := by
    unfold tuD
    refine ⟨?_, tuDs_of fun z _ => tuD_int⟩
    rw [List.length_map]
    unfold movK
    rw [List.length_append, List.length_map, List.length_range']
    omega
  have c3 : tuD 4 (.tup ((enP (srcK k held a)).map encSay)) := by
    unfold tuD
    refine ⟨?_, tuDs_of fun z _ => ?_⟩
    · unfold enP
      rw [List.length_map, List.length_map, List.length_zipIdx]
      omega
    · unfold encSay
      simp [tuD, tuDs]
  show tuD 5 (.tup [encC (if a < held then .all [c, .less a (-1)] else c), .tup ((movK k held a).map .int), .tup ((enP (srcK k held a)).map encSay), .int 0])
  simp only [tuD, tuDs]
  unfold tuD at c2 c3
  exact ⟨by show 4 ≤ 100000; decide, c1, c2, c3, trivial, trivial⟩
theorem top_tu {k : Nat} (hk : 1 ≤ k) (hk2 : k ≤ 6) : tuD 9 (encM (topM k)) := by
  have len : (topC k).length ≤ 1000 := ((top_ok hk hk2).cases [topC k] (List.mem_singleton.mpr rfl) (topC k) (List.mem_singleton.mpr rfl)).1
  have cs : tuDs 5 ((topC k).map encCase) := tuDs_of fun c hc => by
    unfold topC at hc
    rcases List.mem_append.mp hc with q | q
    · obtain ⟨held, hh, q⟩ := List.mem_flatMap.mp q
      obtain ⟨a, ha, rfl⟩ := List.mem_map.mp q
      exact put_tu hk2 (by simp [encC, tuD, tuDs]) (by simp [encC, tuD, tuDs])
    · obtain ⟨a, ha, rfl⟩ := List.mem_map.mp q
      exact put_tu hk2 (by simp [encC, tuD, tuDs]) (by simp [encC, tuD, tuDs])
  have e : encM (topM k) = .tup [.int 1, .int k, .tup [.tup [.tup ((topC k).map encCase)]]] := rfl
  rw [e]
  simp only [tuD, tuDs]
  refine ⟨by show 3 ≤ 100000; decide, trivial, trivial, ⟨by show 1 ≤ 100000; decide, ⟨by show 1 ≤ 100000; decide, ⟨by rw [List.length_map]; omega, cs⟩, trivial⟩, trivial⟩, trivial⟩
end Dv

open PySem PySem.Spec PyProof.Rows L2 GxR Gx
namespace Dv
/-! built machines, turned: the same answers on negated values -/
def negs (xs : List Int) : List Int := xs.map fun x => -x
theorem negs_len (xs : List Int) : (negs xs).length = xs.length := List.length_map ..
theorem negs_get (xs : List Int) (k : Nat) : (negs xs).getD k 0 = -(xs.getD k 0) := by
  unfold negs
  rw [List.getD_eq_getElem?_getD, List.getD_eq_getElem?_getD, List.getElem?_map]
  cases xs[k]? <;> simp
theorem negs_negs (xs : List Int) : negs (negs xs) = xs := by
  unfold negs
  rw [List.map_map, List.map_congr_left (g := id) (fun x _ => by simp), List.map_id]
theorem negs_take (xs : List Int) (k : Nat) : (negs xs).take k = negs (xs.take k) := by unfold negs; rw [List.map_take]
theorem asLog_neg (xs : List Int) : (asLog (negs xs)).map (chL fun x => -x) = asLog xs := by
  unfold asLog negs
  rw [List.map_map, List.map_map]
  refine List.map_congr_left fun x _ => ?_
  show ((0 : Nat), - -x) = (0, x)
  rw [Int.neg_neg]
theorem turn_answers (m : M) (xs : List Int) : answersM (turnM m) ((0, List.replicate m.regs none) : Ct) (asLog xs) = (answersM m ((0, List.replicate m.regs none) : Ct) (asLog (negs xs))).map (List.map (chE fun x => -x)) := by
  have h := answersM_turn fall_neg m ((0, List.replicate m.regs none) : Ct) (asLog (negs xs))
  rw [asLog_neg] at h
  rw [← h]
  unfold mapC
  rw [mapH_rep]
theorem rows_neg (xs : List Int) (f g : List Int → Nat → List (Int × Option Int)) (h : ∀ k, k < xs.length → (f (negs xs) k).map (chE fun x => -x) = g xs k) :
    ((List.range (negs xs).length).map (f (negs xs))).map (List.map (chE fun x => -x)) = (List.range xs.length).map (g xs) := by
  rw [negs_len, List.map_map]
  refine List.map_congr_left fun k hk => ?_
  exact h k (List.mem_range.mp hk)
-- records
def lowRow (xs : List Int) (k : Nat) : List (Int × Option Int) := if (xs.take k).all (fun y => decide (xs.getD k 0 < y)) = true then [(0, some (xs.getD k 0))] else []
def lowDue (xs : List Int) : List (List (Int × Option Int)) := (List.range xs.length).map (lowRow xs)
theorem low_turn (xs : List Int) : (recDue (negs xs)).map (List.map (chE fun x => -x)) = lowDue xs := by
  refine rows_neg xs recRow lowRow fun k _ => ?_
  unfold recRow lowRow
  rw [negs_get, negs_take]
  have e : (negs (xs.take k)).all (fun y => decide (y < -(xs.getD k 0))) = (xs.take k).all (fun y => decide (xs.getD k 0 < y)) := by
    unfold negs
    rw [List.all_map]
    refine List.all_congr rfl fun y => ?_
    show decide (-y < -(xs.getD k 0)) = decide (xs.getD k 0 < y)
    exact decide_eq_decide.mpr (by omega)
  rw [e]
  split
  · show [((0 : Int), some (- -(xs.getD k 0)))] = _
    rw [Int.neg_neg]
  · rfl
-- the top list
theorem enA_neg (l : List Int) : (enA l).map (chE fun x => -x) = enA (negs l) := by
  unfold enA negs
  rw [List.zipIdx_map, List.map_map, List.map_map]
  rfl
theorem fall_negs (xs : List Int) : fallD (negs xs) = negs (fallD xs).reverse := by
  have b := fallD_both xs xs.length
  rw [List.take_length] at b
  have s : (negs (fallD xs)).Pairwise (· ≤ ·) := by
    unfold negs
    rw [List.pairwise_map]
    exact b.1.imp fun h => by omega
  have p : (negs (fallD xs)).Perm (negs xs) := b.2.map _
  rw [← fall_of_sorted s p]
  unfold negs
  rw [List.map_reverse]
def lowestDue (k : Nat) (xs : List Int) : List (List (Int × Option Int)) := (List.range xs.length).map fun i => enA ((fallD (xs.take (i + 1))).reverse.take k)
theorem lowest_turn (k : Nat) (xs : List Int) : (topDue k (negs xs)).map (List.map (chE fun x => -x)) = lowestDue k xs := by
  refine rows_neg xs (fun xs i => enA ((fallD (xs.take (i + 1))).take k)) (fun xs i => enA ((fallD (xs.take (i + 1))).reverse.take k)) fun i _ => ?_
  show (enA ((fallD ((negs xs).take (i + 1))).take k)).map _ = enA ((fallD (xs.take (i + 1))).reverse.take k)
  rw [enA_neg, negs_take, fall_negs, ← negs_take, negs_negs]
-- the band
def bandSay' (o : Option (Int × Int)) : List (Int × Option Int) :=
  match o with
  | none => []
  | some (l, h) => [(0, some h), (1, some l)]
def bandRow' (xs : List Int) (k : Nat) : List (Int × Option Int) := if bandO xs (k + 1) = bandO xs k then [] else bandSay' (bandO xs (k + 1))
def bandDue' (xs : List Int) : List (List (Int × Option Int)) := (List.range xs.length).map (bandRow' xs)
def negB (o : Option (Int × Int)) : Option (Int × Int) := o.map fun p => (-p.2, -p.1)
theorem negB_inj {a b : Option (Int × Int)} (h : negB a = negB b) : a = b := by
  cases a with
  | none => cases b with
    | none => rfl
    | some q => cases h
  | some p => cases b with
    | none => cases h
    | some q =>
      obtain ⟨l, h1⟩ := p
      obtain ⟨l', h1'⟩ := q
      have e := Option.some.inj h
      have e1 := (Prod.mk.inj e).1
      have e2 := (Prod.mk.inj e).2
      dsimp only at e1 e2
      rw [show l = l' by omega, show h1 = h1' by omega]
theorem bandStep_le {o : Option (Int × Int)} (h : ∀ l u, o = some (l, u) → l ≤ u) (x l u : Int) (e : bandStep o x = some (l, u)) : l ≤ u := by
  cases o with
  | none =>
    have := Prod.mk.inj (Option.some.inj e)
    omega
  | some p =>
    obtain ⟨a, b⟩ := p
    have hab := h a b rfl
    unfold bandStep at e
    dsimp only at e
    split at e
    · have := Prod.mk.inj (Option.some.inj e); omega
    · split at e
      · have := Prod.mk.inj (Option.some.inj e); omega
      · have := Prod.mk.inj (Option.some.inj e); omega
theorem bandStep_neg (o : Option (Int × Int)) (hle : ∀ l u, o = some (l, u) → l ≤ u) (x : Int) : bandStep (negB o) (-x) = negB (bandStep o x) := by
  cases o with
  | none => rfl
  | some p =>
    obtain ⟨l, h⟩ := p
    have hl := hle l h rfl
    show bandStep (some (-h, -l)) (-x) = _
    unfold bandStep
    dsimp only
    by_cases c1 : x < l
    · rw [if_neg (by omega), if_pos (show -l < -x by omega), if_pos c1]
      rfl
    · by_cases c2 : h < x
      · rw [if_pos (show -x < -h by omega), if_neg c1, if_pos c2]
        rfl
      · rw [if_neg (by omega), if_neg (by omega), if_neg c1, if_neg c2]
        rfl
theorem bandO_le (xs : List Int) : ∀ k l u, bandO xs k = some (l, u) → l ≤ u
  | 0, l, u, h => by cases h
  | k + 1, l, u, h => bandStep_le (bandO_le xs k) _ _ _ h
theorem bandO_neg (xs : List Int) : ∀ k, bandO (negs xs) k = negB (bandO xs k)
  | 0 => rfl
  | k + 1 => by
    show bandStep (bandO (negs xs) k) ((negs xs).getD k 0) = negB (bandStep (bandO xs k) (xs.getD k 0))
    rw [bandO_neg xs k, negs_get, bandStep_neg _ (bandO_le xs k)]
theorem band_turn (xs : List Int) : (bandDue (negs xs)).map (List.map (chE fun x => -x)) = bandDue' xs := by
  refine rows_neg xs bandRow bandRow' fun k _ => ?_
  unfold bandRow bandRow'
  rw [bandO_neg, bandO_neg]
  by_cases c : bandO xs (k + 1) = bandO xs k
  · rw [if_pos c, if_pos (by rw [c])]
    rfl
  · rw [if_neg c, if_neg (fun h => c (negB_inj h))]
    generalize bandO xs (k + 1) = o
    cases o with
    | none => rfl
    | some p =>
      show [((0 : Int), some (- -p.2)), (1, some (- -p.1))] = [(0, some p.2), (1, some p.1)]
      rw [Int.neg_neg, Int.neg_neg]
-- turning points
def turnsRow' (xs : List Int) (k : Nat) : List (Int × Option Int) :=
  if k < 2 then [] else if xs.getD (k - 1) 0 < xs.getD (k - 2) 0 ∧ xs.getD (k - 1) 0 < xs.getD k 0 then [(0, some (xs.getD (k - 1) 0))] else
  if xs.getD (k - 2) 0 < xs.getD (k - 1) 0 ∧ xs.getD k 0 < xs.getD (k - 1) 0 then [(1, some (xs.getD (k - 1) 0))] else []
def turnsDue' (xs : List Int) : List (List (Int × Option Int)) := (List.range xs.length).map (turnsRow' xs)
theorem turns_turn (xs : List Int) : (turnsDue (negs xs)).map (List.map (chE fun x => -x)) = turnsDue' xs := by
  refine rows_neg xs turnsRow turnsRow' fun k _ => ?_
  unfold turnsRow turnsRow'
  rw [negs_get, negs_get, negs_get]
  by_cases c0 : k < 2
  · rw [if_pos c0, if_pos c0]; rfl
  rw [if_neg c0, if_neg c0]
  by_cases c1 : xs.getD (k - 1) 0 < xs.getD (k - 2) 0 ∧ xs.getD (k - 1) 0 < xs.getD k 0
  · rw [if_pos c1, if_pos (by omega)]
    show [((0 : Int), some (- -_))] = _
    rw [Int.neg_neg]
  · rw [if_neg c1, if_neg (by omega)]
    by_cases c2 : xs.getD (k - 2) 0 < xs.getD (k - 1) 0 ∧ xs.getD k 0 < xs.getD (k - 1) 0
    · rw [if_pos c2, if_pos (by omega)]
      show [((1 : Int), some (- -_))] = _
      rw [Int.neg_neg]
    · rw [if_neg c2, if_neg (by omega)]
      rfl
-- runs
def firstF (xs : List Int) : Nat → Nat
  | 0 => 0
  | k + 1 => if 0 < k ∧ xs.getD (k - 1) 0 ≤ xs.getD k 0 then k else firstF xs k
theorem firstF_lt (xs : List Int) : ∀ k, firstF xs k ≤ k
  | 0 => Nat.le_refl _
  | k + 1 => by
    unfold firstF
    have := firstF_lt xs k
    split <;> omega
theorem firstI_neg (xs : List Int) : ∀ k, firstI (negs xs) k = firstF xs k
  | 0 => rfl
  | k + 1 => by
    show (if 0 < k ∧ (negs xs).getD k 0 ≤ (negs xs).getD (k - 1) 0 then k else firstI (negs xs) k) = (if 0 < k ∧ xs.getD (k - 1) 0 ≤ xs.getD k 0 then k else firstF xs k)
    rw [negs_get, negs_get, firstI_neg xs k]
    by_cases c : 0 < k ∧ xs.getD (k - 1) 0 ≤ xs.getD k 0
    · rw [if_pos c, if_pos (by omega)]
    · rw [if_neg c, if_neg (by omega)]
def fallsRow (xs : List Int) (k : Nat) : List (Int × Option Int) := if 0 < k ∧ xs.getD (k - 1) 0 ≤ xs.getD k 0 then [(0, some (xs.getD (firstF xs k) 0))] else []
def fallsDue (xs : List Int) : List (List (Int × Option Int)) := (List.range xs.length).map (fallsRow xs)
theorem falls_turn (xs : List Int) : (runsDue (negs xs)).map (List.map (chE fun x => -x)) = fallsDue xs := by
  refine rows_neg xs runsRow fallsRow fun k _ => ?_
  unfold runsRow fallsRow
  rw [negs_get, negs_get, negs_get, firstI_neg]
  by_cases c : 0 < k ∧ xs.getD (k - 1) 0 ≤ xs.getD k 0
  · rw [if_pos c, if_pos (by omega)]
    show [((0 : Int), some (- -_))] = _
    rw [Int.neg_neg]
  · rw [if_neg c, if_neg (by omega)]
    rfl
def fiveM (k : Nat) : List M := [recM, topM k, bandM, turnsM, runsM]
def fiveT (k : Nat) (xs : List Int) : List (List (List (Int × Option Int))) := [lowDue xs, lowestDue k xs, bandDue' xs, turnsDue' xs, fallsDue xs]
theorem five_turn (k : Nat) (xs : List Int) : (fiveM k).map (fun m => answersM (turnM m) ((0, List.replicate m.regs none) : Ct) (asLog xs)) = fiveT k xs := by
  unfold fiveM fiveT
  simp only [List.map_cons, List.map_nil, turn_answers]
  rw [← low_turn, ← lowest_turn, ← band_turn, ← turns_turn, ← falls_turn]
  rw [← rec_due, ← top_due, ← band_due, ← turns_due, ← runs_due]
  rfl
theorem five_ok {k : Nat} (h1 : 1 ≤ k) (h2 : k ≤ 6) : ∀ m ∈ fiveM k, okM 3 m ∧ m.tags = 1 := fun m hm => by
  unfold fiveM at hm
  simp only [List.mem_cons, List.not_mem_nil, or_false] at hm
  rcases hm with rfl | rfl | rfl | rfl | rfl
  · exact ⟨recM_ok, rfl⟩
  · exact ⟨top_ok h1 h2, rfl⟩
  · exact ⟨bandM_ok, rfl⟩
  · exact ⟨turnsM_ok, rfl⟩
  · exact ⟨runsM_ok, rfl⟩
end Dv

open PySem PySem.Spec PyProof.Rows L2 GxR Gx
namespace Dv
/-! the spotter: what it is and what it says -/
def prs (p : List Int) : List (Int × Int) := p.zipIdx.map fun q => (q.1, (q.2 : Int))
theorem prs_len (p : List Int) : (prs p).length = p.length := by unfold prs; rw [List.length_map, List.length_zipIdx]
theorem prs_get (p : List Int) (j : Nat) (h : j < p.length) : (prs p)[j]? = some (p.getD j 0, (j : Int)) := by
  unfold prs
  rw [List.getElem?_map, List.getElem?_zipIdx, List.getElem?_eq_getElem h]
  show some (p[j], ((0 + j : Nat) : Int)) = _
  rw [Nat.zero_add, List.getD_eq_getElem?_getD, List.getElem?_eq_getElem h]
  rfl
theorem mem_prs {p : List Int} {q : Int × Int} (h : q ∈ prs p) : ∃ j : Nat, j < p.length ∧ q = (p.getD j 0, (j : Int)) := by
  obtain ⟨j, hj, e⟩ := List.getElem_of_mem h
  rw [prs_len] at hj
  refine ⟨j, hj, ?_⟩
  have := prs_get p j hj
  rw [List.getElem?_eq_getElem (by rw [prs_len]; exact hj), e] at this
  exact Option.some.inj this
structure Srt2 (L : List (Int × Int)) (p : List Int) : Prop where
  perm : L.Perm (prs p)
  le : L.Pairwise fun x y => x.1 ≤ y.1
theorem Srt2.len {L : List (Int × Int)} {p : List Int} (s : Srt2 L p) : L.length = p.length := by rw [s.perm.length_eq, prs_len]
theorem Srt2.at {L : List (Int × Int)} {p : List Int} (s : Srt2 L p) {q : Int × Int} (h : q ∈ L) : ∃ j : Nat, j < p.length ∧ q = (p.getD j 0, (j : Int)) := mem_prs (s.perm.mem_iff.mp h)
theorem Srt2.has {L : List (Int × Int)} {p : List Int} (s : Srt2 L p) {j : Nat} (h : j < p.length) : (p.getD j 0, (j : Int)) ∈ L :=
  s.perm.mem_iff.mpr (List.mem_of_getElem? (prs_get p j h))
def plc (n : Nat) (j : Int) : Int := if j = (n : Int) - 1 then -1 else j
def adjC (n : Nat) (x y : Int × Int) : C := if x.1 < y.1 then .less (plc n x.2) (plc n y.2) else .same (plc n x.2) (plc n y.2)
def adjs (L : List (Int × Int)) : List ((Int × Int) × (Int × Int)) := L.zip L.tail
def orderC (n : Nat) (L : List (Int × Int)) : C := .all ((adjs L).map fun q => adjC n q.1 q.2)
def movS (n : Nat) : List Int := ((List.range (n - 1)).map (fun (j : Nat) => (j : Int)) ++ [-1]).drop 1
def spotM (n : Nat) (L : List (Int × Int)) : M := ⟨1, n - 1, [[[⟨orderC n L, movS n, [(0, -1)], 0⟩, ⟨.tru, movS n, [], 0⟩]]]⟩
theorem movS_eq {n : Nat} (h : 1 ≤ n) : movS n = (List.range (n - 1)).map fun (i : Nat) => plc n ((i + 1 : Nat) : Int) := by
  unfold movS
  refine List.ext_getElem (by simp) fun i h1 h2 => ?_
  rw [List.length_map, List.length_range] at h2
  rw [List.getElem_drop, List.getElem_map, List.getElem_range]
  unfold plc
  by_cases c : 1 + i < n - 1
  · rw [List.getElem_append_left (by simpa using c), List.getElem_map, List.getElem_range, if_neg (by omega)]
    omega
  · rw [List.getElem_append_right (by simp; omega), if_pos (by omega)]
    simp
/-- the value at a place of the last n ones, the k-th one being read -/
def wn (xs : List Int) (n k j : Nat) : Option Int := if n ≤ k + j + 1 then some (xs.getD (k + j + 1 - n) 0) else none
def hS (xs : List Int) (n k : Nat) : List (Option Int) := (List.range (n - 1)).map (wn xs n k)
theorem hS_zero (xs : List Int) (n : Nat) : hS xs n 0 = List.replicate (n - 1) none := by
  unfold hS
  refine List.ext_getElem (by simp) fun i h1 h2 => ?_
  rw [List.length_map, List.length_range] at h1
  rw [List.getElem_map, List.getElem_range, List.getElem_replicate]
  unfold wn
  rw [if_neg (by omega)]
theorem wn_next (xs : List Int) (n k j : Nat) : wn xs n k (j + 1) = wn xs n (k + 1) j := by
  unfold wn
  rw [show k + (j + 1) + 1 = k + 1 + j + 1 by omega]
theorem worth_plc {xs : List Int} {n k j : Nat} (hj : j < n) : worth (xs.getD k 0) (hS xs n k) (plc n (j : Int)) = wn xs n k j := by
  unfold plc
  by_cases c : (j : Int) = (n : Int) - 1
  · rw [if_pos c]
    show some (xs.getD k 0) = _
    unfold wn
    rw [if_pos (by omega), show k + j + 1 - n = k by omega]
  · rw [if_neg c, worth_at (by omega), Int.toNat_natCast]
    unfold hS
    rw [List.getElem?_map, List.getElem?_range (by omega)]
    rfl
theorem kept_spot {xs : List Int} {n k : Nat} (hn : 1 ≤ n) (c : C) (sy : List (Int × Int)) : keptC (xs.getD k 0) (hS xs n k) ⟨c, movS n, sy, 0⟩ = hS xs n (k + 1) := by
  show (movS n).map (worth (xs.getD k 0) (hS xs n k)) = _
  rw [movS_eq hn, List.map_map]
  unfold hS
  refine List.map_congr_left fun i hi => ?_
  have hi' := List.mem_range.mp hi
  show worth (xs.getD k 0) (hS xs n k) (plc n ((i + 1 : Nat) : Int)) = _
  rw [worth_plc (by omega), wn_next]
theorem spot_read {xs : List Int} {n k : Nat} {L : List (Int × Int)} (hn : 1 ≤ n) : readM (spotM n L) 0 (hS xs n k) (0, xs.getD k 0) = (0, hS xs n (k + 1), if hold (xs.getD k 0) (hS xs n k) (orderC n L) = true then [(0, some (xs.getD k 0))] else []) := by
  unfold spotM
  rw [read_one]
  by_cases c : hold (xs.getD k 0) (hS xs n k) (orderC n L) = true
  · rw [List.find?_cons_of_pos (by exact c), if_pos c]
    show (0, keptC _ _ _, _) = _
    rw [kept_spot hn]
    rfl
  · rw [List.find?_cons_of_neg (by exact c), List.find?_cons_of_pos (by show hold _ _ .tru = true; unfold hold; rfl), if_neg c]
    show (0, keptC _ _ _, _) = _
    rw [kept_spot hn]
    rfl
def okAdj (w : Nat → Option Int) (x y : Int × Int) : Bool := if x.1 < y.1 then ltO (w x.2.toNat) (w y.2.toNat) else eqO (w x.2.toNat) (w y.2.toNat)
theorem zip_tail_mem {α : Type} {L : List α} {q : α × α} (h : q ∈ L.zip L.tail) : q.1 ∈ L ∧ q.2 ∈ L := by
  have := List.of_mem_zip (a := q.1) (b := q.2) h
  exact ⟨this.1, List.mem_of_mem_tail this.2⟩
theorem holdA_of {α : Type} (v : Int) (h : List (Option Int)) (f : α → C) : ∀ l : List α, holdA v h (l.map f) = l.all fun a => hold v h (f a)
  | [] => by unfold holdA; rfl
  | a :: l => by rw [List.map_cons, holdA_cons, holdA_of v h f l]; rfl
theorem hold_less' (v : Int) (h : List (Option Int)) (a b : Int) : hold v h (.less a b) = ltO (worth v h a) (worth v h b) := by unfold hold; rfl
theorem hold_same' (v : Int) (h : List (Option Int)) (a b : Int) : hold v h (.same a b) = eqO (worth v h a) (worth v h b) := by unfold hold; rfl
theorem order_hold {xs : List Int} {n k : Nat} {L : List (Int × Int)} {p : List Int} (s : Srt2 L p) (hn : n = p.length) : hold (xs.getD k 0) (hS xs n k) (orderC n L) = (adjs L).all fun q => okAdj (wn xs n k) q.1 q.2 := by
  unfold orderC
  have e : ∀ cs : List C, hold (xs.getD k 0) (hS xs n k) (.all cs) = holdA (xs.getD k 0) (hS xs n k) cs := fun cs => by conv => lhs; unfold hold
  rw [e, holdA_of]
  rw [Bool.eq_iff_iff, List.all_eq_true, List.all_eq_true]
  refine forall_congr' fun q => forall_congr' fun hq => ?_
  obtain ⟨a, ha, e1⟩ := s.at (zip_tail_mem hq).1
  obtain ⟨b, hb, e2⟩ := s.at (zip_tail_mem hq).2
  unfold adjC okAdj
  rw [e1, e2]
  dsimp only
  rw [Int.toNat_natCast, Int.toNat_natCast]
  split
  · rw [hold_less', worth_plc (by omega), worth_plc (by omega)]
  · rw [hold_same', worth_plc (by omega), worth_plc (by omega)]
/-- the adjacent ones stand so: all do -/
theorem adj_pw {α : Type} {R : α → α → Prop} (tr : ∀ x y z, R x y → R y z → R x z) : ∀ {L : List α}, (∀ q ∈ L.zip L.tail, R q.1 q.2) → L.Pairwise R
  | [], _ => .nil
  | [x], _ => List.pairwise_singleton _ _
  | x :: y :: t, h => by
    have hz : (x :: y :: t).zip (x :: y :: t).tail = (x, y) :: (y :: t).zip (y :: t).tail := rfl
    have ih := adj_pw tr (L := y :: t) fun q hq => h q (by rw [hz]; exact List.mem_cons_of_mem _ hq)
    have h1 : R x y := h (x, y) (by rw [hz]; exact List.mem_cons_self)
    refine List.pairwise_cons.mpr ⟨fun z hz => ?_, ih⟩
    rcases List.mem_cons.mp hz with rfl | hz
    · exact h1
    · exact tr x y z h1 ((List.pairwise_cons.mp ih).1 z hz)
theorem pw_adj {α : Type} {R : α → α → Prop} : ∀ {L : List α}, L.Pairwise R → ∀ q ∈ L.zip L.tail, R q.1 q.2
  | [], _, q, h => by cases h
  | [x], _, q, h => by cases h
  | x :: y :: t, p, q, h => by
    have hz : (x :: y :: t).zip (x :: y :: t).tail = (x, y) :: (y :: t).zip (y :: t).tail := rfl
    rw [hz] at h
    have p2 := List.pairwise_cons.mp p
    rcases List.mem_cons.mp h with rfl | h
    · exact p2.1 y List.mem_cons_self
    · exact pw_adj p2.2 q h
theorem okAdj_some {u : Nat → Int} {x y : Int × Int} (w : Nat → Option Int) (hx : w x.2.toNat = some (u x.2.toNat)) (hy : w y.2.toNat = some (u y.2.toNat)) :
    okAdj w x y = true ↔ if x.1 < y.1 then u x.2.toNat < u y.2.toNat else u x.2.toNat = u y.2.toNat := by
  unfold okAdj
  rw [hx, hy]
  split
  · unfold ltO; exact decide_eq_true_iff
  · unfold eqO; exact decide_eq_true_iff
/-- the same order -/
def Iso (n : Nat) (u v : Nat → Int) : Prop := ∀ a b, a < n → b < n → (u a < u b ↔ v a < v b)
theorem order_iso {n : Nat} {L : List (Int × Int)} {p : List Int} {w : Nat → Option Int} {u : Nat → Int} (s : Srt2 L p) (hn : n = p.length) (hw : ∀ j, j < n → w j = some (u j)) :
    (adjs L).all (fun q => okAdj w q.1 q.2) = true ↔ Iso n u (fun j => p.getD j 0) := by
  rw [List.all_eq_true]
  constructor
  · intro h
    have pw := adj_pw (R := fun x y : Int × Int => x.1 ≤ y.1 ∧ (x.1 < y.1 → u x.2.toNat < u y.2.toNat) ∧ (x.1 = y.1 → u x.2.toNat = u y.2.toNat)) (fun x y z h1 h2 => by
      refine ⟨by omega, fun c => ?_, fun c => ?_⟩
      · by_cases c1 : x.1 < y.1
        · have := h1.2.1 c1
          by_cases c2 : y.1 < z.1
          · have := h2.2.1 c2; omega
          · have := h2.2.2 (by omega); omega
        · have := h1.2.2 (by omega)
          have := h2.2.1 (by omega)
          omega
      · have := h1.2.2 (by omega)
        have := h2.2.2 (by omega)
        omega) (L := L) fun q hq => by
      have hle := pw_adj s.le q hq
      obtain ⟨a, ha, e1⟩ := s.at (zip_tail_mem hq).1
      obtain ⟨b, hb, e2⟩ := s.at (zip_tail_mem hq).2
      have ea : q.1.2.toNat = a := by rw [e1]; exact Int.toNat_natCast a
      have eb : q.2.2.toNat = b := by rw [e2]; exact Int.toNat_natCast b
      have := (okAdj_some (u := u) w (by rw [ea]; exact hw a (by omega)) (by rw [eb]; exact hw b (by omega))).mp (h q hq)
      refine ⟨hle, fun c => ?_, fun c => ?_⟩
      · rwa [if_pos c] at this
      · rwa [if_neg (by omega)] at this
    have key : ∀ a b, a < n → b < n → ((p.getD a 0 < p.getD b 0 → u a < u b) ∧ (p.getD a 0 = p.getD b 0 → u a = u b)) := fun a b ha hb => by
      obtain ⟨i, hi, ei⟩ := List.getElem_of_mem (s.has (show a < p.length by omega))
      obtain ⟨j, hj, ej⟩ := List.getElem_of_mem (s.has (show b < p.length by omega))
      have pg := List.pairwise_iff_getElem.mp pw
      rcases Nat.lt_trichotomy i j with c | c | c
      · have := pg i j hi hj c
        rw [ei, ej] at this
        dsimp only at this
        rw [Int.toNat_natCast, Int.toNat_natCast] at this
        exact ⟨this.2.1, this.2.2⟩
      · subst c
        rw [ei] at ej
        have e := Prod.mk.inj ej
        have : a = b := by omega
        subst this
        exact ⟨fun c => by omega, fun _ => rfl⟩
      · have := pg j i hj hi c
        rw [ei, ej] at this
        dsimp only at this
        rw [Int.toNat_natCast, Int.toNat_natCast] at this
        exact ⟨fun c => by omega, fun c => (this.2.2 c.symm).symm⟩
    intro a b ha hb
    have k1 := key a b ha hb
    have k2 := key b a hb ha
    constructor
    · intro c
      show p.getD a 0 < p.getD b 0
      by_cases c1 : p.getD a 0 < p.getD b 0
      · exact c1
      · by_cases c2 : p.getD b 0 < p.getD a 0
        · have := k2.1 c2; omega
        · have := k1.2 (by omega); omega
    · exact k1.1
  · intro h q hq
    have hle := pw_adj s.le q hq
    obtain ⟨a, ha, e1⟩ := s.at (zip_tail_mem hq).1
    obtain ⟨b, hb, e2⟩ := s.at (zip_tail_mem hq).2
    have ea : q.1.2.toNat = a := by rw [e1]; exact Int.toNat_natCast a
    have eb : q.2.2.toNat = b := by rw [e2]; exact Int.toNat_natCast b
    refine (okAdj_some (u := u) w (by rw [ea]; exact hw a (by omega)) (by rw [eb]; exact hw b (by omega))).mpr ?_
    have h1 := h a b (by omega) (by omega)
    have h2 := h b a (by omega) (by omega)
    dsimp only at h1 h2
    have f1 : q.1.1 = p.getD a 0 := by rw [e1]
    have f2 : q.2.1 = p.getD b 0 := by rw [e2]
    rw [f1, f2] at hle
    rw [ea, eb, f1, f2]
    split <;> omega
theorem order_short {L : List (Int × Int)} {p : List Int} {w : Nat → Option Int} (s : Srt2 L p) (h2 : 2 ≤ p.length) (hw : w 0 = none) : (adjs L).all (fun q => okAdj w q.1 q.2) = false := by
  have l := s.len
  obtain ⟨i, hi, ei⟩ := List.getElem_of_mem (s.has (show 0 < p.length by omega))
  refine Bool.eq_false_iff.mpr fun h => ?_
  rw [List.all_eq_true] at h
  have bad1 : ∀ x y : Int × Int, w x.2.toNat = none → okAdj w x y = false := fun x y e => by
    unfold okAdj
    rw [e]
    split
    · unfold ltO; rfl
    · unfold eqO; rfl
  have bad2 : ∀ x y : Int × Int, w y.2.toNat = none → okAdj w x y = false := fun x y e => by
    unfold okAdj
    rw [e]
    split
    · cases w x.2.toNat <;> (unfold ltO; rfl)
    · cases w x.2.toNat <;> (unfold eqO; rfl)
  have zl : (adjs L).length = L.length - 1 := by unfold adjs; rw [List.length_zip, List.length_tail]; omega
  by_cases c : i + 1 < L.length
  · have hm : (L[i], L[i + 1]) ∈ adjs L := by
      refine List.mem_of_getElem? (i := i) ?_
      unfold adjs
      rw [List.getElem?_eq_getElem (by rw [List.length_zip, List.length_tail]; omega), List.getElem_zip, List.getElem_tail]
    have := h _ hm
    rw [bad1 _ _ (by rw [ei]; exact hw)] at this
    cases this
  · have hm : (L[i - 1], L[i]) ∈ adjs L := by
      refine List.mem_of_getElem? (i := i - 1) ?_
      unfold adjs
      rw [List.getElem?_eq_getElem (by rw [List.length_zip, List.length_tail]; omega), List.getElem_zip, List.getElem_tail]
      have : i - 1 + 1 = i := by omega
      simp only [this]
    have := h _ hm
    rw [bad2 _ _ (by rw [ei]; exact hw)] at this
    cases this
-- ranks
def rankI (u : List Int) : List Int := u.map fun x => (cnt (srt u) x : Int)
theorem rankI_len (u : List Int) : (rankI u).length = u.length := List.length_map ..
theorem rankI_get (u : List Int) {j : Nat} (h : j < u.length) : (rankI u).getD j 0 = (cnt (srt u) (u.getD j 0) : Int) := by
  unfold rankI
  rw [List.getD_eq_getElem?_getD, List.getD_eq_getElem?_getD, List.getElem?_map, List.getElem?_eq_getElem h]
  rfl
theorem mem_getD {u : List Int} {j : Nat} (h : j < u.length) : u.getD j 0 ∈ u := by
  rw [List.getD_eq_getElem?_getD, List.getElem?_eq_getElem h]
  exact List.getElem_mem h
theorem rankI_iso (u : List Int) : Iso u.length (fun j => u.getD j 0) (fun j => (rankI u).getD j 0) := fun a b ha hb => by
  dsimp only
  rw [rankI_get u ha, rankI_get u hb]
  have := cnt_lt (srt_sorted u) (mem_srt.mpr (mem_getD ha)) (mem_srt.mpr (mem_getD hb))
  omega
theorem rankI_map {p : List Int} {g : Int → Int} (r : ∀ x ∈ p, ∀ y ∈ p, (g x < g y ↔ x < y)) : rankI (p.map g) = rankI p := by
  unfold rankI
  rw [srt_map p (fun x hx y hy h => (r x hx y hy).mpr h), List.map_map]
  refine List.map_congr_left fun x hx => ?_
  show ((cnt ((srt p).map g) (g x) : Nat) : Int) = _
  rw [cnt_map fun y hy => r y (mem_srt.mp hy) x hx]
theorem idx_get {p : List Int} {x : Int} (h : x ∈ p) : p.idxOf x < p.length ∧ p.getD (p.idxOf x) 0 = x := by
  have hl := List.idxOf_lt_length_iff.mpr h
  refine ⟨hl, ?_⟩
  rw [List.getD_eq_getElem?_getD, List.getElem?_eq_getElem hl]
  exact List.getElem_idxOf hl
theorem rankI_of_iso {u p : List Int} (hl : u.length = p.length) (h : Iso p.length (fun j => u.getD j 0) (fun j => p.getD j 0)) : rankI u = rankI p := by
  have eq : ∀ a b, a < p.length → b < p.length → p.getD a 0 = p.getD b 0 → u.getD a 0 = u.getD b 0 := fun a b ha hb e => by
    have h1 := h a b ha hb
    have h2 := h b a hb ha
    dsimp only at h1 h2
    omega
  have e : u = p.map fun x => u.getD (p.idxOf x) 0 := by
    refine List.ext_getElem (by rw [List.length_map, hl]) fun i h1 h2 => ?_
    rw [List.getElem_map]
    have hi : i < p.length := by omega
    have hm : p.getD i 0 = p[i] := by rw [List.getD_eq_getElem?_getD, List.getElem?_eq_getElem hi]; rfl
    have hg := idx_get (List.getElem_mem hi)
    have := eq i (p.idxOf p[i]) hi hg.1 (by rw [hg.2, hm])
    rw [← this, List.getD_eq_getElem?_getD, List.getElem?_eq_getElem h1]
    rfl
  rw [e]
  refine rankI_map fun x hx y hy => ?_
  have gx := idx_get hx
  have gy := idx_get hy
  have := h _ _ gx.1 gy.1
  dsimp only at this
  rw [gx.2, gy.2] at this
  exact this
theorem rank_iff {u p : List Int} (hp : rankI p = p) : rankI u = p ↔ u.length = p.length ∧ Iso p.length (fun j => u.getD j 0) (fun j => p.getD j 0) := by
  constructor
  · intro h
    have hl : u.length = p.length := by rw [← rankI_len u, h]
    refine ⟨hl, ?_⟩
    have := rankI_iso u
    rw [h, hl] at this
    exact this
  · rintro ⟨hl, h⟩
    rw [rankI_of_iso hl h, hp]
theorem rankI_rank (u : List Int) : rankI (rankI u) = rankI u := (rankI_of_iso (by rw [rankI_len]) (fun a b ha hb => by
  rw [rankI_len] at ha hb
  exact rankI_iso u a b ha hb)).symm
-- what it says
def lastN (xs : List Int) (n k : Nat) : List Int := (xs.take (k + 1)).drop (k + 1 - n)
theorem lastN_len {xs : List Int} {n k : Nat} (h : k < xs.length) : (lastN xs n k).length = min n (k + 1) := by
  unfold lastN
  rw [List.length_drop, List.length_take]
  omega
theorem lastN_get {xs : List Int} {n k j : Nat} (h : k < xs.length) (hn : n ≤ k + 1) (hj : j < n) : wn xs n k j = some ((lastN xs n k).getD j 0) := by
  unfold wn lastN
  rw [if_pos (by omega), List.getD_eq_getElem?_getD, List.getD_eq_getElem?_getD, List.getElem?_drop, List.getElem?_take_of_lt (by omega), show k + 1 - n + j = k + j + 1 - n by omega]
theorem order_rank {xs : List Int} {n k : Nat} {L : List (Int × Int)} {p : List Int} (s : Srt2 L p) (hn : n = p.length) (hn1 : 1 ≤ n) (hp : rankI p = p) (hk : k < xs.length) :
    hold (xs.getD k 0) (hS xs n k) (orderC n L) = decide (rankI (lastN xs n k) = p) := by
  rw [order_hold s hn]
  by_cases c : n ≤ k + 1
  · rw [Bool.eq_iff_iff, decide_eq_true_iff, order_iso (u := fun j => (lastN xs n k).getD j 0) s hn fun j hj => lastN_get hk c hj, rank_iff hp]
    rw [lastN_len hk, hn]
    constructor
    · intro h
      exact ⟨by omega, h⟩
    · intro h
      exact h.2
  · rw [order_short s (by omega) (by unfold wn; rw [if_neg (by omega)]), decide_eq_false fun h => ?_]
    have := congrArg List.length h
    rw [rankI_len, lastN_len hk] at this
    omega
def spotRow (p xs : List Int) (k : Nat) : List (Int × Option Int) := if rankI (lastN xs p.length k) = p then [(0, some (xs.getD k 0))] else []
def spotDue (p xs : List Int) : List (List (Int × Option Int)) := (List.range xs.length).map (spotRow p xs)
theorem spot_due {L : List (Int × Int)} {p : List Int} (s : Srt2 L p) (h1 : 1 ≤ p.length) (hp : rankI p = p) (xs : List Int) : answersM (spotM p.length L) (0, List.replicate (p.length - 1) none) (asLog xs) = spotDue p xs := by
  rw [← hS_zero xs]
  rw [answersM_rows (spotM p.length L) (asLog xs) (fun k => (0, hS xs p.length k)) (spotRow p xs) fun k e he => ?_]
  · rw [asLog_len]
    rfl
  obtain ⟨rfl, hk⟩ := asLog_get he
  rw [spot_read h1, order_rank s rfl h1 hp hk]
  unfold spotRow
  by_cases c : rankI (lastN xs p.length k) = p
  · rw [decide_eq_true c, if_pos rfl, if_pos c]
  · rw [decide_eq_false c, if_neg (by decide), if_neg c]
-- turned
def oppo (p : List Int) (mx : Int) : List Int := p.map fun r => mx - r
theorem srt_dense {p : List Int} (hp : rankI p = p) : srt p = (List.range (srt p).length).map fun (i : Nat) => (i : Int) := by
  refine List.ext_getElem (by simp) fun i h1 h2 => ?_
  rw [List.getElem_map, List.getElem_range]
  have hm := mem_srt.mp (List.getElem_mem h1)
  obtain ⟨j, hj, ej⟩ := List.getElem_of_mem hm
  have e := rankI_get p hj
  rw [hp] at e
  have gj : p.getD j 0 = (srt p)[i] := by rw [List.getD_eq_getElem?_getD, List.getElem?_eq_getElem hj]; exact ej
  rw [gj, cnt_at (srt_sorted p) h1] at e
  exact e
theorem oppo_dense {p : List Int} (hp : rankI p = p) {mx : Int} (hmx : mx = ((srt p).length : Int) - 1) : rankI (oppo p mx) = oppo p mx := by
  have memp : ∀ z, z ∈ p ↔ 0 ≤ z ∧ z < (srt p).length := fun z => by
    rw [← mem_srt, srt_dense hp, List.mem_map]
    constructor
    · rintro ⟨i, hi, rfl⟩
      have := List.mem_range.mp hi
      rw [← srt_dense hp]
      omega
    · rw [← srt_dense hp]
      rintro ⟨h0, h1⟩
      exact ⟨z.toNat, List.mem_range.mpr (by omega), by omega⟩
  have e : srt (oppo p mx) = srt p := by
    refine srt_unique (srt_sorted _) (srt_sorted _) fun y => ?_
    rw [mem_srt, mem_srt]
    unfold oppo
    rw [List.mem_map]
    constructor
    · rintro ⟨r, hr, rfl⟩
      have := (memp r).mp hr
      exact (memp _).mpr (by omega)
    · intro hy
      have := (memp y).mp hy
      exact ⟨mx - y, (memp _).mpr (by omega), by omega⟩
  unfold rankI
  rw [e]
  have hm : ∀ y ∈ oppo p mx, y ∈ p := fun y hy => mem_srt.mp (by rw [← e]; exact mem_srt.mpr hy)
  conv => rhs; rw [← List.map_id (oppo p mx)]
  refine List.map_congr_left fun y hy => ?_
  have h0 := (memp y).mp (hm y hy)
  have hl : y.toNat < (srt p).length := by omega
  have hg : (srt p)[y.toNat] = y := by
    have : (srt p)[y.toNat]? = ((List.range (srt p).length).map fun (i : Nat) => (i : Int))[y.toNat]? := by rw [← srt_dense hp]
    rw [List.getElem?_eq_getElem hl, List.getElem?_map, List.getElem?_range hl] at this
    have := Option.some.inj this
    dsimp only at this
    omega
  have := cnt_at (srt_sorted p) hl
  rw [hg] at this
  rw [this]
  show ((y.toNat : Nat) : Int) = id y
  show ((y.toNat : Nat) : Int) = y
  omega
theorem rank_neg {p u : List Int} (hp : rankI p = p) {mx : Int} (hmx : mx = ((srt p).length : Int) - 1) : rankI (negs u) = p ↔ rankI u = oppo p mx := by
  rw [rank_iff hp, rank_iff (oppo_dense hp hmx), negs_len]
  have lo : (oppo p mx).length = p.length := List.length_map ..
  rw [lo]
  refine and_congr Iff.rfl ?_
  have og : ∀ j, j < p.length → (oppo p mx).getD j 0 = mx - p.getD j 0 := fun j hj => by
    unfold oppo
    rw [List.getD_eq_getElem?_getD, List.getD_eq_getElem?_getD, List.getElem?_map, List.getElem?_eq_getElem hj]
    rfl
  constructor
  · intro h a b ha hb
    have := h b a hb ha
    dsimp only at this ⊢
    rw [negs_get, negs_get] at this
    rw [og a ha, og b hb]
    omega
  · intro h a b ha hb
    have := h b a hb ha
    dsimp only at this ⊢
    rw [og a ha, og b hb] at this
    rw [negs_get, negs_get]
    omega
theorem lastN_neg (xs : List Int) (n k : Nat) : lastN (negs xs) n k = negs (lastN xs n k) := by
  unfold lastN
  rw [negs_take]
  unfold negs
  rw [List.map_drop]
theorem spot_turn {p : List Int} (hp : rankI p = p) {mx : Int} (hmx : mx = ((srt p).length : Int) - 1) (xs : List Int) : (spotDue p (negs xs)).map (List.map (chE fun x => -x)) = spotDue (oppo p mx) xs := by
  refine rows_neg xs (spotRow p) (spotRow (oppo p mx)) fun k _ => ?_
  unfold spotRow
  rw [show (oppo p mx).length = p.length from List.length_map .., lastN_neg, negs_get]
  by_cases c : rankI (negs (lastN xs p.length k)) = p
  · rw [if_pos c, if_pos ((rank_neg hp hmx).mp c)]
    show [((0 : Int), some (- -_))] = _
    rw [Int.neg_neg]
  · rw [if_neg c, if_neg fun h => c ((rank_neg hp hmx).mpr h)]
    rfl
end Dv

open PySem PySem.Spec PyProof.Rows L2 GxR Gx
namespace Dv
theorem walk_enumT {K : PySem.W.Frag} {a : Addr} {xs : List V} : Walk (Ent.IteT K a) xs.length (fun H => SqT K H a xs) (YPair (fun i => some (.int (i : Nat))) (fun i => xs[i]?)) := by
  refine ⟨fun i _ hi q => ⟨xs, xs[i], q, by simp [hi]⟩, fun _ q => ⟨xs, q, Nat.le_refl _⟩, fun i H v H' _ q y => ?_⟩
  obtain ⟨T, x, h1, h2, h3, h4⟩ := y
  exact ⟨T, .int (i : Nat), x, h1, h2, h3, rfl, h4 xs q⟩
/-- new pairs of ints -/
def Two (H : Hp) (zs : List V) (qs : List (Int × Int)) : Prop := zs.length = qs.length ∧ ∀ (i : Nat) (z : V) (q : Int × Int), zs[i]? = some z → qs[i]? = some q → ∃ t, z = .ref t ∧ H t = some (.tup [.int q.1, .int q.2])
theorem Two.nil {H : Hp} : Two H [] [] := ⟨rfl, fun i z q h => by simp at h⟩
theorem Ex.tupR {T ms : List Addr} {H H1 : Hp} (a : Ex T ms H H1) {t : Addr} {xs : List V} (h : H t = some (.tup xs)) (n : t ∉ ms) : H1 t = some (.tup xs) := a.keep t _ n h fun ps e => by cases e
theorem Two.ext {T : List Addr} {H H1 : Hp} {zs : List V} {qs : List (Int × Int)} (w : Two H zs qs) (a : Ex T [] H H1) : Two H1 zs qs := ⟨w.1, fun i z q h1 h2 => by
  obtain ⟨t, e, ht⟩ := w.2 i z q h1 h2
  exact ⟨t, e, a.tupR ht (by simp)⟩⟩
theorem Two.snoc {H : Hp} {zs : List V} {qs : List (Int × Int)} (w : Two H zs qs) {t : Addr} {q : Int × Int} (h : H t = some (.tup [.int q.1, .int q.2])) : Two H (zs ++ [.ref t]) (qs ++ [q]) := by
  refine ⟨by rw [List.length_append, List.length_append, w.1]; rfl, fun i z r h1 h2 => ?_⟩
  by_cases c : i < zs.length
  · rw [List.getElem?_append_left c] at h1
    rw [List.getElem?_append_left (by rw [← w.1]; exact c)] at h2
    exact w.2 i z r h1 h2
  · rw [List.getElem?_append_right (by omega)] at h1
    rw [List.getElem?_append_right (by rw [← w.1]; omega), ← w.1] at h2
    have e0 : i - zs.length = 0 := by
      have := (List.getElem?_eq_some_iff.mp h1).1
      simp at this
      omega
    rw [e0] at h1 h2
    cases h1
    cases h2
    exact ⟨t, rfl, h⟩
def kOf (H : Hp) : V → Int × Int
  | .ref t => match H t with
    | some (.tup [.int i, .int j]) => (i, j)
    | _ => (0, 0)
  | _ => (0, 0)
theorem kOf_at {H : Hp} {t : Addr} {q : Int × Int} (h : H t = some (.tup [.int q.1, .int q.2])) : kOf H (.ref t) = q := by
  show (match H t with
    | some (.tup [.int i, .int j]) => (i, j)
    | _ => (0, 0)) = q
  rw [h]
theorem Two.keys {H : Hp} {zs : List V} {qs : List (Int × Int)} (w : Two H zs qs) : zs.map (kOf H) = qs := by
  refine List.ext_getElem (by rw [List.length_map, w.1]) fun i h1 h2 => ?_
  rw [List.length_map] at h1
  obtain ⟨t, e, ht⟩ := w.2 i _ _ (List.getElem?_eq_getElem h1) (List.getElem?_eq_getElem h2)
  rw [List.getElem_map, e, kOf_at ht]
theorem Two.each {H : Hp} {zs : List V} {qs : List (Int × Int)} (w : Two H zs qs) : ∀ x ∈ zs, ∃ t, x = .ref t ∧ H t = some (.tup [.int (kOf H x).1, .int (kOf H x).2]) := fun x hx => by
  obtain ⟨i, hi, e⟩ := List.getElem_of_mem hx
  obtain ⟨t, e2, ht⟩ := w.2 i _ _ (List.getElem?_eq_getElem hi) (List.getElem?_eq_getElem (by rw [← w.1]; exact hi))
  rw [e] at e2
  subst e2
  exact ⟨t, rfl, by rw [kOf_at ht]; exact ht⟩
theorem Two.of_each {H : Hp} {zs : List V} (h : ∀ x ∈ zs, ∃ t, x = .ref t ∧ H t = some (.tup [.int (kOf H x).1, .int (kOf H x).2])) : Two H zs (zs.map (kOf H)) := by
  refine ⟨(List.length_map _).symm, fun i z q h1 h2 => ?_⟩
  rw [List.getElem?_map, h1] at h2
  cases h2
  exact h z (List.mem_of_getElem? h1)
theorem sorted_two {H : Hp} {zs ys : List V} {p : List Int} (w : Two H zs (prs p)) (s : SrtO.Srtd (ltP (kOf H)) ys) (b : ys.Perm zs) : Srt2 (ys.map (kOf H)) p ∧ Two H ys (ys.map (kOf H)) := by
  refine ⟨⟨?_, ?_⟩, Two.of_each fun x hx => w.each x (b.mem_iff.mp hx)⟩
  · rw [← w.keys]
    exact b.map _
  · rw [List.pairwise_map]
    refine s.imp fun {x y} h => ?_
    have := SrtO.lexB_no.mp h
    omega
end Dv

open PySem PySem.Spec PyProof.Rows L2 GxR Gx
namespace Dv
/-! max of a tuple of ints; a slice with both bounds -/
section
variable {prog : Program} {w : World} {A : Around} {E : Value → Shared → Prop} {s : Shared} {l : Addr} {xs : Array (Int × Tok)}
theorem iter_intTup {Q : Value → Shared → Prop} (hl : s.heap.IsTuple l (intItems xs))
    (h : ∀ s₂ : Shared, s₂ = { s with heap := s.heap.push { cls := .type "tuple_iterator", data := .fields #[.ref l, .int 0 0] } } →
      (s₂.heap.IsTupleIter s.heap.objs.size l 0 ∧ s₂.heap.IsTuple l (intItems xs)) → (∀ b ∈ [s.heap.objs.size, l], b < s₂.heap.objs.size) → l ≠ s.heap.objs.size → Q (.ref s.heap.objs.size) s₂) :
    wpAny (model prog w) A (pyIter (.ref l)) Q E s := by
  have hlt : l < s.heap.objs.size := by obtain ⟨_, e, _⟩ := hl; exact Heap.lt_size e
  refine wpAny_pyIter_tuple hl (h _ rfl ⟨⟨_, Heap.get?_push_size _ rfl, rfl, rfl⟩, hl.push _⟩ (fun b hb => ?_) (Nat.ne_of_lt hlt))
  show b < (s.heap.push _).objs.size
  rw [Heap.size_push]
  rcases List.mem_cons.mp hb with rfl | hb
  · exact Nat.lt_succ_self _
  · rcases List.mem_cons.mp hb with rfl | hb
    · exact Nat.lt_succ_of_lt hlt
    · cases hb
theorem oldT_kept {h' : Heap} (hk : ∀ b o, b ∉ [s.heap.objs.size] → (s.heap.push { cls := .type "tuple_iterator", data := .fields #[.ref l, .int 0 0] }).get? b = some o → h'.get? b = some o) :
    ∀ b o, s.heap.get? b = some o → h'.get? b = some o := fun b o e => by
  refine hk b o (fun hm => ?_) (Heap.get?_push_of_some _ e)
  rcases List.mem_cons.mp hm with e1 | hm
  · exact absurd (e1 ▸ Heap.lt_size e) (Nat.lt_irrefl _)
  · cases hm
theorem max_intTup {Q : Value → Shared → Prop} (hh : A.handled = none) (hl : s.heap.IsTuple l (intItems xs)) (hne : 0 < xs.size)
    (h : ∀ v h' tk, (intItems xs)[argBest (fun i j => decide (numAt xs i > numAt xs j)) (xs.size - 1)]? = some v → (∀ b o, s.heap.get? b = some o → h'.get? b = some o) → Q v { s with heap := h', toks := tk }) :
    wpAny (model prog w) A (call (.builtin "max") [.ref l]) Q E s := by
  refine call_max_walk (iter_intTup hl fun s₂ e st hfp hlI => ?_)
  subst e
  refine ⟨_, _, _, _, _, _, _, rfl, Walks.tuple (A := A.in1) hh _ l hlI (intItems xs), st, hfp, by simpa [intItems] using hne, CmpOf.ints_gt (numAt xs) (fun _ _ => intItems_at), fun v h' tk hP hk => ?_⟩
  exact h v h' tk (by simpa [intItems] using hP) (oldT_kept hk)
theorem maxT_raw {its : List Value} {ns : List Int} {Q : Value → Shared → Prop} (hh : A.handled = none) (hl : s.heap.IsTuple l its.toArray) (hi : IntsAre its ns) (hne : 0 < ns.length)
    (h : ∀ h' tk M t', (∀ b o, s.heap.get? b = some o → h'.get? b = some o) → M ∈ ns → (∀ a, a ∈ ns → a ≤ M) → Q (.int M t') { s with heap := h', toks := tk }) : wpAny (model prog w) A (call (.builtin "max") [.ref l]) Q E s := by
  obtain ⟨xs, e⟩ := hi.allInts.items
  have hn : numsOf (intItems xs).toList = ns := by rw [← e]; exact hi.numsOf
  rw [nums_intItems] at hn
  subst hn
  rw [e] at hl
  have hsz : 0 < xs.size := by simpa using hne
  refine max_intTup hh hl hsz fun v h' tk hv hk => ?_
  obtain ⟨t, rfl⟩ := intItems_at hv
  obtain ⟨h1, h2⟩ := argBest_gt (numAt xs) (xs.size - 1)
  refine h h' tk _ t hk ?_ fun a ha => ?_
  · rw [numAt_eq]; exact PySem.getD_mem (by rw [List.length_map, Array.length_toList]; omega)
  · obtain ⟨j, hj, rfl⟩ := PySem.mem_getD ha
    rw [List.length_map, Array.length_toList] at hj
    rw [← numAt_eq]; exact h2 j (by omega)
end
def rMaxT (K : PySem.W.Frag) : List V → Hp → VK → Prop := fun vs H Q => ∃ (a : Addr) (ns : List Int), vs = [V.ref a] ∧ SqT K H a (ns.map V.int) ∧ 0 < ns.length ∧ ∀ m, m ∈ ns → (∀ y, y ∈ ns → y ≤ m) → Q (.int m) H
theorem cr_maxT {X : Cx} (hc : X.calm = true) : CallR X (.builtin "max") (rMaxT X.K) := by
  intro pins s σ H vs us Q I r h
  obtain ⟨a, ns, rfl, hs, hne, q⟩ := h
  obtain ⟨its, rv, hl, _⟩ := I.tuple hs
  rw [Vals.ref1 r]
  exact maxT_raw (I.ok.hd hc) (show s.heap.IsTuple a its.toArray from hl) rv.ints hne fun h' tk m t' hk h1 h2 => ⟨.int _, H, I.kept hk, ⟨_, rfl⟩, q m h1 h2⟩
theorem cut_mid {xs : List V} {i j : Int} (h0 : 0 ≤ i) (h1 : 0 ≤ j) : cutV xs (some i) (some j) = (xs.take j.toNat).drop i.toNat := by
  obtain ⟨a, rfl⟩ := Int.eq_ofNat_of_zero_le h0
  obtain ⟨b, rfl⟩ := Int.eq_ofNat_of_zero_le h1
  unfold cutV
  rw [HT.sIx_nat, HT.sIx_nat, Int.toNat_natCast, Int.toNat_natCast]
  refine List.ext_getElem? fun k => ?_
  rw [List.getElem?_drop]
  by_cases c : a + k < min b xs.length
  · rw [List.getElem?_take_of_lt (by omega), List.getElem?_take_of_lt (by omega), List.getElem?_drop, Nat.min_eq_left (by omega)]
  · rw [List.getElem?_eq_none (by rw [List.length_take, List.length_drop]; omega), List.getElem?_eq_none (by rw [List.length_take]; omega)]
theorem max_dense {p : List Int} (hp : rankI p = p) {m : Int} (hm : m ∈ p) (hy : ∀ y, y ∈ p → y ≤ m) : m = ((srt p).length : Int) - 1 := by
  have memp : ∀ z, z ∈ p ↔ 0 ≤ z ∧ z < (srt p).length := fun z => by
    rw [← mem_srt, srt_dense hp, List.mem_map]
    constructor
    · rintro ⟨i, hi, rfl⟩
      have := List.mem_range.mp hi
      rw [← srt_dense hp]
      omega
    · rw [← srt_dense hp]
      rintro ⟨h0, h1⟩
      exact ⟨z.toNat, List.mem_range.mpr (by omega), by omega⟩
  have h1 := (memp m).mp hm
  have h2 := hy (((srt p).length : Int) - 1) ((memp _).mpr (by omega))
  omega
theorem spot_ok {p : List Int} {L : List (Int × Int)} (s : Srt2 L p) (h1 : 1 ≤ p.length) (hl : p.length ≤ 1000) : okM 3 (spotM p.length L) := by
  have pl : ∀ j : Nat, j < p.length → plOk (p.length - 1 : Nat) (plc p.length (j : Int)) := fun j hj => by
    unfold plc plOk
    split
    · omega
    · omega
  have hmov : ∀ z ∈ movS p.length, -2 ≤ z ∧ z < ((p.length - 1 : Nat) : Int) := fun z hz => by
    rw [movS_eq h1] at hz
    obtain ⟨i, hi, rfl⟩ := List.mem_map.mp hz
    have hi' := List.mem_range.mp hi
    have := pl (i + 1) (by omega)
    unfold plOk at this
    omega
  have hml : (movS p.length).length = p.length - 1 := by rw [movS_eq h1, List.length_map, List.length_range]
  have hc : okC (p.length - 1) 3 (orderC p.length L) := by
    unfold orderC
    refine okC_all ?_ (okCs_of fun c hc => ?_)
    · rw [List.length_map]
      unfold adjs
      rw [List.length_zip, s.len]
      omega
    · obtain ⟨q, hq, rfl⟩ := List.mem_map.mp hc
      obtain ⟨a, ha, e1⟩ := s.at (zip_tail_mem hq).1
      obtain ⟨b, hb, e2⟩ := s.at (zip_tail_mem hq).2
      unfold adjC
      rw [e1, e2]
      split
      · exact okC_less (pl a ha) (pl b hb)
      · exact okC_same (pl a ha) (pl b hb)
  refine ok_one (by omega) (by show 2 ≤ 1000; decide) fun c hm => ?_
  simp only [List.mem_cons, List.not_mem_nil, or_false] at hm
  rcases hm with rfl | rfl
  · exact ok_case hc hml hmov (fun q hq => by
      obtain rfl := List.mem_singleton.mp hq
      refine ⟨by decide, by decide, ?_⟩
      show (-1 : Int) < _
      omega) (by show 1 ≤ 1000; decide)
  · exact ok_case okC_tru hml hmov (fun q hq => by cases hq) (by show 0 ≤ 1000; decide)
theorem spot_tu {p : List Int} {L : List (Int × Int)} (s : Srt2 L p) (h1 : 1 ≤ p.length) (hl : p.length ≤ 1000) : tuD 9 (encM (spotM p.length L)) := by
  have hml : (movS p.length).length = p.length - 1 := by rw [movS_eq h1, List.length_map, List.length_range]
  have co : tuD 4 (encC (orderC p.length L)) := by
    unfold orderC encC
    simp only [tuD, tuDs]
    refine ⟨by show 2 ≤ 100000; decide, trivial, ⟨?_, ?_⟩, trivial⟩
    · rw [encCs_length, List.length_map]
      unfold adjs
      rw [List.length_zip, s.len]
      omega
    · rw [encCs_map, List.map_map]
      refine tuDs_of fun q _ => ?_
      show tuD 2 (encC (adjC p.length q.1 q.2))
      unfold adjC
      split <;> simp [encC, tuD, tuDs]
  have cm : tuD 4 (.tup ((movS p.length).map .int)) := by
    unfold tuD
    exact ⟨by rw [List.length_map]; omega, tuDs_of fun z _ => tuD_int⟩
  have e : encM (spotM p.length L) = .tup [.int 1, .int ((p.length - 1 : Nat) : Int), .tup [.tup [.tup [.tup [encC (orderC p.length L), .tup ((movS p.length).map .int), .tup [.tup [.int 0, .int (-1)]], .int 0], .tup [encC .tru, .tup ((movS p.length).map .int), .tup [], .int 0]]]]] := rfl
  have ct : tuD 4 (encC .tru) := by simp [encC, tuD, tuDs]
  rw [e]
  unfold tuD at cm
  simp only [tuD, tuDs, List.length_cons, List.length_nil]
  exact ⟨by decide, trivial, trivial, ⟨by decide, ⟨by decide, ⟨by decide, ⟨by decide, co, cm, ⟨by decide, ⟨by decide, trivial, trivial, trivial⟩, trivial⟩, trivial, trivial⟩, ⟨by decide, ct, cm, ⟨by decide, trivial⟩, trivial, trivial⟩, trivial⟩, trivial⟩, trivial⟩, trivial⟩
end Dv

open PySem PySem.Spec PyProof.Rows L2 GxR Gx
namespace Dv
/-! built machines together -/
def mxO (xs : List Int) (k : Nat) : Option Int := (bandO xs k).map (·.2)
theorem band_some (xs : List Int) (k : Nat) : ∃ p, bandO xs (k + 1) = some p := by
  show ∃ p, bandStep (bandO xs k) (xs.getD k 0) = some p
  unfold bandStep
  cases bandO xs k with
  | none => exact ⟨_, rfl⟩
  | some p =>
    obtain ⟨l, h⟩ := p
    dsimp only
    split
    · exact ⟨_, rfl⟩
    · split <;> exact ⟨_, rfl⟩
theorem fall_head {xs : List Int} {k : Nat} {l h : Int} (h0 : 0 < k) (hk : k ≤ xs.length) (e : bandO xs k = some (l, h)) : (fallD (xs.take k)).take 1 = [h] := by
  obtain ⟨l', h', e', hl, hh, ha⟩ := bandO_spec xs k h0 hk
  rw [e] at e'
  cases e'
  have b := fallD_both xs k
  cases ed : fallD (xs.take k) with
  | nil =>
    have := b.2.mem_iff.mpr hh
    rw [ed] at this
    cases this
  | cons x t =>
    rw [ed] at b
    have hx := b.2.mem_iff.mp (List.mem_cons_self)
    have h1 := (ha x hx).2
    have h2 : h ≤ x := by
      rcases List.mem_cons.mp (b.2.mem_iff.mpr hh) with r | r
      · omega
      · exact (List.pairwise_cons.mp b.1).1 h r
    have : x = h := by omega
    rw [this]
    rfl
/-- a record is a new greatest value -/
theorem rec_new {xs : List Int} {k : Nat} (hk : k < xs.length) {l h : Int} (e : bandO xs (k + 1) = some (l, h)) :
    recRow xs k = if (match mxO xs k with | none => true | some b => decide (b < h)) = true then [(0, some h)] else [] := by
  unfold recRow mxO
  cases eo : bandO xs k with
  | none =>
    have h0 : k = 0 := by
      cases k with
      | zero => rfl
      | succ k =>
        obtain ⟨p, hp⟩ := band_some xs k
        rw [hp] at eo
        cases eo
    subst h0
    have : bandO xs 1 = some (xs.getD 0 0, xs.getD 0 0) := rfl
    rw [this] at e
    have := Prod.mk.inj (Option.some.inj e)
    rw [this.2]
    rfl
  | some p =>
    obtain ⟨l0, h0⟩ := p
    have k0 : 0 < k := by
      cases k with
      | zero => cases eo
      | succ k => omega
    obtain ⟨l', h', e', hl, hh, ha⟩ := bandO_spec xs k k0 (by omega)
    rw [eo] at e'
    cases e'
    have lh := (ha h0 hh).1
    have es : bandStep (some (l0, h0)) (xs.getD k 0) = some (l, h) := by rw [← eo]; exact e
    unfold bandStep at es
    dsimp only at es
    have all : ((xs.take k).all fun y => decide (y < xs.getD k 0)) = decide (h0 < xs.getD k 0) := by
      rw [Bool.eq_iff_iff, List.all_eq_true, decide_eq_true_iff]
      constructor
      · intro q
        have := q h0 hh
        rwa [decide_eq_true_iff] at this
      · intro q y hy
        have := (ha y hy).2
        rw [decide_eq_true_iff]
        omega
    rw [all]
    show (if decide (h0 < xs.getD k 0) = true then _ else _) = (if decide (h0 < h) = true then _ else _)
    by_cases c : h0 < xs.getD k 0
    · rw [if_neg (by omega), if_pos c] at es
      have := Prod.mk.inj (Option.some.inj es)
      rw [decide_eq_true c, if_pos rfl, decide_eq_true (by omega), if_pos rfl, this.2]
    · have : h = h0 := by
        by_cases c2 : xs.getD k 0 < l0
        · rw [if_pos c2] at es
          have := Prod.mk.inj (Option.some.inj es)
          omega
        · rw [if_neg c2, if_neg c] at es
          have := Prod.mk.inj (Option.some.inj es)
          omega
      rw [decide_eq_false c, if_neg (by decide), decide_eq_false (by omega), if_neg (by decide)]
theorem enA_take (d : List Int) (k : Nat) : (enA d).take k = enA (d.take k) := by
  unfold enA
  refine List.ext_getElem? fun i => ?_
  by_cases c : i < k
  · rw [List.getElem?_take_of_lt c, List.getElem?_map, List.getElem?_map, List.getElem?_zipIdx, List.getElem?_zipIdx, List.getElem?_take_of_lt c]
  · rw [List.getElem?_eq_none (by rw [List.length_take]; omega), List.getElem?_eq_none (by rw [List.length_map, List.length_zipIdx, List.length_take]; omega)]
theorem enA_len (d : List Int) : (enA d).length = d.length := by unfold enA; rw [List.length_map, List.length_zipIdx]
theorem fall_len (xs : List Int) (k : Nat) : (fallD (xs.take k)).length = min k xs.length := by rw [(fallD_both xs k).2.length_eq, List.length_take]
theorem enA_at (d : List Int) {i : Nat} (h : i < d.length) : (enA d)[i]? = some ((i : Int), some d[i]) := by
  unfold enA
  rw [List.getElem?_map, List.getElem?_zipIdx, List.getElem?_eq_getElem h]
  show some (((0 + i : Nat) : Int), some d[i]) = _
  rw [Nat.zero_add]
/-- a falling list, sorted and reversed, is itself -/
theorem fall_sorted {d ys : List Int} (hd : d.Pairwise (fun a b => b ≤ a)) (p : ys.Perm d) (s : ys.Pairwise (· ≤ ·)) : ys.reverse = d := by
  have s2 : ys.reverse.Pairwise (fun a b => b ≤ a) := List.pairwise_reverse.mpr s
  exact (((List.reverse_perm ys).trans p)).eq_of_pairwise (fun a b _ _ h1 h2 => by omega) s2 hd
-- turning points
def tagsOf (xs : List Int) : Nat → Option Int
  | 0 => none
  | k + 1 => if 0 < k ∧ xs.getD k 0 = xs.getD (k - 1) 0 then none else
    match (turnsRow xs k) with
    | [] => tagsOf xs k
    | p :: _ => some p.1
theorem turns_inv (xs : List Int) : ∀ k, (tagsOf xs (k + 1) = some 0 → 0 < k ∧ xs.getD k 0 < xs.getD (k - 1) 0) ∧ (tagsOf xs (k + 1) = some 1 → 0 < k ∧ xs.getD (k - 1) 0 < xs.getD k 0) ∧ (∀ t, tagsOf xs (k + 1) = some t → t = 0 ∨ t = 1)
  | 0 => by
    have : tagsOf xs 1 = none := by unfold tagsOf turnsRow; simp [tagsOf]
    rw [this]
    exact ⟨fun h => (by cases h), fun h => (by cases h), fun t h => (by cases h)⟩
  | k + 1 => by
    have ih := turns_inv xs k
    unfold tagsOf
    by_cases c : 0 < k + 1 ∧ xs.getD (k + 1) 0 = xs.getD (k + 1 - 1) 0
    · rw [if_pos c]
      exact ⟨fun h => (by cases h), fun h => (by cases h), fun t h => (by cases h)⟩
    rw [if_neg c]
    have ne : ¬ xs.getD (k + 1) 0 = xs.getD k 0 := fun h => c ⟨by omega, h⟩
    show _ ∧ _ ∧ _
    unfold turnsRow
    by_cases c0 : k + 1 < 2
    · rw [if_pos c0]
      dsimp only
      have k0 : k = 0 := by omega
      subst k0
      have : tagsOf xs 1 = none := by unfold tagsOf turnsRow; simp [tagsOf]
      rw [this]
      exact ⟨fun h => (by cases h), fun h => (by cases h), fun t h => (by cases h)⟩
    rw [if_neg c0]
    have e1 : k + 1 - 1 = k := by omega
    have e2 : k + 1 - 2 = k - 1 := by omega
    rw [e1, e2]
    by_cases c1 : xs.getD (k - 1) 0 < xs.getD k 0 ∧ xs.getD (k + 1) 0 < xs.getD k 0
    · rw [if_pos c1]
      dsimp only
      exact ⟨fun _ => ⟨by omega, c1.2⟩, fun h => (by cases h), fun t h => (by cases h; exact .inl rfl)⟩
    rw [if_neg c1]
    by_cases c2 : xs.getD k 0 < xs.getD (k - 1) 0 ∧ xs.getD k 0 < xs.getD (k + 1) 0
    · rw [if_pos c2]
      dsimp only
      exact ⟨fun h => (by cases h), fun _ => ⟨by omega, c2.2⟩, fun t h => (by cases h; exact .inr rfl)⟩
    rw [if_neg c2]
    dsimp only
    refine ⟨fun h => ?_, fun h => ?_, ih.2.2⟩
    · have := ih.1 h
      omega
    · have := ih.2.1 h
      omega
theorem turns_alter (xs : List Int) (k : Nat) (c : ¬ (0 < k ∧ xs.getD k 0 = xs.getD (k - 1) 0)) {p : Int × Option Int} {r : List (Int × Option Int)} (h : turnsRow xs k = p :: r) : r = [] ∧ tagsOf xs k ≠ some p.1 := by
  unfold turnsRow at h
  by_cases c0 : k < 2
  · rw [if_pos c0] at h; cases h
  rw [if_neg c0] at h
  obtain ⟨j, rfl⟩ : ∃ j, k = j + 1 := ⟨k - 1, by omega⟩
  have ih := turns_inv xs j
  have e1 : j + 1 - 1 = j := by omega
  have e2 : j + 1 - 2 = j - 1 := by omega
  rw [e1, e2] at h
  by_cases c1 : xs.getD (j - 1) 0 < xs.getD j 0 ∧ xs.getD (j + 1) 0 < xs.getD j 0
  · rw [if_pos c1] at h
    cases h
    refine ⟨rfl, fun h => ?_⟩
    have := ih.1 h
    omega
  rw [if_neg c1] at h
  by_cases c2 : xs.getD j 0 < xs.getD (j - 1) 0 ∧ xs.getD j 0 < xs.getD (j + 1) 0
  · rw [if_pos c2] at h
    cases h
    refine ⟨rfl, fun h => ?_⟩
    have := ih.2.1 h
    omega
  rw [if_neg c2] at h
  cases h
theorem turns_eq_none (xs : List Int) (k : Nat) (c : 0 < k ∧ xs.getD k 0 = xs.getD (k - 1) 0) : turnsRow xs k = [] := by
  unfold turnsRow
  split
  · rfl
  · rw [if_neg (by omega), if_neg (by omega)]
-- patterns
theorem get_some {xs : List Int} {i j : Nat} (h : i < xs.length) (e : i = j) : xs[i]? = some (xs.getD j 0) := by
  subst e
  rw [List.getD_eq_getElem?_getD, List.getElem?_eq_getElem h]
  rfl
theorem last3 {xs : List Int} {k : Nat} (h2 : 2 ≤ k) (hk : k < xs.length) : lastN xs 3 k = [xs.getD (k - 2) 0, xs.getD (k - 1) 0, xs.getD k 0] := by
  refine List.ext_getElem? fun i => ?_
  have hl := lastN_len (n := 3) hk
  unfold lastN at hl ⊢
  match i with
  | 0 => rw [List.getElem?_drop, List.getElem?_take_of_lt (by omega)]; exact get_some (by omega) (by omega)
  | 1 => rw [List.getElem?_drop, List.getElem?_take_of_lt (by omega)]; exact get_some (by omega) (by omega)
  | 2 => rw [List.getElem?_drop, List.getElem?_take_of_lt (by omega)]; exact get_some (by omega) (by omega)
  | i + 3 =>
    rw [List.getElem?_eq_none (by omega), List.getElem?_eq_none (by show [_, _, _].length ≤ i + 3; simp)]
theorem iso3 {a b c p q r : Int} : Iso 3 (fun j => [a, b, c].getD j 0) (fun j => [p, q, r].getD j 0) ↔ ((a < b ↔ p < q) ∧ (b < a ↔ q < p) ∧ (b < c ↔ q < r) ∧ (c < b ↔ r < q) ∧ (a < c ↔ p < r) ∧ (c < a ↔ r < p)) := by
  constructor
  · intro h
    exact ⟨h 0 1 (by omega) (by omega), h 1 0 (by omega) (by omega), h 1 2 (by omega) (by omega), h 2 1 (by omega) (by omega), h 0 2 (by omega) (by omega), h 2 0 (by omega) (by omega)⟩
  · rintro ⟨h1, h2, h3, h4, h5, h6⟩ i j hi hj
    have ci : i = 0 ∨ i = 1 ∨ i = 2 := by omega
    have cj : j = 0 ∨ j = 1 ∨ j = 2 := by omega
    rcases ci with rfl | rfl | rfl <;> rcases cj with rfl | rfl | rfl
    · exact ⟨fun h => absurd h (Int.lt_irrefl _), fun h => absurd h (Int.lt_irrefl _)⟩
    · exact h1
    · exact h5
    · exact h2
    · exact ⟨fun h => absurd h (Int.lt_irrefl _), fun h => absurd h (Int.lt_irrefl _)⟩
    · exact h3
    · exact h6
    · exact h4
    · exact ⟨fun h => absurd h (Int.lt_irrefl _), fun h => absurd h (Int.lt_irrefl _)⟩
theorem rank3 {a b c p q r : Int} (hp : rankI [p, q, r] = [p, q, r]) : rankI [a, b, c] = [p, q, r] ↔ ((a < b ↔ p < q) ∧ (b < a ↔ q < p) ∧ (b < c ↔ q < r) ∧ (c < b ↔ r < q) ∧ (a < c ↔ p < r) ∧ (c < a ↔ r < p)) := by
  rw [rank_iff hp]
  show (3 = 3 ∧ Iso 3 _ _) ↔ _
  rw [iso3]
  exact ⟨fun h => h.2, fun h => ⟨rfl, h⟩⟩
def highP : List (List Int) := [[0, 1, 0], [0, 2, 1], [1, 2, 0]]
def lowP : List (List Int) := [[1, 0, 1], [1, 0, 2], [2, 0, 1]]
theorem high_ok : ∀ p ∈ highP, rankI p = p ∧ p.length = 3 := by decide
theorem low_ok : ∀ p ∈ lowP, rankI p = p ∧ p.length = 3 := by decide
def tells (p xs : List Int) (k : Nat) : Bool := decide (0 < (spotRow p xs k).length)
theorem tells_iff {p xs : List Int} {k : Nat} : tells p xs k = true ↔ rankI (lastN xs p.length k) = p := by
  unfold tells spotRow
  rw [decide_eq_true_iff]
  split
  · rename_i h; exact ⟨fun _ => h, fun _ => by show 0 < 1; decide⟩
  · rename_i h; exact ⟨fun q => absurd q (by show ¬ 0 < 0; decide), fun q => absurd q h⟩
theorem tells_short {p xs : List Int} {k : Nat} (hl : p.length = 3) (h : k < 2) (hk : k < xs.length) : tells p xs k = false := by
  refine Bool.eq_false_iff.mpr fun h2 => ?_
  have := congrArg List.length (tells_iff.mp h2)
  rw [rankI_len, lastN_len hk, hl] at this
  omega
theorem high_count {xs : List Int} {k : Nat} (hk : k < xs.length) : (highP.filter fun p => tells p xs k).length = if 2 ≤ k ∧ xs.getD (k - 2) 0 < xs.getD (k - 1) 0 ∧ xs.getD k 0 < xs.getD (k - 1) 0 then 1 else 0 := by
  by_cases c : k < 2
  · rw [if_neg (by omega), List.filter_eq_nil_iff.mpr fun p hp => by rw [tells_short (high_ok p hp).2 c hk]; decide, List.length_nil]
  have t : ∀ p q r : Int, rankI [p, q, r] = [p, q, r] → (tells [p, q, r] xs k = true ↔ ((xs.getD (k - 2) 0 < xs.getD (k - 1) 0 ↔ p < q) ∧ (xs.getD (k - 1) 0 < xs.getD (k - 2) 0 ↔ q < p) ∧ (xs.getD (k - 1) 0 < xs.getD k 0 ↔ q < r) ∧ (xs.getD k 0 < xs.getD (k - 1) 0 ↔ r < q) ∧ (xs.getD (k - 2) 0 < xs.getD k 0 ↔ p < r) ∧ (xs.getD k 0 < xs.getD (k - 2) 0 ↔ r < p))) := fun p q r hp => by
    rw [tells_iff, show [p, q, r].length = 3 from rfl, last3 (by omega) hk]
    exact rank3 hp
  have t1 := t 0 1 0 (by decide)
  have t2 := t 0 2 1 (by decide)
  have t3 := t 1 2 0 (by decide)
  generalize xs.getD (k - 2) 0 = a at *
  generalize xs.getD (k - 1) 0 = b at *
  generalize xs.getD k 0 = d at *
  unfold highP
  simp only [List.filter_cons, List.filter_nil]
  by_cases c2 : a < b ∧ d < b
  · rw [if_pos (show 2 ≤ k ∧ a < b ∧ d < b from ⟨by omega, c2⟩)]
    rcases Int.lt_trichotomy a d with h | h | h
    · have f1 : ¬ tells [0, 1, 0] xs k = true := by rw [t1]; omega
      have f2 : tells [0, 2, 1] xs k = true := by rw [t2]; omega
      have f3 : ¬ tells [1, 2, 0] xs k = true := by rw [t3]; omega
      rw [if_neg f1, if_pos f2, if_neg f3]; rfl
    · have f1 : tells [0, 1, 0] xs k = true := by rw [t1]; omega
      have f2 : ¬ tells [0, 2, 1] xs k = true := by rw [t2]; omega
      have f3 : ¬ tells [1, 2, 0] xs k = true := by rw [t3]; omega
      rw [if_pos f1, if_neg f2, if_neg f3]; rfl
    · have f1 : ¬ tells [0, 1, 0] xs k = true := by rw [t1]; omega
      have f2 : ¬ tells [0, 2, 1] xs k = true := by rw [t2]; omega
      have f3 : tells [1, 2, 0] xs k = true := by rw [t3]; omega
      rw [if_neg f1, if_neg f2, if_pos f3]; rfl
  · rw [if_neg (show ¬ (2 ≤ k ∧ a < b ∧ d < b) from fun h => c2 h.2)]
    have f1 : ¬ tells [0, 1, 0] xs k = true := by rw [t1]; omega
    have f2 : ¬ tells [0, 2, 1] xs k = true := by rw [t2]; omega
    have f3 : ¬ tells [1, 2, 0] xs k = true := by rw [t3]; omega
    rw [if_neg f1, if_neg f2, if_neg f3]; rfl
theorem low_count {xs : List Int} {k : Nat} (hk : k < xs.length) : (lowP.filter fun p => tells p xs k).length = if 2 ≤ k ∧ xs.getD (k - 1) 0 < xs.getD (k - 2) 0 ∧ xs.getD (k - 1) 0 < xs.getD k 0 then 1 else 0 := by
  by_cases c : k < 2
  · rw [if_neg (by omega), List.filter_eq_nil_iff.mpr fun p hp => by rw [tells_short (low_ok p hp).2 c hk]; decide, List.length_nil]
  have t : ∀ p q r : Int, rankI [p, q, r] = [p, q, r] → (tells [p, q, r] xs k = true ↔ ((xs.getD (k - 2) 0 < xs.getD (k - 1) 0 ↔ p < q) ∧ (xs.getD (k - 1) 0 < xs.getD (k - 2) 0 ↔ q < p) ∧ (xs.getD (k - 1) 0 < xs.getD k 0 ↔ q < r) ∧ (xs.getD k 0 < xs.getD (k - 1) 0 ↔ r < q) ∧ (xs.getD (k - 2) 0 < xs.getD k 0 ↔ p < r) ∧ (xs.getD k 0 < xs.getD (k - 2) 0 ↔ r < p))) := fun p q r hp => by
    rw [tells_iff, show [p, q, r].length = 3 from rfl, last3 (by omega) hk]
    exact rank3 hp
  have t1 := t 1 0 1 (by decide)
  have t2 := t 1 0 2 (by decide)
  have t3 := t 2 0 1 (by decide)
  generalize xs.getD (k - 2) 0 = a at *
  generalize xs.getD (k - 1) 0 = b at *
  generalize xs.getD k 0 = d at *
  unfold lowP
  simp only [List.filter_cons, List.filter_nil]
  by_cases c2 : b < a ∧ b < d
  · rw [if_pos (show 2 ≤ k ∧ b < a ∧ b < d from ⟨by omega, c2⟩)]
    rcases Int.lt_trichotomy a d with h | h | h
    · have f1 : ¬ tells [1, 0, 1] xs k = true := by rw [t1]; omega
      have f2 : tells [1, 0, 2] xs k = true := by rw [t2]; omega
      have f3 : ¬ tells [2, 0, 1] xs k = true := by rw [t3]; omega
      rw [if_neg f1, if_pos f2, if_neg f3]; rfl
    · have f1 : tells [1, 0, 1] xs k = true := by rw [t1]; omega
      have f2 : ¬ tells [1, 0, 2] xs k = true := by rw [t2]; omega
      have f3 : ¬ tells [2, 0, 1] xs k = true := by rw [t3]; omega
      rw [if_pos f1, if_neg f2, if_neg f3]; rfl
    · have f1 : ¬ tells [1, 0, 1] xs k = true := by rw [t1]; omega
      have f2 : ¬ tells [1, 0, 2] xs k = true := by rw [t2]; omega
      have f3 : tells [2, 0, 1] xs k = true := by rw [t3]; omega
      rw [if_neg f1, if_neg f2, if_pos f3]; rfl
  · rw [if_neg (show ¬ (2 ≤ k ∧ b < a ∧ b < d) from fun h => c2 h.2)]
    have f1 : ¬ tells [1, 0, 1] xs k = true := by rw [t1]; omega
    have f2 : ¬ tells [1, 0, 2] xs k = true := by rw [t2]; omega
    have f3 : ¬ tells [2, 0, 1] xs k = true := by rw [t3]; omega
    rw [if_neg f1, if_neg f2, if_neg f3]; rfl
theorem spotted_tags {xs : List Int} {k : Nat} (hk : k < xs.length) : (turnsRow xs k).map (·.1) = List.replicate (highP.filter fun p => tells p xs k).length 0 ++ List.replicate (lowP.filter fun p => tells p xs k).length 1 := by
  rw [high_count hk, low_count hk]
  unfold turnsRow
  by_cases c0 : k < 2
  · rw [if_pos c0, if_neg (by omega), if_neg (by omega)]; rfl
  rw [if_neg c0]
  by_cases c1 : xs.getD (k - 2) 0 < xs.getD (k - 1) 0 ∧ xs.getD k 0 < xs.getD (k - 1) 0
  · rw [if_pos c1, if_pos ⟨by omega, c1⟩, if_neg (by omega)]; rfl
  rw [if_neg c1, if_neg (show ¬ (2 ≤ k ∧ xs.getD (k - 2) 0 < xs.getD (k - 1) 0 ∧ xs.getD k 0 < xs.getD (k - 1) 0) from fun h => c1 h.2)]
  by_cases c2 : xs.getD (k - 1) 0 < xs.getD (k - 2) 0 ∧ xs.getD (k - 1) 0 < xs.getD k 0
  · rw [if_pos c2, if_pos ⟨by omega, c2⟩]; rfl
  · rw [if_neg c2, if_neg (show ¬ (2 ≤ k ∧ xs.getD (k - 1) 0 < xs.getD (k - 2) 0 ∧ xs.getD (k - 1) 0 < xs.getD k 0) from fun h => c2 h.2)]; rfl
-- runs
theorem runs_ended (xs : List Int) (k : Nat) : (0 < (runsRow xs k).length) ↔ (0 < k ∧ xs.getD k 0 ≤ xs.getD (k - 1) 0) := by
  unfold runsRow
  split
  · rename_i h; exact ⟨fun _ => h, fun _ => by show 0 < 1; decide⟩
  · rename_i h; exact ⟨fun q => absurd q (by show ¬ 0 < 0; decide), fun q => absurd q h⟩
theorem takeT_any {K : PySem.W.Frag} {H : Hp} {T : List Addr} {Q : VK} {v0 : V} {ds : List D} {av : Int} (h : At K H v0 (.tup ds)) (h0 : 0 ≤ av) (q : ∀ v H', At K H' v (.tup (ds.take av.toNat)) → Ex T [] H H' → Q v H') : rSlA K v0 none (some av) H Q := by
  obtain ⟨a, xs, rfl, sq, ats⟩ := at_tup.mp h
  refine ⟨a, xs, rfl, sq, fun hw => q (.ref a) H ?_ Ex.refl, fun _ p np => q (.ref p) _ ?_ (Ex.new np)⟩
  · obtain ⟨k, rfl⟩ := Int.eq_ofNat_of_zero_le h0
    have := hw.2
    rw [HT.sIx_nat] at this
    rw [Int.toNat_natCast, List.take_of_length_le (by rw [← ats.length]; omega)]
    exact h
  · rw [cut_take h0]
    exact At.laid np (ats.takeD _)
end Dv

/-! Hc: a list comprehension over range(..) while an exception is handled; a def that is called in an except suite and asks for the class of what was caught. -/
namespace L2H
open PySem PySem.Spec PyProof.Rows L2 HotX

/-- the block of a comprehension, the pins of its def kept -/
abbrev blkP (X : Cx) (s : Shared) (H : Hp) (sc : Scope) (ce : Env) (fp : List Addr) : Cx := { X.blk s H sc ce fp with pn := X.pn }
theorem inv_blkP {X : Cx} {s0 s : Shared} {H0 H : Hp} {sc : Scope} {ce : Env} {fp : List Addr} {σ : L2.St} (I : Inv (X.blk s0 H0 sc ce fp) [] σ H s)
    (hp : ∀ p ∈ X.pn, s.heap.get? p.1 = some p.2 ∧ H p.1 = none ∧ p.1 ≠ ce.locals ∧ p.1 ∉ frs X.stack ∧ ∀ v, p.2.data ≠ .cell v) : Inv (blkP X s0 H0 sc ce fp) [] σ H s := by
  have o := I.ok
  refine ⟨⟨o.mod, o.kind, o.glob, o.blt, o.above, o.inj, o.has, o.cab, o.hd, o.frames, o.stk, o.exf, o.bs, o.bsz, o.noex, o.exfs, o.funs, o.frf⟩, I.os, I.bare, I.base, I.loc, I.cell, I.free, I.freeC, fun p h => ?_, I.hok, I.len⟩
  rw [List.append_nil] at h
  exact hp p h
theorem hot_blkP {X : Cx} {s0 : Shared} {H0 : Hp} {sc : Scope} {ce : Env} {fp : List Addr} (h : HotC X) : HotC (blkP X s0 H0 sc ce fp) := h

theorem lc_coreH {X : Cx} {pins : List (Addr × Obj)} {s : Shared} {σ : L2.St} {H : Hp} {Q : VK} {elt tg iter : Expr} {ifs : List Expr} {scope : Scope} {own : List (Str × Nat)} {pos pos' : Pos} {wi : TI} {g : TG} {tt : TT} {te : TE} {use : Option (Value → Sem Unit)} {Qf : Value → Shared → Prop}
    (hc : HotC X) (hN : X.N.Nodup) (I : Inv X pins σ H s) (hi : PIH X tg iter wi) (ok : BlkOk X.N X.env.scope scope own)
    (hg : ∀ (s : Shared) (H : Hp) (C : Addr) (cl : List (Str × Addr)) (fp : List Addr), PG (blkP X s H scope (compEnvC scope cl C X.env) fp) tg g)
    (ht : ∀ (s : Shared) (H : Hp) (C : Addr) (cl : List (Str × Addr)) (fp : List Addr), PTs (blkP X s H scope (compEnvC scope cl C X.env) fp) ifs tt)
    (he : ∀ (s : Shared) (H : Hp) (C : Addr) (cl : List (Str × Addr)) (fp : List Addr), PE (blkP X s H scope (compEnvC scope cl C X.env) fp) elt te) (hs : ∀ x, foldedSetIterable iter X.env x = pure x)
    (h : tLc wi g tt te (own.map (·.2)) σ H Q)
    (hRR : ∀ D C s' m H', Inv X pins σ H' s' → Q (.ref D) H' → s'.heap.Ns C m → FpOk X pins H' C → compPost (model X.prog X.w) X.A X.xe use Qf (.ref D) C (.ok .next) s') :
    wpAny (model X.prog X.w) X.A (comprehension (.ListComp elt [⟨tg, iter, ifs, 0⟩] scope pos) scope X.env pos' (newList []) false (eval iter X.env) use) Qf X.xe s := by
  have hfree : ∀ y ∈ scope.names, y.2 = .free → ∃ c, X.env.cells.lookup y.1 = some c := fun y hy e => by
    rcases ok.free y hy e with k | k
    · exact I.ok.has _ (.inl k)
    · exact I.ok.has _ (.inr k)
  refine wpAny_comprehension_free (use := use) rfl hs (closure_ok hfree) ok.kind (fun y hy e => by rw [ok.uniq y hy, e])
    (thn (hi.run pins s σ H _ I h) fun xv s1 hx => thn hx fun itv s2 h2 => ?_)
  obtain ⟨it, fp, tn, J, H2, e, I2, T, st2, f2, q⟩ := h2
  subst e
  refine wpAny_newObj_type (newEnv_comp ?_) (by show 0 ≤ sizeLine; decide)
  generalize hD : s2.heap.objs.size = D
  have hDn : H2 D = none := I2.hok.fresh (Nat.le_of_eq hD)
  obtain ⟨W, ⟨m0, w0⟩, turn⟩ := q D hDn
  generalize hs3 : ({ s2 with heap := s2.heap.push { cls := .type "list", data := .seq ([] : List Value).toArray } } : Shared) = s3
  have h3 : s3.heap = s2.heap.push { cls := .type "list", data := .seq ([] : List Value).toArray } := by rw [← hs3]
  have I3 : Inv X pins σ (upd H2 D (.lst [])) s3 := by
    rw [← hs3]
    refine I2.laid (t' := s2.toks) (fun b o e => Heap.get?_push_of_some _ e) (Nat.le_of_eq hD) ⟨Nat.zero_le _, [], 0, .nil, ?_⟩
    rw [← hD]
    exact Heap.get?_push_size _ rfl
  have f3 : ∀ b ∈ fp, FpOk X pins (upd H2 D (.lst [])) b ∧ b < s3.heap.objs.size := fun b hb => by
    obtain ⟨o, e, _⟩ := T.obj _ _ st2 b hb
    have hlt := Heap.lt_size e
    refine ⟨⟨?_, (f2 b hb).2⟩, by rw [h3, Heap.size_push]; exact Nat.lt_succ_of_lt hlt⟩
    rw [upd_ne (by rw [← hD]; exact Nat.ne_of_lt hlt)]
    exact (f2 b hb).1
  have st3 : tn 0 s3.heap := T.keep _ _ _ st2 fun b _ o e => by rw [h3]; exact Heap.get?_push_of_some _ e
  have I4 := block_start I3 ok hN f3
  have pg := hg s3 (upd H2 D (.lst [])) s3.heap.objs.size (cellsFrom (s3.heap.objs.size + 1) scope.names (cloFrom X.env.cells scope.names [])) fp
  have pt := ht s3 (upd H2 D (.lst [])) s3.heap.objs.size (cellsFrom (s3.heap.objs.size + 1) scope.names (cloFrom X.env.cells scope.names [])) fp
  have pe := he s3 (upd H2 D (.lst [])) s3.heap.objs.size (cellsFrom (s3.heap.objs.size + 1) scope.names (cloFrom X.env.cells scope.names [])) fp
  show codeAny _ _ (.compStart (.ListComp elt [⟨tg, iter, ifs, 0⟩] scope pos) 0 (.ref it) (.ref D) (compEnvC scope (cellsFrom (s3.heap.objs.size + 1) scope.names (cloFrom X.env.cells scope.names [])) s3.heap.objs.size X.env)) (compPost (model X.prog X.w) X.A X.xe use Qf (.ref D) s3.heap.objs.size) { s3 with heap := pushCells (s3.heap.push { cls := .type "dict", data := .dict #[] }) scope.names }
  have nfp : ∀ b ∈ fp, (upd H2 D (.lst [])) b = none := fun b hb => (f3 b hb).1.1
  generalize hce : compEnvC scope (cellsFrom (s3.heap.objs.size + 1) scope.names (cloFrom X.env.cells scope.names [])) s3.heap.objs.size X.env = ce at I4 pg pt pe ⊢
  have cL : ce.locals = s3.heap.objs.size := by subst hce; rfl
  generalize hH3 : upd H2 D (.lst []) = H3 at I3 I4 pg pt pe w0 nfp f3
  generalize hs4 : ({ s3 with heap := pushCells (s3.heap.push { cls := .type "dict", data := .dict #[] }) scope.names } : Shared) = s4 at I4 ⊢
  have k4 : ∀ b o, s3.heap.get? b = some o → s4.heap.get? b = some o := fun b o e => by rw [← hs4]; exact pushCells_keeps _ _ _ _ (Heap.get?_push_of_some _ e)
  have st4 : tn 0 s4.heap := T.keep _ _ _ st3 fun b _ o e => k4 b o e
  have J4 : Inv (blkP X s3 H3 scope ce fp) [] (wipe σ (own.map (·.2))) H3 s4 := inv_blkP I4 fun p hp => by
    obtain ⟨p1, p2, p3, p4, p5⟩ := I3.pin p (List.mem_append_left _ hp)
    exact ⟨k4 _ _ p1, p2, by rw [cL]; exact Nat.ne_of_lt (Heap.lt_size p1), fun hm => (List.mem_cons.mp (I3.stkSub p.1 hm)).elim p3 p4, p5⟩
  have hot : HotC (blkP X s3 H3 scope ce fp) := hc
  have stat : ∀ {σ' : L2.St} {H' : Hp} {s' : Shared}, Inv (blkP X s3 H3 scope ce fp) [] σ' H' s' → (∀ b ∈ fp, H' b = none) → ∀ b ∈ fp, FpOk (blkP X s3 H3 scope ce fp) [] H' b := fun {σ' H' s'} I' hn b hb =>
    ⟨hn b hb, (I'.ok.exf b hb).1, I'.ok.exfs b hb, .inl hb, fun x c e => (I'.ok.exf b hb).2 x c e, fun p hp => (f3 b hb).1.2.2.2.2.2 p (by
      rw [List.append_nil] at hp
      exact List.mem_append_left _ hp)⟩
  have loop : codeAny (model X.prog X.w) X.A (.compLoop (.ListComp elt [⟨tg, iter, ifs, 0⟩] scope pos) 0 (.ref it) (.ref D) ce) (compPost (model X.prog X.w) X.A X.xe use Qf (.ref D) s3.heap.objs.size) s4 := by
    refine compLoop_any (fun n s' => ∃ i H', Inv (blkP X s3 H3 scope ce fp) [] (wipe σ (own.map (·.2))) H' s' ∧ tn i s'.heap ∧ (∀ b ∈ fp, H' b = none) ∧ W i n H') ?_ m0 ⟨0, H3, J4, st4, nfp, w0⟩
    rintro n s5 ⟨i, H5, I5, st5, n5, w5⟩
    rcases turn i n H5 w5 with ⟨stop, qq⟩ | ⟨go, Nx, hNx, step⟩
    · refine thnF (T.done (blkP X s3 H3 scope ce fp) rfl rfl rfl hot i [] s5 _ H5 (fun _ _ => False) I5 (stat I5 n5) st5 stop) fun r s6 ⟨hr, I6⟩ => ?_
      subst hr
      have I7 : Inv X pins σ H5 s6 := I3.call' (ch := fp) I6.os I6.base I6.hok I6.bare fun b hb => ⟨(f3 b hb).1.2.2.2.1, (f3 b hb).1.2.1, (f3 b hb).1.2.2.2.2.1, (f3 b hb).1.2.2.2.2.2⟩
      have nC : H5 s3.heap.objs.size = none := by
        have z : H5 ce.locals = none := I6.free
        rw [cL] at z
        exact z
      obtain ⟨m, hn, _⟩ := I6.loc
      have hn : s6.heap.Ns ce.locals m := hn
      rw [cL] at hn
      exact hRR D s3.heap.objs.size s6 m H5 I7 qq hn (I3.fpOk (Nat.le_refl _) nC)
    · refine thnF (T.item (blkP X s3 H3 scope ce fp) rfl rfl rfl hot i [] s5 _ H5 (fun _ _ => False) I5 (stat I5 n5) st5 go) fun r s6 ⟨u, hr, h6⟩ => ?_
      subst hr
      refine thnF h6 fun _ s7 ⟨x, H7, I7, r7, y7, st7, n7⟩ => ?_
      have I7' := I7.pinned (stat I7 n7) (T.obj _ _ st7)
      refine thnF (pg.run _ s7 _ H7 x u _ I7' r7 (step x H7 y7)) fun _ s8 ⟨σ8, H8, I8, hw8, q8⟩ => ?_
      refine thnF (pt.run _ s8 σ8 H8 _ I8 q8) fun b s9 ⟨H9, I9, q9⟩ => ?_
      have fin : ∀ {s' : Shared} {H' : Hp}, Inv (blkP X s3 H3 scope ce fp) ([] ++ pinsAt fp s7.heap) σ8 H' s' → Nx H' → ∃ m, m < n ∧ ∃ i H', Inv (blkP X s3 H3 scope ce fp) [] (wipe σ (own.map (·.2))) H' s' ∧ tn i s'.heap ∧ (∀ b ∈ fp, H' b = none) ∧ W i m H' := fun {s' H'} I' nx => by
        obtain ⟨m', hm, w'⟩ := hNx H' nx
        have pin' : ∀ b ∈ fp, ∀ o, s7.heap.get? b = some o → s'.heap.get? b = some o ∧ H' b = none := fun b hb o e =>
          let z := I'.pin (b, o) (List.mem_append_right _ (List.mem_append_right _ (mem_pinsAt hb e)))
          ⟨z.1, z.2.1⟩
        have hl : (wipe σ (own.map (·.2))).length = σ8.length := by rw [← hw8, wipe_length]
        refine ⟨m', hm, i + 1, H', (I'.unpinned (pins := [])).weak hl (fun j v e => ?_), T.keep _ _ _ st7 fun b hb o e => (pin' b hb o e).1, fun b hb => ?_, w'⟩
        · rw [← hw8] at e
          exact (wipe_some e).1
        · obtain ⟨o, e, _⟩ := T.obj _ _ st7 b hb
          exact (pin' b hb o e).2
      cases b with
      | false =>
        simp only [Bool.false_eq_true, if_false] at q9 ⊢
        exact fin I9 q9
      | true =>
        simp only [if_true] at q9 ⊢
        refine thnF (pe.run _ s9 σ8 H9 _ I9 q9) fun z s10 ⟨yv, H10, I10, r10, acc, hD10, hz10, nx⟩ => ?_
        exact app_ok (X := blkP X s3 H3 scope ce fp) I10 hD10 hz10 r10 fun s11 I11 => fin I11 nx
  exact codeAny_compStart_list loop (T.self X.A 0 _ _ _ st4 loop)
theorem pe_lcH {X : Cx} {elt tg iter : Expr} {ifs : List Expr} {scope : Scope} {own : List (Str × Nat)} {pos : Pos} {wi : TI} {g : TG} {tt : TT} {te : TE} (hc : HotC X) (hN : X.N.Nodup) (hi : PIH X tg iter wi) (ok : BlkOk X.N X.env.scope scope own)
    (hg : ∀ (s : Shared) (H : Hp) (C : Addr) (cl : List (Str × Addr)) (fp : List Addr), PG (blkP X s H scope (compEnvC scope cl C X.env) fp) tg g)
    (ht : ∀ (s : Shared) (H : Hp) (C : Addr) (cl : List (Str × Addr)) (fp : List Addr), PTs (blkP X s H scope (compEnvC scope cl C X.env) fp) ifs tt)
    (he : ∀ (s : Shared) (H : Hp) (C : Addr) (cl : List (Str × Addr)) (fp : List Addr), PE (blkP X s H scope (compEnvC scope cl C X.env) fp) elt te) (hs : ∀ x, foldedSetIterable iter X.env x = pure x := by intro _; rfl) :
    PE X (.ListComp elt [⟨tg, iter, ifs, 0⟩] scope pos) (tLc wi g tt te (own.map (·.2))) := by
  refine ⟨fun pins s σ H Q I h => ?_⟩
  rw [eval_ListComp]
  refine lc_coreH hc hN I hi ok hg ht he hs h fun D C s' m H' I' q hn f => ⟨m, hn, fun h'' sb => ?_⟩
  obtain ⟨f0, f1, f2, f3, f4, f5⟩ := f
  exact ⟨.ref D, H', I'.turned (t' := s'.toks) (fun b o hb e => (sb.2 b hb).trans e) f0 f1 f3 f4 f5, rfl, q⟩
/-- name = [..], the name a local -/
theorem ps_setLcH {X : Cx} {i : Nat} {y : Str} {py : Pos} {elt tg iter : Expr} {ifs : List Expr} {scope : Scope} {own : List (Str × Nat)} {pos spos : Pos} {wi : TI} {g : TG} {tt : TT} {te : TE} (hc : HotC X) (hN : X.N.Nodup) (hy : X.N[i]? = some y) (hyl : X.env.scope.names.lookup y = some .local)
    (hsw : swapsWith (.ListComp elt [⟨tg, iter, ifs, 0⟩] scope pos) (some (.Name y py)) spos.line X.env = pure true) (hi : PIH X tg iter wi) (ok : BlkOk X.N X.env.scope scope own)
    (hg : ∀ (s : Shared) (H : Hp) (C : Addr) (cl : List (Str × Addr)) (fp : List Addr), PG (blkP X s H scope (compEnvC scope cl C X.env) fp) tg g)
    (ht : ∀ (s : Shared) (H : Hp) (C : Addr) (cl : List (Str × Addr)) (fp : List Addr), PTs (blkP X s H scope (compEnvC scope cl C X.env) fp) ifs tt)
    (he : ∀ (s : Shared) (H : Hp) (C : Addr) (cl : List (Str × Addr)) (fp : List Addr), PE (blkP X s H scope (compEnvC scope cl C X.env) fp) elt te) (hs : ∀ x, foldedSetIterable iter X.env x = pure x := by intro _; rfl) :
    PS X (.Assign [.Name y py] (.ListComp elt [⟨tg, iter, ifs, 0⟩] scope pos) spos) (tAsg (tLc wi g tt te (own.map (·.2))) (gName i)) := by
  refine ⟨fun pins s σ H D I h => ?_⟩
  rw [exec_Assign_Name_used _ _ _ _ hsw]
  refine wpAny_bind (wpAny_standAt (wpAny_bind ?_))
  have h : tLc wi g tt te (own.map (·.2)) σ H (fun x H1 => gName i x σ H1 D.nx) := h
  refine wpAny_bind (thn (lc_coreH (use := some (assign (.Name y py) X.env)) (Qf := fun _ s' => SP X pins D .next s') hc hN I hi ok hg ht he hs h fun L C s' m H' I' q hn f => ?_) fun _ s' hq => wpAny_pure (wpAny_pure hq))
  show wpAny _ _ (assign (.Name y py) X.env (.ref L)) _ _ _
  refine wpAny_assign_Name (store_ok2 (v := V.ref L) I' hN hy (.inl hyl) rfl (fun s2 I2 ⟨a, sb, ha⟩ => ?_) (.inr hyl))
  obtain ⟨f0, f1, f2, f3, f4, f5⟩ := f
  have haC : C ≠ a := ha.elim (fun z => by rw [z]; exact f1) fun z e => f4 y a z e.symm
  exact ⟨m, hn.sameBut sb haC, fun h3 sb3 => ⟨_, H', I2.turned (t' := s2.toks) (fun b o hb e => (sb3.2 b hb).trans e) f0 f1 f3 f4 f5, q⟩⟩
end L2H

/-! Hd: a def that is called in an except suite with what was caught. -/
namespace L2H
open PySem PySem.Spec PyProof.Rows L2 HotX Dv
/-- a def of one parameter, called with the exception that is handled (of class D, without a dict): it hands v back, and what it lays is in nobody's way -/
structure FnE (P : Program) (w : World) (K : PySem.W.Frag) (mg : Str → Option Value) (base : Heap) (k : Nat) (f : Addr) (fd : FuncData) (n : Str) (D : Addr) (T : List Addr) (v : V) : Prop where
  run : ∀ (A : Around) (outer : List Env) (s : Shared) (H : Hp) (args : Args) (us : List Value) (Q : VK) (E : XK) (p : Addr × Obj), RoomH k A → Hot1 A p → Zc (.ref D) none p.2 → PinOk outer H s p → Env0 P w K mg base A outer s H → BindsTo s fd args ([n].zip us) → Vals [.ref p.1] us →
    Wd T H → (∀ H', Ex T [] H H' → Q v H') → codeAny (model P w) A (.call (.ref f) args) (CR CX0 outer P w H s Q E) s
/-- its body's context -/
abbrev cxE (P : Program) (w : World) (K : PySem.W.Frag) (mg : Str → Option Value) (base : Heap) (N : List Str) (qual : Str) (scope : Scope) (f : Addr) (cd : Value) (A : Around) (outer : List Env) (s : Shared) (H : Hp) (E : XK) (p : Addr × Obj) : Cx :=
  (cxH CX0 P w K mg base N qual scope f cd A outer s H E p).nox
theorem hot_cxE {P : Program} {w : World} {K : PySem.W.Frag} {mg : Str → Option Value} {base : Heap} {N : List Str} {qual : Str} {scope : Scope} {f : Addr} {cd : Value} {A : Around} {outer : List Env} {s : Shared} {H : Hp} {E : XK} {p : Addr × Obj} (h : Hot1 A p) :
    HotC (cxE P w K mg base N qual scope f cd A outer s H E p) := ⟨p, h, List.mem_cons_self⟩
theorem Fun.okE {P : Program} {w : World} {K : PySem.W.Frag} {mg : Str → Option Value} {base : Heap} {x qual : Str} {st : Stmt} {f D : Addr} {fd : FuncData} {N : List Str} {n : Str} {k : Nat} {T : List Addr} {v : V} (F : Fun K x qual st f fd) (S : FnScope N [n] (defScope st))
    (hbody : ∀ (cdv : Value) (A : Around) (outer : List Env) (s : Shared) (H : Hp) (Q : VK) (E : XK) (p : Addr × Obj), Hot1 A p → Zc (.ref D) none p.2 → RoomH k (A.deeper (envOfC qual (defScope st) s.heap.objs.size f cdv)) → Wd T H → (∀ H', Ex T [] H H' → Q v H') →
      ∃ t, PSs (cxE P w K mg base N qual (defScope st) f cdv A outer s H E p) (defBody st) t ∧ t { nx := fun _ H' => Q .non H', rt := Q } (L2.start N [.ref p.1]) H) : FnE P w K mg base (k + 1) f fd n D T v := by
  obtain ⟨oc, od, kV, doc, pm, an, cdv, ct, osl, rfl, lk, hcd⟩ := F.ex
  refine ⟨fun A outer s H args us Q E p hr hot hz hpin e0 hb r hT q => ?_⟩
  have hl : [V.ref p.1].length = [n].length := rfl
  have ul := r.length
  have KX : K.In s.heap := e0.mod.kin.keeps fun b o e => (e0.bs b o e).1
  have hkind : ∀ y ∈ [n].zip us, (defScope st).names.lookup y.1 = some .local ∨ ((defScope st).names.lookup y.1 = some .cell ∧ ((cellsFrom (s.heap.objs.size + 1) (defScope st).names []).lookup y.1).isSome = true) := fun ⟨m, u⟩ hy => by
    rcases S.par m (List.of_mem_zip hy).1 with q | q
    · exact .inl q
    · exact .inr ⟨q, PySem.W.cellsFrom_some _ _ _ (.inl q)⟩
  refine codeAny_call_function hr.depth (KX _ _ lk) rfl S.co S.gen rfl (PySem.W.codeRec_of KX hcd) (hb _ _ _ _ ?_)
  refine wpAny_newFunctionEnv_cells S.kind hkind fun env he s1 y => ?_
  subst he
  refine ⟨(e0.mod.nolimit.keeps fun b o e => (e0.bs b o e).1).keeps y.toInCall.keep, codeAny_func ?_⟩
  obtain ⟨t, ht, hq⟩ := hbody cdv A outer s H Q E p hot hz (hr.deeper _) hT q
  refine wpAny_mono (ht.nox.run [] s1 _ H _ (inv_startH S hpin e0 hl r y) hq) (fun fl s' hs => ?_) fun _ _ hs => hs
  cases fl with
  | ret u => obtain ⟨x, σ', H', J, rv, q⟩ := hs; exact ⟨x, H', J.os, J.bare, J.base, J.hok, rv, q⟩
  | next => obtain ⟨σ', H', J, q⟩ := hs; exact ⟨V.non, H', J.os, J.bare, J.base, J.hok, rfl, q⟩
  | brk => exact (let ⟨_, _, _, q⟩ := hs; False.elim q)
  | cont => exact (let ⟨_, _, _, q⟩ := hs; False.elim q)
/-- a def that may raise, the exception's context known to be none -/
theorem Fun.okN {P : Program} {w : World} {K : PySem.W.Frag} {mg : Str → Option Value} {base : Heap} {x qual : Str} {st : Stmt} {f : Addr} {fd : FuncData} {N ps : List Str} {k : Nat} {sp : Sp} (F : Fun K x qual st f fd) (S : FnScope N ps (defScope st)) (len : ∀ vs H Q E, sp vs H Q E → vs.length = ps.length)
    (hbody : ∀ (cdv : Value) (A : Around) (outer : List Env) (s : Shared) (H : Hp) (vs : List V) (Q : VK) (E : XK), Room k (A.deeper (envOfC qual (defScope st) s.heap.objs.size f cdv)) → sp vs H Q E →
      ∃ t, PSs (cxOf (L2N.CX P w) P w K mg base N qual (defScope st) f cdv A outer s H E) (defBody st) t ∧ t { nx := fun _ H' => Q .non H', rt := Q } (L2.start N vs) H) : FnOk P w K mg base (L2N.CX P w) (k + 1) f fd ps sp := by
  obtain ⟨oc, od, kV, doc, pm, an, cdv, ct, osl, rfl, lk, hcd⟩ := F.ex
  exact fn_of lk hcd S len fun A outer s H vs Q E hr hsp => hbody cdv A outer s H vs Q E hr hsp
section
variable {X : Cx} {p : Addr × Obj} {D f : Addr} {fd : FuncData} {k : Nat} {n x : Str} {T : List Addr} {v : V} {q pos : Pos} {e : Expr} {t : TA}
/-- isinstance of what is handled -/
theorem call_isP (C : ExcC X.K D) (hz : Zc (.ref D) none p.2) (hf : ∃ vs, p.2.data = .fields vs) (hp : p ∈ X.pn) : CallR X (.builtin "isinstance") (rIsE X.K D p.1) := by
  intro pins s σ H xs us Q I r h
  obtain ⟨c, cv, b, rfl, hcv, e, q⟩ := h
  obtain ⟨vs, hv⟩ := hf
  cases r with
  | cons rx rr =>
    cases rr with
    | cons rt rr =>
      cases rr
      cases rx
      cases hcv _ rt
      have J : PySem.W.InstAt s.heap p.1 p.2 D none := by
        obtain ⟨b, oc, od, oda, osl⟩ := p
        obtain ⟨h1, h2⟩ := hz
        have g := (I.pin _ (List.mem_append_left _ hp)).1
        dsimp only at h1 h2 hv g
        subst h1 h2 hv
        exact ⟨g, rfl, rfl, trivial⟩
      exact PySem.W.kia_one (PySem.W.handS_kitx_exc C.hg C.hk C.hs C.hd C.ha C.hn C.ht C.hm) I.kIn J e (fun z => nomatch z) fun tk => ⟨.bl b, H, I.kept (t' := tk) fun _ _ z => z, rfl, q⟩
/-- the call in the suite -/
def tCallE (a : Addr) (T : List Addr) (v : V) (t : TA) : TE := fun σ H Q => t σ H fun vs H1 => vs = [.ref a] ∧ Wd T H1 ∧ ∀ H2, Ex T [] H1 H2 → Q v H2
theorem pe_callE (F : FnE X.prog X.w X.K X.mg X.base k f fd n D T v) (hr : RoomH k X.A) (hot : Hot1 X.A p) (hz : Zc (.ref D) none p.2) (hp : p ∈ X.pn) (hg : Gl X x) (hm : X.mg x = some (.ref f)) (hk : PySem.W.keepIn X.K (.ref f) = true) (hb : Binds X.K fd [n] [])
    (ha : PA X [e] t) (hdb : (x == ("__debug__" : Str)) = false := by decide) (he : starEach [e] X.env = (false, eval e X.env) :: starEach [] X.env := by rfl) (hpl : (backTo pos (starEach [] X.env)).any (·.1) = false := by rfl) :
    PE X (.Call (.Name x q) [e] [] pos) (tCallE p.1 T v t) := by
  refine ⟨fun pins s σ H Q I h => ?_⟩
  refine wpAny_Call_Name_kw (ld_glob I hg hm ?_ hdb)
  refine PySem.W.callWith_K (h₀ := X.base) I.ok.mod.kin hk (thn (ha.run pos pins s σ H _ I h) fun us s1 ⟨vs, H1, I1, r, e1, hT, q1⟩ => ⟨I1.kIn, ?_⟩) he hpl
  subst e1
  have b := hb s1 us I1.kIn (by rw [List.append_nil]; exact r.length.symm)
  rw [List.append_nil] at b
  obtain ⟨p1, p2, p3, p4, p5⟩ := I1.pin p (List.mem_append_left _ hp)
  have hpin : PinOk X.stack H1 s1 p := ⟨p1, p2, fun hm => (List.mem_cons.mp (I1.stkSub p.1 hm)).elim p3 p4, p5⟩
  refine wpAny_call (codeAny_mono (F.run X.A X.stack s1 H1 ⟨us, []⟩ us _ (fun _ _ _ => False) p hr hot hz hpin I1.env0 b r hT q1) fun r s' hq => ?_)
  cases r with
  | error e => exact hq.elim
  | ok fl =>
    cases fl with
    | ret u => exact I1.after hq
    | next => exact False.elim hq
    | brk => exact False.elim hq
    | cont => exact False.elim hq
/-- what the suite that caught a bears -/
theorem hot_suite {a : Addr} {oe : Obj} {cls : Value} {d : Option Addr} {pn : List (Addr × Obj)} (hz : L2N.Zn cls d oe) (hf : ∃ vs, oe.data = .fields vs) : Hot1 (X.suite a ((a, oe) :: pn)).A (a, oe) :=
  let ⟨vs, e⟩ := hf
  ⟨rfl, vs, e, hz.2.2 vs e⟩
/-- a suite that is entered only where g holds -/
theorem pss_if {g : Prop} {st : List Stmt} {t : TS} (h : g → PSs X st t) : PSs X st (fun D σ H => g ∧ t D σ H) := ⟨fun pins s σ H D I q => (h q.1).run pins s σ H D I q.2⟩
theorem takesN0 : L2N.Takes X (fun _ _ _ _ => False) := fun _ _ x => by
  obtain ⟨_, _, _, _, _, _, _, _, _, _, _, _, _, _, _, _, z⟩ := x
  exact z.elim
end
end L2H

/-! Rg: machines that may be wrong (their numbers are any), and when they are right. -/
namespace Dv
open PySem PySem.Spec PyProof.Rows L2 GxR Gx
structure RCase where
  cond : C
  moves : List Int
  says : List (Int × Int)
  nxt : Int
structure RM where
  tags : Int
  regs : Int
  steps : List (List (List RCase))
def encRC (c : RCase) : D := .tup [encC c.cond, .tup (c.moves.map .int), .tup (c.says.map encSay), .int c.nxt]
def encRCs (cs : List RCase) : D := .tup (cs.map encRC)
def encRSt (s : List (List RCase)) : D := .tup (s.map encRCs)
def encRM (m : RM) : D := .tup [.int m.tags, .int m.regs, .tup (m.steps.map encRSt)]
structure CaseR (r S : Int) (c : RCase) : Prop where
  pl : plB r c.cond = true
  ml : (c.moves.length : Int) = r
  mv : ∀ s ∈ c.moves, -2 ≤ s ∧ s < r
  say : ∀ p ∈ c.says, 0 ≤ p.1 ∧ -2 ≤ p.2 ∧ p.2 < r
  nx : 0 ≤ c.nxt ∧ c.nxt < S
structure MachR (m : RM) : Prop where
  tg : 1 ≤ m.tags
  rg : 0 ≤ m.regs
  st : m.steps ≠ []
  ln : ∀ s ∈ m.steps, (s.length : Int) = m.tags
  cs : ∀ s ∈ m.steps, ∀ cs ∈ s, ∀ c ∈ cs, CaseR m.regs m.steps.length c
/-- a right machine as one that may be wrong -/
def rawC (c : Case) : RCase := ⟨c.cond, c.moves, c.says, c.nxt⟩
def rawM (m : M) : RM := ⟨m.tags, m.regs, m.steps.map (·.map (·.map rawC))⟩
theorem enc_rawM (m : M) : encRM (rawM m) = encM m := by
  have h1 : ∀ c, encRC (rawC c) = encCase c := fun _ => rfl
  have h2 : ∀ cs : List Case, encRCs (cs.map rawC) = encCases cs := fun cs => by
    unfold encRCs encCases
    rw [List.map_map]
    exact congrArg D.tup (List.map_congr_left fun c _ => h1 c)
  have h3 : ∀ s : List (List Case), encRSt (s.map (·.map rawC)) = encSt s := fun s => by
    unfold encRSt encSt
    rw [List.map_map]
    exact congrArg D.tup (List.map_congr_left fun c _ => h2 c)
  have h4 : (m.steps.map (·.map (·.map rawC))).map encRSt = m.steps.map encSt := by
    rw [List.map_map]
    exact List.map_congr_left fun s _ => h3 s
  show D.tup [.int m.tags, .int m.regs, .tup ((m.steps.map (·.map (·.map rawC))).map encRSt)] = encM m
  rw [h4]
  rfl
mutual
theorem dpC_mono : ∀ {c : C} {n m : Nat}, n ≤ m → dpC n c → dpC m c
  | .tru, n, m, _, _ => by unfold dpC; cases m <;> trivial
  | .fls, n, m, _, _ => by unfold dpC; cases m <;> trivial
  | .less _ _, n, m, _, _ => by unfold dpC; cases m <;> trivial
  | .same _ _, n, m, _, _ => by unfold dpC; cases m <;> trivial
  | .emp _, n, m, _, _ => by unfold dpC; cases m <;> trivial
  | .nt c, 0, m, _, d => by unfold dpC at d; exact d.elim
  | .nt c, n + 1, 0, h, d => by omega
  | .nt c, n + 1, m + 1, h, d => by
      unfold dpC at d ⊢
      exact dpC_mono (c := c) (by omega) d
  | .all cs, 0, m, _, d => by unfold dpC at d; exact d.elim
  | .all cs, n + 1, 0, h, d => by omega
  | .all cs, n + 1, m + 1, h, d => by
      unfold dpC at d ⊢
      exact ⟨d.1, dpCs_mono (cs := cs) (by omega) d.2⟩
  | .any cs, 0, m, _, d => by unfold dpC at d; exact d.elim
  | .any cs, n + 1, 0, h, d => by omega
  | .any cs, n + 1, m + 1, h, d => by
      unfold dpC at d ⊢
      exact ⟨d.1, dpCs_mono (cs := cs) (by omega) d.2⟩
theorem dpCs_mono : ∀ {cs : List C} {n m : Nat}, n ≤ m → dpCs n cs → dpCs m cs
  | [], n, m, _, _ => by unfold dpCs; trivial
  | c :: cs, n, m, h, d => by
      unfold dpCs at d ⊢
      exact ⟨dpC_mono (c := c) h d.1, dpCs_mono (cs := cs) h d.2⟩
end
theorem dpCs_of {n : Nat} : ∀ {cs : List C}, (∀ c ∈ cs, dpC n c) → dpCs n cs
  | [], _ => by unfold dpCs; trivial
  | c :: cs, h => by
      unfold dpCs
      exact ⟨h c List.mem_cons_self, dpCs_of fun d hd => h d (List.mem_cons_of_mem _ hd)⟩
theorem plBs_bad {r : Int} : ∀ {as : List C} {c : C} {bs : List C}, plB r c = false → plBs r (as ++ [c] ++ bs) = false
  | [], c, bs, h => by
      show plBs r (c :: bs) = false
      rw [plBs_cons, h, Bool.false_and]
  | a :: as, c, bs, h => by
      show plBs r (a :: (as ++ [c] ++ bs)) = false
      rw [plBs_cons, plBs_bad h, Bool.and_false]
/-- values that are conditions of a depth -/
def RowC (K : PySem.W.Frag) (n m : Nat) (H : Hp) (xs : List V) : Prop := ∃ ds : List C, Ats K H xs (ds.map encC) ∧ (∀ d ∈ ds, dpC n d) ∧ ds.length ≤ m
theorem RowC.ext {K : PySem.W.Frag} {n m : Nat} {T ms : List Addr} {H H' : Hp} {xs : List V} (h : RowC K n m H xs) (e : Ex T ms H H') (hm : ∀ a ∈ ms, True) : RowC K n m H' xs :=
  let ⟨ds, a, d, l⟩ := h
  ⟨ds, Ats.ext e a, d, l⟩
theorem RowC.cut {K : PySem.W.Frag} {n m : Nat} {H : Hp} {xs : List V} {lo hi : Option Int} (h : RowC K n m H xs) : RowC K n m H (cutV xs lo hi) := by
  obtain ⟨ds, a, d, l⟩ := h
  have a2 := (a.dropD (HT.sIx xs.length 0 lo)).takeD (HT.sIx xs.length xs.length hi - HT.sIx xs.length 0 lo)
  rw [← List.map_drop, ← List.map_take] at a2
  exact ⟨_, a2, fun c hc => d c (List.mem_of_mem_drop (List.mem_of_mem_take hc)), by rw [List.length_take, List.length_drop]; omega⟩
theorem RowC.append {K : PySem.W.Frag} {n m m' : Nat} {H : Hp} {xs ys : List V} (h : RowC K n m H xs) (h' : RowC K n m' H ys) : RowC K n (m + m') H (xs ++ ys) := by
  obtain ⟨ds, a, d, l⟩ := h
  obtain ⟨es, b, e, k⟩ := h'
  have ab := a.append b
  rw [← List.map_append] at ab
  exact ⟨ds ++ es, ab, fun c hc => (List.mem_append.mp hc).elim (d c) (e c), by rw [List.length_append]; omega⟩
theorem RowC.rep {K : PySem.W.Frag} {n : Nat} {H : Hp} {x : V} (h : RowC K n 1 H [x]) : ∀ k : Nat, RowC K n k H (List.replicate k [x]).flatten
  | 0 => ⟨[], Ats.mk_nil, (fun _ h => by cases h), Nat.le_refl _⟩
  | k + 1 => by
      rw [List.replicate_succ, List.flatten_cons, Nat.add_comm]
      exact h.append (RowC.rep h k)
/-- t[1:], whatever t is -/
theorem dropT_one {K : PySem.W.Frag} {H : Hp} {T : List Addr} {Q : VK} {a : Addr} {ds : List D} (h : At K H (.ref a) (.tup ds)) (q : ∀ v H', At K H' v (.tup (ds.drop 1)) → Ex T [] H H' → Q v H') : rSlA K (.ref a) (some 1) none H Q := by
  cases ds with
  | cons d ds => exact dropT_at (T := T) (av := 1) h (by decide) (by show (1 : Int) ≤ ((ds.length + 1 : Nat) : Int); omega) q
  | nil =>
    obtain ⟨_, xs, e, sq, ats⟩ := at_tup.mp h
    cases e
    rw [ats_nil.mp ats] at sq
    refine ⟨a, [], rfl, sq, fun _ => q _ _ h Ex.refl, fun hn => absurd ⟨?_, rfl⟩ hn⟩
    show HT.sIx 0 0 (some ((1 : Nat) : Int)) = 0
    rw [HT.sIx_nat]
    rfl
theorem raw_steps (m : M) : (rawM m).steps.map encRSt = m.steps.map encSt := by
  have e := enc_rawM m
  simp only [encRM, encM, D.tup.injEq, List.cons.injEq, and_true] at e
  exact e.2.2
theorem raw_dp {n : Nat} {m : M} (ok : okM n m) : ∀ s ∈ (rawM m).steps, ∀ cs ∈ s, ∀ c ∈ cs, dpC n c.cond := fun s hs cs hcs c hc => by
  obtain ⟨s0, hs0, rfl⟩ := List.mem_map.mp hs
  obtain ⟨cs0, hcs0, rfl⟩ := List.mem_map.mp hcs
  obtain ⟨c0, hc0, rfl⟩ := List.mem_map.mp hc
  exact (okC_dp ((ok.cases s0 hs0 cs0 hcs0).2 c0 hc0).cond).1
/-- bounds of a right machine's cases -/
theorem raw_cases {n : Nat} {m : M} (ok : okM n m) : ∀ s ∈ (rawM m).steps, ∀ cs ∈ s, cs.length ≤ 1000 ∧ ∀ c ∈ cs, c.says.length ≤ 1000 ∧ c.moves.length = m.regs := fun s hs cs hcs => by
  obtain ⟨s0, hs0, rfl⟩ := List.mem_map.mp hs
  obtain ⟨cs0, hcs0, rfl⟩ := List.mem_map.mp hcs
  have h := ok.cases s0 hs0 cs0 hcs0
  refine ⟨by rw [List.length_map]; exact h.1, fun c hc => ?_⟩
  obtain ⟨c0, hc0, rfl⟩ := List.mem_map.mp hc
  exact ⟨(h.2 c0 hc0).slen, (h.2 c0 hc0).mlen⟩
/-- a right machine is right -/
theorem raw_right {n : Nat} {m : M} (ok : okM n m) : MachR (rawM m) := by
  have hl : (rawM m).steps.length = m.steps.length := List.length_map ..
  refine ⟨?_, ?_, ?_, ?_, ?_⟩
  · show (1 : Int) ≤ (m.tags : Int)
    have := ok.tags
    omega
  · show (0 : Int) ≤ (m.regs : Int)
    omega
  · intro h
    rw [h] at hl
    have := ok.some
    simp at hl
    omega
  · intro s hs
    obtain ⟨s0, hs0, rfl⟩ := List.mem_map.mp hs
    rw [List.length_map, ok.all s0 hs0]
    rfl
  · intro s hs cs hcs c hc
    obtain ⟨s0, hs0, rfl⟩ := List.mem_map.mp hs
    obtain ⟨cs0, hcs0, rfl⟩ := List.mem_map.mp hcs
    obtain ⟨c0, hc0, rfl⟩ := List.mem_map.mp hc
    have k := (ok.cases s0 hs0 cs0 hcs0).2 c0 hc0
    rw [hl]
    refine ⟨(okC_dp k.cond).2, ?_, fun z hz => k.mv z hz, fun p hp => k.say p hp, ?_⟩
    · show ((c0.moves.length : Nat) : Int) = (m.regs : Int)
      rw [k.mlen]
    · have := k.nxt
      exact ⟨Int.natCast_nonneg _, by show (c0.nxt : Int) < (m.steps.length : Int); omega⟩
theorem Ats.repF {K : PySem.W.Frag} {H : Hp} {x : V} {d : D} (h : At K H x d) : ∀ k : Nat, Ats K H (List.replicate k [x]).flatten (List.replicate k d)
  | 0 => Ats.mk_nil
  | k + 1 => by
      rw [List.replicate_succ, List.flatten_cons, List.replicate_succ]
      exact Ats.mk h (Ats.repF h k)
theorem Ats.flat {K : PySem.W.Frag} {H : Hp} {xs : List V} {ds : List D} (h : Ats K H xs ds) : ∀ k : Nat, Ats K H (List.replicate k xs).flatten (List.replicate k ds).flatten
  | 0 => Ats.mk_nil
  | k + 1 => by
      rw [List.replicate_succ, List.flatten_cons, List.replicate_succ, List.flatten_cons]
      exact h.append (Ats.flat h k)
/-- a tuple of data, so many times -/
theorem repN_at {K : PySem.W.Frag} {H : Hp} {T : List Addr} {Q : VK} {l : Addr} {k : Int} {ds : List D} (h : At K H (.ref l) (.tup ds)) (hne : ds ≠ []) (k0 : 0 ≤ k) (k1 : k ≤ 1000) (hl : ds.length ≤ 1000)
    (q : ∀ v H', At K H' v (.tup (List.replicate k.toNat ds).flatten) → Ex T [] H H' → Q v H') : Tm.rRepN K (.ref l) (.int k) H Q := by
  obtain ⟨_, xs, e, sq, ats⟩ := at_tup.mp h
  cases e
  refine ⟨l, k, xs, rfl, rfl, sq, fun e => hne ?_, k0, k1, by rw [ats.length]; exact hl, fun p H' hor sq' => ?_⟩
  · have := ats.length
    rw [e] at this
    exact List.length_eq_zero_iff.mp this.symm
  · have x : Ex T [] H H' := by
      rcases hor with rfl | ⟨n3, rfl⟩
      · exact Ex.refl
      · exact Ex.new n3
    exact q _ _ (at_tup.mpr ⟨p, _, rfl, sq', (Ats.ext x ats).flat _⟩) x
theorem rep1_at {K : PySem.W.Frag} {H : Hp} {T : List Addr} {Q : VK} {l : Addr} {k : Int} {d : D} (h : At K H (.ref l) (.tup [d])) (k0 : 0 ≤ k) (k1 : k ≤ 1000)
    (q : ∀ v H', At K H' v (.tup (List.replicate k.toNat d)) → Ex T [] H H' → Q v H') : Tm.rRepN K (.ref l) (.int k) H Q :=
  repN_at h (by simp) k0 k1 (by simp) fun v H' a x => q v H' (by rw [List.flatten_replicate_singleton] at a; exact a) x
/-- a machine, and whether it is right -/
def RightD (K : PySem.W.Frag) (n : Nat) (x : V) (b : Bool) (H : Hp) : Prop := ∃ m : RM, At K H x (encRM m) ∧ (∀ s ∈ m.steps, ∀ cs ∈ s, ∀ c ∈ cs, dpC n c.cond) ∧ (b = true ↔ MachR m)
def k0W : RCase := ⟨.less (-1) 6, [0, 1, 2, 3, 4, 5, 6], List.replicate 9 (0, -1), 40⟩
def stW (cs : List RCase) : List (List (List RCase)) := List.replicate 40 (List.replicate 7 []) ++ [List.replicate 6 [] ++ [cs]]
theorem stW_mem {cs : List RCase} {s : List (List RCase)} (h : s ∈ stW cs) : s.length = 7 ∧ ∀ cs' ∈ s, cs' = [] ∨ cs' = cs := by
  unfold stW at h
  rcases List.mem_append.mp h with h | h
  · rw [List.eq_of_mem_replicate h]
    exact ⟨rfl, fun cs' h => .inl (List.eq_of_mem_replicate h)⟩
  · rw [List.mem_singleton.mp h]
    refine ⟨rfl, fun cs' h => ?_⟩
    rcases List.mem_append.mp h with h | h
    · exact .inl (List.eq_of_mem_replicate h)
    · exact .inr (List.mem_singleton.mp h)
theorem wide_right {cs : List RCase} : MachR ⟨7, 7, stW cs⟩ ↔ ∀ c ∈ cs, CaseR 7 41 c := by
  have l41 : (stW cs).length = 41 := rfl
  constructor
  · intro h c hc
    have h2 := h.cs (List.replicate 6 [] ++ [cs]) (List.mem_append.mpr (.inr (List.mem_singleton.mpr rfl))) cs (List.mem_append.mpr (.inr (List.mem_singleton.mpr rfl))) c hc
    exact h2
  · intro h
    refine ⟨show (1 : Int) ≤ 7 by decide, show (0 : Int) ≤ 7 by decide, fun e => ?_, fun s hs => ?_, fun s hs cs' hcs c hc => ?_⟩
    · have e2 : stW cs = [] := e
      rw [e2] at l41
      cases l41
    · show (s.length : Int) = 7
      rw [(stW_mem hs).1]
      rfl
    · rcases (stW_mem hs).2 cs' hcs with rfl | rfl
      · cases hc
      · exact h c hc
theorem wide_ok : CaseR 7 41 k0W := by
  refine ⟨rfl, rfl, fun s hs => ?_, fun p hp => ?_, by decide⟩
  · have : s ∈ ([0, 1, 2, 3, 4, 5, 6] : List Int) := hs
    simp only [List.mem_cons, List.not_mem_nil, or_false] at this
    omega
  · rw [List.eq_of_mem_replicate (show p ∈ List.replicate 9 ((0 : Int), (-1 : Int)) from hp)]
    decide
theorem wide_dp {cs : List RCase} {n : Nat} (h : ∀ c ∈ cs, dpC n c.cond) : ∀ s ∈ stW cs, ∀ cs' ∈ s, ∀ c ∈ cs', dpC n c.cond := fun s hs cs' hcs c hc => by
  rcases (stW_mem hs).2 cs' hcs with rfl | rfl
  · cases hc
  · exact h c hc
theorem wide_enc (cs : List RCase) : (stW cs).map encRSt = List.replicate 40 (.tup (List.replicate 7 (.tup []))) ++ [.tup (List.replicate 6 (.tup []) ++ [.tup (cs.map encRC)])] := rfl
theorem wide_all {f : RCase} {i j : Nat} : (∀ c ∈ List.replicate i k0W ++ [f] ++ List.replicate j k0W, CaseR 7 41 c) ↔ CaseR 7 41 f := by
  refine ⟨fun h => h f (by simp), fun h c hc => ?_⟩
  rcases List.mem_append.mp hc with hc | hc
  · rcases List.mem_append.mp hc with hc | hc
    · rw [List.eq_of_mem_replicate hc]; exact wide_ok
    · rw [List.mem_singleton.mp hc]; exact h
  · rw [List.eq_of_mem_replicate hc]; exact wide_ok
/-- an answer's text -/
def txW (b : Bool) : Str := if b = true then "taken" else "raised InvalidMachine"
end Dv

namespace Law
open PySem PySem.Spec PyProof.Rows L2 GxR Gx Dv
def topS (i : Nat) : Stmt := PySem.Challenge.pw_anyvalues_k01_right_machines.main.body.getD i (.Pass ⟨0, 0, 0, 0⟩)
abbrev s__places_right : Stmt := topS 13
abbrev s__check_source : Stmt := topS 12
abbrev s__check_case : Stmt := topS 11
abbrev s_check_machine : Stmt := topS 10
abbrev s__law_draws : Stmt := topS 15
abbrev s__law_take : Stmt := topS 16
abbrev s__law_cell : Stmt := topS 17
abbrev s__law_place : Stmt := topS 19
abbrev s__law_condition : Stmt := topS 20
abbrev s__law_source : Stmt := topS 21
abbrev s__law_moves : Stmt := topS 22
abbrev s__law_says : Stmt := topS 23
abbrev s__law_cases : Stmt := topS 24
abbrev s__law_machine : Stmt := topS 25
abbrev s__law_any_machine : Stmt := topS 26
abbrev s__law_error_name : Stmt := topS 27
abbrev s__law_crowded : Stmt := topS 28
abbrev s__law_checked : Stmt := topS 29
abbrev s__law_far : Stmt := topS 30
abbrev s__law_bad_condition : Stmt := topS 31
abbrev s__law_bad_case : Stmt := topS 32
abbrev s__law_spoilt : Stmt := topS 33
abbrev s__law_wide_right : Stmt := topS 34
abbrev s_law : Stmt := topS 35
section
variable {P : Program} {w : World} {K : PySem.W.Frag} {mg : Str → Option Value} {base : Heap}
abbrev N__places_right : List Str := ["condition", "registers", "word"]
theorem sc__places_right : FnScope N__places_right ["condition", "registers"] (defScope s__places_right) := ⟨rfl, rfl, rfl, by decide +kernel, rfl, by decide +kernel, by decide +kernel⟩
def sp__places_right (K : PySem.W.Frag) (T : List Addr) (n : Nat) : Sp := fun vs H Q _ => ∃ (x : V) (c : C) (r : Int), vs = [x, .int r] ∧ At K H x (encC c) ∧ Wd T H ∧ (∃ m, n = m + 1 ∧ dpC m c) ∧ ∀ H', Ex T [] H H' → Q (.bl (plB r c)) H'
theorem ok__places_right {f : Addr} {fd : FuncData} {k : Nat} {c PT : Addr} {T : List Addr} (hPT : PT ∈ T) (F : FunT K "_places_right" "_places_right" s__places_right f fd c) (m_all : mg "all" = none) {t_NEW : Tok} (m_NEW : mg "NEW" = some (.int (-1) t_NEW)) (bF : Binds K fd ["condition", "registers"] []) (mF : mg "_places_right" = some (.ref f)) (TB : TabB base mg c PT) :
    ∀ n : Nat, FnOk P w K mg base CX0 (2 * n + 1) f fd ["condition", "registers"] (sp__places_right K T n) := by
  intro n
  induction n with
  | zero =>
    have no : ∀ vs H Q E, ¬ sp__places_right K T 0 vs H Q E := fun vs H Q E h => by
      obtain ⟨x, c, r, _, _, _, ⟨m, e, _⟩, _⟩ := h
      omega
    exact ⟨fun vs H Q E h => absurd h (no vs H Q E), fun A outer s H args us vs Q E _ _ _ _ h => absurd h (no vs H Q E)⟩
  | succ n ih =>
  refine F.ok sc__places_right (fun vs H Q E h => ?_) (fun A outer s H vs Q E hr h => ?_)
  · obtain ⟨x, c, r, rfl, _⟩ := h
    rfl
  obtain ⟨x, c, r, rfl, hx, wd, ⟨n', en, ok⟩, q⟩ := h
  obtain rfl : n = n' := by omega
  refine ⟨_, (pss_cons (ps_set (i := 2) sc__places_right.nd rfl (.inl rfl) (pe_ix ix_tup (pv 0) pe_int (fun _ _ => rfl)))
    (pss_cons (ps_if (pt_cmpR op_eq (pv 2) pe_str (nomark _))
      (pss_one (ps_ret (pe_call ih (hr.mono (by omega)) (by rfl) mF F.kp bF .nil pass0 (pa_cons (pe_ix ix_tup (pv 0) pe_int (fun _ _ => rfl)) (pa_cons (pv 1) pa_nil)))))
      pss_nil)
    (pss_cons (ps_if (pt_cmpR op_in_seq (pv 2) (pe_tup (pa_cons pe_str (pa_cons pe_str pa_nil))) rfl)
      (pss_one (ps_ret (pe_allG (k := 2 * n + 1) (es := [("part", none), ("registers", some 1)]) hr (by rfl) m_all TB rfl ⟨by rfl, by rfl, by rfl, by (show freeOk (defScope s__places_right) _ = true; decide +kernel), by (show capsOk N__places_right _ _ = true; decide +kernel)⟩
        (pi_tup (pe_ix ix_tup (pv 0) pe_int (fun _ _ => rfl))) (fun _ _ _ _ _ _ _ => pg_name (i := 0) (show (["part", "registers"] : List Str).Nodup by decide +kernel) rfl (.inl rfl) (.inr rfl))
        (fun _ _ _ _ _ _ _ hr' => (pe_call ih hr' (by rfl) mF F.kp bF .nil pass0 (pa_cons (pv 0) (pa_cons (pv 1) pa_nil)))) (fun _ => rfl))))
      pss_nil)
    (pss_one (ps_ret (pe_allG (k := 2 * n + 1) (es := [("place", none), ("registers", some 1)]) hr (by rfl) m_all TB rfl ⟨by rfl, by rfl, by rfl, by (show freeOk (defScope s__places_right) _ = true; decide +kernel), by (show capsOk N__places_right _ _ = true; decide +kernel)⟩
        (pi_tup (pe_slice sl_tupA (pv 0) (po_some pe_int) po_none)) (fun _ _ _ _ _ _ _ => pg_name (i := 0) (show (["place", "registers"] : List Str).Nodup by decide +kernel) rfl (.inl rfl) (.inr rfl))
        (fun _ _ _ _ _ _ _ hr' => (pe_chain op_le op_lt (pe_glob (v := .int (-1)) (by rfl) m_NEW ⟨_, rfl⟩) (pv 0) (pv 1))) (fun _ => rfl))))))), ?_⟩
  rcases shapeC r c with ⟨wo, ps, ec, hnot, hin, hpl, lps⟩ | ⟨c, rfl⟩ | ⟨cs, rfl⟩ | ⟨cs, rfl⟩
  · rw [ec] at hx
    obtain ⟨a, zs, rfl, sq, ats⟩ := at_tup.mp hx
    obtain ⟨z1, ys, rfl, e1, e2⟩ := ats_cons.mp ats
    cases at_str.mp e1
    cases ats_int.mp e2
    refine ⟨_, rfl, a, _, _, _, rfl, rfl, sq, at_natI (i := 0) rfl, ?_⟩
    refine ⟨_, rfl, rfl, _, rfl, ifStrNe hnot ?_⟩
    refine ⟨_, rfl, by decide, fun p np => ⟨p, _, rfl, .inr (SqT.of upd_same), rfl, rfl, _, rfl, ?_⟩⟩
    rw [if_neg Bool.false_ne_true, hin]
    have exp : Ex T [] H (upd H p (.tup [V.str "all", V.str "any"])) := Ex.new np
    generalize (upd H p (.tup [V.str "all", V.str "any"])) = H1 at exp
    refine iteF ⟨_, rfl, 1, rfl, ?_⟩
    dsimp only [tNoPart]
    refine slA_drop (T := T) (exp.sqT sq) (by decide) (by rw [List.length_cons]; omega) fun b H2 sqb exb => ⟨b, rfl, ⟨_, sqb⟩, (exp.trans exb).wd wd PT hPT, fun H3 ht => ?_⟩
    have sqb : SqT K H2 b (ps.map V.int) := sqb
    have ex3 : Ex T [] H2 H3 := Ex.tab ((exp.trans exb).wd wd PT hPT) ht
    refine ⟨fun i m σ' H' => i + m = ps.length ∧ Ex T [] H2 H' ∧ (∃ y, σ' = [y, some (.int r)]) ∧ ps.all (plI r) = (ps.drop i).all (plI r), ⟨ps.length, by omega, ex3, ⟨_, rfl⟩, rfl⟩, ?_⟩
    rintro i m σ' H' ⟨him, ex, ⟨y, rfl⟩, hd⟩
    have exT := (exp.trans exb).trans ex
    by_cases hi : i < ps.length
    · have hx1 : (ps.map V.int)[i]? = some (.int ps[i]) := by rw [List.getElem?_map, List.getElem?_eq_getElem hi]; rfl
      refine .inr ⟨⟨_, _, ex.sqT sqb, hx1⟩, ?_⟩
      rintro x' H'' ⟨rfl, hy⟩
      have e : x' = .int ps[i] := Option.some.inj ((hy _ (ex.sqT sqb)).symm.trans hx1)
      subst e
      have hdc : (ps.drop i).all (plI r) = (plI r ps[i] && (ps.drop (i + 1)).all (plI r)) := by rw [List.drop_eq_getElem_cons hi, List.all_cons]
      refine ⟨_, rfl, _, _, rfl, rfl, _, rfl, ?_⟩
      have fin : ∀ b : Bool, b = plI r ps[i] → (if b = false then Q (.bl false) H'' else ∃ m', m = m' + 1 ∧ i + 1 + m' = ps.length ∧ Ex T [] H2 H'' ∧ (∃ y, [some (V.int ps[i]), some (.int r)] = [y, some (.int r)]) ∧ ps.all (plI r) = (ps.drop (i + 1)).all (plI r)) := fun b hb => by
        cases b with
        | true =>
          rw [if_neg (by decide)]
          refine ⟨m - 1, by omega, by omega, ex, ⟨_, rfl⟩, ?_⟩
          rw [hd, hdc, ← hb, Bool.true_and]
        | false =>
          rw [if_pos (by decide)]
          have hz : plB r c = false := by rw [hpl, hd, hdc, ← hb, Bool.false_and]
          rw [← hz]
          exact q _ exT
      by_cases c1 : (-1 : Int) ≤ ps[i]
      · rw [decide_eq_true c1]
        refine iteT ⟨_, rfl, _, _, rfl, rfl, _, rfl, ?_⟩
        exact fin _ (by unfold plI; rw [decide_eq_true c1, Bool.true_and])
      · rw [decide_eq_false c1]
        refine iteF ⟨_, rfl, ?_⟩
        exact fin false (by unfold plI; rw [decide_eq_false c1, Bool.false_and])
    · refine .inl ⟨⟨_, ex.sqT sqb, by rw [List.length_map]; omega⟩, ?_⟩
      have hz : plB r c = true := by rw [hpl, hd, List.drop_eq_nil_of_le (by omega)]; rfl
      show Q (.bl true) H'
      rw [← hz]
      exact q _ exT
  · unfold encC at hx
    cases n with
    | zero => unfold dpC at ok; exact ok.elim
    | succ n =>
    unfold dpC at ok
    obtain ⟨a, x1, x2, rfl, sq, e1, e2⟩ := hx.t2
    cases at_str.mp e1
    refine ⟨_, rfl, a, _, _, _, rfl, rfl, sq, rfl, ?_⟩
    refine ⟨_, rfl, rfl, _, rfl, ifStrEq ?_⟩
    refine ⟨_, rfl, a, _, _, _, rfl, rfl, sq, rfl, _, rfl, x2, c, r, rfl, e2, wd, ⟨n, rfl, ok⟩, fun H3 ex3 => ?_⟩
    have q' := q H3 ex3
    unfold plB at q'
    exact q'
  · unfold encC at hx
    cases n with
    | zero => unfold dpC at ok; exact ok.elim
    | succ n =>
    unfold dpC at ok
    obtain ⟨oc, ok⟩ := ok
    obtain ⟨a, x1, x2, rfl, sq, e1, e2⟩ := hx.t2
    cases at_str.mp e1
    obtain ⟨b, xs, rfl, sqb, ats⟩ := at_tup.mp e2
    have hl : xs.length = cs.length := by rw [ats.length, encCs_length]
    refine ⟨_, rfl, a, _, _, _, rfl, rfl, sq, rfl, ?_⟩
    refine ⟨_, rfl, rfl, _, rfl, ifStrNe (by decide +kernel) ?_⟩
    refine ⟨_, rfl, by decide, fun p np => ⟨p, _, rfl, .inr (SqT.of upd_same), rfl, rfl, _, rfl, ?_⟩⟩
    have e : inV (V.str "all") [V.str "all", V.str "any"] = true := by decide +kernel
    rw [if_neg Bool.false_ne_true, e]
    have exp : Ex T [] H (upd H p (.tup [V.str "all", V.str "any"])) := Ex.new np
    generalize (upd H p (.tup [V.str "all", V.str "any"])) = H1 at exp
    have wd1 := exp.wd wd
    refine iteT ⟨_, rfl, a, _, _, _, rfl, rfl, exp.sqT sq, rfl, b, rfl, ⟨_, exp.sqT sqb⟩, wd1 PT hPT, fun H2 ht => ?_⟩
    refine ⟨fun i m σ' H' => i + m = cs.length ∧ Ex T [] H H' ∧ (∃ y, σ' = [y, some (.int r)]) ∧ plBs r cs = plBs r (cs.drop i), ⟨cs.length, by omega, exp.trans (Ex.tab (wd1 PT hPT) ht), ⟨_, rfl⟩, rfl⟩, ?_⟩
    rintro i m σ' H' ⟨him, ex, ⟨y, rfl⟩, hd⟩
    by_cases hi : i < cs.length
    · obtain ⟨x, hx1, hx2⟩ := part_at ats hi
      refine .inr ⟨⟨xs, x, ex.sqT sqb, hx1⟩, ?_⟩
      rintro x' H'' ⟨rfl, hy⟩
      have e : x' = x := Option.some.inj ((hy xs (ex.sqT sqb)).symm.trans hx1)
      subst e
      refine ⟨_, rfl, _, rfl, _, cs[i], r, rfl, hx2.ext ex, ex.wd wd, ⟨n, rfl, dpCs_get ok (List.getElem?_eq_getElem hi)⟩, fun H3 ex3 => ⟨_, rfl, ?_⟩⟩
      have hdc : plBs r (cs.drop i) = (plB r cs[i] && plBs r (cs.drop (i + 1))) := by rw [List.drop_eq_getElem_cons hi, plBs_cons]
      cases hb : plB r cs[i] with
      | true =>
        rw [if_neg (by decide)]
        refine ⟨m - 1, by omega, by omega, ex.trans ex3, ⟨_, rfl⟩, ?_⟩
        rw [hd, hdc, hb, Bool.true_and]
      | false =>
        rw [if_pos rfl]
        have hz : plB r (.all cs) = false := by unfold plB; rw [hd, hdc, hb, Bool.false_and]
        rw [← hz]
        exact q _ (ex.trans ex3)
    · refine .inl ⟨⟨xs, ex.sqT sqb, by omega⟩, ?_⟩
      have hz : plB r (.all cs) = true := by unfold plB; rw [hd, List.drop_eq_nil_of_le (by omega)]; unfold plBs; rfl
      show Q (.bl true) H'
      rw [← hz]
      exact q _ ex
  · unfold encC at hx
    cases n with
    | zero => unfold dpC at ok; exact ok.elim
    | succ n =>
    unfold dpC at ok
    obtain ⟨oc, ok⟩ := ok
    obtain ⟨a, x1, x2, rfl, sq, e1, e2⟩ := hx.t2
    cases at_str.mp e1
    obtain ⟨b, xs, rfl, sqb, ats⟩ := at_tup.mp e2
    have hl : xs.length = cs.length := by rw [ats.length, encCs_length]
    refine ⟨_, rfl, a, _, _, _, rfl, rfl, sq, rfl, ?_⟩
    refine ⟨_, rfl, rfl, _, rfl, ifStrNe (by decide +kernel) ?_⟩
    refine ⟨_, rfl, by decide, fun p np => ⟨p, _, rfl, .inr (SqT.of upd_same), rfl, rfl, _, rfl, ?_⟩⟩
    have e : inV (V.str "any") [V.str "all", V.str "any"] = true := by decide +kernel
    rw [if_neg Bool.false_ne_true, e]
    have exp : Ex T [] H (upd H p (.tup [V.str "all", V.str "any"])) := Ex.new np
    generalize (upd H p (.tup [V.str "all", V.str "any"])) = H1 at exp
    have wd1 := exp.wd wd
    refine iteT ⟨_, rfl, a, _, _, _, rfl, rfl, exp.sqT sq, rfl, b, rfl, ⟨_, exp.sqT sqb⟩, wd1 PT hPT, fun H2 ht => ?_⟩
    refine ⟨fun i m σ' H' => i + m = cs.length ∧ Ex T [] H H' ∧ (∃ y, σ' = [y, some (.int r)]) ∧ plBs r cs = plBs r (cs.drop i), ⟨cs.length, by omega, exp.trans (Ex.tab (wd1 PT hPT) ht), ⟨_, rfl⟩, rfl⟩, ?_⟩
    rintro i m σ' H' ⟨him, ex, ⟨y, rfl⟩, hd⟩
    by_cases hi : i < cs.length
    · obtain ⟨x, hx1, hx2⟩ := part_at ats hi
      refine .inr ⟨⟨xs, x, ex.sqT sqb, hx1⟩, ?_⟩
      rintro x' H'' ⟨rfl, hy⟩
      have e : x' = x := Option.some.inj ((hy xs (ex.sqT sqb)).symm.trans hx1)
      subst e
      refine ⟨_, rfl, _, rfl, _, cs[i], r, rfl, hx2.ext ex, ex.wd wd, ⟨n, rfl, dpCs_get ok (List.getElem?_eq_getElem hi)⟩, fun H3 ex3 => ⟨_, rfl, ?_⟩⟩
      have hdc : plBs r (cs.drop i) = (plB r cs[i] && plBs r (cs.drop (i + 1))) := by rw [List.drop_eq_getElem_cons hi, plBs_cons]
      cases hb : plB r cs[i] with
      | true =>
        rw [if_neg (by decide)]
        refine ⟨m - 1, by omega, by omega, ex.trans ex3, ⟨_, rfl⟩, ?_⟩
        rw [hd, hdc, hb, Bool.true_and]
      | false =>
        rw [if_pos rfl]
        have hz : plB r (.any cs) = false := by unfold plB; rw [hd, hdc, hb, Bool.false_and]
        rw [← hz]
        exact q _ (ex.trans ex3)
    · refine .inl ⟨⟨xs, ex.sqT sqb, by omega⟩, ?_⟩
      have hz : plB r (.any cs) = true := by unfold plB; rw [hd, List.drop_eq_nil_of_le (by omega)]; unfold plBs; rfl
      show Q (.bl true) H'
      rw [← hz]
      exact q _ ex

structure ExcT (K : PySem.W.Frag) (mg : Str → Option Value) (x : Str) (C : Addr) : Prop where
  g : mg x = some (.ref C)
  x : PySem.W.excIn K C [.type "ValueError", .type "Exception", .type "BaseException", .type "object"] "ValueError.__new__" = true
  k : PySem.W.keepIn K (.ref C) = true
  b : PySem.W.subIn K (.ref C) (.type "BaseException") = some true
  t : PySem.W.typeIn K (.ref C) = some (.type "type")
abbrev N__check_source : List Str := ["source", "registers"]
theorem sc__check_source : FnScope N__check_source ["source", "registers"] (defScope s__check_source) := ⟨rfl, rfl, rfl, by decide +kernel, rfl, by decide +kernel, by decide +kernel⟩
def spX__check_source (C : Addr) : Sp := fun vs H Q E => ∃ (s r : Int), vs = [.int s, .int r] ∧ (if -2 ≤ s ∧ s < r then Q .non H else E (.ref C) none H)
theorem ok__check_source {f C : Addr} {fd : FuncData} {k : Nat}  (F : Fun K "_check_source" "_check_source" s__check_source f fd) {t_NOTHING : Tok} (m_NOTHING : mg "NOTHING" = some (.int (-2) t_NOTHING)) (XI : ExcT K mg "InvalidMachine" C) :
    FnOk P w K mg base (L2N.CX P w) (k + 1) f fd ["source", "registers"] (spX__check_source C) := by
  refine L2H.Fun.okN F sc__check_source (fun vs H Q E h => ?_) (fun cdv A outer s H vs Q E hr h => ?_)
  · obtain ⟨z, r, rfl, _⟩ := h
    rfl
  obtain ⟨z, r, rfl, q⟩ := h
  refine ⟨_, (pss_one (ps_if (pt_not (pt_chain op_le op_lt (pe_glob (v := .int (-2)) rfl m_NOTHING ⟨_, rfl⟩) (pv 0) (pv 1)))
      (pss_one (L2N.ps_raise rfl (L2N.takes_of rfl rfl rfl rfl) (L2N.pmk_own PySem.F.excBase_ValueError XI.x XI.g XI.k (raises_own XI.b XI.t) (by exact rfl))))
      pss_nil)), ?_⟩
  refine ⟨_, rfl, _, _, rfl, rfl, _, rfl, ?_⟩
  by_cases h1 : -2 ≤ z
  · rw [decide_eq_true h1]
    refine iteT ⟨_, rfl, _, _, rfl, rfl, _, rfl, ?_⟩
    by_cases h2 : z < r
    · rw [decide_eq_true h2]
      rw [if_pos ⟨h1, h2⟩] at q
      exact iteF q
    · rw [decide_eq_false h2]
      rw [if_neg (fun c => h2 c.2)] at q
      exact iteT q
  · rw [decide_eq_false h1]
    rw [if_neg (fun c => h1 c.1)] at q
    exact iteF ⟨_, rfl, iteT q⟩

abbrev N__check_case : List Str := ["case", "registers", "standings", "condition", "moves", "says", "following", "source", "tag"]
theorem sc__check_case : FnScope N__check_case ["case", "registers", "standings"] (defScope s__check_case) := ⟨rfl, rfl, rfl, by decide +kernel, rfl, by decide +kernel, by decide +kernel⟩
def spX__check_case (K : PySem.W.Frag) (T : List Addr) (n : Nat) (C : Addr) : Sp := fun vs H Q E => ∃ (x : V) (c : RCase) (r S : Int), vs = [x, .int r, .int S] ∧ At K H x (encRC c) ∧ dpC n c.cond ∧ Wd T H ∧
  (CaseR r S c → ∀ H', Ex T [] H H' → Q .non H') ∧ (¬ CaseR r S c → ∀ H', Ex T [] H H' → E (.ref C) none H')
theorem ok__check_case {C : Addr} {f : Addr} {fd : FuncData} {k : Nat} {T : List Addr} {n : Nat} (F : Fun K "_check_case" "_check_case" s__check_case f fd) (XI : ExcT K mg "InvalidMachine" C) (m_len : mg "len" = none)
    {a__places_right : Addr} {d__places_right : FuncData} (G__places_right : FnOk P w K mg base CX0 k a__places_right d__places_right ["condition", "registers"] (sp__places_right K T (n + 1))) (k__places_right : PySem.W.keepIn K (.ref a__places_right) = true) (b__places_right : Binds K d__places_right ["condition", "registers"] []) (m__places_right : mg "_places_right" = some (.ref a__places_right))
    {a__check_source : Addr} {d__check_source : FuncData} (G__check_source : FnOk P w K mg base (L2N.CX P w) k a__check_source d__check_source ["source", "registers"] (spX__check_source C)) (k__check_source : PySem.W.keepIn K (.ref a__check_source) = true) (b__check_source : Binds K d__check_source ["source", "registers"] []) (m__check_source : mg "_check_source" = some (.ref a__check_source)) :
    FnOk P w K mg base (L2N.CX P w) (k + 1) f fd ["case", "registers", "standings"] (spX__check_case K T n C) := by
  refine L2H.Fun.okN F sc__check_case (fun vs H Q E h => ?_) (fun cdv A outer s H vs Q E hr h => ?_)
  · obtain ⟨x, c, r, S, rfl, _⟩ := h
    rfl
  obtain ⟨x, c, r, S, rfl, hx, dp, wd, q, e⟩ := h
  refine ⟨_, (pss_cons (ps_asg (pv 0) (pg_tup rfl (pgs_cons (pg_name (i := 3) sc__check_case.nd rfl (.inl rfl)) (pgs_cons (pg_name (i := 4) sc__check_case.nd rfl (.inl rfl)) (pgs_cons (pg_name (i := 5) sc__check_case.nd rfl (.inl rfl)) (pgs_cons (pg_name (i := 6) sc__check_case.nd rfl (.inl rfl)) pgs_nil))))))
    (pss_cons (ps_if (pt_not (pt_val (pe_call G__places_right hr (by rfl) m__places_right k__places_right b__places_right .nil pass0 (pa_cons (pv 3) (pa_cons (pv 1) pa_nil)))))
      (pss_one (L2N.ps_raise rfl (L2N.takes_of rfl rfl rfl rfl) (L2N.pmk_own PySem.F.excBase_ValueError XI.x XI.g XI.k (raises_own XI.b XI.t) (by exact rfl))))
      pss_nil)
    (pss_cons (ps_if (pt_cmpR op_ne (pe_callB call_len_seq (by rfl) m_len PySem.boot_len (pa_cons (pv 4) pa_nil)) (pv 1) (nomark _))
      (pss_one (L2N.ps_raise rfl (L2N.takes_of rfl rfl rfl rfl) (L2N.pmk_own PySem.F.excBase_ValueError XI.x XI.g XI.k (raises_own XI.b XI.t) (by exact rfl))))
      pss_nil)
    (pss_cons (ps_for (passes_of rfl) rfl (pi_tup (pv 4)) (pg_name (i := 7) sc__check_case.nd rfl (.inl rfl))
      (pss_one (ps_expr (pe_callS G__check_source hr rfl m__check_source k__check_source b__check_source (fun σ => L2N.passAt (L2N.takes_of (E := E) rfl rfl rfl rfl) σ) (pa_cons (pv 7) (pa_cons (pv 1) pa_nil))))))
    (pss_cons (ps_for (passes_of rfl) rfl (pi_tup (pv 5)) (pg_tup rfl (pgs_cons (pg_name (i := 8) sc__check_case.nd rfl (.inl rfl)) (pgs_cons (pg_name (i := 7) sc__check_case.nd rfl (.inl rfl)) pgs_nil)))
      (pss_cons (ps_if (pt_cmpR op_lt (pv 8) pe_int (nomark _))
        (pss_one (L2N.ps_raise rfl (L2N.takes_of rfl rfl rfl rfl) (L2N.pmk_own PySem.F.excBase_ValueError XI.x XI.g XI.k (raises_own XI.b XI.t) (by exact rfl))))
        pss_nil)
      (pss_one (ps_expr (pe_callS G__check_source hr rfl m__check_source k__check_source b__check_source (fun σ => L2N.passAt (L2N.takes_of (E := E) rfl rfl rfl rfl) σ) (pa_cons (pv 7) (pa_cons (pv 1) pa_nil)))))))
    (pss_one (ps_if (pt_not (pt_chain op_le op_lt pe_int (pv 6) (pv 2)))
      (pss_one (L2N.ps_raise rfl (L2N.takes_of rfl rfl rfl rfl) (L2N.pmk_own PySem.F.excBase_ValueError XI.x XI.g XI.k (raises_own XI.b XI.t) (by exact rfl))))
      pss_nil))))))), ?_⟩
  obtain ⟨ac, x1, x2, x3, x4, rfl, sq, d1, d2, d3, d4⟩ := hx.t4
  cases at_int.mp d4
  obtain ⟨amv, mvs, rfl, sqmv, atmv⟩ := at_tup.mp d2
  obtain ⟨asy, sys, rfl, sqsy, atsy⟩ := at_tup.mp d3
  have lmv : mvs.length = c.moves.length := atmv.len
  have lsy : sys.length = c.says.length := atsy.len
  refine ⟨_, rfl, ac, [_, _, _, _], rfl, sq, rfl, _, [_, _, _], rfl, _, [_, _], rfl, _, [_], rfl, _, [], rfl, rfl, ?_⟩
  refine ⟨_, rfl, _, rfl, x1, c.cond, r, rfl, d1, wd, ⟨n, rfl, dp⟩, fun H1 ex1 => ⟨_, rfl, ?_⟩⟩
  cases hpl : plB r c.cond with
  | false => exact iteT (e (fun z => by rw [z.pl] at hpl; cases hpl) _ ex1)
  | true =>
  refine iteF ⟨_, rfl, amv, _, rfl, .inr (ex1.sqT sqmv), _, rfl, rfl, _, rfl, ?_⟩
  by_cases hml : (c.moves.length : Int) = r
  rotate_left
  · rw [lmv, show decide (V.int ((c.moves.length : Nat) : Int) = V.int r) = false from decide_eq_false fun z => hml (by cases z; rfl)]
    exact iteT (e (fun z => hml z.ml) _ ex1)
  rw [lmv, hml, decide_eq_true rfl]
  refine iteF ⟨_, rfl, amv, rfl, ⟨_, ex1.sqT sqmv⟩, for_tup (xs := mvs) (fun i σ' H' => ((∃ y7 y8, σ' = [some (.ref ac), some (.int r), some (.int S), some x1, some (.ref amv), some (.ref asy), some (.int c.nxt), y7, y8]) ∧ H' = H1) ∧ ∀ j (hj : j < c.moves.length), j < i → -2 ≤ c.moves[j] ∧ c.moves[j] < r) ⟨⟨⟨_, _, rfl⟩, rfl⟩, fun j _ h => absurd h (Nat.not_lt_zero _)⟩ (fun i σ' H' _ z => by rw [z.1.2]; exact ex1.sqT sqmv) ?_ ?_⟩
  · rintro i y σ' H' hi ⟨⟨⟨y7, y8, rfl⟩, rfl⟩, pre⟩
    have hi' : i < c.moves.length := by rw [← lmv]; exact (List.getElem?_eq_some_iff.mp hi).1
    obtain ⟨y', hy1, hy2⟩ := Dv.Ats.at atmv (List.getElem?_eq_getElem hi')
    rw [hi] at hy1
    cases hy1
    cases at_int.mp hy2
    refine ⟨_, rfl, _, rfl, _, r, rfl, ?_⟩
    by_cases hs : -2 ≤ c.moves[i] ∧ c.moves[i] < r
    · rw [if_pos hs]
      refine ⟨⟨⟨_, _, rfl⟩, rfl⟩, fun j hj h => ?_⟩
      by_cases ji : j = i
      · subst ji; exact hs
      · exact pre j hj (by omega)
    · rw [if_neg hs]
      exact e (fun z => hs (z.mv _ (List.getElem_mem hi'))) _ ex1
  rintro σ' H' ⟨⟨⟨y7, y8, rfl⟩, rfl⟩, hmv⟩
  have hmv : ∀ s ∈ c.moves, -2 ≤ s ∧ s < r := fun s hs => by
    obtain ⟨j, hj, rfl⟩ := List.getElem_of_mem hs
    exact hmv j hj (by omega)
  refine ⟨_, rfl, asy, rfl, ⟨_, ex1.sqT sqsy⟩, for_tup (xs := sys) (fun i σ' H2 => ((∃ y7 y8, σ' = [some (.ref ac), some (.int r), some (.int S), some x1, some (.ref amv), some (.ref asy), some (.int c.nxt), y7, y8]) ∧ H2 = H') ∧ ∀ j (hj : j < c.says.length), j < i → 0 ≤ c.says[j].1 ∧ -2 ≤ c.says[j].2 ∧ c.says[j].2 < r) ⟨⟨⟨_, _, rfl⟩, rfl⟩, fun j _ h => absurd h (Nat.not_lt_zero _)⟩ (fun i σ' H2 _ z => by rw [z.1.2]; exact ex1.sqT sqsy) ?_ ?_⟩
  · rintro i y σ' H2 hi ⟨⟨⟨y7, y8, rfl⟩, rfl⟩, pre⟩
    have hi' : i < c.says.length := by rw [← lsy]; exact (List.getElem?_eq_some_iff.mp hi).1
    obtain ⟨y', hy1, hy2⟩ := Dv.Ats.at atsy (List.getElem?_eq_getElem hi')
    rw [hi] at hy1
    cases hy1
    obtain ⟨ap, p1, p2, rfl, sqp, q1, q2⟩ := hy2.t2
    cases at_int.mp q1
    cases at_int.mp q2
    refine ⟨ap, [_, _], rfl, ex1.sqT sqp, rfl, _, [_], rfl, _, [], rfl, rfl, ?_⟩
    refine ⟨_, rfl, _, _, rfl, rfl, _, rfl, ?_⟩
    by_cases h0 : c.says[i].1 < 0
    · rw [decide_eq_true h0]
      exact iteT (e (fun z => by have := (z.say _ (List.getElem_mem hi')).1; omega) _ ex1)
    rw [decide_eq_false h0]
    refine iteF ⟨_, rfl, _, rfl, _, r, rfl, ?_⟩
    by_cases hs : -2 ≤ c.says[i].2 ∧ c.says[i].2 < r
    · rw [if_pos hs]
      refine ⟨⟨⟨_, _, rfl⟩, rfl⟩, fun j hj h => ?_⟩
      by_cases ji : j = i
      · subst ji; exact ⟨by omega, hs⟩
      · exact pre j hj (by omega)
    · rw [if_neg hs]
      exact e (fun z => hs (z.say _ (List.getElem_mem hi')).2) _ ex1
  rintro σ' H2 ⟨⟨⟨y7, y8, rfl⟩, rfl⟩, hsy⟩
  have hsy : ∀ p ∈ c.says, 0 ≤ p.1 ∧ -2 ≤ p.2 ∧ p.2 < r := fun s hs => by
    obtain ⟨j, hj, rfl⟩ := List.getElem_of_mem hs
    exact hsy j hj (by omega)
  refine ⟨_, rfl, _, _, rfl, rfl, _, rfl, ?_⟩
  by_cases n0 : (0 : Int) ≤ c.nxt
  rotate_left
  · rw [decide_eq_false n0]
    exact iteF ⟨_, rfl, iteT (e (fun z => n0 z.nx.1) _ ex1)⟩
  rw [decide_eq_true n0]
  refine iteT ⟨_, rfl, _, _, rfl, rfl, _, rfl, ?_⟩
  by_cases n1 : c.nxt < S
  · rw [decide_eq_true n1]
    exact iteF (q ⟨hpl, hml, hmv, hsy, n0, n1⟩ _ ex1)
  · rw [decide_eq_false n1]
    exact iteT (e (fun z => n1 z.nx.2) _ ex1)

abbrev N_check_machine : List Str := ["machine", "tags", "registers", "steps", "standing", "cases", "case"]
theorem sc_check_machine : FnScope N_check_machine ["machine"] (defScope s_check_machine) := ⟨rfl, rfl, rfl, by decide +kernel, rfl, by decide +kernel, by decide +kernel⟩
def spX_check_machine (K : PySem.W.Frag) (T : List Addr) (n : Nat) (C : Addr) : Sp := fun vs H Q E => ∃ (x : V) (m : RM), vs = [x] ∧ At K H x (encRM m) ∧ (∀ s ∈ m.steps, ∀ cs ∈ s, ∀ c ∈ cs, dpC n c.cond) ∧ Wd T H ∧
  (MachR m → ∀ H', Ex T [] H H' → Q .non H') ∧ (¬ MachR m → ∀ H', Ex T [] H H' → E (.ref C) none H')
theorem below_mem {α : Type} {l : List α} {p : α → Prop} {n : Nat} (h : ∀ j (hj : j < l.length), j < n → p l[j]) (hn : l.length ≤ n) : ∀ a ∈ l, p a := fun a ha => by
  obtain ⟨j, hj, rfl⟩ := List.getElem_of_mem ha
  exact h j hj (by omega)
theorem below_succ {α : Type} {l : List α} {p : α → Prop} {i : Nat} (h : ∀ j (hj : j < l.length), j < i → p l[j]) (hi : i < l.length) (hp : p l[i]) : ∀ j (hj : j < l.length), j < i + 1 → p l[j] := fun j hj hlt => by
  by_cases ji : j = i
  · subst ji; exact hp
  · exact h j hj (by omega)
theorem below_zero {α : Type} {l : List α} {p : α → Prop} : ∀ j (hj : j < l.length), j < 0 → p l[j] := fun _ _ h => absurd h (Nat.not_lt_zero _)
theorem ok_check_machine {C : Addr} {f : Addr} {fd : FuncData} {k : Nat} {T : List Addr} {n : Nat} (F : Fun K "check_machine" "check_machine" s_check_machine f fd) (XI : ExcT K mg "InvalidMachine" C) (m_len : mg "len" = none)
    {a__check_case : Addr} {d__check_case : FuncData} (G__check_case : FnOk P w K mg base (L2N.CX P w) k a__check_case d__check_case ["case", "registers", "standings"] (spX__check_case K T n C)) (k__check_case : PySem.W.keepIn K (.ref a__check_case) = true) (b__check_case : Binds K d__check_case ["case", "registers", "standings"] []) (m__check_case : mg "_check_case" = some (.ref a__check_case)) :
    FnOk P w K mg base (L2N.CX P w) (k + 1) f fd ["machine"] (spX_check_machine K T n C) := by
  refine L2H.Fun.okN F sc_check_machine (fun vs H Q E h => ?_) (fun cdv A outer s H vs Q E hr h => ?_)
  · obtain ⟨x, m, rfl, _⟩ := h
    rfl
  obtain ⟨x, m, rfl, hx, dp, wd, q, e⟩ := h
  refine ⟨_, (pss_cons (ps_asg (pv 0) (pg_tup rfl (pgs_cons (pg_name (i := 1) sc_check_machine.nd rfl (.inl rfl)) (pgs_cons (pg_name (i := 2) sc_check_machine.nd rfl (.inl rfl)) (pgs_cons (pg_name (i := 3) sc_check_machine.nd rfl (.inl rfl)) pgs_nil)))))
    (pss_cons (ps_if (pt_cmpR op_lt (pv 1) pe_int (nomark _))
      (pss_one (L2N.ps_raise rfl (L2N.takes_of rfl rfl rfl rfl) (L2N.pmk_own PySem.F.excBase_ValueError XI.x XI.g XI.k (raises_own XI.b XI.t) (by exact rfl))))
      pss_nil)
    (pss_cons (ps_if (pt_cmpR op_lt (pv 2) pe_int (nomark _))
      (pss_one (L2N.ps_raise rfl (L2N.takes_of rfl rfl rfl rfl) (L2N.pmk_own PySem.F.excBase_ValueError XI.x XI.g XI.k (raises_own XI.b XI.t) (by exact rfl))))
      pss_nil)
    (pss_cons (ps_if (pt_not (pt_truth (pv 3) (fun _ => rfl)))
      (pss_one (L2N.ps_raise rfl (L2N.takes_of rfl rfl rfl rfl) (L2N.pmk_own PySem.F.excBase_ValueError XI.x XI.g XI.k (raises_own XI.b XI.t) (by exact rfl))))
      pss_nil)
    (pss_one (ps_for (passes_of rfl) rfl (pi_tup (pv 3)) (pg_name (i := 4) sc_check_machine.nd rfl (.inl rfl))
      (pss_cons (ps_if (pt_cmpR op_ne (pe_callB call_len_seq (by rfl) m_len PySem.boot_len (pa_cons (pv 4) pa_nil)) (pv 1) (nomark _))
        (pss_one (L2N.ps_raise rfl (L2N.takes_of rfl rfl rfl rfl) (L2N.pmk_own PySem.F.excBase_ValueError XI.x XI.g XI.k (raises_own XI.b XI.t) (by exact rfl))))
        pss_nil)
      (pss_one (ps_for (passes_of rfl) rfl (pi_tup (pv 4)) (pg_name (i := 5) sc_check_machine.nd rfl (.inl rfl))
        (pss_one (ps_for (passes_of rfl) rfl (pi_tup (pv 5)) (pg_name (i := 6) sc_check_machine.nd rfl (.inl rfl))
          (pss_one (ps_expr (pe_callS G__check_case hr rfl m__check_case k__check_case b__check_case (fun σ => L2N.passAt (L2N.takes_of (E := E) rfl rfl rfl rfl) σ) (pa_cons (pv 6) (pa_cons (pv 2) (pa_cons (pe_callB call_len_seq (by rfl) m_len PySem.boot_len (pa_cons (pv 3) pa_nil)) pa_nil))))))))))))))))), ?_⟩
  obtain ⟨am, y1, y2, y3, rfl, sqm, h1, h2, h3⟩ := hx.t3
  cases at_int.mp h1
  cases at_int.mp h2
  obtain ⟨as', xs, rfl, sqs, ats⟩ := at_tup.mp h3
  have xl : xs.length = m.steps.length := ats.len
  refine ⟨_, rfl, am, [_, _, _], rfl, sqm, rfl, _, [_, _], rfl, _, [_], rfl, _, [], rfl, rfl, ?_⟩
  refine ⟨_, rfl, _, _, rfl, rfl, _, rfl, ?_⟩
  by_cases ht : m.tags < 1
  · rw [decide_eq_true ht]
    exact iteT (e (fun z => by have := z.tg; omega) _ Ex.refl)
  rw [decide_eq_false ht]
  refine iteF ⟨_, rfl, _, _, rfl, rfl, _, rfl, ?_⟩
  by_cases hg : m.regs < 0
  · rw [decide_eq_true hg]
    exact iteT (e (fun z => by have := z.rg; omega) _ Ex.refl)
  rw [decide_eq_false hg]
  refine iteF ⟨_, rfl, !xs.isEmpty, .inr (.inl ⟨xs, sqs, rfl⟩), ?_⟩
  cases hxs : xs.isEmpty with
  | true => exact iteT (e (fun z => z.st (List.eq_nil_of_length_eq_zero (by rw [← xl, List.isEmpty_iff.mp hxs]; rfl))) _ Ex.refl)
  | false =>
  have hst : m.steps ≠ [] := fun z => by
    rw [z] at xl
    have : xs = [] := List.eq_nil_of_length_eq_zero xl
    rw [this] at hxs
    cases hxs
  refine iteF ⟨_, rfl, as', rfl, ⟨_, sqs⟩, for_tup (xs := xs) (fun i σ' H' => ((∃ y4 y5 y6, σ' = [some (.ref am), some (.int m.tags), some (.int m.regs), some (.ref as'), y4, y5, y6]) ∧ Ex T [] H H') ∧ ∀ j (hj : j < m.steps.length), j < i → ((m.steps[j].length : Int) = m.tags ∧ ∀ cs ∈ m.steps[j], ∀ c ∈ cs, CaseR m.regs m.steps.length c)) ⟨⟨⟨_, _, _, rfl⟩, Ex.refl⟩, below_zero (p := fun (s : List (List RCase)) => ((s.length : Int) = m.tags ∧ ∀ cs ∈ s, ∀ c ∈ cs, CaseR m.regs m.steps.length c))⟩ (fun i σ' H' _ z => z.1.2.sqT sqs) ?_ ?_⟩
  · rintro i y σ' H1 hi ⟨⟨⟨y4, y5, y6, rfl⟩, ex1⟩, pre1⟩
    have hi' : i < m.steps.length := by rw [← xl]; exact (List.getElem?_eq_some_iff.mp hi).1
    obtain ⟨y', hy1, hy2⟩ := Dv.Ats.at ats (List.getElem?_eq_getElem hi')
    rw [hi] at hy1
    cases hy1
    have smem := List.getElem_mem hi'
    have gst := pre1
    obtain ⟨ast, xts, rfl, sqst, atst⟩ := at_tup.mp (hy2.ext ex1)
    have tl : xts.length = m.steps[i].length := atst.len
    refine ⟨_, rfl, ast, _, rfl, .inr sqst, _, rfl, rfl, _, rfl, ?_⟩
    by_cases hl : (m.steps[i].length : Int) = m.tags
    rotate_left
    · rw [tl, show decide (V.int ((m.steps[i].length : Nat) : Int) = V.int m.tags) = false from decide_eq_false fun z => hl (V.int.inj z)]
      exact iteT (e (fun z => hl (z.ln _ smem)) _ ex1)
    rw [tl, hl, decide_eq_true rfl]
    refine iteF ⟨_, rfl, ast, rfl, ⟨_, sqst⟩, for_tup (xs := xts) (fun j σ' H' => ((∃ y5 y6, σ' = [some (.ref am), some (.int m.tags), some (.int m.regs), some (.ref as'), some (.ref ast), y5, y6]) ∧ Ex T [] H1 H') ∧ ∀ k (hk : k < m.steps[i].length), k < j → ∀ c ∈ m.steps[i][k], CaseR m.regs m.steps.length c) ⟨⟨⟨_, _, rfl⟩, Ex.refl⟩, below_zero (p := fun (cs : List RCase) => ∀ c ∈ cs, CaseR m.regs m.steps.length c)⟩ (fun j σ' H' _ z => z.1.2.sqT sqst) ?_ ?_⟩
    · rintro j z σ' H2 hj ⟨⟨⟨y5, y6, rfl⟩, ex2⟩, pre2⟩
      have hj' : j < m.steps[i].length := by rw [← tl]; exact (List.getElem?_eq_some_iff.mp hj).1
      obtain ⟨z', hz1, hz2⟩ := Dv.Ats.at atst (List.getElem?_eq_getElem hj')
      rw [hj] at hz1
      cases hz1
      have cmem := List.getElem_mem hj'
      obtain ⟨acs, zs, rfl, sqcs, atcs⟩ := at_tup.mp (hz2.ext ex2)
      have zl : zs.length = m.steps[i][j].length := atcs.len
      refine ⟨_, rfl, acs, rfl, ⟨_, sqcs⟩, for_tup (xs := zs) (fun k σ' H' => ((∃ y6, σ' = [some (.ref am), some (.int m.tags), some (.int m.regs), some (.ref as'), some (.ref ast), some (.ref acs), y6]) ∧ Ex T [] H2 H') ∧ ∀ l (hl : l < m.steps[i][j].length), l < k → CaseR m.regs m.steps.length m.steps[i][j][l]) ⟨⟨⟨_, rfl⟩, Ex.refl⟩, below_zero (p := fun (c : RCase) => CaseR m.regs m.steps.length c)⟩ (fun k σ' H' _ z => z.1.2.sqT sqcs) ?_ ?_⟩
      · rintro k u σ' H3 hk ⟨⟨⟨y6, rfl⟩, ex3⟩, pre3⟩
        have hk' : k < m.steps[i][j].length := by rw [← zl]; exact (List.getElem?_eq_some_iff.mp hk).1
        obtain ⟨u', hu1, hu2⟩ := Dv.Ats.at atcs (List.getElem?_eq_getElem hk')
        rw [hk] at hu1
        cases hu1
        have e13 := (ex1.trans ex2).trans ex3
        have umem := List.getElem_mem hk'
        refine ⟨_, rfl, _, rfl, _, rfl, as', _, rfl, .inr (e13.sqT sqs), u, m.steps[i][j][k], m.regs, m.steps.length, by rw [xl], hu2.ext ex3, dp _ smem _ cmem _ umem, e13.wd wd, fun hc H4 ex4 => ⟨⟨⟨_, rfl⟩, ex3.trans ex4⟩, below_succ (p := fun (c : RCase) => CaseR m.regs m.steps.length c) pre3 hk' hc⟩, fun hc H4 ex4 => e (fun z => hc (z.cs _ smem _ cmem _ umem)) _ (e13.trans ex4)⟩
      · rintro σ' H3 ⟨⟨⟨y6, rfl⟩, ex3⟩, pre3⟩
        exact ⟨⟨⟨_, _, rfl⟩, ex2.trans ex3⟩, below_succ (p := fun (cs : List RCase) => ∀ c ∈ cs, CaseR m.regs m.steps.length c) pre2 hj' (below_mem pre3 (by omega))⟩
    · rintro σ' H2 ⟨⟨⟨y5, y6, rfl⟩, ex2⟩, pre2⟩
      exact ⟨⟨⟨_, _, _, rfl⟩, ex1.trans ex2⟩, below_succ (p := fun (s : List (List RCase)) => ((s.length : Int) = m.tags ∧ ∀ cs ∈ s, ∀ c ∈ cs, CaseR m.regs m.steps.length c)) pre1 hi' ⟨hl, below_mem (p := fun (cs : List RCase) => ∀ c ∈ cs, CaseR m.regs m.steps.length c) pre2 (by omega)⟩⟩
  rintro σ' H1 ⟨⟨⟨y4, y5, y6, rfl⟩, ex1⟩, pre1⟩
  have all := below_mem (p := fun (s : List (List RCase)) => ((s.length : Int) = m.tags ∧ ∀ cs ∈ s, ∀ c ∈ cs, CaseR m.regs m.steps.length c)) pre1 (by omega)
  exact q ⟨by omega, by omega, hst, fun s hs => (all s hs).1, fun s hs => (all s hs).2⟩ _ ex1

abbrev N__law_draws : List Str := ["script", "many", "cells", "rest", "draws", "k", "at", "once", "cell"]
theorem sc__law_draws : FnScope N__law_draws ["script", "many"] (defScope s__law_draws) := ⟨rfl, rfl, rfl, by decide +kernel, rfl, by decide +kernel, by decide +kernel⟩
def sp__law_draws (K : PySem.W.Frag) (T : List Addr) : Sp := fun vs H Q _ => ∃ (a : Addr) (ns : List Int) (many : Int), vs = [.ref a, .int many] ∧ SqL K H a (ns.map V.int) ∧ ns.length ≤ 63 ∧ 0 ≤ many ∧ many ≤ 5000 ∧ Wd T H ∧
  ∀ (r : Addr) (H' : Hp), H r = none → Ex T [] H H' → Dr H' r → Q (.ref r) H'
theorem ok__law_draws {f : Addr} {fd : FuncData} {k : Nat} {T : List Addr} (F : Fun K "_law_draws" "_law_draws" s__law_draws f fd) (ml : mg "len" = none) (mi : mg "int" = none) (mli : mg "list" = none) (mr : mg "range" = none) :
    FnOk P w K mg base CX0 (k + 1) f fd ["script", "many"] (sp__law_draws K T) := by
  refine F.ok sc__law_draws (fun vs H Q E h => ?_) (fun cdv A outer s H vs Q E hr h => ?_)
  · obtain ⟨a, ns, many, rfl, _⟩ := h
    rfl
  obtain ⟨a, ns, many, rfl, hS, h63, m0, m1, wd, q⟩ := h
  refine ⟨_, pss_cons (ps_setLc (i := 2) (own := [("cell", 8)]) (g := gName 8) (tt := tYes) rfl sc__law_draws.nd rfl rfl (sw_true rfl rfl rfl (by decide +kernel)) (pi_list (pv 0)) (blkOk_by (N := N__law_draws) (sc := defScope s__law_draws) (by decide +kernel))
      (fun _ _ _ _ _ => pg_name (i := 8) sc__law_draws.nd rfl (.inl rfl)) (fun _ _ _ _ _ => pts_nil) (fun _ _ _ _ _ => pe_callTy call_int1 (by rfl) mi (by decide +kernel) (pa_cons (pv 8) pa_nil)))
    (C8.pss_cut (ps_if (pt_cmpR op_eq (pe_callB call_len_seq (by rfl) ml PySem.boot_len (pa_cons (pv 2) pa_nil)) pe_int (nomark _))
      (pss_one (ps_expr (pe_bm PySem.F.plainAttrs_list PySem.F.slot_list_append PySem.F.type_list_append mt_append (pv 2) (pa_cons pe_int pa_nil)))) pss_nil)
    (pss_cons (ps_set (i := 3) sc__law_draws.nd rfl (.inl rfl) (pe_callTy call_list_of (by rfl) mli (by decide +kernel) (pa_cons (pv 2) pa_nil)))
    (pss_cons (ps_set (i := 4) sc__law_draws.nd rfl (.inl rfl) (pe_lst pa_nil))
    (pss_cons (ps_for PassesOwn.never rfl (pi_range1 rfl mr (pa_cons (pv 1) pa_nil)) (pg_name (i := 5) sc__law_draws.nd rfl (.inl rfl))
      (pss_cons (ps_set (i := 6) sc__law_draws.nd rfl (.inl rfl) (pe_op op_mod (pv 5) (pe_callB call_len_seq (by rfl) ml PySem.boot_len (pa_cons (pv 2) pa_nil))))
      (pss_one (ps_if (pt_cmpR op_ge (pe_ix ix_list (pv 2) (pv 6) (fun _ _ => rfl)) (pe_op op_pow pe_int pe_int) (nomark _))
        (pss_cons (ps_expr (pe_bm PySem.F.plainAttrs_list PySem.F.slot_list_append PySem.F.type_list_append mt_append (pv 4) (pa_cons (pe_op op_mod (pe_callTy call_int1 (by rfl) mi (by decide +kernel) (pa_cons (pe_ix ix_list (pv 3) (pv 6) (fun _ _ => rfl)) pa_nil)) pe_int) pa_nil)))
        (pss_one (ps_asg (pe_op op_fdiv (pe_ix ix_list (pv 3) (pv 6) (fun _ _ => rfl)) pe_int) (pg_sub (pv 3) (pv 6) set_list))))
        (pss_cons (ps_set (i := 7) sc__law_draws.nd rfl (.inl rfl) (pe_op op_mod (pe_callTy call_int1 (by rfl) mi (by decide +kernel) (pa_cons (pe_op op_add (pe_op op_add (pe_op op_mul (pe_ix ix_list (pv 2) (pv 6) (fun _ _ => rfl)) pe_int) (pe_op op_mul (pv 5) pe_int)) pe_int) pa_nil)) pe_int))
        (pss_one (ps_expr (pe_bm PySem.F.plainAttrs_list PySem.F.slot_list_append PySem.F.type_list_append mt_append (pv 4) (pa_cons (pe_op op_mod (pe_callTy call_int1 (by rfl) mi (by decide +kernel) (pa_cons (pe_op op_add (pe_op op_add (pe_op op_mul (pv 7) (pv 7)) (pe_op op_mul pe_int (pv 7))) (pv 5)) pa_nil)) pe_int) pa_nil)))))))))
    (pss_cons (ps_expr (pe_bm0 PySem.F.plainAttrs_list PySem.F.slot_list_reverse PySem.F.type_list_reverse mt_reverse (pv 4)))
    (pss_one (ps_ret (pv 4)))))))), ?_⟩
  refine ⟨_, rfl, a, rfl, ⟨_, hS⟩, fun D nD => lc_list (xs := ns.map V.int) (fun i H' => Ex T [] H H' ∧ H' D = some (.lst ((ns.take i).map V.int))) ⟨Ex.new nD, upd_same⟩ (fun i H' _ ⟨e, _⟩ => e.sqL (by simp) hS) ?_ ?_⟩
  · rintro i x H' hi ⟨ex, hd⟩
    rw [List.getElem?_map] at hi
    cases e : ns[i]? with
    | none => rw [e] at hi; cases hi
    | some z =>
      rw [e] at hi
      cases hi
      refine ⟨rfl, ?_⟩
      refine yesIf ?_
      refine ⟨_, rfl, .inl ⟨z, rfl, _, hd, ?_, ex.put nD wd, ?_⟩⟩
      · rw [List.length_map, List.length_take]
        exact small5000 (by omega)
      · rw [upd_same, List.take_add_one, e, List.map_append]
        rfl
  rintro H1 ⟨ex1, hD⟩
  rw [List.length_map, List.take_length] at hD
  refine ⟨fun σ' H' => σ' = [some (.ref a), some (.int many), some (.ref D), none, none, none, none, none, none] ∧ ∃ zs : List Int, Ex T [] H H' ∧ H' D = some (.lst (zs.map V.int)) ∧ 0 < zs.length ∧ zs.length ≤ 64, ?_, ?_⟩
  · refine ⟨_, rfl, D, _, rfl, .inl (SqL.of hD), rfl, _, rfl, ite2 (fun c => ?_) (fun c => ?_)⟩
    · refine ⟨_, rfl, .inl ⟨rfl, _, SqL.of hD⟩, D, _, _, rfl, rfl, hD, ?_, rfl, ns ++ [0], ex1.put nD wd, ?_, ?_, ?_⟩
      · rw [List.length_map]
        exact small5000 (by omega)
      · rw [upd_same, iv_snoc]
      · rw [List.length_append]; exact Nat.succ_pos _
      · rw [List.length_append]; show ns.length + 1 ≤ 64; omega
    · refine ⟨rfl, ns, ex1, hD, ?_, by omega⟩
      rw [List.length_map] at c
      cases ns with
      | nil => exact absurd rfl c
      | cons => exact Nat.succ_pos _
  rintro σ' H2 ⟨rfl, zs, ex2, hD, hz0, hz1⟩
  refine ⟨_, rfl, D, _, rfl, .inl (SqL.of hD), fun R nR => ?_⟩
  have ex3 : Ex T [] H (upd H2 R (.lst (zs.map V.int))) := ex2.trans (Ex.new nR)
  refine ⟨Nat.zero_le _, fun W nW => ?_⟩
  have ex4 : Ex T [] H (upd (upd H2 R (.lst (zs.map V.int))) W (.lst [])) := ex3.trans (Ex.new nW)
  have nR0 : H R = none := ex2.free nR
  have nW0 : H W = none := ex3.free nW
  have nDR : D ≠ R := ne_of_none hD nR
  have hD3 : (upd H2 R (.lst (zs.map V.int))) D = some (.lst (zs.map V.int)) := by rw [upd_ne nDR]; exact hD
  have nDW : D ≠ W := ne_of_none hD3 nW
  have nRW : R ≠ W := ne_of_none upd_same nW
  refine ⟨_, rfl, many, rfl, by omega, by omega, for_range (lo := 0) (n := many.toNat) (fun i σ' H' => (∃ y5 y6 y7, σ' = [some (.ref a), some (.int many), some (.ref D), some (.ref R), some (.ref W), y5, y6, y7, none]) ∧ Ex T [] H H' ∧ H' D = some (.lst (zs.map V.int)) ∧
    (∃ rs : List Int, H' R = some (.lst (rs.map V.int)) ∧ rs.length = zs.length) ∧ ∃ ds : List Int, H' W = some (.lst (ds.map V.int)) ∧ ds.length ≤ i) ?_ ?_ ?_⟩
  · refine ⟨⟨_, _, _, rfl⟩, ex4, ?_, ⟨zs, ?_, rfl⟩, [], upd_same, Nat.le_refl _⟩
    · rw [upd_ne nDW]; exact hD3
    · rw [upd_ne nRW, upd_same]
  · rintro i σ' H' hi ⟨⟨y5, y6, y7, rfl⟩, ex, hD, ⟨rs, hR, hrl⟩, ds, hW, hdl⟩
    have hm : (((zs.map V.int).length : Nat) : Int) = zs.length := by rw [List.length_map]
    have hat0 : 0 ≤ (0 + (i : Int)) % (((zs.map V.int).length : Nat) : Int) := Int.emod_nonneg _ (by omega)
    have hat1 : (0 + (i : Int)) % (((zs.map V.int).length : Nat) : Int) < zs.length := by
      have := Int.emod_lt_of_pos (0 + (i : Int)) (b := (((zs.map V.int).length : Nat) : Int)) (by omega)
      omega
    have sz : (ds.map V.int).length < sizeLine := by rw [List.length_map]; exact small5000 (by omega)
    refine ⟨_, rfl, _, rfl, D, _, rfl, .inl (SqL.of hD), _, _, rfl, rfl, by omega, ?_⟩
    refine ⟨_, rfl, _, rfl, D, _, _, _, rfl, rfl, SqL.of hD, iv_at hat0 hat1, _, _, rfl, rfl, ⟨by decide, by decide, by decide⟩, _, _, rfl, rfl, _, rfl, ite2 (fun c => ?_) (fun c => ?_)⟩
    · refine ⟨_, rfl, .inl ⟨rfl, _, .inl (.inl hW)⟩, _, rfl, _, rfl, R, _, _, _, rfl, rfl, SqL.of hR, iv_at hat0 (by rw [hrl]; exact hat1), .inl ⟨_, rfl, _, _, rfl, rfl, (by show (0 : Int) < 1000; decide), W, _, _, rfl, rfl, hW, sz, ?_⟩⟩
      have hR1 : (upd H' W (.lst (ds.map V.int ++ [.int (rs.getD ((0 + (i : Int)) % (((zs.map V.int).length : Nat) : Int)).toNat 0 % 1000)]))) R = some (.lst (rs.map V.int)) := by rw [upd_ne nRW]; exact hR
      refine ⟨_, rfl, _, rfl, R, _, _, _, rfl, rfl, SqL.of hR1, iv_at hat0 (by rw [hrl]; exact hat1), _, _, rfl, rfl, ⟨by decide, by decide⟩, _, rfl, _, rfl, R, _, _, _, rfl, rfl, hR1, ix_nat hat0 (by rw [show (rs.map V.int).length = zs.length from (List.length_map _).trans hrl]; exact hat1), ?_⟩
      refine ⟨⟨_, _, _, rfl⟩, (ex.put nW0 wd).put nR0 wd, ?_, ⟨_, by rw [upd_same, iv_set], by rw [List.length_set]; exact hrl⟩, _, by rw [upd_ne (Ne.symm nRW), upd_same, iv_snoc], by rw [List.length_append]; exact Nat.succ_le_succ hdl⟩
      rw [upd_ne nDR, upd_ne nDW]
      exact hD
    · refine ⟨_, rfl, _, rfl, D, _, _, _, rfl, rfl, SqL.of hD, iv_at hat0 hat1, _, _, rfl, rfl, .inr ⟨by decide, by decide⟩, _, rfl, _, _, rfl, rfl, .inr ⟨by decide, by decide⟩, _, _, rfl, rfl, _, _, rfl, rfl, .inl ⟨_, rfl, _, _, rfl, rfl, (by show (0 : Int) < 2147483647; decide), ?_⟩⟩
      have o0 : 0 ≤ (zs.getD ((0 + (i : Int)) % (((zs.map V.int).length : Nat) : Int)).toNat 0 * 48271 + (0 + (i : Int)) * 69621 + 11) % 2147483647 := Int.emod_nonneg _ (by decide)
      have o1 : (zs.getD ((0 + (i : Int)) % (((zs.map V.int).length : Nat) : Int)).toNat 0 * 48271 + (0 + (i : Int)) * 69621 + 11) % 2147483647 < 2147483647 := Int.emod_lt_of_pos _ (by decide)
      refine ⟨_, rfl, .inl ⟨rfl, _, .inl (.inl hW)⟩, _, rfl, _, rfl, _, _, rfl, rfl, .inl ⟨?_, ?_⟩, _, rfl, _, _, rfl, rfl, .inl ⟨by decide, by decide⟩, _, _, rfl, rfl, _, rfl, _, _, rfl, rfl, .inl ⟨_, rfl, _, _, rfl, rfl, (by show (0 : Int) < 1000003; decide), W, _, _, rfl, rfl, hW, sz, ?_⟩⟩
      · exact Int.lt_of_lt_of_le (by decide) o0
      · exact Int.lt_trans o1 (by decide)
      refine ⟨⟨_, _, _, rfl⟩, ex.put nW0 wd, ?_, ⟨rs, ?_, hrl⟩, _, by rw [upd_same, iv_snoc], by rw [List.length_append]; exact Nat.succ_le_succ hdl⟩
      · rw [upd_ne nDW]; exact hD
      · rw [upd_ne nRW]; exact hR
  · rintro σ' H' ⟨⟨y5, y6, y7, rfl⟩, ex, hD, ⟨rs, hR, hrl⟩, ds, hW, hdl⟩
    refine ⟨_, rfl, .inl ⟨rfl, _, .inl (.inl hW)⟩, W, _, rfl, rfl, hW, _, rfl, ?_⟩
    exact q W _ nW0 (ex.put nW0 wd) ⟨ds.reverse, by rw [upd_same, List.map_reverse]⟩

abbrev N__law_take : List Str := ["draws", "many"]
theorem sc__law_take : FnScope N__law_take ["draws", "many"] (defScope s__law_take) := ⟨rfl, rfl, rfl, by decide +kernel, rfl, by decide +kernel, by decide +kernel⟩
def sp__law_take (T : List Addr) : Sp := fun vs H Q _ => ∃ (dr : Addr) (m : Int), vs = [.ref dr, .int m] ∧ 0 < m ∧ Dr H dr ∧ ∀ x H', 0 ≤ x → x < m → Ex T [dr] H H' → Dr H' dr → Q (.int x) H'
theorem ok__law_take {f : Addr} {fd : FuncData} {k : Nat} {T : List Addr} (F : Fun K "_law_take" "_law_take" s__law_take f fd) (ml : mg "len" = none) (mi : mg "int" = none) :
    FnOk P w K mg base CX0 (k + 1) f fd ["draws", "many"] (sp__law_take T) := by
  refine F.ok sc__law_take (fun vs H Q E h => ?_) (fun cdv A outer s H vs Q E hr h => ?_)
  · obtain ⟨dr, m, rfl, _⟩ := h
    rfl
  obtain ⟨dr, m, rfl, hm, ⟨ds, hd⟩, q⟩ := h
  refine ⟨_, pss_cons (ps_if (pt_cmpR op_eq (pe_callB call_len_seq (by rfl) ml PySem.boot_len (pa_cons (pv 0) pa_nil)) pe_int (nomark _)) (pss_one (ps_ret pe_int)) pss_nil)
    (pss_one (ps_ret (pe_op op_mod (pe_callTy call_int1 (by rfl) mi (by decide +kernel) (pa_cons (pe_bm0 PySem.F.plainAttrs_list PySem.F.slot_list_pop PySem.F.type_list_pop mt_pop (pv 0)) pa_nil)) (pv 1)))), ?_⟩
  refine ⟨_, rfl, dr, _, rfl, .inl (SqL.of hd), rfl, _, rfl, ite2 (fun c => ?_) (fun c => ?_)⟩
  · exact q 0 H (Int.le_refl 0) hm Ex.refl ⟨ds, hd⟩
  have hl : 0 < ds.length := by
    rw [List.length_map] at c
    cases ds with
    | nil => exact absurd rfl c
    | cons => exact Nat.succ_pos _
  have e1 : (ds.map V.int)[(ds.map V.int).length - 1]? = some (.int (ds.getD (ds.length - 1) 0)) := by
    rw [List.length_map, List.getElem?_map, List.getD_eq_getElem?_getD, List.getElem?_eq_getElem (by omega)]
    rfl
  refine ⟨_, rfl, .inl ⟨rfl, _, .inl (.inl hd)⟩, dr, _, _, rfl, rfl, hd, e1, .inl ⟨_, rfl, _, rfl, _, _, rfl, rfl, hm, ?_⟩⟩
  exact q _ _ (Int.emod_nonneg _ (by omega)) (Int.emod_lt_of_pos _ hm) (Ex.write (by simp) hd) ⟨ds.dropLast, by rw [upd_same, List.map_dropLast]⟩

abbrev N__law_cell : List Str := ["script", "draws"]
theorem sc__law_cell : FnScope N__law_cell ["script", "draws"] (defScope s__law_cell) := ⟨rfl, rfl, rfl, by decide +kernel, rfl, by decide +kernel, by decide +kernel⟩
def sp__law_cell (K : PySem.W.Frag) (T : List Addr) : Sp := fun vs H Q _ => ∃ (a dr : Addr) (ns : List Int), vs = [.ref a, .ref dr] ∧ (∀ H', Ex T [dr] H H' → SqL K H' a (ns.map V.int)) ∧ Dr H dr ∧ ∀ x H', Ex T [dr] H H' → Dr H' dr → Q (.int x) H'
theorem ok__law_cell {f g : Addr} {fd gd : FuncData} {k : Nat} {T : List Addr} (F : Fun K "_law_cell" "_law_cell" s__law_cell f fd) (ml : mg "len" = none) (mi : mg "int" = none)
    (G : FnOk P w K mg base CX0 k g gd ["draws", "many"] (sp__law_take T)) (kG : PySem.W.keepIn K (.ref g) = true) (bG : Binds K gd ["draws", "many"] []) (mG : mg "_law_take" = some (.ref g)) :
    FnOk P w K mg base CX0 (k + 1) f fd ["script", "draws"] (sp__law_cell K T) := by
  refine F.ok sc__law_cell (fun vs H Q E h => ?_) (fun cdv A outer s H vs Q E hr h => ?_)
  · obtain ⟨a, dr, ns, rfl, _⟩ := h
    rfl
  obtain ⟨a, dr, ns, rfl, hS', hd, q⟩ := h
  have hS := hS' H Ex.refl
  refine ⟨_, pss_cons (ps_if (pt_cmpR op_eq (pe_callB call_len_seq (by rfl) ml PySem.boot_len (pa_cons (pv 0) pa_nil)) pe_int (nomark _)) (pss_one (ps_ret pe_int)) pss_nil)
    (pss_one (ps_ret (pe_callTy call_int1 (by rfl) mi (by decide +kernel) (pa_cons (pe_ix ix_list (pv 0) (pe_call G hr (by rfl) mG kG bG .nil pass0 (pa_cons (pv 1) (pa_cons (pe_callB call_len_seq (by rfl) ml PySem.boot_len (pa_cons (pv 0) pa_nil)) pa_nil))) (fun _ _ => rfl)) pa_nil)))), ?_⟩
  refine ⟨_, rfl, a, _, rfl, .inl hS, rfl, _, rfl, ite2 (fun c => ?_) (fun c => ?_)⟩
  · exact q 0 H Ex.refl hd
  have hl : 0 < ns.length := by
    rw [List.length_map] at c
    cases ns with
    | nil => exact absurd rfl c
    | cons => exact Nat.succ_pos _
  refine ⟨_, rfl, _, rfl, _, rfl, a, _, rfl, .inl hS, dr, _, rfl, by rw [List.length_map]; omega, hd, fun x H' x0 x1 ex hd' => ?_⟩
  rw [List.length_map] at x1
  exact ⟨a, _, _, _, rfl, rfl, hS' H' ex, iv_at x0 x1, .inl ⟨_, rfl, q _ _ ex hd'⟩⟩

abbrev N__law_place : List Str := ["draws", "registers"]
theorem sc__law_place : FnScope N__law_place ["draws", "registers"] (defScope s__law_place) := ⟨rfl, rfl, rfl, by decide +kernel, rfl, by decide +kernel, by decide +kernel⟩
def sp__law_place (T : List Addr) : Sp := fun vs H Q _ => ∃ (dr : Addr) (r : Nat), vs = [.ref dr, .int r] ∧ Dr H dr ∧ ∀ p H', plOk r p → Ex T [dr] H H' → Dr H' dr → Q (.int p) H'
theorem ok__law_place {f g : Addr} {fd gd : FuncData} {k : Nat} {T : List Addr} (F : Fun K "_law_place" "_law_place" s__law_place f fd)
    (G : FnOk P w K mg base CX0 k g gd ["draws", "many"] (sp__law_take T)) (kG : PySem.W.keepIn K (.ref g) = true) (bG : Binds K gd ["draws", "many"] []) (mG : mg "_law_take" = some (.ref g)) :
    FnOk P w K mg base CX0 (k + 1) f fd ["draws", "registers"] (sp__law_place T) := by
  refine F.ok sc__law_place (fun vs H Q E h => ?_) (fun cdv A outer s H vs Q E hr h => ?_)
  · obtain ⟨dr, r, rfl, _⟩ := h
    rfl
  obtain ⟨dr, r, rfl, hd, q⟩ := h
  refine ⟨_, pss_cons (ps_if (pw_or (pt_cmpR op_eq (pv 1) pe_int (nomark _)) (pw_or1 (pt_cmpR op_eq (pe_call G hr (by rfl) mG kG bG .nil pass0 (pa_cons (pv 0) (pa_cons pe_int pa_nil))) pe_int (nomark _)))).pt (pss_one (ps_ret (pe_un un_neg pe_int))) pss_nil)
    (pss_one (ps_ret (pe_call G hr (by rfl) mG kG bG .nil pass0 (pa_cons (pv 0) (pa_cons (pv 1) pa_nil))))), ?_⟩
  refine ⟨_, rfl, rfl, _, rfl, ite2 (fun c => ?_) (fun c => ?_)⟩
  · exact iteT ⟨_, rfl, q _ H ⟨by decide, by omega⟩ Ex.refl hd⟩
  have hr0 : (r : Int) ≠ 0 := by simpa using c
  refine ⟨_, rfl, dr, 3, rfl, by decide, hd, fun x H1 x0 x1 ex1 hd1 => ⟨rfl, _, rfl, ite2 (fun c => ?_) (fun c => ?_)⟩⟩
  · exact ⟨_, rfl, q _ H1 ⟨by decide, by omega⟩ ex1 hd1⟩
  · exact ⟨_, rfl, _, rfl, dr, r, rfl, by omega, hd1, fun y H2 y0 y1 ex2 hd2 => q _ _ ⟨by omega, y1⟩ (ex1.trans ex2) hd2⟩

abbrev N__law_condition : List Str := ["draws", "registers", "depth", "one", "other", "kind", "row", "k"]
theorem sc__law_condition : FnScope N__law_condition ["draws", "registers", "depth"] (defScope s__law_condition) := ⟨rfl, rfl, rfl, by decide +kernel, rfl, by decide +kernel, by decide +kernel⟩
def sp__law_condition (K : PySem.W.Frag) (T : List Addr) (n : Nat) : Sp := fun vs H Q _ => ∃ (dr : Addr) (r m : Nat) (d : Int), vs = [.ref dr, .int r, .int d] ∧ n = m + 1 ∧ d ≤ m ∧ Wd T H ∧ Dr H dr ∧
  ∀ v H' c, At K H' v (encC c) → okC r (m + 1) c → Ex T [dr] H H' → Dr H' dr → Q v H'
theorem ok__law_condition {f g gp : Addr} {fd gd gpd : FuncData} {T : List Addr} (F : Fun K "_law_condition" "_law_condition" s__law_condition f fd) (bF : Binds K fd ["draws", "registers", "depth"] []) (mF : mg "_law_condition" = some (.ref f)) (mr : mg "range" = none) (mt : mg "tuple" = none)
    (G : FnOk P w K mg base CX0 2 g gd ["draws", "many"] (sp__law_take T)) (kG : PySem.W.keepIn K (.ref g) = true) (bG : Binds K gd ["draws", "many"] []) (mG : mg "_law_take" = some (.ref g))
    (GP : FnOk P w K mg base CX0 2 gp gpd ["draws", "registers"] (sp__law_place T)) (kP : PySem.W.keepIn K (.ref gp) = true) (bP : Binds K gpd ["draws", "registers"] []) (mP : mg "_law_place" = some (.ref gp)) :
    ∀ n : Nat, FnOk P w K mg base CX0 (n + 2) f fd ["draws", "registers", "depth"] (sp__law_condition K T n) := by
  intro n
  induction n with
  | zero =>
    have no : ∀ vs H Q E, ¬ sp__law_condition K T 0 vs H Q E := fun vs H Q E h => by
      obtain ⟨dr, r, m, d, _, e, _⟩ := h
      omega
    exact ⟨fun vs H Q E h => absurd h (no vs H Q E), fun A outer s H args us vs Q E _ _ _ _ h => absurd h (no vs H Q E)⟩
  | succ n ih =>
  refine F.ok sc__law_condition (fun vs H Q E h => ?_) (fun cdv A outer s H vs Q E hr h => ?_)
  · obtain ⟨dr, r, m, d, rfl, _⟩ := h
    rfl
  obtain ⟨dr, r, m, d, rfl, em, hdm, wd, hd, q⟩ := h
  obtain rfl : n = m := by omega
  have hr2 : Room 2 _ := hr.mono (by omega)
  refine ⟨_, pss_cons (ps_set (i := 3) sc__law_condition.nd rfl (.inl rfl) (pe_call GP hr2 (by rfl) mP kP bP .nil pass0 (pa_cons (pv 0) (pa_cons (pv 1) pa_nil))))
    (pss_cons (ps_set (i := 4) sc__law_condition.nd rfl (.inl rfl) (pe_call GP hr2 (by rfl) mP kP bP .nil pass0 (pa_cons (pv 0) (pa_cons (pv 1) pa_nil))))
    (pss_cons (ps_set (i := 5) sc__law_condition.nd rfl (.inl rfl) (pe_call G hr2 (by rfl) mG kG bG .nil pass0 (pa_cons (pv 0) (pa_cons pe_int pa_nil))))
    (C8.pss_cut (ps_if (pw_or (pt_cmpR op_lt (pv 5) pe_int (nomark _)) (pw_or1 (pw_and (pt_cmpR op_lt (pv 2) pe_int (nomark _)) (pw_and1 (pt_cmpR op_gt (pv 5) pe_int (nomark _)))).pt)).pt (pss_one (ps_ret (pe_tup (pa_cons pe_str (pa_cons (pv 3) (pa_cons (pv 4) pa_nil)))))) pss_nil)
    (pss_cons (ps_if (pt_cmpR op_eq (pv 5) pe_int (nomark _)) (pss_one (ps_ret (pe_ix ix_list (pe_lst (pa_cons (pe_tup (pa_cons pe_str (pa_cons (pv 3) (pa_cons (pv 4) pa_nil)))) (pa_cons (pe_tup (pa_cons pe_str (pa_cons (pv 3) pa_nil))) pa_nil)))
        (pe_call G hr2 (by rfl) mG kG bG .nil pass0 (pa_cons (pv 0) (pa_cons pe_int pa_nil))) (fun _ _ => rfl)))) pss_nil)
    (pss_cons (ps_if (pt_cmpR op_lt (pv 5) pe_int (nomark _)) (pss_one (ps_ret (pe_tup (pa_cons pe_str (pa_cons (pe_tup (pa_cons (pe_tup (pa_cons pe_str (pa_cons (pv 3) (pa_cons (pe_un un_neg pe_int) pa_nil)))) (pa_cons (pe_tup (pa_cons pe_str (pa_cons (pe_un un_neg pe_int) (pa_cons (pv 4) pa_nil)))) pa_nil))) pa_nil))))) pss_nil)
    (pss_cons (ps_if (pt_cmpR op_eq (pv 5) pe_int (nomark _)) (pss_one (ps_ret (pe_ix ix_list (pe_lst (pa_cons (pe_tup (pa_cons pe_str pa_nil)) (pa_cons (pe_tup (pa_cons pe_str pa_nil)) pa_nil)))
        (pe_op op_fdiv (pe_call G hr2 (by rfl) mG kG bG .nil pass0 (pa_cons (pv 0) (pa_cons pe_int pa_nil))) pe_int) (fun _ _ => rfl)))) pss_nil)
    (pss_cons (ps_if (pt_cmpR op_eq (pv 5) pe_int (nomark _)) (pss_one (ps_ret (pe_tup (pa_cons pe_str (pa_cons (pe_call ih hr (by rfl) mF F.kp bF .nil pass0 (pa_cons (pv 0) (pa_cons (pv 1) (pa_cons (pe_op op_sub (pv 2) pe_int) pa_nil)))) pa_nil))))) pss_nil)
    (pss_cons (ps_setLc (i := 6) (own := [("k", 7)]) (g := gName 7) (tt := tYes) rfl sc__law_condition.nd rfl rfl (sw_true rfl rfl rfl (by decide +kernel)) (pi_range1 rfl mr (pa_cons (pe_ix ix_list (pe_lst (pa_cons pe_int (pa_cons pe_int (pa_cons pe_int (pa_cons pe_int (pa_cons pe_int pa_nil))))))
          (pe_call G hr2 (by rfl) mG kG bG .nil pass0 (pa_cons (pv 0) (pa_cons pe_int pa_nil))) (fun _ _ => rfl)) pa_nil)) (blkOk_by (N := N__law_condition) (sc := defScope s__law_condition) (by decide +kernel))
        (fun _ _ _ _ _ => pg_name (i := 7) sc__law_condition.nd rfl (.inl rfl)) (fun _ _ _ _ _ => pts_nil) (fun _ _ _ _ _ => pe_call ih hr (by rfl) mF F.kp bF .nil pass0 (pa_cons (pv 0) (pa_cons (pv 1) (pa_cons (pe_op op_sub (pv 2) pe_int) pa_nil)))))
    (pss_one (ps_ret (pe_tup (pa_cons (pe_ix ix_list (pe_lst (pa_cons pe_str (pa_cons pe_str pa_nil))) (pe_op op_sub (pv 5) pe_int) (fun _ _ => rfl)) (pa_cons (pe_callTy call_tuple_of (by rfl) mt (by decide +kernel) (pa_cons (pv 6) pa_nil)) pa_nil)))))))))))))
    , ?_⟩
  refine ⟨_, rfl, _, rfl, dr, r, rfl, hd, fun one H1 o1 ex1 hd1 => ?_⟩
  refine ⟨_, rfl, _, rfl, dr, r, rfl, hd1, fun other H2 o2 ex2 hd2 => ?_⟩
  refine ⟨_, rfl, dr, 12, rfl, by decide, hd2, fun kind H3 k0 k1 ex3 hd3 => ?_⟩
  have ex : Ex T [dr] H H3 := (ex1.trans ex2).trans ex3
  have less : ∀ p, H3 p = none → Q (.ref p) (upd H3 p (.tup [.str "less", .int one, .int other])) := fun p np => q _ _ _ (new_less np) (okC_less o1 o2) (ex.trans (Ex.new np)) (hd3.new np)
  refine ⟨fun σ' H' => σ' = [some (.ref dr), some (.int r), some (.int d), some (.int one), some (.int other), some (.int kind), none, none] ∧ H' = H3 ∧ 5 ≤ kind ∧ (kind ≤ 8 ∨ 1 ≤ d), ?_, ?_⟩
  · refine ⟨_, rfl, _, _, rfl, rfl, _, rfl, ite2 (fun c => ?_) (fun c => ?_)⟩
    · exact iteT ⟨_, rfl, _, rfl, by show 3 ≤ sizeLine; decide, less⟩
    have c5 : 5 ≤ kind := by have := of_decide_eq_false (Bool.eq_false_iff.mpr c); omega
    refine ⟨_, rfl, _, _, rfl, rfl, _, rfl, ite2 (fun cd => ?_) (fun cd => ?_)⟩
    · refine ⟨_, rfl, _, _, rfl, rfl, _, rfl, ?_⟩
      by_cases ck : (8 : Int) < kind
      · rw [decide_eq_true ck]
        exact iteT ⟨_, rfl, _, rfl, by show 3 ≤ sizeLine; decide, less⟩
      · rw [decide_eq_false ck]
        exact iteF ⟨rfl, rfl, c5, .inl (by omega)⟩
    · have cd' : ¬ d < 1 := of_decide_eq_false (Bool.eq_false_iff.mpr cd)
      exact iteF ⟨rfl, rfl, c5, .inr (by omega)⟩
  rintro σ' H' ⟨rfl, rfl, c5, cor⟩
  have ne3 : ∀ {p : Addr}, H' p = none → p ≠ dr := fun np => hd3.ne np
  -- kind == 5
  refine ⟨_, rfl, rfl, _, rfl, ite2 (fun c => ?_) (fun c => ?_)⟩
  · refine ⟨_, rfl, _, rfl, by show 3 ≤ sizeLine; decide, fun p np => ?_⟩
    refine ⟨_, rfl, by show 2 ≤ sizeLine; decide, fun p2 np2 => ?_⟩
    refine ⟨by show 2 ≤ sizeLine; decide, fun l nl => ?_⟩
    have hdl := ((hd3.new (o := .tup [.str "same", .int one, .int other]) np).new (o := .tup [.str "empty", .int one]) np2).new (o := .lst [.ref p, .ref p2]) nl
    have nel : l ≠ dr := ((hd3.new np).new np2).ne nl
    refine ⟨_, rfl, dr, 2, rfl, by decide, hdl, fun y H4 y0 y1 ex4 hd4 => ?_⟩
    have hl4 : H4 l = some (.lst [.ref p, .ref p2]) := ex4.lst (by simpa using nel) upd_same
    have exT : Ex T [dr] H H4 := ((((ex.trans (Ex.new np)).trans (Ex.new np2)).trans (Ex.new nl)).trans ex4)
    have exA : Ex T [dr] (upd H' p (.tup [.str "same", .int one, .int other])) H4 := ((Ex.new np2).trans (Ex.new nl)).trans ex4
    have exB : Ex T [dr] (upd (upd H' p (.tup [.str "same", .int one, .int other])) p2 (.tup [.str "empty", .int one])) H4 := (Ex.new nl).trans ex4
    have yc : y = 0 ∨ y = 1 := by omega
    rcases yc with rfl | rfl
    · exact ⟨l, _, _, _, rfl, rfl, SqL.of hl4, rfl, q _ _ _ ((new_same np).ext exA) (okC_same o1 o2) exT hd4⟩
    · exact ⟨l, _, _, _, rfl, rfl, SqL.of hl4, rfl, q _ _ _ ((new_emp np2).ext exB) (okC_emp o1) exT hd4⟩
  have c6 : kind ≠ 5 := by simpa using c
  -- kind < 8
  refine ⟨_, rfl, _, _, rfl, rfl, _, rfl, ite2 (fun c => ?_) (fun c => ?_)⟩
  · refine ⟨_, rfl, _, rfl, by show 3 ≤ sizeLine; decide, fun p np => ?_⟩
    refine ⟨_, rfl, _, rfl, by show 3 ≤ sizeLine; decide, fun p2 np2 => ?_⟩
    refine ⟨by show 2 ≤ sizeLine; decide, fun l nl => ?_⟩
    refine ⟨by show 2 ≤ sizeLine; decide, fun l2 nl2 => ?_⟩
    have exA : Ex T [dr] (upd H' p (.tup [.str "less", .int one, .int (-1)])) _ := Ex.new (o := .tup [.str "less", .int (-1), .int other]) np2
    have mn : plOk r (-1) := ⟨by decide, by omega⟩
    have hl : At K (upd (upd (upd H' p (.tup [.str "less", .int one, .int (-1)])) p2 (.tup [.str "less", .int (-1), .int other])) l (.tup [.ref p, .ref p2])) (.ref l) (.tup (encCs [.less one (-1), .less (-1) other])) :=
      At.laid nl (ats_c2 ((new_less np).ext exA) (new_less np2))
    exact q _ _ _ (new_all nl2 hl) (okC_all (by show 2 ≤ 100000; decide) (okCs_cons (okC_less o1 mn) (okCs_cons (okC_less mn o2) okCs_nil))) ((((ex.trans (Ex.new np)).trans (Ex.new np2)).trans (Ex.new nl)).trans (Ex.new nl2)) ((((hd3.new np).new np2).new nl).new nl2)
  have c8 : 8 ≤ kind := by have := of_decide_eq_false (Bool.eq_false_iff.mpr c); omega
  -- kind == 8
  refine ⟨_, rfl, rfl, _, rfl, ite2 (fun c => ?_) (fun c => ?_)⟩
  · refine ⟨by show 1 ≤ sizeLine; decide, fun p np => ?_⟩
    refine ⟨by show 1 ≤ sizeLine; decide, fun p2 np2 => ?_⟩
    refine ⟨by show 2 ≤ sizeLine; decide, fun l nl => ?_⟩
    have hdl := ((hd3.new (o := .tup [.str "true"]) np).new (o := .tup [.str "false"]) np2).new (o := .lst [.ref p, .ref p2]) nl
    have nel : l ≠ dr := ((hd3.new np).new np2).ne nl
    refine ⟨_, rfl, dr, 4, rfl, by decide, hdl, fun y H4 y0 y1 ex4 hd4 => ⟨_, _, rfl, rfl, ⟨by decide, by decide⟩, ?_⟩⟩
    have hl4 : H4 l = some (.lst [.ref p, .ref p2]) := ex4.lst (by simpa using nel) upd_same
    have exT : Ex T [dr] H H4 := ((((ex.trans (Ex.new np)).trans (Ex.new np2)).trans (Ex.new nl)).trans ex4)
    have exA : Ex T [dr] (upd H' p (.tup [.str "true"])) H4 := ((Ex.new np2).trans (Ex.new nl)).trans ex4
    have exB : Ex T [dr] (upd (upd H' p (.tup [.str "true"])) p2 (.tup [.str "false"])) H4 := (Ex.new nl).trans ex4
    have yc : y / 3 = 0 ∨ y / 3 = 1 := by omega
    rcases yc with e | e
    · exact ⟨l, _, _, .ref p, rfl, rfl, SqL.of hl4, by rw [e]; rfl, q _ _ _ ((new_tru np).ext exA) okC_tru exT hd4⟩
    · exact ⟨l, _, _, .ref p2, rfl, rfl, SqL.of hl4, by rw [e]; rfl, q _ _ _ ((new_fls np2).ext exB) okC_fls exT hd4⟩
  have c9 : kind ≠ 8 := by simpa using c
  have d1 : 1 ≤ d := by omega
  cases n with
  | zero => omega
  | succ n =>
  -- kind == 9
  refine ⟨_, rfl, rfl, _, rfl, ite2 (fun c => ?_) (fun c => ?_)⟩
  · refine ⟨_, rfl, _, rfl, _, rfl, _, _, rfl, rfl, dr, r, n, d - 1, rfl, rfl, by omega, ex.wd wd, hd3, fun v H4 c4 at4 ok4 ex4 hd4 => ?_⟩
    refine ⟨by show 2 ≤ sizeLine; decide, fun l nl => ?_⟩
    exact q _ _ _ (new_nt nl at4) (okC_nt ok4) ((ex.trans ex4).trans (Ex.new nl)) (hd4.new nl)
  have c10 : kind ≠ 9 := by simpa using c
  -- row
  refine ⟨by show 5 ≤ sizeLine; decide, fun l nl => ?_⟩
  have nel : l ≠ dr := hd3.ne nl
  refine ⟨_, rfl, dr, 5, rfl, by decide, hd3.new nl, fun y H4 y0 y1 ex4 hd4 => ?_⟩
  have hl4 : H4 l = some (.lst (([0, 1, 2, 2, 3] : List Int).map V.int)) := ex4.lst (by simpa using nel) upd_same
  obtain ⟨vj, hvj, hat⟩ := menu_at (xs := ([0, 1, 2, 2, 3] : List Int).map V.int) y0 y1
  obtain ⟨j, hj, rfl⟩ := List.mem_map.mp hvj
  have hj' : 0 ≤ j ∧ j ≤ 3 := by
    simp only [List.mem_cons, List.not_mem_nil, or_false] at hj
    omega
  have exL : Ex T [dr] H H4 := (ex.trans (Ex.new nl)).trans ex4
  refine ⟨l, _, _, _, rfl, rfl, SqL.of hl4, hat, j, rfl, by omega, by omega, fun D nD => lc_range (lo := 0) (n := j.toNat) (fun i H5 => Ex T [dr] H H5 ∧ Dr H5 dr ∧ ∃ (xs : List V) (cs : List C), H5 D = some (.lst xs) ∧ Ats K H5 xs (encCs cs) ∧ cs.length = i ∧ okCs r (n + 1) cs)
    ⟨exL.trans (Ex.new nD), hd4.new nD, [], [], upd_same, by unfold encCs; exact Ats.mk_nil, rfl, okCs_nil⟩ ?_ ?_⟩
  · rintro i H5 hi ⟨ex5, hd5, xs, cs, hD, ats, hl, oks⟩
    have neD : D ≠ dr := hd4.ne nD
    refine ⟨rfl, yesIf ⟨_, rfl, _, rfl, _, rfl, _, _, rfl, rfl, dr, r, n, d - 1, rfl, rfl, by omega, ex5.wd wd, hd5, fun v H6 c6' at6 ok6 ex6 hd6 => ?_⟩⟩
    have hD6 : H6 D = some (.lst xs) := ex6.lst (by simpa using neD) hD
    have xl : xs.length = cs.length := by rw [ats.length, encCs_length]
    have exw : Ex T [D] H6 (upd H6 D (.lst (xs ++ [v]))) := Ex.write (by simp) hD6
    refine ⟨xs, hD6, small5000 (by omega), (ex5.trans ex6).put (exL.free nD) wd, hd6.put neD.symm, xs ++ [v], cs ++ [c6'], upd_same, ?_, by rw [List.length_append]; exact congrArg (· + 1) hl, okCs_snoc oks ok6⟩
    rw [encCs_snoc]
    exact ((ats.ext ex6).append (Ats.mk at6 Ats.mk_nil)).ext exw
  · rintro H5 ⟨ex5, hd5, xs, cs, hD, ats, hl, oks⟩
    have neD : D ≠ dr := hd4.ne nD
    refine ⟨by show 2 ≤ sizeLine; decide, fun l5 nl5 => ?_⟩
    have nD5 : D ≠ l5 := ne_of_none hD nl5
    have hD5 : ∀ o, (upd H5 l5 o) D = some (.lst xs) := fun o => by rw [upd_ne nD5]; exact hD
    have kc : kind = 10 ∨ kind = 11 := by omega
    have fin : ∀ (k0 : Str) (l6 : Addr) (o5 : HO), (upd H5 l5 o5) l6 = none → At K (upd (upd H5 l5 o5) l6 (.tup xs)) (.ref l6) (.tup (encCs cs)) := fun k0 l6 o5 n6 => At.laid n6 (ats.ext (T := T) (ms := []) (Ex.new nl5))
    rcases kc with rfl | rfl
    · refine ⟨_, rfl, _, _, rfl, rfl, l5, _, _, .str "all", rfl, rfl, SqL.of upd_same, rfl, _, rfl, D, _, rfl, .inl ⟨SqL.of (hD5 _), fun l6 nl6 => ⟨by show 2 ≤ sizeLine; decide, fun l7 nl7 => ?_⟩⟩⟩
      exact q _ _ _ (new_all nl7 (fin "all" l6 _ nl6)) (okC_all (by omega) oks) (((ex5.trans (Ex.new nl5)).trans (Ex.new nl6)).trans (Ex.new nl7)) (((hd5.new nl5).new nl6).new nl7)
    · refine ⟨_, rfl, _, _, rfl, rfl, l5, _, _, .str "any", rfl, rfl, SqL.of upd_same, rfl, _, rfl, D, _, rfl, .inl ⟨SqL.of (hD5 _), fun l6 nl6 => ⟨by show 2 ≤ sizeLine; decide, fun l7 nl7 => ?_⟩⟩⟩
      exact q _ _ _ (new_any nl7 (fin "any" l6 _ nl6)) (okC_any (by omega) oks) (((ex5.trans (Ex.new nl5)).trans (Ex.new nl6)).trans (Ex.new nl7)) (((hd5.new nl5).new nl6).new nl7)

abbrev N__law_source : List Str := ["draws", "registers"]
theorem sc__law_source : FnScope N__law_source ["draws", "registers"] (defScope s__law_source) := ⟨rfl, rfl, rfl, by decide +kernel, rfl, by decide +kernel, by decide +kernel⟩
def sp__law_source (T : List Addr) : Sp := fun vs H Q _ => ∃ (dr : Addr) (r : Nat), vs = [.ref dr, .int r] ∧ Dr H dr ∧ ∀ (p : Int) H', -2 ≤ p → p < r → Ex T [dr] H H' → Dr H' dr → Q (.int p) H'
theorem ok__law_source {f g : Addr} {fd gd : FuncData} {k : Nat} {T : List Addr} (F : Fun K "_law_source" "_law_source" s__law_source f fd)
    (G : FnOk P w K mg base CX0 k g gd ["draws", "many"] (sp__law_take T)) (kG : PySem.W.keepIn K (.ref g) = true) (bG : Binds K gd ["draws", "many"] []) (mG : mg "_law_take" = some (.ref g)) :
    FnOk P w K mg base CX0 (k + 1) f fd ["draws", "registers"] (sp__law_source T) := by
  refine F.ok sc__law_source (fun vs H Q E h => ?_) (fun cdv A outer s H vs Q E hr h => ?_)
  · obtain ⟨dr, r, rfl, _⟩ := h
    rfl
  obtain ⟨dr, r, rfl, hd, q⟩ := h
  refine ⟨_, pss_cons (ps_if (pw_and (pt_cmpR op_gt (pv 1) pe_int (nomark _)) (pw_and1 (pt_cmpR op_lt (pe_call G hr (by rfl) mG kG bG .nil pass0 (pa_cons (pv 0) (pa_cons pe_int pa_nil))) pe_int (nomark _)))).pt
      (pss_one (ps_ret (pe_call G hr (by rfl) mG kG bG .nil pass0 (pa_cons (pv 0) (pa_cons (pv 1) pa_nil))))) pss_nil)
    (pss_one (ps_ret (pe_ix ix_list (pe_lst (pa_cons (pe_un un_neg pe_int) (pa_cons (pe_un un_neg pe_int) (pa_cons (pe_un un_neg pe_int) pa_nil))))
        (pe_call G hr (by rfl) mG kG bG .nil pass0 (pa_cons (pv 0) (pa_cons pe_int pa_nil))) (fun _ _ => rfl)))), ?_⟩
  have fin : ∀ H1, Ex T [dr] H H1 → Dr H1 dr → ∀ p, H1 p = none → ∀ y H2, 0 ≤ y → y < 3 → Ex T [dr] (upd H1 p (.lst [.int (-1), .int (-1), .int (-2)])) H2 → Dr H2 dr → ∃ v, atI [.int (-1), .int (-1), .int (-2)] y = some v ∧ SqL K H2 p [.int (-1), .int (-1), .int (-2)] ∧ Q v H2 := by
    intro H1 e1 hd1 p np y H2 y0 y1 e2 hd2
    obtain ⟨v, hv, hat⟩ := menu_at (xs := ([-1, -1, -2] : List Int).map V.int) y0 y1
    obtain ⟨z, hz, rfl⟩ := List.mem_map.mp hv
    simp only [List.mem_cons, List.not_mem_nil, or_false] at hz
    refine ⟨_, hat, SqL.of (e2.lst (by simpa using hd1.ne np) upd_same), q _ _ (by omega) (by omega) ((e1.trans (Ex.new np)).trans e2) hd2⟩
  refine ⟨_, rfl, _, _, rfl, rfl, _, rfl, ite2 (fun c => ?_) (fun c => ?_)⟩
  · refine ⟨_, rfl, dr, 5, rfl, by decide, hd, fun x H1 x0 x1 ex1 hd1 => ⟨_, _, rfl, rfl, _, rfl, ite2 (fun c2 => ?_) (fun c2 => ?_)⟩⟩
    · exact ⟨_, rfl, _, rfl, dr, r, rfl, by simpa using c, hd1, fun y H2 y0 y1 ex2 hd2 => q _ _ (by omega) y1 (ex1.trans ex2) hd2⟩
    · refine ⟨_, rfl, _, rfl, _, rfl, by show 3 ≤ sizeLine; decide, fun p np => ⟨_, rfl, dr, 3, rfl, by decide, hd1.new np, fun y H2 y0 y1 ex2 hd2 => ?_⟩⟩
      obtain ⟨v, h1, h2, h3⟩ := fin H1 ex1 hd1 p np y H2 y0 y1 ex2 hd2
      exact ⟨p, _, _, _, rfl, rfl, h2, h1, h3⟩
  · refine ⟨_, rfl, _, rfl, _, rfl, by show 3 ≤ sizeLine; decide, fun p np => ⟨_, rfl, dr, 3, rfl, by decide, hd.new np, fun y H2 y0 y1 ex2 hd2 => ?_⟩⟩
    obtain ⟨v, h1, h2, h3⟩ := fin H Ex.refl hd p np y H2 y0 y1 ex2 hd2
    exact ⟨p, _, _, _, rfl, rfl, h2, h1, h3⟩

abbrev N__law_moves : List Str := ["draws", "registers", "shift", "moves", "k", "source"]
theorem sc__law_moves : FnScope N__law_moves ["draws", "registers"] (defScope s__law_moves) := ⟨rfl, rfl, rfl, by decide +kernel, rfl, by decide +kernel, by decide +kernel⟩
def sp__law_moves (K : PySem.W.Frag) (T : List Addr) : Sp := fun vs H Q _ => ∃ (dr : Addr) (r : Nat), vs = [.ref dr, .int r] ∧ r ≤ 1000 ∧ Wd T H ∧ Dr H dr ∧
  ∀ v H' (mv : List Int), At K H' v (.tup (mv.map .int)) → mv.length = r → (∀ s ∈ mv, -2 ≤ s ∧ s < r) → Ex T [dr] H H' → Dr H' dr → Q v H'
theorem ok__law_moves {f g gs : Addr} {fd gd gsd : FuncData} {k : Nat} {T : List Addr} (F : Fun K "_law_moves" "_law_moves" s__law_moves f fd) (mr : mg "range" = none) (mt : mg "tuple" = none)
    (G : FnOk P w K mg base CX0 k g gd ["draws", "many"] (sp__law_take T)) (kG : PySem.W.keepIn K (.ref g) = true) (bG : Binds K gd ["draws", "many"] []) (mG : mg "_law_take" = some (.ref g))
    (GS : FnOk P w K mg base CX0 k gs gsd ["draws", "registers"] (sp__law_source T)) (kS : PySem.W.keepIn K (.ref gs) = true) (bS : Binds K gsd ["draws", "registers"] []) (mS : mg "_law_source" = some (.ref gs)) :
    FnOk P w K mg base CX0 (k + 1) f fd ["draws", "registers"] (sp__law_moves K T) := by
  refine F.ok sc__law_moves (fun vs H Q E h => ?_) (fun cdv A outer s H vs Q E hr h => ?_)
  · obtain ⟨dr, r, rfl, _⟩ := h
    rfl
  obtain ⟨dr, r, rfl, hr0, wd, hd, q⟩ := h
  refine ⟨_, pss_cons (ps_set (i := 2) sc__law_moves.nd rfl (.inl rfl) (pe_call G hr (by rfl) mG kG bG .nil pass0 (pa_cons (pv 0) (pa_cons pe_int pa_nil))))
    (pss_cons (ps_set (i := 3) sc__law_moves.nd rfl (.inl rfl) (pe_lst pa_nil))
    (pss_cons (ps_for PassesOwn.never rfl (pi_range1 rfl mr (pa_cons (pv 1) pa_nil)) (pg_name (i := 4) sc__law_moves.nd rfl (.inl rfl))
      (C8.pss_cut (ps_set (i := 5) sc__law_moves.nd rfl (.inl rfl) (pe_ix ix_list (pe_lst (pa_cons (pv 4) (pa_cons (pv 4) (pa_cons (pe_op op_sub (pv 4) pe_int) pa_nil)))) (pe_call G hr (by rfl) mG kG bG .nil pass0 (pa_cons (pv 0) (pa_cons pe_int pa_nil))) (fun _ _ => rfl)))
      (C8.pss_cut (ps_if (pt_cmpR op_eq (pv 2) pe_int (nomark _)) (pss_one (ps_set (i := 5) sc__law_moves.nd rfl (.inl rfl) (pe_op op_sub (pv 4) pe_int))) pss_nil)
      (C8.pss_cut (ps_if (pt_cmpR op_eq (pe_call G hr (by rfl) mG kG bG .nil pass0 (pa_cons (pv 0) (pa_cons pe_int pa_nil))) pe_int (nomark _)) (pss_one (ps_set (i := 5) sc__law_moves.nd rfl (.inl rfl) (pe_call GS hr (by rfl) mS kS bS .nil pass0 (pa_cons (pv 0) (pa_cons (pv 1) pa_nil))))) pss_nil)
      (pss_one (ps_expr (pe_bm PySem.F.plainAttrs_list PySem.F.slot_list_append PySem.F.type_list_append mt_append (pv 3) (pa_cons (pv 5) pa_nil))))))))
    (pss_one (ps_ret (pe_callTy call_tuple_of (by rfl) mt (by decide +kernel) (pa_cons (pv 3) pa_nil)))))), ?_⟩
  refine ⟨_, rfl, dr, 4, rfl, by decide, hd, fun sh H1 sh0 sh1 ex1 hd1 => ⟨Nat.zero_le _, fun F0 nF => ?_⟩⟩
  have free : H F0 = none := ex1.free nF
  have neF : F0 ≠ dr := hd1.ne nF
  refine ⟨_, rfl, _, rfl, by omega, by omega, for_range (lo := 0) (n := r) (fun i σ' H' => (∃ y4 y5, σ' = [some (.ref dr), some (.int r), some (.int sh), some (.ref F0), y4, y5]) ∧ Dr H' dr ∧ ∃ mv : List Int, Col K T [dr] F0 H H' (mv.map .int) ∧ mv.length = i ∧ ∀ s ∈ mv, -2 ≤ s ∧ s < r) ?_ ?_ ?_⟩
  · exact ⟨⟨_, _, rfl⟩, hd1.new nF, [], Col.start ex1 nF, rfl, fun s hs => by cases hs⟩
  · rintro i σ' H' hi ⟨⟨y4, y5, rfl⟩, hd, mv, cl, hl, hmv⟩
    have hi2 : (i : Int) < r := by omega
    refine ⟨fun σ' H2 => ∃ p : Int, σ' = [some (.ref dr), some (.int r), some (.int sh), some (.ref F0), some (.int (0 + (i : Int))), some (.int p)] ∧ -1 ≤ p ∧ p < r ∧ Ex T [dr] H' H2 ∧ Dr H2 dr, ?_, ?_⟩
    · refine ⟨_, rfl, _, rfl, _, rfl, _, _, rfl, rfl, by show 3 ≤ sizeLine; decide, fun p np => ⟨_, rfl, dr, 3, rfl, by decide, hd.new np, fun y H2 y0 y1 ex2 hd2 => ?_⟩⟩
      obtain ⟨v, hv, hat⟩ := menu_at (xs := ([0 + (i : Int), 0 + (i : Int), 0 + (i : Int) - 1] : List Int).map V.int) y0 y1
      obtain ⟨z, hz, rfl⟩ := List.mem_map.mp hv
      simp only [List.mem_cons, List.not_mem_nil, or_false] at hz
      exact ⟨p, _, _, _, rfl, rfl, SqL.of (ex2.lst (by simpa using hd.ne np) upd_same), hat, z, rfl, by omega, by omega, (Ex.new np).trans ex2, hd2⟩
    rintro σ2 H2 ⟨p, rfl, p0, p1, ex2, hd2⟩
    refine ⟨fun σ' H3 => ∃ p : Int, σ' = [some (.ref dr), some (.int r), some (.int sh), some (.ref F0), some (.int (0 + (i : Int))), some (.int p)] ∧ -1 ≤ p ∧ p < r ∧ Ex T [dr] H' H3 ∧ Dr H3 dr, ?_, ?_⟩
    · refine ⟨_, rfl, rfl, _, rfl, ite2 (fun c => ?_) (fun c => ?_)⟩
      · exact ⟨_, rfl, _, _, rfl, rfl, _, rfl, by omega, by omega, ex2, hd2⟩
      · exact ⟨_, rfl, p0, p1, ex2, hd2⟩
    rintro σ3 H3 ⟨p, rfl, p0, p1, ex3, hd3⟩
    refine ⟨fun σ' H4 => ∃ p : Int, σ' = [some (.ref dr), some (.int r), some (.int sh), some (.ref F0), some (.int (0 + (i : Int))), some (.int p)] ∧ -2 ≤ p ∧ p < r ∧ Ex T [dr] H' H4 ∧ Dr H4 dr, ?_, ?_⟩
    · refine ⟨_, rfl, dr, 4, rfl, by decide, hd3, fun y H4 y0 y1 ex4 hd4 => ⟨rfl, _, rfl, ite2 (fun c => ?_) (fun c => ?_)⟩⟩
      · exact ⟨_, rfl, _, rfl, dr, r, rfl, hd4, fun z H5 z0 z1 ex5 hd5 => ⟨_, rfl, z0, z1, (ex3.trans ex4).trans ex5, hd5⟩⟩
      · exact ⟨_, rfl, by omega, p1, ex3.trans ex4, hd4⟩
    rintro σ4 H4 ⟨p, rfl, p0, p1, ex4, hd4⟩
    obtain ⟨acc, k1, k2, k3⟩ := cl.put free (by simpa using neF) wd ex4 (d := .int p) (x := .int p) (at_int.mpr rfl) (by rw [List.length_map]; omega)
    refine ⟨_, rfl, .inl ⟨rfl, _, .inl (.inl k1)⟩, _, rfl, F0, _, _, rfl, rfl, k1, k2, ⟨_, _, rfl⟩, hd4.put neF.symm, mv ++ [p], ?_, by rw [List.length_append, hl]; rfl, ?_⟩
    · rw [List.map_append]
      exact k3
    · intro s hs
      rcases List.mem_append.mp hs with h | h
      · exact hmv s h
      · obtain rfl := List.mem_singleton.mp h
        exact ⟨p0, p1⟩
  · rintro σ' H' ⟨⟨y4, y5, rfl⟩, hd, mv, ⟨ex, xs, hF, ats⟩, hl, hmv⟩
    refine ⟨_, rfl, F0, _, rfl, .inl ⟨SqL.of hF, fun l nl => ?_⟩⟩
    exact q _ _ mv (At.laid nl ats) hl hmv (ex.trans (Ex.new nl)) (hd.new nl)

abbrev N__law_says : List Str := ["draws", "registers", "many", "k"]
theorem sc__law_says : FnScope N__law_says ["draws", "registers"] (defScope s__law_says) := ⟨rfl, rfl, rfl, by decide +kernel, rfl, by decide +kernel, by decide +kernel⟩
def saysOk (r : Nat) (sy : List (Int × Int)) : Prop := ∀ p ∈ sy, 0 ≤ p.1 ∧ -2 ≤ p.2 ∧ p.2 < r
def sp__law_says (K : PySem.W.Frag) (T : List Addr) : Sp := fun vs H Q _ => ∃ (dr : Addr) (r : Nat), vs = [.ref dr, .int r] ∧ Wd T H ∧ Dr H dr ∧
  ∀ v H' (sy : List (Int × Int)), At K H' v (.tup (sy.map encSay)) → sy.length ≤ 1000 → saysOk r sy → Ex T [dr] H H' → Dr H' dr → Q v H'
theorem ok__law_says {f g gs : Addr} {fd gd gsd : FuncData} {k : Nat} {T : List Addr} (F : Fun K "_law_says" "_law_says" s__law_says f fd) (mr : mg "range" = none) (mt : mg "tuple" = none)
    (G : FnOk P w K mg base CX0 k g gd ["draws", "many"] (sp__law_take T)) (kG : PySem.W.keepIn K (.ref g) = true) (bG : Binds K gd ["draws", "many"] []) (mG : mg "_law_take" = some (.ref g))
    (GS : FnOk P w K mg base CX0 k gs gsd ["draws", "registers"] (sp__law_source T)) (kS : PySem.W.keepIn K (.ref gs) = true) (bS : Binds K gsd ["draws", "registers"] []) (mS : mg "_law_source" = some (.ref gs)) :
    FnOk P w K mg base CX0 (k + 1) f fd ["draws", "registers"] (sp__law_says K T) := by
  refine F.ok sc__law_says (fun vs H Q E h => ?_) (fun cdv A outer s H vs Q E hr h => ?_)
  · obtain ⟨dr, r, rfl, _⟩ := h
    rfl
  obtain ⟨dr, r, rfl, wd, hd, q⟩ := h
  refine ⟨_, pss_cons (ps_set (i := 2) sc__law_says.nd rfl (.inl rfl) (pe_ix ix_list (pe_lst (pa_cons pe_int (pa_cons pe_int (pa_cons pe_int (pa_cons pe_int (pa_cons pe_int (pa_cons pe_int (pa_cons pe_int pa_nil))))))))
        (pe_call G hr (by rfl) mG kG bG .nil pass0 (pa_cons (pv 0) (pa_cons pe_int pa_nil))) (fun _ _ => rfl)))
    (pss_one (ps_ret (pe_callTy call_tuple_of (by rfl) mt (by decide +kernel) (pa_cons
      (pe_lc (own := [("k", 3)]) (g := gName 3) (tt := tYes) rfl sc__law_says.nd (pi_range1 rfl mr (pa_cons (pv 2) pa_nil)) (blkOk_by (N := N__law_says) (sc := defScope s__law_says) (by decide +kernel))
        (fun _ _ _ _ _ => pg_name (i := 3) sc__law_says.nd rfl (.inl rfl)) (fun _ _ _ _ _ => pts_nil)
        (fun _ _ _ _ _ => pe_tup (pa_cons (pe_call G hr (by rfl) mG kG bG .nil pass0 (pa_cons (pv 0) (pa_cons pe_int pa_nil))) (pa_cons (pe_call GS hr (by rfl) mS kS bS .nil pass0 (pa_cons (pv 0) (pa_cons (pv 1) pa_nil))) pa_nil)))) pa_nil)))), ?_⟩
  refine ⟨by show 7 ≤ sizeLine; decide, fun p np => ⟨_, rfl, dr, 7, rfl, by decide, hd.new np, fun y H1 y0 y1 ex1 hd1 => ?_⟩⟩
  obtain ⟨v, hv, hat⟩ := menu_at (xs := ([0, 0, 1, 1, 2, 3, 8] : List Int).map V.int) y0 y1
  obtain ⟨z, hz, rfl⟩ := List.mem_map.mp hv
  simp only [List.mem_cons, List.not_mem_nil, or_false] at hz
  have z0 : 0 ≤ z := by omega
  have z8 : z ≤ 8 := by omega
  refine ⟨p, _, _, _, rfl, rfl, SqL.of (ex1.lst (by simpa using hd.ne np) upd_same), hat, ?_⟩
  have exA : Ex T [dr] H H1 := (Ex.new np).trans ex1
  refine ⟨_, rfl, z, rfl, by omega, by omega, fun D nD => lc_range (lo := 0) (n := z.toNat) (fun i H5 => Dr H5 dr ∧ ∃ sy : List (Int × Int), Col K T [dr] D H H5 (sy.map encSay) ∧ sy.length = i ∧ saysOk r sy) ⟨hd1.new nD, [], Col.start exA nD, rfl, fun p hp => by cases hp⟩ ?_ ?_⟩
  · rintro i H5 hi ⟨hd5, sy, cl, hl, hsy⟩
    refine ⟨wipe1, yesIf ⟨_, rfl, dr, 3, rfl, by decide, hd5, fun a H6 a0 a1 ex6 hd6 => ⟨_, rfl, _, rfl, dr, r, rfl, hd6, fun b H7 b0 b1 ex7 hd7 => ⟨by show 2 ≤ sizeLine; decide, fun l nl => ?_⟩⟩⟩⟩
    obtain ⟨acc, k1, k2, k3⟩ := cl.put (exA.free nD) (by simpa using hd1.ne nD) wd ((ex6.trans ex7).trans (Ex.new nl)) (d := encSay (a, b)) (x := .ref l) (At.laid nl (Ats.mk (at_int.mpr rfl) (Ats.mk (at_int.mpr rfl) Ats.mk_nil))) (by rw [List.length_map]; omega)
    refine ⟨acc, k1, k2, (hd7.new nl).put (hd1.ne nD).symm, sy ++ [(a, b)], ?_, by rw [List.length_append, hl]; rfl, ?_⟩
    · rw [List.map_append]
      exact k3
    · intro s hs
      rcases List.mem_append.mp hs with h | h
      · exact hsy s h
      · obtain rfl := List.mem_singleton.mp h
        exact ⟨a0, b0, b1⟩
  · rintro H5 ⟨hd5, sy, ⟨ex, xs, hD, ats⟩, hl, hsy⟩
    refine ⟨D, _, rfl, .inl ⟨SqL.of hD, fun l nl => ?_⟩⟩
    exact q _ _ sy (At.laid nl ats) (by omega) hsy (ex.trans (Ex.new nl)) (hd5.new nl)

abbrev N__law_cases : List Str := ["draws", "registers", "standings", "depth", "found", "k", "condition", "moves"]
theorem sc__law_cases : FnScope N__law_cases ["draws", "registers", "standings"] (defScope s__law_cases) := ⟨rfl, rfl, rfl, by decide +kernel, rfl, by decide +kernel, by decide +kernel⟩
def casesOk (r S n : Nat) (cs : List Case) : Prop := cs.length ≤ 1000 ∧ ∀ c ∈ cs, okCase r S n c
def sp__law_cases (K : PySem.W.Frag) (T : List Addr) : Sp := fun vs H Q _ => ∃ (dr : Addr) (r S : Nat), vs = [.ref dr, .int r, .int S] ∧ r ≤ 1000 ∧ 0 < S ∧ Wd T H ∧ Dr H dr ∧
  ∀ v H' (cs : List Case), At K H' v (encCases cs) → casesOk r S 3 cs → Ex T [dr] H H' → Dr H' dr → Q v H'
theorem ok__law_cases {f g gc gm gs : Addr} {fd gd gcd gmd gsd : FuncData} {k : Nat} {T : List Addr} (F : Fun K "_law_cases" "_law_cases" s__law_cases f fd) (mr : mg "range" = none) (mt : mg "tuple" = none) (mi : mg "int" = none)
    (G : FnOk P w K mg base CX0 k g gd ["draws", "many"] (sp__law_take T)) (kG : PySem.W.keepIn K (.ref g) = true) (bG : Binds K gd ["draws", "many"] []) (mG : mg "_law_take" = some (.ref g))
    (GC : FnOk P w K mg base CX0 k gc gcd ["draws", "registers", "depth"] (sp__law_condition K T 3)) (kC : PySem.W.keepIn K (.ref gc) = true) (bC : Binds K gcd ["draws", "registers", "depth"] []) (mC : mg "_law_condition" = some (.ref gc))
    (GM : FnOk P w K mg base CX0 k gm gmd ["draws", "registers"] (sp__law_moves K T)) (kM : PySem.W.keepIn K (.ref gm) = true) (bM : Binds K gmd ["draws", "registers"] []) (mM : mg "_law_moves" = some (.ref gm))
    (GS : FnOk P w K mg base CX0 k gs gsd ["draws", "registers"] (sp__law_says K T)) (kS : PySem.W.keepIn K (.ref gs) = true) (bS : Binds K gsd ["draws", "registers"] []) (mS : mg "_law_says" = some (.ref gs)) :
    FnOk P w K mg base CX0 (k + 1) f fd ["draws", "registers", "standings"] (sp__law_cases K T) := by
  refine F.ok sc__law_cases (fun vs H Q E h => ?_) (fun cdv A outer s H vs Q E hr h => ?_)
  · obtain ⟨dr, r, S, rfl, _⟩ := h
    rfl
  obtain ⟨dr, r, S, rfl, hr0, hS, wd, hd, q⟩ := h
  refine ⟨_, C8.pss_cut (ps_set (i := 3) sc__law_cases.nd rfl (.inl rfl) (pe_ix ix_list (pe_lst (pa_cons pe_int (pa_cons pe_int pa_nil))) (pe_callTy call_int1 (by rfl) mi (by decide +kernel) (pa_cons (pe_cmpR op_gt (pv 2) pe_int (nomark _)) pa_nil)) (fun _ _ => rfl)))
    (pss_cons (ps_set (i := 4) sc__law_cases.nd rfl (.inl rfl) (pe_lst pa_nil))
    (pss_cons (ps_for PassesOwn.never rfl (pi_range1 rfl mr (pa_cons (pe_ix ix_list (pe_lst (pa_cons pe_int (pa_cons pe_int (pa_cons pe_int (pa_cons pe_int (pa_cons pe_int (pa_cons pe_int (pa_cons pe_int pa_nil))))))))
        (pe_call G hr (by rfl) mG kG bG .nil pass0 (pa_cons (pv 0) (pa_cons pe_int pa_nil))) (fun _ _ => rfl)) pa_nil)) (pg_name (i := 5) sc__law_cases.nd rfl (.inl rfl))
      (pss_cons (ps_set (i := 6) sc__law_cases.nd rfl (.inl rfl) (pe_call GC hr (by rfl) mC kC bC .nil pass0 (pa_cons (pv 0) (pa_cons (pv 1) (pa_cons (pv 3) pa_nil)))))
      (pss_cons (ps_set (i := 7) sc__law_cases.nd rfl (.inl rfl) (pe_call GM hr (by rfl) mM kM bM .nil pass0 (pa_cons (pv 0) (pa_cons (pv 1) pa_nil))))
      (pss_one (ps_expr (pe_bm PySem.F.plainAttrs_list PySem.F.slot_list_append PySem.F.type_list_append mt_append (pv 4) (pa_cons (pe_tup (pa_cons (pv 6) (pa_cons (pv 7)
        (pa_cons (pe_call GS hr (by rfl) mS kS bS .nil pass0 (pa_cons (pv 0) (pa_cons (pv 1) pa_nil))) (pa_cons (pe_call G hr (by rfl) mG kG bG .nil pass0 (pa_cons (pv 0) (pa_cons (pv 2) pa_nil))) pa_nil))))) pa_nil)))))))
    (pss_one (ps_ret (pe_callTy call_tuple_of (by rfl) mt (by decide +kernel) (pa_cons (pv 4) pa_nil)))))), ?_⟩
  refine ⟨fun σ' H' => ∃ d : Int, σ' = [some (.ref dr), some (.int r), some (.int S), some (.int d), none, none, none, none] ∧ 0 ≤ d ∧ d ≤ 2 ∧ Ex T [dr] H H' ∧ Dr H' dr, ?_, ?_⟩
  · refine ⟨by show 2 ≤ sizeLine; decide, fun p np => ?_⟩
    refine ⟨_, rfl, _, _, rfl, rfl, .inr ⟨_, rfl, ?_⟩⟩
    by_cases c : (10 : Int) < S
    · rw [decide_eq_true c, if_pos rfl]
      exact ⟨p, _, _, _, rfl, rfl, SqL.of upd_same, rfl, 0, rfl, by omega, by omega, Ex.new np, hd.new np⟩
    · rw [decide_eq_false c, if_neg Bool.false_ne_true]
      exact ⟨p, _, _, _, rfl, rfl, SqL.of upd_same, rfl, 2, rfl, by omega, by omega, Ex.new np, hd.new np⟩
  rintro σ' H0 ⟨d, rfl, d0, d2, ex0, hd0⟩
  refine ⟨Nat.zero_le _, fun F0 nF => ?_⟩
  have free : H F0 = none := ex0.free nF
  have neF : F0 ≠ dr := hd0.ne nF
  have cl0 : Col K T [dr] F0 H (upd H0 F0 (.lst [])) [] := Col.start ex0 nF
  refine ⟨by show 7 ≤ sizeLine; decide, fun p np => ⟨_, rfl, dr, 7, rfl, by decide, (hd0.new nF).new np, fun y H1 y0 y1 ex1 hd1 => ?_⟩⟩
  obtain ⟨v, hv, hat⟩ := menu_at (xs := ([1, 1, 2, 2, 3, 4, 0] : List Int).map V.int) y0 y1
  obtain ⟨z, hz, rfl⟩ := List.mem_map.mp hv
  simp only [List.mem_cons, List.not_mem_nil, or_false] at hz
  have z0 : 0 ≤ z := by omega
  have z8 : z ≤ 8 := by omega
  have exP : Ex T [dr] (upd H0 F0 (.lst [])) H1 := (Ex.new np).trans ex1
  refine ⟨p, _, _, _, rfl, rfl, SqL.of (ex1.lst (by simpa using (hd0.new nF).ne np) upd_same), hat, z, rfl, by omega, by omega, ?_⟩
  refine for_range (lo := 0) (n := z.toNat) (fun i σ' H' => (∃ y5 y6 y7, σ' = [some (.ref dr), some (.int r), some (.int S), some (.int d), some (.ref F0), y5, y6, y7]) ∧ Dr H' dr ∧ ∃ cs : List Case, Col K T [dr] F0 H H' (cs.map encCase) ∧ cs.length = i ∧ ∀ c ∈ cs, okCase r S 3 c) ?_ ?_ ?_
  · exact ⟨⟨_, _, _, rfl⟩, hd1, [], cl0.ext (by simpa using neF) exP, rfl, fun s hs => by cases hs⟩
  · rintro i σ' H' hi ⟨⟨y5, y6, y7, rfl⟩, hd', cs, cl, hl, hcs⟩
    have wd' : Wd T H' := cl.1.wd wd
    refine ⟨_, rfl, _, rfl, _, rfl, dr, r, 2, d, rfl, rfl, by omega, wd', hd', fun vc Ha c atc okc exa hda => ?_⟩
    refine ⟨_, rfl, _, rfl, dr, r, rfl, hr0, exa.wd wd', hda, fun vm Hb mv atm lm okm exb hdb => ?_⟩
    have exab := exa.trans exb
    obtain ⟨xs0, hF0⟩ := (show ∃ xs0, Hb F0 = some (.lst xs0) from let ⟨_, xs, h, _⟩ := cl; ⟨xs, exab.lst (by simpa using neF) h⟩)
    refine ⟨_, rfl, .inl ⟨rfl, _, .inl (.inl hF0)⟩, _, rfl, _, rfl, _, rfl, _, rfl, dr, r, rfl, exab.wd wd', hdb, fun vs' Hc sy ats lsy oks exc hdc => ?_⟩
    refine ⟨_, rfl, _, rfl, dr, S, rfl, by omega, hdc, fun nx He n0 n1 exe hde => ⟨by show 4 ≤ sizeLine; decide, fun l nl => ?_⟩⟩
    have exl : Ex T [dr] He (upd He l (.tup [vc, vm, vs', .int nx])) := Ex.new nl
    have enx : nx = ((nx.toNat : Nat) : Int) := by omega
    obtain ⟨acc, k1, k2, k3⟩ := cl.put free (by simpa using neF) wd (((exab.trans exc).trans exe).trans exl) (d := encCase ⟨c, mv, sy, nx.toNat⟩) (x := .ref l)
      (At.laid nl (Ats.mk (((atc.ext exb).ext exc).ext exe) (Ats.mk ((atm.ext exc).ext exe) (Ats.mk (ats.ext exe) (Ats.mk (at_int.mpr (by rw [← enx])) Ats.mk_nil))))) (by rw [List.length_map]; omega)
    refine ⟨F0, _, _, rfl, rfl, k1, k2, ⟨_, _, _, rfl⟩, (hde.new nl).put neF.symm, cs ++ [⟨c, mv, sy, nx.toNat⟩], ?_, by rw [List.length_append, hl]; rfl, ?_⟩
    · rw [List.map_append]
      exact k3
    · intro s hs
      rcases List.mem_append.mp hs with h | h
      · exact hcs s h
      · obtain rfl := List.mem_singleton.mp h
        exact ⟨okc, lm, okm, oks, lsy, by show nx.toNat < S; omega⟩
  · rintro σ' H' ⟨⟨y5, y6, y7, rfl⟩, hd', cs, ⟨ex, xs, hF, ats⟩, hl, hcs⟩
    refine ⟨_, rfl, F0, _, rfl, .inl ⟨SqL.of hF, fun l nl => ?_⟩⟩
    exact q _ _ cs (At.laid nl ats) ⟨by omega, hcs⟩ (ex.trans (Ex.new nl)) (hd'.new nl)

abbrev N__law_machine : List Str := ["draws", "tags", "registers", "standings", "steps", "k", "tag"]
theorem sc__law_machine : FnScope N__law_machine ["draws", "tags", "registers", "standings"] (defScope s__law_machine) := ⟨rfl, rfl, rfl, by decide +kernel, rfl, by decide +kernel, by decide +kernel⟩
def sp__law_machine (K : PySem.W.Frag) (T : List Addr) : Sp := fun vs H Q _ => ∃ (dr : Addr) (t r S : Nat), vs = [.ref dr, .int t, .int r, .int S] ∧ 1 ≤ t ∧ t ≤ 1000 ∧ r ≤ 1000 ∧ 0 < S ∧ S ≤ 1000 ∧ Wd T H ∧ Dr H dr ∧
  ∀ v H' (m : M), At K H' v (encM m) → okM 3 m → Ex T [dr] H H' → Dr H' dr → Q v H'
theorem ok__law_machine {f g : Addr} {fd gd : FuncData} {k : Nat} {T : List Addr} (F : Fun K "_law_machine" "_law_machine" s__law_machine f fd) (mr : mg "range" = none) (mt : mg "tuple" = none)
    (G : FnOk P w K mg base CX0 k g gd ["draws", "registers", "standings"] (sp__law_cases K T)) (kG : PySem.W.keepIn K (.ref g) = true) (bG : Binds K gd ["draws", "registers", "standings"] []) (mG : mg "_law_cases" = some (.ref g)) :
    FnOk P w K mg base CX0 (k + 1) f fd ["draws", "tags", "registers", "standings"] (sp__law_machine K T) := by
  refine F.ok sc__law_machine (fun vs H Q E h => ?_) (fun cdv A outer s H vs Q E hr h => ?_)
  · obtain ⟨dr, t, r, S, rfl, _⟩ := h
    rfl
  obtain ⟨dr, t, r, S, rfl, ht1, ht, hr0, hS0, hS, wd, hd, q⟩ := h
  refine ⟨_, pss_cons (ps_set (i := 4) sc__law_machine.nd rfl (.inl rfl) (pe_lst pa_nil))
    (pss_cons (ps_for PassesOwn.never rfl (pi_range1 rfl mr (pa_cons (pv 3) pa_nil)) (pg_name (i := 5) sc__law_machine.nd rfl (.inl rfl))
      (pss_one (ps_expr (pe_bm PySem.F.plainAttrs_list PySem.F.slot_list_append PySem.F.type_list_append mt_append (pv 4) (pa_cons (pe_callTy call_tuple_of (by rfl) mt (by decide +kernel) (pa_cons
        (pe_lc (own := [("tag", 6)]) (g := gName 6) (tt := tYes) rfl sc__law_machine.nd (pi_range1 rfl mr (pa_cons (pv 1) pa_nil)) (blkOk_by (N := N__law_machine) (sc := defScope s__law_machine) (by decide +kernel))
          (fun _ _ _ _ _ => pg_name (i := 6) sc__law_machine.nd rfl (.inl rfl)) (fun _ _ _ _ _ => pts_nil)
          (fun _ _ _ _ _ => pe_call G hr (by rfl) mG kG bG .nil pass0 (pa_cons (pv 0) (pa_cons (pv 2) (pa_cons (pv 3) pa_nil))))) pa_nil)) pa_nil)))))
    (pss_one (ps_ret (pe_tup (pa_cons (pv 1) (pa_cons (pv 2) (pa_cons (pe_callTy call_tuple_of (by rfl) mt (by decide +kernel) (pa_cons (pv 4) pa_nil)) pa_nil))))))), ?_⟩
  refine ⟨Nat.zero_le _, fun F0 nF => ?_⟩
  have neF : F0 ≠ dr := hd.ne nF
  refine ⟨_, rfl, _, rfl, by omega, by omega, for_range (lo := 0) (n := S) (fun i σ' H' => (∃ y5, σ' = [some (.ref dr), some (.int t), some (.int r), some (.int S), some (.ref F0), y5, none]) ∧ Dr H' dr ∧ ∃ ss : List (List (List Case)), Col K T [dr] F0 H H' (ss.map encSt) ∧ ss.length = i ∧ ∀ s ∈ ss, s.length = t ∧ ∀ cs ∈ s, casesOk r S 3 cs) ?_ ?_ ?_⟩
  · exact ⟨⟨_, rfl⟩, hd.new nF, [], Col.start Ex.refl nF, rfl, fun s hs => by cases hs⟩
  · rintro i σ' H' hi ⟨⟨y5, rfl⟩, hd', ss, cl, hl, hss⟩
    have wd' : Wd T H' := cl.1.wd wd
    obtain ⟨xs0, hF0⟩ := (show ∃ xs0, H' F0 = some (.lst xs0) from let ⟨_, xs, h, _⟩ := cl; ⟨xs, h⟩)
    refine ⟨_, rfl, .inl ⟨rfl, _, .inl (.inl hF0)⟩, _, rfl, _, rfl, by omega, by omega, fun D nD => lc_range (lo := 0) (n := t) (fun j H5 => Dr H5 dr ∧ ∃ s : List (List Case), Col K T [dr] D H' H5 (s.map encCases) ∧ s.length = j ∧ ∀ cs ∈ s, casesOk r S 3 cs) ⟨hd'.new nD, [], Col.start Ex.refl nD, rfl, fun p hp => by cases hp⟩ ?_ ?_⟩
    · rintro j H5 hj ⟨hd5, s, cl5, hl5, hs5⟩
      refine ⟨wipe1, yesIf ⟨_, rfl, _, rfl, _, rfl, dr, r, S, rfl, hr0, hS0, cl5.1.wd wd', hd5, fun v H6 cs at6 ok6 ex6 hd6 => ?_⟩⟩
      obtain ⟨acc, k1, k2, k3⟩ := cl5.put nD (by simpa using hd'.ne nD) wd' ex6 at6 (by rw [List.length_map]; omega)
      refine ⟨acc, k1, k2, hd6.put (hd'.ne nD).symm, s ++ [cs], ?_, by rw [List.length_append, hl5]; rfl, ?_⟩
      · rw [List.map_append]
        exact k3
      · intro c hc
        rcases List.mem_append.mp hc with h | h
        · exact hs5 c h
        · obtain rfl := List.mem_singleton.mp h
          exact ok6
    · rintro H5 ⟨hd5, s, ⟨ex, xs, hD, ats⟩, hl5, hs5⟩
      refine ⟨D, _, rfl, .inl ⟨SqL.of hD, fun l nl => ?_⟩⟩
      obtain ⟨acc, k1, k2, k3⟩ := cl.put nF (by simpa using neF) wd (ex.trans (Ex.new nl)) (d := encSt s) (x := .ref l) (At.laid nl ats) (by rw [List.length_map]; omega)
      refine ⟨F0, _, _, rfl, rfl, k1, k2, ⟨_, rfl⟩, (hd5.new nl).put neF.symm, ss ++ [s], ?_, by rw [List.length_append, hl]; rfl, ?_⟩
      · rw [List.map_append]
        exact k3
      · intro c hc
        rcases List.mem_append.mp hc with h | h
        · exact hss c h
        · obtain rfl := List.mem_singleton.mp h
          exact ⟨hl5, hs5⟩
  · rintro σ' H' ⟨⟨y5, rfl⟩, hd', ss, ⟨ex, xs, hF, ats⟩, hl, hss⟩
    refine ⟨_, rfl, _, rfl, _, rfl, F0, _, rfl, .inl ⟨SqL.of hF, fun l nl => ⟨by show 3 ≤ sizeLine; decide, fun l2 nl2 => ?_⟩⟩⟩
    refine q _ _ ⟨t, r, ss⟩ (At.laid nl2 (Ats.mk (at_int.mpr rfl) (Ats.mk (at_int.mpr rfl) (Ats.mk (At.laid nl ats) Ats.mk_nil)))) ?_ ((ex.trans (Ex.new nl)).trans (Ex.new nl2)) ((hd'.new nl).new nl2)
    exact ⟨ht1, ht, hr0, by show 0 < ss.length; omega, by show ss.length ≤ 1000; omega, fun s hs => (hss s hs).1, fun s hs cs hcs => by show cs.length ≤ 1000 ∧ ∀ c ∈ cs, okCase r ss.length 3 c; rw [hl]; exact (hss s hs).2 cs hcs⟩

abbrev N__law_any_machine : List Str := ["draws", "sizes", "large"]
theorem sc__law_any_machine : FnScope N__law_any_machine ["draws"] (defScope s__law_any_machine) := ⟨rfl, rfl, rfl, by decide +kernel, rfl, by decide +kernel, by decide +kernel⟩
def sp__law_any_machine (K : PySem.W.Frag) (T : List Addr) : Sp := fun vs H Q _ => ∃ (dr : Addr), vs = [.ref dr] ∧ Wd T H ∧ Dr H dr ∧
  ∀ v H' (m : M), At K H' v (encM m) → okM 3 m → Ex T [dr] H H' → Dr H' dr → Q v H'
theorem ok__law_any_machine {f g gm : Addr} {fd gd gmd : FuncData} {k : Nat} {T : List Addr} (F : Fun K "_law_any_machine" "_law_any_machine" s__law_any_machine f fd) (mm : mg "min" = none)
    (G : FnOk P w K mg base CX0 k g gd ["draws", "many"] (sp__law_take T)) (kG : PySem.W.keepIn K (.ref g) = true) (bG : Binds K gd ["draws", "many"] []) (mG : mg "_law_take" = some (.ref g))
    (GM : FnOk P w K mg base CX0 k gm gmd ["draws", "tags", "registers", "standings"] (sp__law_machine K T)) (kM : PySem.W.keepIn K (.ref gm) = true) (bM : Binds K gmd ["draws", "tags", "registers", "standings"] []) (mM : mg "_law_machine" = some (.ref gm)) :
    FnOk P w K mg base CX0 (k + 1) f fd ["draws"] (sp__law_any_machine K T) := by
  refine F.ok sc__law_any_machine (fun vs H Q E h => ?_) (fun cdv A outer s H vs Q E hr h => ?_)
  · obtain ⟨dr, rfl, _⟩ := h
    rfl
  obtain ⟨dr, rfl, wd, hd, q⟩ := h
  refine ⟨_, C8.pss_cut (ps_set (i := 1) sc__law_any_machine.nd rfl (.inl rfl) (pe_lst (pa_cons (pe_op op_add pe_int (pe_call G hr (by rfl) mG kG bG .nil pass0 (pa_cons (pv 0) (pa_cons pe_int pa_nil)))) (pa_cons (pe_call G hr (by rfl) mG kG bG .nil pass0 (pa_cons (pv 0) (pa_cons pe_int pa_nil)))
        (pa_cons (pe_op op_add pe_int (pe_call G hr (by rfl) mG kG bG .nil pass0 (pa_cons (pv 0) (pa_cons pe_int pa_nil)))) pa_nil)))))
    (C8.pss_cut (ps_set (i := 2) sc__law_any_machine.nd rfl (.inl rfl) (pe_call G hr (by rfl) mG kG bG .nil pass0 (pa_cons (pv 0) (pa_cons pe_int pa_nil))))
    (C8.pss_cut (ps_if (pt_cmpR op_lt (pv 2) pe_int (nomark _)) (pss_one (ps_set (i := 1) sc__law_any_machine.nd rfl (.inl rfl) (pe_ix ix_list (pe_lst (pa_cons (pe_lst (pa_cons pe_int (pa_cons pe_int (pa_cons pe_int pa_nil)))) (pa_cons (pe_lst (pa_cons pe_int (pa_cons pe_int (pa_cons pe_int pa_nil))))
        (pa_cons (pe_lst (pa_cons pe_int (pa_cons (pe_callB (call_min2 rfl) (by rfl) mm boot_min (pa_cons (pe_ix ix_list (pv 1) pe_int (fun _ _ => rfl)) (pa_cons pe_int pa_nil))) (pa_cons pe_int pa_nil)))) pa_nil)))) (pv 2) (fun _ _ => rfl)))) pss_nil)
    (pss_one (ps_ret (pe_call GM hr (by rfl) mM kM bM .nil pass0 (pa_cons (pv 0) (pa_cons (pe_ix ix_list (pv 1) pe_int (fun _ _ => rfl)) (pa_cons (pe_ix ix_list (pv 1) pe_int (fun _ _ => rfl)) (pa_cons (pe_ix ix_list (pv 1) pe_int (fun _ _ => rfl)) pa_nil))))))))), ?_⟩
  refine ⟨fun σ' H' => ∃ l t r S, σ' = [some (.ref dr), some (.ref l), none] ∧ H' l = some (.lst [.int t, .int r, .int S]) ∧ l ≠ dr ∧ 1 ≤ t ∧ t ≤ 1000 ∧ 0 ≤ r ∧ r ≤ 1000 ∧ 1 ≤ S ∧ S ≤ 1000 ∧ Ex T [dr] H H' ∧ Dr H' dr, ?_, ?_⟩
  · refine ⟨_, rfl, dr, 3, rfl, by decide, hd, fun x H1 x0 x1 ex1 hd1 => ⟨_, _, rfl, rfl, ?_⟩⟩
    refine ⟨_, rfl, dr, 5, rfl, by decide, hd1, fun y H2 y0 y1 ex2 hd2 => ?_⟩
    refine ⟨_, rfl, dr, 4, rfl, by decide, hd2, fun z H3 z0 z1 ex3 hd3 => ⟨_, _, rfl, rfl, ?_⟩⟩
    refine ⟨by show 3 ≤ sizeLine; decide, fun p np => ?_⟩
    exact ⟨p, 1 + x, y, 1 + z, rfl, upd_same, hd3.ne np, by omega, by omega, by omega, by omega, by omega, by omega, ((ex1.trans ex2).trans ex3).trans (Ex.new np), hd3.new np⟩
  rintro σ1 H1 ⟨l, t, r, S, rfl, hl, nl, t0, t1, r0, r1, S0, S1, ex1, hd1⟩
  refine ⟨fun σ' H' => ∃ l g t r S, σ' = [some (.ref dr), some (.ref l), some (.int g)] ∧ H' l = some (.lst [.int t, .int r, .int S]) ∧ l ≠ dr ∧ 0 ≤ g ∧ 1 ≤ t ∧ t ≤ 1000 ∧ 0 ≤ r ∧ r ≤ 1000 ∧ 1 ≤ S ∧ S ≤ 1000 ∧ Ex T [dr] H H' ∧ Dr H' dr, ?_, ?_⟩
  · exact ⟨_, rfl, dr, 10, rfl, by decide, hd1, fun x H2 x0 x1 ex2 hd2 => ⟨l, x, t, r, S, rfl, ex2.lst (by simpa using nl) hl, nl, x0, t0, t1, r0, r1, S0, S1, ex1.trans ex2, hd2⟩⟩
  clear hl nl t0 t1 r0 r1 S0 S1 ex1 hd1
  rintro σ2 H2 ⟨l, lg, t, r, S, rfl, hl, nl, g0, t0, t1, r0, r1, S0, S1, ex1, hd1⟩
  refine ⟨fun σ' H' => ∃ l g t r S, σ' = [some (.ref dr), some (.ref l), some (.int g)] ∧ H' l = some (.lst [.int t, .int r, .int S]) ∧ 1 ≤ t ∧ t ≤ 1000 ∧ 0 ≤ r ∧ r ≤ 1000 ∧ 1 ≤ S ∧ S ≤ 1000 ∧ Ex T [dr] H H' ∧ Dr H' dr, ?_, ?_⟩
  · refine ⟨_, rfl, _, _, rfl, rfl, _, rfl, ite2 (fun c => ?_) (fun c => ?_)⟩
    · have c3 : lg < 3 := of_decide_eq_true c
      refine ⟨by show 3 ≤ sizeLine; decide, fun p1 n1 => ⟨by show 3 ≤ sizeLine; decide, fun p2 n2 => ?_⟩⟩
      have hl2 : (upd (upd H2 p1 (.lst [.int 6, .int 6, .int 2])) p2 (.lst [.int 3, .int 4, .int 6])) l = some (.lst [.int t, .int r, .int S]) := by
        have e1 : (upd H2 p1 (.lst [.int 6, .int 6, .int 2])) l = some (.lst [.int t, .int r, .int S]) := by rw [upd_ne (ne_of_none hl n1)]; exact hl
        rw [upd_ne (ne_of_none e1 n2)]
        exact e1
      refine ⟨_, rfl, l, _, _, _, rfl, rfl, SqL.of hl2, rfl, r, 2, rfl, by show 3 ≤ sizeLine; decide, fun p3 n3 => ⟨by show 3 ≤ sizeLine; decide, fun p4 n4 => ?_⟩⟩
      have ea : Ex T [] H2 (upd H2 p1 (.lst [.int 6, .int 6, .int 2])) := Ex.new n1
      have eb : Ex T [] _ (upd (upd H2 p1 (.lst [.int 6, .int 6, .int 2])) p2 (.lst [.int 3, .int 4, .int 6])) := Ex.new n2
      have ec : Ex T [] _ _ := Ex.new (T := T) (ms := []) (o := .lst [.int 1, .int (if 2 < r then 2 else r), .int 40]) n3
      have ed : Ex T [] _ _ := Ex.new (T := T) (ms := []) (o := .lst [.ref p1, .ref p2, .ref p3]) n4
      have hdn := (((hd1.new (o := .lst [.int 6, .int 6, .int 2]) n1).new (o := .lst [.int 3, .int 4, .int 6]) n2).new (o := .lst [.int 1, .int (if 2 < r then 2 else r), .int 40]) n3).new (o := .lst [.ref p1, .ref p2, .ref p3]) n4
      have eall : Ex T [dr] H _ := ex1.trans ((((ea.trans eb).trans ec).trans ed).nil)
      have yc : lg = 0 ∨ lg = 1 ∨ lg = 2 := by omega
      rcases yc with rfl | rfl | rfl
      · exact ⟨_, rfl, p4, _, _, .ref p1, rfl, rfl, SqL.of upd_same, rfl, p1, 0, 6, 6, 2, rfl, ((eb.trans ec).trans ed).lst (by simp) upd_same, by omega, by omega, by omega, by omega, by omega, by omega, eall, hdn⟩
      · exact ⟨_, rfl, p4, _, _, .ref p2, rfl, rfl, SqL.of upd_same, rfl, p2, 1, 3, 4, 6, rfl, (ec.trans ed).lst (by simp) upd_same, by omega, by omega, by omega, by omega, by omega, by omega, eall, hdn⟩
      · exact ⟨_, rfl, p4, _, _, .ref p3, rfl, rfl, SqL.of upd_same, rfl, p3, 2, 1, _, 40, rfl, ed.lst (by simp) upd_same, by omega, by omega, by split <;> omega, by split <;> omega, by omega, by omega, eall, hdn⟩
    · exact ⟨l, lg, t, r, S, rfl, hl, t0, t1, r0, r1, S0, S1, ex1, hd1⟩
  clear hl nl t0 t1 r0 r1 S0 S1 ex1 hd1
  rintro σ3 H3 ⟨l, lg, t, r, S, rfl, hl, t0, t1, r0, r1, S0, S1, ex1, hd1⟩
  obtain ⟨t', rfl⟩ := Int.eq_ofNat_of_zero_le (show 0 ≤ t by omega)
  obtain ⟨r', rfl⟩ := Int.eq_ofNat_of_zero_le r0
  obtain ⟨S', rfl⟩ := Int.eq_ofNat_of_zero_le (show 0 ≤ S by omega)
  refine ⟨_, rfl, _, rfl, l, _, _, _, rfl, rfl, SqL.of hl, rfl, _, rfl, l, _, _, _, rfl, rfl, SqL.of hl, rfl, _, rfl, l, _, _, _, rfl, rfl, SqL.of hl, rfl, dr, t', r', S', rfl, by omega, by omega, by omega, by omega, by omega, ex1.wd wd, hd1, fun v H4 m at4 ok4 ex4 hd4 => q v H4 m at4 ok4 (ex1.trans ex4) hd4⟩

abbrev N__law_error_name : List Str := ["e", "kinds", "names", "found", "k"]
theorem sc__law_error_name : FnScope N__law_error_name ["e"] (defScope s__law_error_name) := ⟨rfl, rfl, rfl, by decide +kernel, rfl, by decide +kernel, by decide +kernel⟩
/-- the names, in the order in which the law asks -/
def errNames : List Str := ["InvalidMachine", "BadText", "NoMachine", "NothingToUndo", "NothingToRedo"]
theorem ok__law_error_name {f D : Addr} {fd : FuncData} {k j : Nat} {T : List Addr} {nm : Str} (F : Fun K "_law_error_name" "_law_error_name" s__law_error_name f fd) (XC : ExcC K D) (xV : PySem.W.kitOne K (.ref D) (.type "ValueError") = some true) (hj : errNames[j]? = some nm) (m_isinstance : mg "isinstance" = none) (m_ValueError : mg "ValueError" = none) (m_range : mg "range" = none) (m_int : mg "int" = none) (m_len : mg "len" = none)
    {C_InvalidMachine : Addr} (m_InvalidMachine : mg "InvalidMachine" = some (.ref C_InvalidMachine)) (x_InvalidMachine : PySem.W.kitOne K (.ref D) (.ref C_InvalidMachine) = some (decide (j = 0)))
    {C_BadText : Addr} (m_BadText : mg "BadText" = some (.ref C_BadText)) (x_BadText : PySem.W.kitOne K (.ref D) (.ref C_BadText) = some (decide (j = 1)))
    {C_NoMachine : Addr} (m_NoMachine : mg "NoMachine" = some (.ref C_NoMachine)) (x_NoMachine : PySem.W.kitOne K (.ref D) (.ref C_NoMachine) = some (decide (j = 2)))
    {C_NothingToUndo : Addr} (m_NothingToUndo : mg "NothingToUndo" = some (.ref C_NothingToUndo)) (x_NothingToUndo : PySem.W.kitOne K (.ref D) (.ref C_NothingToUndo) = some (decide (j = 3)))
    {C_NothingToRedo : Addr} (m_NothingToRedo : mg "NothingToRedo" = some (.ref C_NothingToRedo)) (x_NothingToRedo : PySem.W.kitOne K (.ref D) (.ref C_NothingToRedo) = some (decide (j = 4))) :
    L2H.FnE P w K mg base (k + 1) f fd "e" D T (.str nm) := by
  refine L2H.Fun.okE F sc__law_error_name (fun cdv A outer s H Q E p hot hz hr hT q => ?_)
  have hf : ∃ vs, p.2.data = .fields vs := let ⟨_, vs, e, _⟩ := hot; ⟨vs, e⟩
  refine ⟨_, (pss_cons (ps_if (pt_not (pt_val (pe_callB (L2H.call_isP XC hz hf List.mem_cons_self) (by rfl) m_isinstance (by decide +kernel) (pa_cons (pv 0) (pa_cons (pe_bltn (v := .ty "ValueError") (by rfl) m_ValueError (by decide +kernel) rfl) pa_nil)))))
      (pss_one (ps_ret pe_str))
      pss_nil)
    (pss_cons (ps_set (i := 1) sc__law_error_name.nd rfl (.inr rfl) (pe_lst (pa_cons (pe_callB (L2H.call_isP XC hz hf List.mem_cons_self) (by rfl) m_isinstance (by decide +kernel) (pa_cons (pv 0) (pa_cons (pe_glob (v := .ref C_InvalidMachine) (by rfl) m_InvalidMachine rfl) pa_nil))) (pa_cons (pe_callB (L2H.call_isP XC hz hf List.mem_cons_self) (by rfl) m_isinstance (by decide +kernel) (pa_cons (pv 0) (pa_cons (pe_glob (v := .ref C_BadText) (by rfl) m_BadText rfl) pa_nil))) (pa_cons (pe_callB (L2H.call_isP XC hz hf List.mem_cons_self) (by rfl) m_isinstance (by decide +kernel) (pa_cons (pv 0) (pa_cons (pe_glob (v := .ref C_NoMachine) (by rfl) m_NoMachine rfl) pa_nil))) pa_nil)))))
    (pss_cons (ps_set (i := 1) sc__law_error_name.nd rfl (.inr rfl) (pe_op op_cat (pv 1) (pe_lst (pa_cons (pe_callB (L2H.call_isP XC hz hf List.mem_cons_self) (by rfl) m_isinstance (by decide +kernel) (pa_cons (pv 0) (pa_cons (pe_glob (v := .ref C_NothingToUndo) (by rfl) m_NothingToUndo rfl) pa_nil))) (pa_cons (pe_callB (L2H.call_isP XC hz hf List.mem_cons_self) (by rfl) m_isinstance (by decide +kernel) (pa_cons (pv 0) (pa_cons (pe_glob (v := .ref C_NothingToRedo) (by rfl) m_NothingToRedo rfl) pa_nil))) pa_nil)))))
    (pss_cons (ps_set (i := 2) sc__law_error_name.nd rfl (.inr rfl) (pe_lst (pa_cons pe_str (pa_cons pe_str (pa_cons pe_str (pa_cons pe_str (pa_cons pe_str pa_nil)))))))
    (pss_cons (L2H.ps_setLcH (i := 3) (own := [("k", 4)]) (g := (gName 4)) (tt := _) (L2H.hot_cxE hot) sc__law_error_name.nd rfl rfl (sw_true rfl rfl rfl (by decide +kernel)) (L2H.pi_range1H rfl m_range (pa_cons pe_int pa_nil)) (blkOk_by (N := N__law_error_name) (sc := defScope s__law_error_name) (by decide +kernel))
        (fun _ _ _ _ _ => (pg_name (i := 4) sc__law_error_name.nd rfl (.inl rfl))) (fun _ _ _ _ _ => pts_one (pt_val (pe_ix (r := rIxL K) ix_list (pv 1) (pv 4) (fun _ _ => rfl))))
        (fun _ _ _ _ _ => (pe_ix (r := rIxL K) ix_list (pv 2) (pv 4) (fun _ _ => rfl))))
    (pss_one (ps_ret (pe_join pe_str (pe_op op_cat (pv 3) (pe_op op_rep (pe_lst (pa_cons pe_str pa_nil)) (pe_callTy call_int1 (by rfl) m_int (by decide +kernel) (pa_cons (pe_cmpR op_eq (pe_callB call_len_seq (by rfl) m_len PySem.boot_len (pa_cons (pv 3) pa_nil)) pe_int (nomark _)) pa_nil)))))))))))), ?_⟩
  refine ⟨_, rfl, _, _, _, rfl, fun u r => r, xV, _, rfl, iteF ?_⟩
  refine ⟨_, rfl, _, _, _, rfl, fun u r => r, x_InvalidMachine, _, rfl, _, _, _, rfl, fun u r => r, x_BadText, _, rfl, _, _, _, rfl, fun u r => r, x_NoMachine, by show 3 ≤ sizeLine; decide, fun p1 n1 => ?_⟩
  have x1 := Ex.new (T := T) (ms := []) (o := HO.lst [V.bl (decide (j = 0)), V.bl (decide (j = 1)), V.bl (decide (j = 2))]) n1
  have g1 : (upd H p1 (.lst [V.bl (decide (j = 0)), V.bl (decide (j = 1)), V.bl (decide (j = 2))])) p1 = some (.lst [V.bl (decide (j = 0)), V.bl (decide (j = 1)), V.bl (decide (j = 2))]) := upd_same
  generalize upd H p1 (.lst [V.bl (decide (j = 0)), V.bl (decide (j = 1)), V.bl (decide (j = 2))]) = H1 at *
  refine ⟨_, rfl, _, rfl, _, _, _, rfl, fun u r => r, x_NothingToUndo, _, rfl, _, _, _, rfl, fun u r => r, x_NothingToRedo, by show 2 ≤ sizeLine; decide, fun p2 n2 => ?_⟩
  have x2 := Ex.new (T := T) (ms := []) (o := HO.lst [V.bl (decide (j = 3)), V.bl (decide (j = 4))]) n2
  refine ⟨p1, p2, _, _, rfl, rfl, x2.lst (by simp) g1, upd_same, by show 3 + 2 ≤ sizeLine; decide, fun p3 n3 => ?_⟩
  have x3 := x1.trans (x2.trans (Ex.new (T := T) (ms := []) (o := HO.lst ([V.bl (decide (j = 0)), V.bl (decide (j = 1)), V.bl (decide (j = 2))] ++ [V.bl (decide (j = 3)), V.bl (decide (j = 4))])) n3))
  have g3 : ∀ X : Hp, (upd X p3 (.lst ([V.bl (decide (j = 0)), V.bl (decide (j = 1)), V.bl (decide (j = 2))] ++ [V.bl (decide (j = 3)), V.bl (decide (j = 4))]))) p3 = some (.lst ((List.range 5).map fun i => V.bl (decide (j = i)))) := fun X => upd_same
  have g3 := g3 (upd H1 p2 (.lst [V.bl (decide (j = 3)), V.bl (decide (j = 4))]))
  generalize upd (upd H1 p2 (.lst [V.bl (decide (j = 3)), V.bl (decide (j = 4))])) p3 (.lst ([V.bl (decide (j = 0)), V.bl (decide (j = 1)), V.bl (decide (j = 2))] ++ [V.bl (decide (j = 3)), V.bl (decide (j = 4))])) = H3 at *
  clear x1 x2 g1 n1 n2 n3
  refine ⟨by show 5 ≤ sizeLine; decide, fun p4 n4 => ?_⟩
  have x4 := x3.trans (Ex.new (T := T) (ms := []) (o := HO.lst [V.str "InvalidMachine", V.str "BadText", V.str "NoMachine", V.str "NothingToUndo", V.str "NothingToRedo"]) n4)
  have g34 := (Ex.new (T := T) (ms := []) (o := HO.lst [V.str "InvalidMachine", V.str "BadText", V.str "NoMachine", V.str "NothingToUndo", V.str "NothingToRedo"]) n4).lst (by simp) g3
  have g4 : ∀ X : Hp, (upd X p4 (.lst [V.str "InvalidMachine", V.str "BadText", V.str "NoMachine", V.str "NothingToUndo", V.str "NothingToRedo"])) p4 = some (.lst (errNames.map V.str)) := fun X => upd_same
  have g4 := g4 H3
  generalize upd H3 p4 (.lst [V.str "InvalidMachine", V.str "BadText", V.str "NoMachine", V.str "NothingToUndo", V.str "NothingToRedo"]) = H4 at *
  clear x3 g3 n4
  have jl : j < 5 := (List.getElem?_eq_some_iff.mp hj).1
  have hk : ∀ i, i < 5 → ((List.range 5).map fun i => V.bl (decide (j = i)))[i]? = some (V.bl (decide (j = i))) := fun i hi => by
    rw [List.getElem?_map, List.getElem?_range hi]; rfl
  refine ⟨5, rfl, by decide, by decide, fun L nL => lc_range (lo := 0) (n := 5) (fun i H' => Ex T [] H4 H' ∧ H' L = some (.lst (if j < i then [V.str nm] else []))) ⟨Ex.new nL, by rw [upd_same]; rfl⟩ ?_ ?_⟩
  · rintro i H' hi ⟨ex, hL⟩
    refine ⟨wipe1, _, rfl, _, rfl, p3, _, _, _, rfl, rfl, SqL.of (ex.lst (by simp) g34), nat_at (hk i hi), ?_⟩
    refine ⟨_, rfl, ite2 (fun c => ?_) (fun c => ?_)⟩
    · have ji : j = i := of_decide_eq_true c
      subst ji
      rw [if_neg (Nat.lt_irrefl _)] at hL
      refine ⟨_, rfl, _, rfl, p4, _, _, _, rfl, rfl, SqL.of (ex.lst (by simp) g4), nat_at (x := V.str nm) (by rw [List.getElem?_map, hj]; rfl), _, hL, by decide, ex.put nL (x4.tabs hT), ?_⟩
      rw [upd_same, if_pos (Nat.lt_succ_self _)]
      rfl
    · refine ⟨ex, ?_⟩
      rw [hL]
      have ji : ¬ j = i := fun e => c (decide_eq_true e)
      by_cases h : j < i
      · rw [if_pos h, if_pos (Nat.lt_succ_of_lt h)]
      · rw [if_neg h, if_neg (by omega)]
  rintro H5 ⟨ex5, hL⟩
  rw [if_pos jl] at hL
  refine ⟨⟨_, rfl⟩, _, rfl, by show 1 ≤ sizeLine; decide, fun p5 n5 => ?_⟩
  have x6 := Ex.new (T := T) (ms := []) (o := HO.lst [V.str "the base class"]) n5
  have hL6 := x6.lst (by simp) hL
  refine ⟨_, rfl, L, _, rfl, .inl (SqL.of hL6), rfl, .inr ⟨_, rfl, ?_⟩⟩
  rw [show decide (V.int ((([V.str nm] : List V).length : Nat) : Int) = V.int 0) = false from rfl]
  refine ⟨p5, 0, _, rfl, rfl, upd_same, by decide, by decide, by decide, fun p6 n6 => ?_⟩
  have x7 := Ex.new (T := T) (ms := []) (o := HO.lst (List.replicate (Int.toNat 0) [V.str "the base class"]).flatten) n6
  have hL7 := x7.lst (by simp) hL6
  refine ⟨L, p6, _, _, rfl, rfl, hL7, upd_same, by show 1 + 0 ≤ sizeLine; decide, fun p7 n7 => ?_⟩
  have x8 := Ex.new (T := T) (ms := []) (o := HO.lst ([V.str nm] ++ (List.replicate (Int.toNat 0) [V.str "the base class"]).flatten)) n7
  have e8 := x4.trans (ex5.trans (x6.trans (x7.trans x8)))
  have nl : nm.length ≤ 20 := by
    have h := List.mem_of_getElem? hj
    revert h
    generalize nm = z
    have all : ∀ z ∈ errNames, z.length ≤ 20 := by decide +kernel
    exact all z
  refine ⟨" ", p7, [nm], rfl, rfl, .inl (SqL.of upd_same), by show nm.length + 0 + 1 * 1 ≤ 16777216; omega, ?_⟩
  exact q _ e8

abbrev N__law_crowded : List Str := ["draws", "registers", "cases", "many", "first", "k", "one", "other", "condition"]
theorem sc__law_crowded : FnScope N__law_crowded ["draws", "registers"] (defScope s__law_crowded) := ⟨rfl, rfl, rfl, by decide +kernel, rfl, by decide +kernel, by decide +kernel⟩
def sp__law_crowded (K : PySem.W.Frag) (T : List Addr) : Sp := fun vs H Q _ => ∃ (dr : Addr) (r : Nat), vs = [.ref dr, .int r] ∧ r ≤ 1000 ∧ Wd T H ∧ Dr H dr ∧
  ∀ v H' (m : M), At K H' v (encM m) → okM 3 m → Ex T [dr] H H' → Dr H' dr → Q v H'
theorem ok__law_crowded {f g gp gm : Addr} {fd gd gpd gmd : FuncData} {k : Nat} {T : List Addr} (F : Fun K "_law_crowded" "_law_crowded" s__law_crowded f fd) (mr : mg "range" = none) (mt : mg "tuple" = none)
    (G : FnOk P w K mg base CX0 k g gd ["draws", "many"] (sp__law_take T)) (kG : PySem.W.keepIn K (.ref g) = true) (bG : Binds K gd ["draws", "many"] []) (mG : mg "_law_take" = some (.ref g))
    (GP : FnOk P w K mg base CX0 k gp gpd ["draws", "registers"] (sp__law_place T)) (kP : PySem.W.keepIn K (.ref gp) = true) (bP : Binds K gpd ["draws", "registers"] []) (mP : mg "_law_place" = some (.ref gp))
    (GM : FnOk P w K mg base CX0 k gm gmd ["draws", "registers"] (sp__law_moves K T)) (kM : PySem.W.keepIn K (.ref gm) = true) (bM : Binds K gmd ["draws", "registers"] []) (mM : mg "_law_moves" = some (.ref gm)) :
    FnOk P w K mg base CX0 (k + 1) f fd ["draws", "registers"] (sp__law_crowded K T) := by
  refine F.ok sc__law_crowded (fun vs H Q E h => ?_) (fun cdv A outer s H vs Q E hr h => ?_)
  · obtain ⟨dr, r, rfl, _⟩ := h
    rfl
  obtain ⟨dr, r, rfl, hr0, wd, hd, q⟩ := h
  refine ⟨_, pss_cons (ps_set (i := 2) sc__law_crowded.nd rfl (.inl rfl) (pe_lst pa_nil))
    (pss_cons (ps_set (i := 3) sc__law_crowded.nd rfl (.inl rfl) (pe_op op_add pe_int (pe_call G hr (by rfl) mG kG bG .nil pass0 (pa_cons (pv 0) (pa_cons pe_int pa_nil)))))
    (pss_cons (ps_set (i := 4) sc__law_crowded.nd rfl (.inl rfl) (pe_call G hr (by rfl) mG kG bG .nil pass0 (pa_cons (pv 0) (pa_cons (pv 3) pa_nil))))
    (pss_cons (ps_for PassesOwn.never rfl (pi_range1 rfl mr (pa_cons (pv 3) pa_nil)) (pg_name (i := 5) sc__law_crowded.nd rfl (.inl rfl))
      (pss_cons (ps_set (i := 6) sc__law_crowded.nd rfl (.inl rfl) (pe_call GP hr (by rfl) mP kP bP .nil pass0 (pa_cons (pv 0) (pa_cons (pv 1) pa_nil))))
      (pss_cons (ps_set (i := 7) sc__law_crowded.nd rfl (.inl rfl) (pe_call GP hr (by rfl) mP kP bP .nil pass0 (pa_cons (pv 0) (pa_cons (pv 1) pa_nil))))
      (C8.pss_cut (ps_set (i := 8) sc__law_crowded.nd rfl (.inl rfl) (pe_tup (pa_cons pe_str (pa_cons (pe_tup (pa_cons (pe_tup (pa_cons pe_str (pa_cons (pv 6) (pa_cons (pv 7) pa_nil)))) (pa_cons (pe_tup (pa_cons pe_str (pa_cons (pv 7) (pa_cons (pv 6) pa_nil)))) pa_nil))) pa_nil))))
      (C8.pss_cut (ps_if (pt_cmpR op_ge (pv 5) (pv 4) (nomark _)) (pss_one (ps_set (i := 8) sc__law_crowded.nd rfl (.inl rfl) (pe_ix ix_list (pe_lst (pa_cons (pe_tup (pa_cons pe_str (pa_cons (pv 6) (pa_cons (pv 7) pa_nil)))) (pa_cons (pe_tup (pa_cons pe_str pa_nil)) pa_nil)))
          (pe_call G hr (by rfl) mG kG bG .nil pass0 (pa_cons (pv 0) (pa_cons pe_int pa_nil))) (fun _ _ => rfl)))) pss_nil)
      (pss_one (ps_expr (pe_bm PySem.F.plainAttrs_list PySem.F.slot_list_append PySem.F.type_list_append mt_append (pv 2) (pa_cons (pe_tup (pa_cons (pv 8) (pa_cons (pe_call GM hr (by rfl) mM kM bM .nil pass0 (pa_cons (pv 0) (pa_cons (pv 1) pa_nil)))
        (pa_cons (pe_tup (pa_cons (pe_tup (pa_cons (pv 5) (pa_cons (pe_ix ix_list (pe_lst (pa_cons (pv 6) (pa_cons (pv 7) pa_nil))) (pe_call G hr (by rfl) mG kG bG .nil pass0 (pa_cons (pv 0) (pa_cons pe_int pa_nil))) (fun _ _ => rfl)) pa_nil))) pa_nil)) (pa_cons pe_int pa_nil))))) pa_nil)))))))))
    (pss_one (ps_ret (pe_tup (pa_cons pe_int (pa_cons (pv 1) (pa_cons (pe_tup (pa_cons (pe_tup (pa_cons (pe_callTy call_tuple_of (by rfl) mt (by decide +kernel) (pa_cons (pv 2) pa_nil)) pa_nil)) pa_nil)) pa_nil))))))))), ?_⟩
  refine ⟨Nat.zero_le _, fun F0 nF => ?_⟩
  have neF : F0 ≠ dr := hd.ne nF
  have cl0 : Col K T [dr] F0 H (upd H F0 (.lst [])) [] := Col.start Ex.refl nF
  refine ⟨_, rfl, dr, 55, rfl, by decide, hd.new nF, fun x Ha x0 x1 exa hda => ⟨_, _, rfl, rfl, ?_⟩⟩
  refine ⟨_, rfl, _, rfl, dr, 5 + x, rfl, by omega, hda, fun fi Hb f0 f1 exb hdb => ?_⟩
  refine ⟨_, rfl, 5 + x, rfl, by omega, by omega, for_range (lo := 0) (n := (5 + x).toNat) (fun i σ' H' => (∃ y5 y6 y7 y8, σ' = [some (.ref dr), some (.int r), some (.ref F0), some (.int (5 + x)), some (.int fi), y5, y6, y7, y8]) ∧ Dr H' dr ∧ ∃ cs : List Case, Col K T [dr] F0 H H' (cs.map encCase) ∧ cs.length = i ∧ ∀ c ∈ cs, okCase r 1 3 c) ?_ ?_ ?_⟩
  · exact ⟨⟨_, _, _, _, rfl⟩, hdb, [], cl0.ext (by simpa using neF) (exa.trans exb), rfl, fun s hs => by cases hs⟩
  · rintro i σ' H' hi ⟨⟨y5, y6, y7, y8, rfl⟩, hd', cs, cl, hl, hcs⟩
    have wd' : Wd T H' := cl.1.wd wd
    refine ⟨_, rfl, _, rfl, dr, r, rfl, hd', fun one H1 o1 ex1 hd1 => ?_⟩
    refine ⟨_, rfl, _, rfl, dr, r, rfl, hd1, fun other H2 o2 ex2 hd2 => ?_⟩
    have ex12 := ex1.trans ex2
    have e0 : ∀ (j : Nat), 0 + (j : Int) = (j : Int) := fun j => by omega
    refine ⟨fun σ' H3 => ∃ (xc : V) (c : C), σ' = [some (.ref dr), some (.int r), some (.ref F0), some (.int (5 + x)), some (.int fi), some (.int (0 + (i : Int))), some (.int one), some (.int other), some xc] ∧ At K H3 xc (encC c) ∧ okC r 3 c ∧ Ex T [dr] H' H3 ∧ Dr H3 dr, ?_, ?_⟩
    · refine ⟨_, rfl, _, rfl, by show 3 ≤ sizeLine; decide, fun p np => ?_⟩
      refine ⟨_, rfl, _, rfl, by show 3 ≤ sizeLine; decide, fun p2 np2 => ?_⟩
      refine ⟨by show 2 ≤ sizeLine; decide, fun l nl => ?_⟩
      refine ⟨by show 2 ≤ sizeLine; decide, fun l2 nl2 => ?_⟩
      have exA : Ex T [dr] (upd H2 p (.tup [.str "less", .int one, .int other])) _ := Ex.new (o := .tup [.str "less", .int other, .int one]) np2
      have hl : At K _ (.ref l) (.tup (encCs [.less one other, .less other one])) := At.laid nl (ats_c2 ((new_less np).ext exA) (new_less np2))
      exact ⟨_, _, rfl, new_all nl2 hl, okC_all (by show 2 ≤ 100000; decide) (okCs_cons (okC_less o1 o2) (okCs_cons (okC_less o2 o1) okCs_nil)), ((((ex12.trans (Ex.new np)).trans (Ex.new np2)).trans (Ex.new nl)).trans (Ex.new nl2)), ((((hd2.new np).new np2).new nl).new nl2)⟩
    rintro σ3 H3 ⟨xc, c, rfl, atc, okc, ex3, hd3⟩
    refine ⟨fun σ' H3 => ∃ (xc : V) (c : C), σ' = [some (.ref dr), some (.int r), some (.ref F0), some (.int (5 + x)), some (.int fi), some (.int (0 + (i : Int))), some (.int one), some (.int other), some xc] ∧ At K H3 xc (encC c) ∧ okC r 3 c ∧ Ex T [dr] H' H3 ∧ Dr H3 dr, ?_, ?_⟩
    · refine ⟨_, rfl, _, rfl, _, _, rfl, rfl, _, rfl, ite2 (fun c => ?_) (fun c => ?_)⟩
      · refine ⟨_, rfl, _, rfl, by show 3 ≤ sizeLine; decide, fun p np => ⟨by show 1 ≤ sizeLine; decide, fun p2 np2 => ⟨by show 2 ≤ sizeLine; decide, fun l nl => ?_⟩⟩⟩
        have hdl := ((hd3.new (o := .tup [.str "less", .int one, .int other]) np).new (o := .tup [.str "true"]) np2).new (o := .lst [.ref p, .ref p2]) nl
        have nel : l ≠ dr := ((hd3.new np).new np2).ne nl
        refine ⟨_, rfl, dr, 2, rfl, by decide, hdl, fun y H4 y0 y1 ex4 hd4 => ?_⟩
        have hl4 : H4 l = some (.lst [.ref p, .ref p2]) := ex4.lst (by simpa using nel) upd_same
        have exA : Ex T [dr] (upd H3 p (.tup [.str "less", .int one, .int other])) H4 := ((Ex.new np2).trans (Ex.new nl)).trans ex4
        have exB : Ex T [dr] (upd (upd H3 p (.tup [.str "less", .int one, .int other])) p2 (.tup [.str "true"])) H4 := (Ex.new nl).trans ex4
        have yc : y = 0 ∨ y = 1 := by omega
        rcases yc with rfl | rfl
        · exact ⟨l, _, _, _, rfl, rfl, SqL.of hl4, rfl, _, _, rfl, (new_less np).ext exA, okC_less o1 o2, (ex3.trans (Ex.new np)).trans exA, hd4⟩
        · exact ⟨l, _, _, _, rfl, rfl, SqL.of hl4, rfl, _, _, rfl, (new_tru np2).ext exB, okC_tru, (ex3.trans (Ex.new np)).trans exA, hd4⟩
      · exact ⟨_, _, rfl, atc, okc, ex3, hd3⟩
    clear atc okc ex3 hd3
    rintro σ4 H4 ⟨xc, c, rfl, atc, okc, ex3, hd3⟩
    obtain ⟨xs0, hF0⟩ := (show ∃ xs0, H4 F0 = some (.lst xs0) from let ⟨_, xs, h, _⟩ := cl; ⟨xs, ex3.lst (by simpa using neF) h⟩)
    refine ⟨_, rfl, .inl ⟨rfl, _, .inl (.inl hF0)⟩, _, rfl, _, rfl, _, rfl, dr, r, rfl, hr0, ex3.wd wd', hd3, fun vm H5 mv atm lm okm ex5 hd5 => ?_⟩
    refine ⟨_, rfl, _, rfl, _, rfl, by show 2 ≤ sizeLine; decide, fun l nl => ⟨_, rfl, dr, 2, rfl, by decide, hd5.new nl, fun y H6 y0 y1 ex6 hd6 => ?_⟩⟩
    obtain ⟨v, hv, hat⟩ := menu_at (xs := ([one, other] : List Int).map V.int) y0 y1
    obtain ⟨so, hso, rfl⟩ := List.mem_map.mp hv
    have sob : -2 ≤ so ∧ so < r := by
      simp only [List.mem_cons, List.not_mem_nil, or_false] at hso
      have := o1.1
      have := o1.2
      have := o2.1
      have := o2.2
      rcases hso with rfl | rfl <;> omega
    refine ⟨l, _, _, _, rfl, rfl, SqL.of (ex6.lst (by simpa using hd5.ne nl) upd_same), hat, ?_⟩
    have ex56 : Ex T [dr] H5 H6 := (Ex.new nl).trans ex6
    refine ⟨by show 2 ≤ sizeLine; decide, fun p1 np1 => ⟨by show 1 ≤ sizeLine; decide, fun p2 np2 => ⟨by show 4 ≤ sizeLine; decide, fun p3 np3 => ?_⟩⟩⟩
    have a1 : At K _ (.ref p1) (encSay (0 + (i : Int), so)) := At.laid np1 (Ats.mk (at_int.mpr rfl) (Ats.mk (at_int.mpr rfl) Ats.mk_nil))
    have a2 := At.laid np2 (Ats.mk a1 Ats.mk_nil)
    have en : Ex T [dr] H6 _ := (Ex.new (o := .tup [.int (0 + (i : Int)), .int so]) np1).trans (Ex.new (o := .tup [.ref p1]) np2)
    obtain ⟨acc, k1, k2, k3⟩ := cl.put nF (by simpa using neF) wd ((((ex3.trans ex5).trans ex56).trans en).trans (Ex.new np3)) (d := encCase ⟨c, mv, [(0 + (i : Int), so)], 0⟩) (x := .ref p3)
      (At.laid np3 (Ats.mk ((((atc.ext ex5).ext ex56).ext en)) (Ats.mk ((atm.ext ex56).ext en) (Ats.mk a2 (Ats.mk (at_int.mpr rfl) Ats.mk_nil))))) (by rw [List.length_map]; omega)
    refine ⟨F0, _, _, rfl, rfl, k1, k2, ⟨_, _, _, _, rfl⟩, (((hd6.new np1).new np2).new np3).put neF.symm, cs ++ [⟨c, mv, [(0 + (i : Int), so)], 0⟩], ?_, by rw [List.length_append, hl]; rfl, ?_⟩
    · rw [List.map_append]
      exact k3
    · intro s hs
      rcases List.mem_append.mp hs with h | h
      · exact hcs s h
      · obtain rfl := List.mem_singleton.mp h
        refine ⟨okc, lm, okm, fun q hq => ?_, by show 1 ≤ 1000; decide, by show 0 < 1; decide⟩
        obtain rfl := List.mem_singleton.mp hq
        exact ⟨by show (0 : Int) ≤ 0 + (i : Int); omega, sob.1, sob.2⟩
  · rintro σ' H' ⟨⟨y5, y6, y7, y8, rfl⟩, hd', cs, ⟨ex, xs, hF, ats⟩, hl, hcs⟩
    refine ⟨_, rfl, _, rfl, F0, _, rfl, .inl ⟨SqL.of hF, fun l nl => ⟨by show 1 ≤ sizeLine; decide, fun l2 nl2 => ⟨by show 1 ≤ sizeLine; decide, fun l3 nl3 => ⟨by show 3 ≤ sizeLine; decide, fun l4 nl4 => ?_⟩⟩⟩⟩⟩
    refine q _ _ ⟨1, r, [[cs]]⟩ (At.laid nl4 (Ats.mk (at_int.mpr rfl) (Ats.mk (at_int.mpr rfl) (Ats.mk (At.laid nl3 (Ats.mk (At.laid nl2 (Ats.mk (At.laid nl ats) Ats.mk_nil)) Ats.mk_nil)) Ats.mk_nil)))) ?_ ((((ex.trans (Ex.new nl)).trans (Ex.new nl2)).trans (Ex.new nl3)).trans (Ex.new nl4)) ((((hd'.new nl).new nl2).new nl3).new nl4)
    refine ⟨by show 1 ≤ 1; decide, by show 1 ≤ 1000; decide, hr0, by show 0 < 1; decide, by show 1 ≤ 1000; decide, fun s hs => ?_, fun s hs cs' hcs' => ?_⟩
    · obtain rfl := List.mem_singleton.mp hs
      rfl
    · obtain rfl := List.mem_singleton.mp hs
      obtain rfl := List.mem_singleton.mp hcs'
      exact ⟨by omega, hcs⟩

abbrev N__law_checked : List Str := ["machine", "found", "e"]
theorem sc__law_checked : FnScope N__law_checked ["machine"] (defScope s__law_checked) := ⟨rfl, rfl, rfl, by decide +kernel, rfl, by decide +kernel, by decide +kernel⟩
/-- check_machine: right ones pass, the others raise C -/
def spR_check (T : List Addr) (C : Addr) (R : V → Bool → Hp → Prop) : Sp := fun vs H Q E => ∃ (x : V) (b : Bool), vs = [x] ∧ R x b H ∧ Wd T H ∧ (b = true → ∀ H', Ex T [] H H' → Q .non H') ∧ (b = false → ∀ H', Ex T [] H H' → E (.ref C) none H')
def sp__law_checked (T : List Addr) (R : V → Bool → Hp → Prop) : Sp := fun vs H Q _ => ∃ (x : V) (b : Bool), vs = [x] ∧ R x b H ∧ Wd T H ∧ ∀ H', Ex T [] H H' → Q (.str (if b = true then "taken" else "raised InvalidMachine")) H'
theorem ok__law_checked {f C CV : Addr} {fd : FuncData} {k : Nat} {T : List Addr} {R : V → Bool → Hp → Prop} (F : Fun K "_law_checked" "_law_checked" s__law_checked f fd) (gV : mg "ValuesError" = some (.ref CV)) (eV : PySem.W.exmOne K (.ref C) (.ref CV) = some true)
    {a_check_machine : Addr} {d_check_machine : FuncData} (G_check_machine : FnOk P w K mg base (L2N.CX P w) k a_check_machine d_check_machine ["machine"] (spR_check T C R)) (k_check_machine : PySem.W.keepIn K (.ref a_check_machine) = true) (b_check_machine : Binds K d_check_machine ["machine"] []) (m_check_machine : mg "check_machine" = some (.ref a_check_machine))
    {a__law_error_name : Addr} {d__law_error_name : FuncData} (G__law_error_name : L2H.FnE P w K mg base k a__law_error_name d__law_error_name "e" C T (.str "InvalidMachine")) (k__law_error_name : PySem.W.keepIn K (.ref a__law_error_name) = true) (b__law_error_name : Binds K d__law_error_name ["e"] []) (m__law_error_name : mg "_law_error_name" = some (.ref a__law_error_name)) :
    FnOk P w K mg base CX0 (k + 1) f fd ["machine"] (sp__law_checked T R) := by
  refine F.ok sc__law_checked (fun vs H Q E h => ?_) (fun cdv A outer s H vs Q E hr h => ?_)
  · obtain ⟨x, b, rfl, _⟩ := h
    rfl
  obtain ⟨x, b, rfl, hR, wd, q⟩ := h
  refine ⟨_, (pss_cons (L2N.ps_try_as (i := 2) (tb := fun W => tAsg (tCallS (spR_check T C R) (WE W) (tCons (tVar 0) tNil)) (gName 1)) (ts := fun a cls d D σ H => (cls = .ref C ∧ d = none) ∧ tRet (tOp (fun x y H Q => ∃ i j, x = V.str i ∧ y = V.str j ∧ i.length + j.length ≤ sizeLine ∧ Q (.str (i ++ j)) H) (tC (.str "raised ")) (L2H.tCallE a T (.str "InvalidMachine") (tCons (tVar 2) tNil))) D σ H) (Wout := fun _ _ _ _ => False) rfl rfl sc__law_checked.nd rfl rfl ⟨rfl, by decide, .inl gV⟩ L2H.takesN0 (fun W pn xe tk _ =>
      (pss_one (ps_set (i := 1) sc__law_checked.nd rfl (.inl rfl) (pe_callS G_check_machine hr rfl m_check_machine k_check_machine b_check_machine (fun σ => L2N.passAt tk σ) (by exact (pa_cons (pv 0) pa_nil))))))
      (fun a oe cls d pn hz hf => L2H.pss_if fun hp => by
        obtain ⟨rfl, rfl⟩ := hp
        exact pss_one (ps_ret (pe_op op_add_str pe_str (L2H.pe_callE (p := (a, oe)) G__law_error_name ⟨hr.dp, hr.un⟩ (L2H.hot_suite hz hf) hz.zc List.mem_cons_self (by rfl) m__law_error_name k__law_error_name b__law_error_name (pa_cons (pv 2) pa_nil))))))
    (pss_cons (ps_if (pt_cmp (pc_isN (pv 1)) rfl) (pss_one (ps_ret pe_str)) pss_nil) (pss_one (ps_ret pe_str)))), ?_⟩
  refine ⟨_, rfl, x, b, rfl, hR, wd, fun hb H' ex => ?_, fun hb H' ex => ⟨true, eV, fun _ a na => ⟨⟨rfl, rfl⟩, _, rfl, rfl, ex.wd wd, fun H2 ex2 => ⟨_, _, rfl, rfl, by decide, ?_⟩⟩, fun z => by cases z⟩⟩
  · subst hb
    exact ⟨_, rfl, _, rfl, iteT (q H' ex)⟩
  · subst hb
    exact q H2 (ex.trans ex2)

abbrev N__law_far : List Str := ["draws", "cell"]
theorem sc__law_far : FnScope N__law_far ["draws", "cell"] (defScope s__law_far) := ⟨rfl, rfl, rfl, by decide +kernel, rfl, by decide +kernel, by decide +kernel⟩
def sp__law_far (T : List Addr) : Sp := fun vs H Q _ => ∃ (dr : Addr) (c : Int), vs = [.ref dr, .int c] ∧ Dr H dr ∧ ∀ (f : Int) H', 0 ≤ f → f ≤ 4 + c.natAbs → Ex T [dr] H H' → Dr H' dr → Q (.int f) H'
theorem ok__law_far {f : Addr} {fd : FuncData} {k : Nat} {T : List Addr} (F : Fun K "_law_far" "_law_far" s__law_far f fd) (m_abs : mg "abs" = none)
    {a__law_take : Addr} {d__law_take : FuncData} (G__law_take : FnOk P w K mg base CX0 k a__law_take d__law_take ["draws", "many"] (sp__law_take T)) (k__law_take : PySem.W.keepIn K (.ref a__law_take) = true) (b__law_take : Binds K d__law_take ["draws", "many"] []) (m__law_take : mg "_law_take" = some (.ref a__law_take)) :
    FnOk P w K mg base CX0 (k + 1) f fd ["draws", "cell"] (sp__law_far T) := by
  refine F.ok sc__law_far (fun vs H Q E h => ?_) (fun cdv A outer s H vs Q E hr h => ?_)
  · obtain ⟨dr, c, rfl, _⟩ := h
    rfl
  obtain ⟨dr, c, rfl, hd, q⟩ := h
  refine ⟨_, (pss_one (ps_ret (pe_ix ix_list (pe_lst (pa_cons pe_int (pa_cons pe_int (pa_cons (pe_call G__law_take hr (by rfl) m__law_take k__law_take b__law_take .nil pass0 (pa_cons (pv 0) (pa_cons pe_int pa_nil))) (pa_cons (pe_callB call_abs (by rfl) m_abs boot_abs (pa_cons (pv 1) pa_nil)) pa_nil))))) (pe_call G__law_take hr (by rfl) m__law_take k__law_take b__law_take .nil pass0 (pa_cons (pv 0) (pa_cons pe_int pa_nil))) (fun _ _ => rfl)))), ?_⟩
  refine ⟨_, rfl, dr, 5, rfl, by decide, hd, fun x H1 x0 x1 ex1 hd1 => ⟨_, rfl, _, rfl, by show 4 ≤ sizeLine; decide, fun p np => ⟨_, rfl, dr, 4, rfl, by decide, hd1.new np, fun y H2 y0 y1 ex2 hd2 => ?_⟩⟩⟩
  obtain ⟨v, hv, hat⟩ := menu_at (xs := ([0, 0, x, if c < 0 then -c else c] : List Int).map V.int) y0 y1
  obtain ⟨f, hf, rfl⟩ := List.mem_map.mp hv
  refine ⟨p, _, _, _, rfl, rfl, SqL.of (ex2.lst (by simpa using hd1.ne np) upd_same), hat, q f _ ?_ ?_ (ex1.trans ((Ex.new np).trans ex2)) hd2⟩
  · simp only [List.mem_cons, List.not_mem_nil, or_false] at hf
    rcases hf with rfl | rfl | rfl | rfl
    · omega
    · omega
    · omega
    · split <;> omega
  · simp only [List.mem_cons, List.not_mem_nil, or_false] at hf
    rcases hf with rfl | rfl | rfl | rfl
    · omega
    · omega
    · omega
    · split <;> omega

abbrev N__law_bad_condition : List Str := ["draws", "registers", "cell", "condition", "bad", "place", "found", "spot", "k", "row"]
theorem sc__law_bad_condition : FnScope N__law_bad_condition ["draws", "registers", "cell", "condition"] (defScope s__law_bad_condition) := ⟨rfl, rfl, rfl, by decide +kernel, rfl, by decide +kernel, by decide +kernel⟩
def sp__law_bad_condition (K : PySem.W.Frag) (T : List Addr) (n : Nat) : Sp := fun vs H Q _ => ∃ (dr : Addr) (r : Nat) (c : Int) (x : V) (c0 : C), vs = [.ref dr, .int r, .int c, x] ∧ At K H x (encC c0) ∧ dpC n c0 ∧ Wd T H ∧ Dr H dr ∧
  ∀ v H' c', At K H' v (encC c') → plB r c' = false → dpC (n + 14) c' → Ex T [dr] H H' → Dr H' dr → Q v H'
theorem ok__law_bad_condition {f : Addr} {fd : FuncData} {k : Nat} {T : List Addr} {n : Nat} (F : Fun K "_law_bad_condition" "_law_bad_condition" s__law_bad_condition f fd) (m_range : mg "range" = none) (m_int : mg "int" = none) (m_len : mg "len" = none) (m_tuple : mg "tuple" = none)
    {a__law_far : Addr} {d__law_far : FuncData} (G__law_far : FnOk P w K mg base CX0 k a__law_far d__law_far ["draws", "cell"] (sp__law_far T)) (k__law_far : PySem.W.keepIn K (.ref a__law_far) = true) (b__law_far : Binds K d__law_far ["draws", "cell"] []) (m__law_far : mg "_law_far" = some (.ref a__law_far))
    {a__law_take : Addr} {d__law_take : FuncData} (G__law_take : FnOk P w K mg base CX0 k a__law_take d__law_take ["draws", "many"] (sp__law_take T)) (k__law_take : PySem.W.keepIn K (.ref a__law_take) = true) (b__law_take : Binds K d__law_take ["draws", "many"] []) (m__law_take : mg "_law_take" = some (.ref a__law_take))
    {a__law_place : Addr} {d__law_place : FuncData} (G__law_place : FnOk P w K mg base CX0 k a__law_place d__law_place ["draws", "registers"] (sp__law_place T)) (k__law_place : PySem.W.keepIn K (.ref a__law_place) = true) (b__law_place : Binds K d__law_place ["draws", "registers"] []) (m__law_place : mg "_law_place" = some (.ref a__law_place)) :
    FnOk P w K mg base CX0 (k + 1) f fd ["draws", "registers", "cell", "condition"] (sp__law_bad_condition K T n) := by
  refine F.ok sc__law_bad_condition (fun vs H Q E h => ?_) (fun cdv A outer s H vs Q E hr h => ?_)
  · obtain ⟨dr, r, c, x, c0, rfl, _⟩ := h
    rfl
  obtain ⟨dr, r, c, x, c0, rfl, hx, dp, wd, hd, q⟩ := h
  refine ⟨_, (pss_cons (ps_set (i := 4) sc__law_bad_condition.nd rfl (.inl rfl) (pe_ix ix_list (pe_lst (pa_cons (pe_op op_add (pv 1) (pe_call G__law_far hr (by rfl) m__law_far k__law_far b__law_far .nil pass0 (pa_cons (pv 0) (pa_cons (pv 2) pa_nil)))) (pa_cons (pe_op op_sub (pe_un un_neg pe_int) (pe_call G__law_far hr (by rfl) m__law_far k__law_far b__law_far .nil pass0 (pa_cons (pv 0) (pa_cons (pv 2) pa_nil)))) pa_nil))) (pe_call G__law_take hr (by rfl) m__law_take k__law_take b__law_take .nil pass0 (pa_cons (pv 0) (pa_cons pe_int pa_nil))) (fun _ _ => rfl)))
    (pss_cons (ps_set (i := 5) sc__law_bad_condition.nd rfl (.inl rfl) (pe_call G__law_place hr (by rfl) m__law_place k__law_place b__law_place .nil pass0 (pa_cons (pv 0) (pa_cons (pv 1) pa_nil))))
    (pss_cons (ps_set (i := 6) sc__law_bad_condition.nd rfl (.inl rfl) (pe_lst (pa_cons (pe_tup (pa_cons pe_str (pa_cons (pv 4) (pa_cons (pv 5) pa_nil)))) (pa_cons (pe_tup (pa_cons pe_str (pa_cons (pv 5) (pa_cons (pv 4) pa_nil)))) (pa_cons (pe_tup (pa_cons pe_str (pa_cons (pv 4) (pa_cons (pv 5) pa_nil)))) (pa_cons (pe_tup (pa_cons pe_str (pa_cons (pv 5) (pa_cons (pv 4) pa_nil)))) (pa_cons (pe_tup (pa_cons pe_str (pa_cons (pv 4) pa_nil))) pa_nil)))))))
    (pss_cons (ps_set (i := 7) sc__law_bad_condition.nd rfl (.inl rfl) (pe_ix ix_list (pv 6) (pe_call G__law_take hr (by rfl) m__law_take k__law_take b__law_take .nil pass0 (pa_cons (pv 0) (pa_cons pe_int pa_nil))) (fun _ _ => rfl)))
    (pss_cons (ps_for PassesOwn.never rfl (pi_range1 rfl m_range (pa_cons (pe_ix ix_list (pe_lst (pa_cons pe_int (pa_cons pe_int (pa_cons pe_int (pa_cons pe_int (pa_cons pe_int pa_nil)))))) (pe_call G__law_take hr (by rfl) m__law_take k__law_take b__law_take .nil pass0 (pa_cons (pv 0) (pa_cons pe_int pa_nil))) (fun _ _ => rfl)) pa_nil)) (pg_name (i := 8) sc__law_bad_condition.nd rfl (.inl rfl))
      (pss_cons (ps_set (i := 9) sc__law_bad_condition.nd rfl (.inl rfl) (pe_slice sl_list (pe_slice sl_list (pe_lst (pa_cons (pv 3) (pa_cons (pe_tup (pa_cons pe_str pa_nil)) (pa_cons (pe_tup (pa_cons pe_str (pa_cons (pv 5) (pa_cons (pe_un un_neg pe_int) pa_nil)))) pa_nil)))) (po_some (pe_callTy call_int1 (by rfl) m_int (by decide +kernel) (pa_cons (pe_cmpR op_gt (pv 8) pe_int (nomark _)) pa_nil))) po_none) po_none (po_some (pe_call G__law_take hr (by rfl) m__law_take k__law_take b__law_take .nil pass0 (pa_cons (pv 0) (pa_cons pe_int pa_nil))))))
      (C8.pss_cut (ps_if (pt_cmpR op_eq (pv 8) pe_int (nomark _))
        (pss_one (ps_set (i := 9) sc__law_bad_condition.nd rfl (.inl rfl) (pe_op op_cat (pv 9) (pe_op op_rep (pe_lst (pa_cons (pe_tup (pa_cons pe_str pa_nil)) pa_nil)) (pe_ix ix_list (pe_lst (pa_cons pe_int (pa_cons pe_int (pa_cons pe_int pa_nil)))) (pe_call G__law_take hr (by rfl) m__law_take k__law_take b__law_take .nil pass0 (pa_cons (pv 0) (pa_cons pe_int pa_nil))) (fun _ _ => rfl))))))
        pss_nil)
      (pss_cons (ps_expr (pe_bm PySem.F.plainAttrs_list PySem.F.slot_list_insert PySem.F.type_list_insert mt_insert (pv 9) (pa_cons (pe_call G__law_take hr (by rfl) m__law_take k__law_take b__law_take .nil pass0 (pa_cons (pv 0) (pa_cons (pe_op op_add (pe_callB call_len_seq (by rfl) m_len PySem.boot_len (pa_cons (pv 9) pa_nil)) pe_int) pa_nil))) (pa_cons (pv 7) pa_nil))))
      (pss_one (ps_set (i := 7) sc__law_bad_condition.nd rfl (.inl rfl) (pe_ix ix_list (pe_lst (pa_cons (pe_tup (pa_cons pe_str (pa_cons (pv 7) pa_nil))) (pa_cons (pe_tup (pa_cons pe_str (pa_cons (pe_callTy call_tuple_of (by rfl) m_tuple (by decide +kernel) (pa_cons (pv 9) pa_nil)) pa_nil))) (pa_cons (pe_tup (pa_cons pe_str (pa_cons (pe_callTy call_tuple_of (by rfl) m_tuple (by decide +kernel) (pa_cons (pv 9) pa_nil)) pa_nil))) pa_nil)))) (pe_call G__law_take hr (by rfl) m__law_take k__law_take b__law_take .nil pass0 (pa_cons (pv 0) (pa_cons pe_int pa_nil))) (fun _ _ => rfl))))))))
    (pss_one (ps_ret (pv 7)))))))), ?_⟩
  refine ⟨_, rfl, _, rfl, _, rfl, dr, c, rfl, hd, fun f1 H1 f10 _ ex1 hd1 => ⟨_, _, rfl, rfl, _, rfl, _, rfl, _, rfl, dr, c, rfl, hd1, fun f2 H2 f20 _ ex2 hd2 => ⟨_, _, rfl, rfl, by show 2 ≤ sizeLine; decide, fun p np => ⟨_, rfl, dr, 2, rfl, by decide, hd2.new np, fun y H3 y0 y1 ex3 hd3 => ?_⟩⟩⟩⟩
  obtain ⟨v, hv, hat⟩ := menu_at (xs := ([(r : Int) + f1, -2 - f2] : List Int).map V.int) y0 y1
  obtain ⟨b, hb, rfl⟩ := List.mem_map.mp hv
  have hb : plI r b = false := by
    simp only [List.mem_cons, List.not_mem_nil, or_false] at hb
    unfold plI
    rcases hb with rfl | rfl
    · rw [decide_eq_false (by omega : ¬ (r : Int) + f1 < r), Bool.and_false]
    · rw [decide_eq_false (by omega : ¬ -1 ≤ -2 - f2), Bool.false_and]
  have e3 := (ex1.trans ex2).trans ((Ex.new np).trans ex3)
  refine ⟨p, _, _, _, rfl, rfl, SqL.of (ex3.lst (by simpa using hd2.ne np) upd_same), hat, ?_⟩
  clear hat hv ex3 ex2 ex1 hd2 hd1 f10 f20 y0 y1 np
  refine ⟨_, rfl, _, rfl, dr, r, rfl, hd3, fun pl H4 hpl ex4 hd4 => ?_⟩
  have e4 := e3.trans ex4
  clear e3 ex4 hd3
  refine ⟨_, rfl, _, rfl, by show 3 ≤ sizeLine; decide, fun t1 n1 => ?_⟩
  have a1 : At K _ (.ref t1) (encC (.less b pl)) := new_less n1
  have e5 := e4.trans (Ex.new (T := T) (ms := [dr]) (o := .tup [.str "less", .int b, .int pl]) n1)
  have hd5 := hd4.new (o := .tup [.str "less", .int b, .int pl]) n1
  generalize upd H4 t1 (.tup [.str "less", .int b, .int pl]) = G1 at *
  refine ⟨_, rfl, _, rfl, by show 3 ≤ sizeLine; decide, fun t2 n2 => ?_⟩
  have x2 := Ex.new (T := T) (ms := [dr]) (o := .tup [.str "less", .int pl, .int b]) n2
  have a2 : At K _ (.ref t2) (encC (.less pl b)) := new_less n2
  replace a1 := a1.ext x2
  replace e5 := e5.trans x2
  replace hd5 := hd5.new (o := .tup [.str "less", .int pl, .int b]) n2
  generalize upd G1 t2 (.tup [.str "less", .int pl, .int b]) = G2 at *
  refine ⟨_, rfl, _, rfl, by show 3 ≤ sizeLine; decide, fun t3 n3 => ?_⟩
  have x3 := Ex.new (T := T) (ms := [dr]) (o := .tup [.str "same", .int b, .int pl]) n3
  have a3 : At K _ (.ref t3) (encC (.same b pl)) := new_same n3
  replace a1 := a1.ext x3
  replace a2 := a2.ext x3
  replace e5 := e5.trans x3
  replace hd5 := hd5.new (o := .tup [.str "same", .int b, .int pl]) n3
  generalize upd G2 t3 (.tup [.str "same", .int b, .int pl]) = G3 at *
  refine ⟨_, rfl, _, rfl, by show 3 ≤ sizeLine; decide, fun t4 n4 => ?_⟩
  have x4 := Ex.new (T := T) (ms := [dr]) (o := .tup [.str "same", .int pl, .int b]) n4
  have a4 : At K _ (.ref t4) (encC (.same pl b)) := new_same n4
  replace a1 := a1.ext x4
  replace a2 := a2.ext x4
  replace a3 := a3.ext x4
  replace e5 := e5.trans x4
  replace hd5 := hd5.new (o := .tup [.str "same", .int pl, .int b]) n4
  generalize upd G3 t4 (.tup [.str "same", .int pl, .int b]) = G4 at *
  refine ⟨_, rfl, by show 2 ≤ sizeLine; decide, fun t5 n5 => ?_⟩
  have x5 := Ex.new (T := T) (ms := [dr]) (o := .tup [.str "empty", .int b]) n5
  have a5 : At K _ (.ref t5) (encC (.emp b)) := new_emp n5
  replace a1 := a1.ext x5
  replace a2 := a2.ext x5
  replace a3 := a3.ext x5
  replace a4 := a4.ext x5
  replace e5 := e5.trans x5
  replace hd5 := hd5.new (o := .tup [.str "empty", .int b]) n5
  generalize upd G4 t5 (.tup [.str "empty", .int b]) = G5 at *
  clear x2 x3 x4 x5 n1 n2 n3 n4 n5 e4 hd4
  refine ⟨by show 5 ≤ sizeLine; decide, fun L nL => ?_⟩
  have xL := Ex.new (T := T) (ms := [dr]) (o := HO.lst [.ref t1, .ref t2, .ref t3, .ref t4, .ref t5]) nL
  refine ⟨_, rfl, _, rfl, dr, 5, rfl, by decide, hd5.new nL, fun y H6 y0 y1 ex6 hd6 => ?_⟩
  have xL6 := xL.trans ex6
  have bd : ∀ m a b', plI r a = false ∨ plI r b' = false → plB r (.less a b') = false ∧ plB r (.same a b') = false ∧ dpC m (.less a b') ∧ dpC m (.same a b') := fun m a b' h => by
    refine ⟨?_, ?_, by unfold dpC; cases m <;> trivial, by unfold dpC; cases m <;> trivial⟩ <;> unfold plB <;> rcases h with h | h <;> rw [h] <;> simp
  have be : ∀ m, plB r (.emp b) = false ∧ dpC m (.emp b) := fun m => ⟨by unfold plB; exact hb, by unfold dpC; cases m <;> trivial⟩
  obtain ⟨sp, sc, hat, asp, plsp, dpsp⟩ : ∃ v c', atI [.ref t1, .ref t2, .ref t3, .ref t4, .ref t5] y = some v ∧ At K H6 v (encC c') ∧ plB r c' = false ∧ dpC (n + 1) c' := by
    have yc : y = 0 ∨ y = 1 ∨ y = 2 ∨ y = 3 ∨ y = 4 := by omega
    rcases yc with rfl | rfl | rfl | rfl | rfl
    · exact ⟨_, _, rfl, a1.ext xL6, (bd (n + 1) _ _ (.inl hb)).1, (bd (n + 1) _ _ (.inl hb)).2.2.1⟩
    · exact ⟨_, _, rfl, a2.ext xL6, (bd (n + 1) _ _ (.inr hb)).1, (bd (n + 1) _ _ (.inr hb)).2.2.1⟩
    · exact ⟨_, _, rfl, a3.ext xL6, (bd (n + 1) _ _ (.inl hb)).2.1, (bd (n + 1) _ _ (.inl hb)).2.2.2⟩
    · exact ⟨_, _, rfl, a4.ext xL6, (bd (n + 1) _ _ (.inr hb)).2.1, (bd (n + 1) _ _ (.inr hb)).2.2.2⟩
    · exact ⟨_, _, rfl, a5.ext xL6, (be (n + 1)).1, (be (n + 1)).2⟩
  refine ⟨L, _, _, _, rfl, rfl, SqL.of (ex6.lst (by simpa using hd5.ne nL) upd_same), hat, ?_⟩
  have e6 := e5.trans xL6
  clear a1 a2 a3 a4 a5 xL ex6 xL6 nL hd5 e5 hat y0 y1
  refine ⟨by show 5 ≤ sizeLine; decide, fun M nM => ⟨_, rfl, dr, 5, rfl, by decide, hd6.new nM, fun z H7 z0 z1 ex7 hd7 => ?_⟩⟩
  obtain ⟨v, hv, hat⟩ := menu_at (xs := ([0, 1, 2, 3, 12] : List Int).map V.int) z0 z1
  obtain ⟨m, hm, rfl⟩ := List.mem_map.mp hv
  have m12 : 0 ≤ m ∧ m ≤ 12 := by
    simp only [List.mem_cons, List.not_mem_nil, or_false] at hm
    omega
  have x7 := (Ex.new (T := T) (ms := [dr]) (o := HO.lst (([0, 1, 2, 3, 12] : List Int).map V.int)) nM).trans ex7
  have e7 := e6.trans x7
  refine ⟨M, _, _, _, rfl, rfl, SqL.of (ex7.lst (by simpa using hd6.ne nM) upd_same), hat, m, rfl, by omega, by omega, for_range (lo := 0) (n := m.toNat) (fun i σ' H' => (∃ y7 y8 y9, σ' = [some (.ref dr), some (.int (r : Nat)), some (.int c), some x, some (.int b), some (.int pl), some (.ref L), some y7, y8, y9] ∧ ∃ c', At K H' y7 (encC c') ∧ plB r c' = false ∧ dpC (n + 1 + i) c') ∧ Dr H' dr ∧ Ex T [dr] H H') ⟨⟨sp, _, _, rfl, sc, asp.ext x7, plsp, dpsp⟩, hd7, e7⟩ ?_ ?_⟩
  · rintro i σ' H8 hi ⟨⟨y7, y8, y9, rfl, c', atc, plc, dpc⟩, hd8, e8⟩
    clear e7 x7 hat hv e6 ex7 hd7 hd6 nM asp plsp dpsp
    refine ⟨_, rfl, by show 1 ≤ sizeLine; decide, fun r1 nr1 => ⟨_, rfl, _, rfl, by show 3 ≤ sizeLine; decide, fun r2 nr2 => ⟨by show 3 ≤ sizeLine; decide, fun R nR => ?_⟩⟩⟩
    have hx8 := hx.ext e8
    have ar1 : At K _ (.ref r1) (encC .tru) := new_tru nr1
    have xr1 := Ex.new (T := T) (ms := [dr]) (o := .tup [.str "true"]) nr1
    have ar2 : At K _ (.ref r2) (encC (.less pl (-1))) := new_less nr2
    have xr2 := Ex.new (T := T) (ms := [dr]) (o := .tup [.str "less", .int pl, .int (-1)]) nr2
    have hd8b := (hd8.new (o := .tup [.str "true"]) nr1).new (o := .tup [.str "less", .int pl, .int (-1)]) nr2
    have x8b := xr1.trans xr2
    have row0 : RowC K (n + 1 + i) 3 _ [x, .ref r1, .ref r2] := ⟨[c0, .tru, .less pl (-1)], Ats.mk ((hx8.ext xr1).ext xr2) (Ats.mk (ar1.ext xr2) (Ats.mk ar2 Ats.mk_nil)), (fun d hd => by
      simp only [List.mem_cons, List.not_mem_nil, or_false] at hd
      rcases hd with rfl | rfl | rfl
      · exact dpC_mono (by omega) dp
      · unfold dpC; cases (n + 1 + i) <;> trivial
      · unfold dpC; cases (n + 1 + i) <;> trivial), Nat.le_refl 3⟩
    generalize upd (upd H8 r1 (.tup [.str "true"])) r2 (.tup [.str "less", .int pl, .int (-1)]) = H8b at *
    have xR := Ex.new (T := T) (ms := [dr]) (o := HO.lst [x, .ref r1, .ref r2]) nR
    have hd9 := hd8b.new (o := HO.lst [x, .ref r1, .ref r2]) nR
    have gR : (upd H8b R (.lst [x, .ref r1, .ref r2])) R = some (.lst [x, .ref r1, .ref r2]) := upd_same
    generalize upd H8b R (.lst [x, .ref r1, .ref r2]) = H9 at *
    refine ⟨_, rfl, _, _, rfl, rfl, .inr ⟨_, rfl, ?_⟩⟩
    refine ⟨_, rfl, R, _, rfl, SqL.of gR, fun R1 nR1 => ?_⟩
    generalize (if decide ((2 : Int) < 0 + (i : Int)) = true then (1 : Int) else 0) = lo at *
    have row1 : RowC K (n + 1 + i) 3 H8b (cutV [x, .ref r1, .ref r2] (some lo) none) := row0.cut
    generalize cutV [x, .ref r1, .ref r2] (some lo) none = ys1 at *
    have xR1 := Ex.new (T := T) (ms := [dr]) (o := HO.lst ys1) nR1
    have gR1 : (upd H9 R1 (.lst ys1)) R1 = some (.lst ys1) := upd_same
    have ne1 := hd9.ne nR1
    have hd10 := hd9.new (o := HO.lst ys1) nR1
    generalize upd H9 R1 (.lst ys1) = H10 at *
    refine ⟨_, rfl, dr, 4, rfl, by decide, hd10, fun y H11 y0 y1 ex11 hd11 => ⟨_, rfl, R1, _, rfl, SqL.of (ex11.lst (by simpa using ne1) gR1), fun R2 nR2 => ?_⟩⟩
    have row2 : RowC K (n + 1 + i) 3 H8b (cutV ys1 none (some y)) := row1.cut
    generalize cutV ys1 none (some y) = ys2 at *
    have x8B := (xR.trans xR1).trans ex11
    have e811 := x8b.trans x8B
    have row3 := row2.ext x8B (fun _ _ => trivial)
    have xR2 := Ex.new (T := T) (ms := [dr]) (o := HO.lst ys2) nR2
    have ne2 := hd11.ne nR2
    have hd12 := hd11.new (o := HO.lst ys2) nR2
    have gR2 : (upd H11 R2 (.lst ys2)) R2 = some (.lst ys2) := upd_same
    generalize upd H11 R2 (.lst ys2) = H12 at *
    clear xR xR1 ex11 gR gR1 row0 row1 row2 hd11 hd10 hd9 x8B x8b xr1 xr2 ar1 ar2 hd8b nr1 nr2 nR nR1 y0 y1
    refine ⟨fun σ' H' => ∃ y9 G' ys, σ' = [some (.ref dr), some (.int (r : Nat)), some (.int c), some x, some (.int b), some (.int pl), some (.ref L), some y7, some (.int (0 + (i : Int))), some (.ref y9)] ∧ G' y9 = none ∧ y9 ≠ dr ∧ Ex T [dr] H8 G' ∧ Ex T [dr] G' H' ∧ H' y9 = some (.lst ys) ∧ RowC K (n + 1 + i) 9 G' ys ∧ Dr H' dr, ?_, ?_⟩
    · refine ⟨_, rfl, rfl, _, rfl, ite2 (fun c0 => ?_) (fun c0 => ?_)⟩
      · refine ⟨_, rfl, by show 1 ≤ sizeLine; decide, fun r3 nr3 => ?_⟩
        have at3 : At K _ (.ref r3) (encC .tru) := new_tru nr3
        have x3 := Ex.new (T := T) (ms := [dr]) (o := .tup [.str "true"]) nr3
        have hd13 := hd12.new (o := .tup [.str "true"]) nr3
        generalize upd H12 r3 (.tup [.str "true"]) = H13 at *
        refine ⟨by show 1 ≤ sizeLine; decide, fun R3 nR3 => ?_⟩
        have x4 := Ex.new (T := T) (ms := [dr]) (o := HO.lst [.ref r3]) nR3
        have ne3 := hd13.ne nR3
        have hd14 := hd13.new (o := HO.lst [.ref r3]) nR3
        have g3 : (upd H13 R3 (.lst [.ref r3])) R3 = some (.lst [.ref r3]) := upd_same
        generalize upd H13 R3 (.lst [.ref r3]) = H14 at *
        refine ⟨by show 3 ≤ sizeLine; decide, fun R4 nR4 => ⟨_, rfl, dr, 3, rfl, by decide, hd14.new nR4, fun z H15 z0 z1 ex15 hd15 => ?_⟩⟩
        obtain ⟨v, hv, hat⟩ := menu_at (xs := ([0, 0, 6] : List Int).map V.int) z0 z1
        obtain ⟨t, ht, rfl⟩ := List.mem_map.mp hv
        have t6 : 0 ≤ t ∧ t ≤ 6 := by
          simp only [List.mem_cons, List.not_mem_nil, or_false] at ht
          omega
        have x5 := (Ex.new (T := T) (ms := [dr]) (o := HO.lst (([0, 0, 6] : List Int).map V.int)) nR4).trans ex15
        refine ⟨R4, _, _, _, rfl, rfl, SqL.of (ex15.lst (by simpa using hd14.ne nR4) upd_same), hat, R3, t, [.ref r3], rfl, rfl, x5.lst (by simpa using ne3) g3, by omega, by omega, by show 1 * t.toNat ≤ 16777216; omega, fun R5 nR5 => ?_⟩
        have x6 := Ex.new (T := T) (ms := [dr]) (o := HO.lst (List.replicate t.toNat [V.ref r3]).flatten) nR5
        have g2' := (((x3.trans x4).trans x5).trans x6).lst (by simpa using ne2) gR2
        have l2 : ys2.length ≤ 3 := by
          obtain ⟨ds2, a2, _, ll⟩ := row3
          have := a2.len
          omega
        have lr : (List.replicate t.toNat [V.ref r3]).flatten.length = t.toNat := by simp
        have at3' : RowC K (n + 1 + i) 1 _ [V.ref r3] := ⟨[.tru], Ats.mk (((at3.ext x4).ext x5).ext x6) Ats.mk_nil, (fun d hd => by
          rw [List.mem_singleton.mp hd]
          unfold dpC; cases (n + 1 + i) <;> trivial), Nat.le_refl 1⟩
        have rowB := ((((row3.ext xR2 (fun _ _ => trivial)).ext x3 (fun _ _ => trivial)).ext x4 (fun _ _ => trivial)).ext x5 (fun _ _ => trivial)).ext x6 (fun _ _ => trivial)
        have rw5 := rowB.append (at3'.rep t.toNat)
        have hd16 := hd15.new (o := HO.lst (List.replicate t.toNat [V.ref r3]).flatten) nR5
        have e16 := ((((e811.trans xR2).trans x3).trans x4).trans x5).trans x6
        refine ⟨R2, R5, _, _, rfl, rfl, g2', upd_same, by rw [lr]; show ys2.length + t.toNat ≤ 16777216; omega, fun R6 nR6 => ?_⟩
        exact ⟨R6, _, _, rfl, nR6, hd16.ne nR6, e16, Ex.new nR6, upd_same, (let ⟨ds, a, d, l⟩ := rw5; ⟨ds, a, d, by omega⟩), hd16.new nR6⟩
      · exact ⟨R2, H11, ys2, rfl, nR2, ne2, e811, xR2, gR2, (let ⟨ds, a, d, l⟩ := row3; ⟨ds, a, d, by omega⟩), hd12⟩
    · rintro σ' H13 ⟨R9, G, ys, rfl, nR9, ne9, e8G, eG, g9, rowG, hd13⟩
      have atcG := atc.ext (e8G.trans eG)
      have lys : ys.length ≤ 9 := by
        obtain ⟨ds2, a2, _, ll⟩ := rowG
        have := a2.len
        omega
      refine ⟨_, rfl, .inl ⟨rfl, _, .inl (.inl g9)⟩, _, rfl, _, rfl, R9, _, rfl, .inl (SqL.of g9), _, _, rfl, rfl, dr, (ys.length : Int) + 1, rfl, by omega, hd13, fun w H14 w0 w1 ex14 hd14 => ⟨_, rfl, R9, ys, w, y7, rfl, rfl, ex14.lst (by simpa using ne9) g9, by show ys.length < 16777216; omega, w0, by omega, ?_⟩⟩
      have wdG : Wd T G := e8G.wd (e8.wd wd)
      obtain ⟨ds, aG, dd, ll⟩ := rowG
      have exI : Ex T [dr] G (upd H14 R9 (.lst (ys.take w.toNat ++ [y7] ++ ys.drop w.toNat))) := (eG.trans ex14).put nR9 wdG
      have hdI : Dr (upd H14 R9 (.lst (ys.take w.toNat ++ [y7] ++ ys.drop w.toNat))) dr := hd14.put ne9.symm
      have gI : (upd H14 R9 (.lst (ys.take w.toNat ++ [y7] ++ ys.drop w.toNat))) R9 = some (.lst (ys.take w.toNat ++ [y7] ++ ys.drop w.toNat)) := upd_same
      have atI := atc.ext (e8G.trans exI)
      have aI := Ats.ext exI aG
      have atsI : Ats K (upd H14 R9 (.lst (ys.take w.toNat ++ [y7] ++ ys.drop w.toNat))) (ys.take w.toNat ++ [y7] ++ ys.drop w.toNat) ((ds.take w.toNat ++ [c'] ++ ds.drop w.toNat).map encC) := by
        rw [List.map_append, List.map_append, List.map_take, List.map_drop]
        exact ((aI.takeD _).append (Ats.mk atI Ats.mk_nil)).append (aI.dropD _)
      have plI : plBs r (ds.take w.toNat ++ [c'] ++ ds.drop w.toNat) = false := plBs_bad plc
      have dpI : ∀ d ∈ ds.take w.toNat ++ [c'] ++ ds.drop w.toNat, dpC (n + 1 + i) d := fun d hd => by
        rcases List.mem_append.mp hd with h | h
        · rcases List.mem_append.mp h with h | h
          · exact dd d (List.mem_of_mem_take h)
          · rw [List.mem_singleton.mp h]; exact dpc
        · exact dd d (List.mem_of_mem_drop h)
      have lI : (ds.take w.toNat ++ [c'] ++ ds.drop w.toNat).length ≤ 100000 := by simp; omega
      have e8I := e8G.trans exI
      generalize ys.take w.toNat ++ [y7] ++ ys.drop w.toNat = zs at *
      generalize ds.take w.toNat ++ [c'] ++ ds.drop w.toNat = es at *
      generalize upd H14 R9 (.lst zs) = HI at *
      clear wdG exI aG aI eG ex14 hd14 hd13 e8G nR9 g9
      refine ⟨_, rfl, by show 2 ≤ sizeLine; decide, fun q1 nq1 => ?_⟩
      have b1 := new_nt nq1 atI
      have x1 := Ex.new (T := T) (ms := [dr]) (o := .tup [.str "not", y7]) nq1
      have hd1 := hdI.new (o := .tup [.str "not", y7]) nq1
      have g1 := x1.lst (by simpa using ne9) gI
      have s1 := Ats.ext x1 atsI
      generalize upd HI q1 (.tup [.str "not", y7]) = H1 at *
      refine ⟨_, rfl, R9, zs, rfl, .inl ⟨SqL.of g1, fun T1 nT1 => ?_⟩⟩
      have s2 : At K _ (.ref T1) (.tup (es.map encC)) := At.laid nT1 s1
      have x2 := Ex.new (T := T) (ms := [dr]) (o := HO.tup zs) nT1
      have hd2 := hd1.new (o := HO.tup zs) nT1
      replace b1 := b1.ext x2
      have g2 := x2.lst (by simpa using ne9) g1
      replace s1 := Ats.ext x2 s1
      generalize upd H1 T1 (.tup zs) = H2 at *
      refine ⟨by show 2 ≤ sizeLine; decide, fun q2 nq2 => ?_⟩
      have b2 : At K _ (.ref q2) (encC (.all es)) := new_all nq2 (by rw [encCs_map]; exact s2)
      have x3 := Ex.new (T := T) (ms := [dr]) (o := .tup [.str "all", .ref T1]) nq2
      have hd3 := hd2.new (o := .tup [.str "all", .ref T1]) nq2
      replace b1 := b1.ext x3
      have g3 := x3.lst (by simpa using ne9) g2
      replace s1 := Ats.ext x3 s1
      generalize upd H2 q2 (.tup [.str "all", .ref T1]) = H3 at *
      refine ⟨_, rfl, R9, zs, rfl, .inl ⟨SqL.of g3, fun T2 nT2 => ?_⟩⟩
      have s4 : At K _ (.ref T2) (.tup (es.map encC)) := At.laid nT2 s1
      have x4 := Ex.new (T := T) (ms := [dr]) (o := HO.tup zs) nT2
      have hd4 := hd3.new (o := HO.tup zs) nT2
      replace b1 := b1.ext x4
      replace b2 := b2.ext x4
      generalize upd H3 T2 (.tup zs) = H4 at *
      refine ⟨by show 2 ≤ sizeLine; decide, fun q3 nq3 => ?_⟩
      have b3 : At K _ (.ref q3) (encC (.any es)) := new_any nq3 (by rw [encCs_map]; exact s4)
      have x5 := Ex.new (T := T) (ms := [dr]) (o := .tup [.str "any", .ref T2]) nq3
      have hd5 := hd4.new (o := .tup [.str "any", .ref T2]) nq3
      replace b1 := b1.ext x5
      replace b2 := b2.ext x5
      generalize upd H4 q3 (.tup [.str "any", .ref T2]) = H5 at *
      refine ⟨by show 3 ≤ sizeLine; decide, fun LL nLL => ⟨_, rfl, dr, 3, rfl, by decide, hd5.new nLL, fun u HU u0 u1 exU hdU => ?_⟩⟩
      have xU := (Ex.new (T := T) (ms := [dr]) (o := HO.lst [.ref q1, .ref q2, .ref q3]) nLL).trans exU
      have eU := e8.trans ((((((e8I.trans x1).trans x2).trans x3).trans x4).trans x5).trans xU)
      have hLL := exU.lst (by simpa using hd5.ne nLL) (upd_same (H := H5) (a := LL) (o := HO.lst [.ref q1, .ref q2, .ref q3]))
      have dpA : dpC (n + 1 + (i + 1)) (.all es) := by
        show dpC (n + 1 + i + 1) _
        unfold dpC
        exact ⟨lI, dpCs_of dpI⟩
      have dpY : dpC (n + 1 + (i + 1)) (.any es) := by
        show dpC (n + 1 + i + 1) _
        unfold dpC
        exact ⟨lI, dpCs_of dpI⟩
      have dpN : dpC (n + 1 + (i + 1)) (.nt c') := by
        show dpC (n + 1 + i + 1) _
        unfold dpC
        exact dpc
      have uc : u = 0 ∨ u = 1 ∨ u = 2 := by omega
      rcases uc with rfl | rfl | rfl
      · exact ⟨LL, _, _, _, rfl, rfl, SqL.of hLL, rfl, ⟨_, _, _, rfl, _, b1.ext xU, (by unfold plB; exact plc), dpN⟩, hdU, eU⟩
      · exact ⟨LL, _, _, _, rfl, rfl, SqL.of hLL, rfl, ⟨_, _, _, rfl, _, b2.ext xU, (by unfold plB; exact plI), dpA⟩, hdU, eU⟩
      · exact ⟨LL, _, _, _, rfl, rfl, SqL.of hLL, rfl, ⟨_, _, _, rfl, _, b3.ext xU, (by unfold plB; exact plI), dpY⟩, hdU, eU⟩
  · rintro σ' H8 ⟨⟨y7, y8, y9, rfl, c', atc, plc, dpc⟩, hd8, e8⟩
    have : n + 1 + m.toNat ≤ n + 14 := by omega
    exact ⟨_, rfl, q _ _ _ atc plc (dpC_mono this dpc) e8 hd8⟩

abbrev N__law_bad_case : List Str := ["draws", "registers", "standings", "cell", "case", "kind", "source", "at", "place", "said"]
theorem sc__law_bad_case : FnScope N__law_bad_case ["draws", "registers", "standings", "cell", "case"] (defScope s__law_bad_case) := ⟨rfl, rfl, rfl, by decide +kernel, rfl, by decide +kernel, by decide +kernel⟩
def sp__law_bad_case (K : PySem.W.Frag) (T : List Addr) (n : Nat) : Sp := fun vs H Q _ => ∃ (dr : Addr) (r S : Nat) (c : Int) (x : V) (k : RCase), vs = [.ref dr, .int r, .int S, .int c, x] ∧ At K H x (encRC k) ∧ k.moves.length = r ∧ r ≤ 1000 ∧ k.says.length ≤ 1000 ∧ dpC n k.cond ∧ Wd T H ∧ Dr H dr ∧
  ∀ v H' k', At K H' v (encRC k') → ¬ CaseR r S k' → dpC (n + 14) k'.cond → Ex T [dr] H H' → Dr H' dr → Q v H'
theorem ok__law_bad_case {f : Addr} {fd : FuncData} {k : Nat} {T : List Addr} {n : Nat} (F : Fun K "_law_bad_case" "_law_bad_case" s__law_bad_case f fd) (m_max : mg "max" = none) (m_int : mg "int" = none) (m_len : mg "len" = none)
    {a__law_take : Addr} {d__law_take : FuncData} (G__law_take : FnOk P w K mg base CX0 k a__law_take d__law_take ["draws", "many"] (sp__law_take T)) (k__law_take : PySem.W.keepIn K (.ref a__law_take) = true) (b__law_take : Binds K d__law_take ["draws", "many"] []) (m__law_take : mg "_law_take" = some (.ref a__law_take))
    {a__law_far : Addr} {d__law_far : FuncData} (G__law_far : FnOk P w K mg base CX0 k a__law_far d__law_far ["draws", "cell"] (sp__law_far T)) (k__law_far : PySem.W.keepIn K (.ref a__law_far) = true) (b__law_far : Binds K d__law_far ["draws", "cell"] []) (m__law_far : mg "_law_far" = some (.ref a__law_far))
    {a__law_bad_condition : Addr} {d__law_bad_condition : FuncData} (G__law_bad_condition : FnOk P w K mg base CX0 k a__law_bad_condition d__law_bad_condition ["draws", "registers", "cell", "condition"] (sp__law_bad_condition K T n)) (k__law_bad_condition : PySem.W.keepIn K (.ref a__law_bad_condition) = true) (b__law_bad_condition : Binds K d__law_bad_condition ["draws", "registers", "cell", "condition"] []) (m__law_bad_condition : mg "_law_bad_condition" = some (.ref a__law_bad_condition)) :
    FnOk P w K mg base CX0 (k + 1) f fd ["draws", "registers", "standings", "cell", "case"] (sp__law_bad_case K T n) := by
  refine F.ok sc__law_bad_case (fun vs H Q E h => ?_) (fun cdv A outer s H vs Q E hr h => ?_)
  · obtain ⟨dr, r, S, c, x, k, rfl, _⟩ := h
    rfl
  obtain ⟨dr, r, S, c, x, k0, rfl, hx, lm, lr, ls, dp, wd, hd, q⟩ := h
  refine ⟨_, (pss_cons (ps_set (i := 5) sc__law_bad_case.nd rfl (.inl rfl) (pe_call G__law_take hr (by rfl) m__law_take k__law_take b__law_take .nil pass0 (pa_cons (pv 0) (pa_cons pe_int pa_nil))))
    (pss_cons (ps_set (i := 6) sc__law_bad_case.nd rfl (.inl rfl) (pe_ix ix_list (pe_lst (pa_cons (pe_op op_add (pv 1) (pe_call G__law_far hr (by rfl) m__law_far k__law_far b__law_far .nil pass0 (pa_cons (pv 0) (pa_cons (pv 3) pa_nil)))) (pa_cons (pe_op op_sub (pe_un un_neg pe_int) (pe_call G__law_far hr (by rfl) m__law_far k__law_far b__law_far .nil pass0 (pa_cons (pv 0) (pa_cons (pv 3) pa_nil)))) pa_nil))) (pe_call G__law_take hr (by rfl) m__law_take k__law_take b__law_take .nil pass0 (pa_cons (pv 0) (pa_cons pe_int pa_nil))) (fun _ _ => rfl)))
    (pss_cons (ps_set (i := 7) sc__law_bad_case.nd rfl (.inl rfl) (pe_call G__law_take hr (by rfl) m__law_take k__law_take b__law_take .nil pass0 (pa_cons (pv 0) (pa_cons (pe_callB (call_max2 rfl) (by rfl) m_max boot_max (pa_cons pe_int (pa_cons (pv 1) pa_nil))) pa_nil))))
    (pss_cons (ps_if (pt_cmpR op_lt (pv 5) pe_int (nomark _))
      (pss_one (ps_ret (pe_op op_catA (pe_tup (pa_cons (pe_call G__law_bad_condition hr (by rfl) m__law_bad_condition k__law_bad_condition b__law_bad_condition .nil pass0 (pa_cons (pv 0) (pa_cons (pv 1) (pa_cons (pv 3) (pa_cons (pe_ix ix_tup (pv 4) pe_int (fun _ _ => rfl)) pa_nil))))) pa_nil)) (pe_slice sl_tupA (pv 4) (po_some pe_int) po_none))))
      pss_nil)
    (C8.pss_cut (ps_if (pw_and (pt_cmpR op_eq (pv 5) pe_int (nomark _)) (pw_and1 (pt_cmpR op_gt (pv 1) pe_int (nomark _)))).pt
      (pss_one (ps_ret (pe_op op_catA (pe_tup (pa_cons (pe_ix ix_tup (pv 4) pe_int (fun _ _ => rfl)) (pa_cons (pe_op op_catA (pe_op op_catA (pe_slice sl_tupA (pe_ix ix_tup (pv 4) pe_int (fun _ _ => rfl)) po_none (po_some (pv 7))) (pe_tup (pa_cons (pv 6) pa_nil))) (pe_slice sl_tupA (pe_ix ix_tup (pv 4) pe_int (fun _ _ => rfl)) (po_some (pe_op op_add (pv 7) pe_int)) po_none)) pa_nil))) (pe_slice sl_tupA (pv 4) (po_some pe_int) po_none))))
      pss_nil)
    (pss_cons (ps_if (pt_cmpR op_eq (pv 5) pe_int (nomark _))
      (pss_one (ps_ret (pe_op op_catA (pe_tup (pa_cons (pe_ix ix_tup (pv 4) pe_int (fun _ _ => rfl)) (pa_cons (pe_ix ix_list (pe_lst (pa_cons (pe_op op_catA (pe_ix ix_tup (pv 4) pe_int (fun _ _ => rfl)) (pe_tup (pa_cons (pe_un un_neg pe_int) pa_nil))) (pa_cons (pe_op op_catA (pe_ix ix_tup (pv 4) pe_int (fun _ _ => rfl)) (pe_tup (pa_cons (pe_un un_neg pe_int) pa_nil))) (pa_cons (pe_slice sl_tupA (pe_ix ix_tup (pv 4) pe_int (fun _ _ => rfl)) (po_some pe_int) po_none) pa_nil)))) (pe_call G__law_take hr (by rfl) m__law_take k__law_take b__law_take .nil pass0 (pa_cons (pv 0) (pa_cons (pe_op op_add pe_int (pe_callTy call_int1 (by rfl) m_int (by decide +kernel) (pa_cons (pe_cmpR op_gt (pv 1) pe_int (nomark _)) pa_nil))) pa_nil))) (fun _ _ => rfl)) pa_nil))) (pe_slice sl_tupA (pv 4) (po_some pe_int) po_none))))
      pss_nil)
    (pss_cons (ps_set (i := 8) sc__law_bad_case.nd rfl (.inl rfl) (pe_call G__law_take hr (by rfl) m__law_take k__law_take b__law_take .nil pass0 (pa_cons (pv 0) (pa_cons (pe_op op_add (pe_callB call_len_seq (by rfl) m_len PySem.boot_len (pa_cons (pe_ix ix_tup (pv 4) pe_int (fun _ _ => rfl)) pa_nil)) pe_int) pa_nil))))
    (pss_cons (ps_set (i := 9) sc__law_bad_case.nd rfl (.inl rfl) (pe_ix ix_list (pe_lst (pa_cons (pe_tup (pa_cons pe_int (pa_cons (pv 6) pa_nil))) (pa_cons (pe_tup (pa_cons (pe_op op_sub (pe_un un_neg pe_int) (pe_call G__law_far hr (by rfl) m__law_far k__law_far b__law_far .nil pass0 (pa_cons (pv 0) (pa_cons (pv 3) pa_nil)))) (pa_cons (pe_un un_neg pe_int) pa_nil))) pa_nil))) (pe_call G__law_take hr (by rfl) m__law_take k__law_take b__law_take .nil pass0 (pa_cons (pv 0) (pa_cons pe_int pa_nil))) (fun _ _ => rfl)))
    (pss_cons (ps_if (pt_cmpR op_lt (pv 5) pe_int (nomark _))
      (pss_one (ps_ret (pe_op op_catA (pe_op op_catA (pe_slice sl_tupA (pv 4) po_none (po_some pe_int)) (pe_tup (pa_cons (pe_op op_catA (pe_op op_catA (pe_slice sl_tupA (pe_ix ix_tup (pv 4) pe_int (fun _ _ => rfl)) po_none (po_some (pv 8))) (pe_tup (pa_cons (pv 9) pa_nil))) (pe_slice sl_tupA (pe_ix ix_tup (pv 4) pe_int (fun _ _ => rfl)) (po_some (pv 8)) po_none)) pa_nil))) (pe_slice sl_tupA (pv 4) (po_some pe_int) po_none))))
      pss_nil)
    (pss_one (ps_ret (pe_op op_catA (pe_slice sl_tupA (pv 4) po_none (po_some pe_int)) (pe_tup (pa_cons (pe_ix ix_list (pe_lst (pa_cons (pe_op op_add (pv 2) (pe_call G__law_far hr (by rfl) m__law_far k__law_far b__law_far .nil pass0 (pa_cons (pv 0) (pa_cons (pv 3) pa_nil)))) (pa_cons (pe_op op_sub (pe_un un_neg pe_int) (pe_call G__law_far hr (by rfl) m__law_far k__law_far b__law_far .nil pass0 (pa_cons (pv 0) (pa_cons (pv 3) pa_nil)))) pa_nil))) (pe_call G__law_take hr (by rfl) m__law_take k__law_take b__law_take .nil pass0 (pa_cons (pv 0) (pa_cons pe_int pa_nil))) (fun _ _ => rfl)) pa_nil)))))))))))))), ?_⟩
  refine ⟨_, rfl, dr, 8, rfl, by decide, hd, fun kind H1 k0' k1' ex1 hd1 => ?_⟩
  refine ⟨_, rfl, _, rfl, _, rfl, dr, c, rfl, hd1, fun f1 H2 f10 _ ex2 hd2 => ⟨_, _, rfl, rfl, _, rfl, _, rfl, _, rfl, dr, c, rfl, hd2, fun f2 H3 f20 _ ex3 hd3 => ⟨_, _, rfl, rfl, by show 2 ≤ sizeLine; decide, fun p np => ⟨_, rfl, dr, 2, rfl, by decide, hd3.new np, fun y H4 y0 y1 ex4 hd4 => ?_⟩⟩⟩⟩
  obtain ⟨v, hv, hat⟩ := menu_at (xs := ([(r : Int) + f1, -3 - f2] : List Int).map V.int) y0 y1
  obtain ⟨b, hb, rfl⟩ := List.mem_map.mp hv
  have hb : ¬ (-2 ≤ b ∧ b < r) := by
    simp only [List.mem_cons, List.not_mem_nil, or_false] at hb
    omega
  have e4 := ((ex1.trans ex2).trans ex3).trans ((Ex.new np).trans ex4)
  refine ⟨p, _, _, _, rfl, rfl, SqL.of (ex4.lst (by simpa using hd3.ne np) upd_same), hat, ?_⟩
  clear hat hv ex4 ex3 ex2 ex1 hd3 hd2 hd1 f10 f20 y0 y1 np
  have hx4 := hx.ext e4
  have wd4 := e4.wd wd
  obtain ⟨ac, x1, x2, x3, x4, rfl, sq, d1, d2, d3, d4⟩ := hx4.t4
  cases at_int.mp d4
  refine ⟨_, rfl, _, rfl, 1, r, rfl, dr, _, rfl, by split <;> omega, hd4, fun at' H5 a0 a1 ex5 hd5 => ?_⟩
  have e5 := e4.trans ex5
  have wd5 := ex5.wd wd4
  have sq5 := ex5.sqT sq
  have hx5 := hx4.ext ex5
  replace d1 := d1.ext ex5
  replace d2 := d2.ext ex5
  replace d3 := d3.ext ex5
  clear ex5 hx4 wd4 sq hd4 e4
  obtain ⟨amv, mvs, rfl, sqmv, atmv⟩ := at_tup.mp d2
  obtain ⟨asy, sys, rfl, sqsy, atsy⟩ := at_tup.mp d3
  have rest : ∀ j, j ≤ 4 → (3 : Nat) ≤ 4 := fun _ _ => by decide
  clear rest
  -- the condition
  refine ⟨_, rfl, _, _, rfl, rfl, _, rfl, ite2 (fun c1 => ?_) (fun c1 => ?_)⟩
  · refine ⟨_, rfl, _, rfl, _, rfl, _, rfl, ac, _, _, _, rfl, rfl, sq5, rfl, dr, r, c, x1, k0.cond, rfl, d1, dp, wd5, hd5, fun v H6 c' a6 pl6 dp6 ex6 hd6 => ⟨by show 1 ≤ sizeLine; decide, fun p2 np2 => ?_⟩⟩
    have x7 := Ex.new (T := T) (ms := [dr]) (o := .tup [v]) np2
    have a7 : At K (upd H6 p2 (.tup [v])) (.ref p2) (.tup [encC c']) := At.laid np2 (Ats.mk a6 Ats.mk_nil)
    have hd7 := hd6.new (o := .tup [v]) np2
    have lx : ([encC k0.cond, D.tup (List.map D.int k0.moves), D.tup (List.map encSay k0.says), D.int k0.nxt] : List D).length = 4 := rfl
    refine ⟨_, rfl, _, rfl, dropT_at (T := T) (av := 1) ((hx5.ext ex6).ext x7) (by decide) (by rw [lx]; decide) fun v2 H8 a8 ex8 => catT_at (T := T) (a7.ext ex8) a8 (Nat.le_trans (Nat.le_refl 4) (by decide)) fun v3 H9 a9 ex9 => ?_⟩
    have e89 := ex8.trans ex9
    exact q _ _ ⟨c', k0.moves, k0.says, k0.nxt⟩ a9 (fun z => by rw [show plB r c' = true from z.pl] at pl6; cases pl6) dp6 (((e5.trans ex6).trans x7).trans (e89.mono (by simp))) (let ⟨ds, z⟩ := hd7; ⟨ds, e89.lst (by simp) z⟩)
  have c2 : 2 ≤ kind := by have := of_decide_eq_false (Bool.eq_false_iff.mpr c1); omega
  have lx : ([encC k0.cond, D.tup (List.map D.int k0.moves), D.tup (List.map encSay k0.says), D.int k0.nxt] : List D).length = 4 := rfl
  have r0 : 0 ≤ (r : Int) := Int.natCast_nonneg r
  -- a source
  refine ⟨fun σ' H' => σ' = [some (.ref dr), some (.int (r : Nat)), some (.int (S : Nat)), some (.int c), some (.ref ac), some (.int kind), some (.int b), some (.int at'), none, none] ∧ H' = H5, ?_, ?_⟩
  · refine ⟨_, rfl, rfl, _, rfl, ite2 (fun c3 => ⟨_, rfl, _, _, rfl, rfl, _, rfl, ite2 (fun c4 => ?_) (fun c4 => ⟨rfl, rfl⟩)⟩) (fun c3 => iteF ⟨rfl, rfl⟩)⟩
    have c5 : 0 < (r : Int) := of_decide_eq_true c4
    have al : at' < r := by
      have h := a1
      rw [show (if (r : Int) > 1 then (r : Int) else 1) = r by split <;> omega] at h
      exact h
    refine ⟨_, rfl, ac, _, _, _, rfl, rfl, sq5, rfl, _, rfl, ac, _, _, _, rfl, rfl, sq5, rfl, _, rfl, _, rfl, takeT_at (T := T) d2 a0 (by rw [List.length_map]; omega) fun v1 H6 a6 ex6 => ⟨_, rfl, by show 1 ≤ sizeLine; decide, fun p1 np1 => ?_⟩⟩
    have x7 := Ex.new (T := T) (ms := []) (o := .tup [.int b]) np1
    have a7 : At K (upd H6 p1 (.tup [.int b])) (.ref p1) (.tup [D.int b]) := At.laid np1 (Ats.mk (at_int.mpr rfl) Ats.mk_nil)
    refine catT_at (T := T) (a6.ext x7) a7 (by rw [List.length_take, List.length_map]; show min _ _ + 1 ≤ 1000000; omega) fun v2 H8 a8 ex8 => ?_
    have e58 := (ex6.trans x7).trans ex8
    refine ⟨_, rfl, ac, _, _, _, rfl, rfl, e58.sqT sq5, rfl, _, rfl, _, _, rfl, rfl, _, rfl, dropT_at (T := T) (d2.ext e58) (by omega) (by rw [List.length_map]; omega) fun v3 H9 a9 ex9 => catT_at (T := T) (a8.ext ex9) a9 (by simp; omega) fun v4 H10 a10 ex10 => ⟨by show 2 ≤ sizeLine; decide, fun p2 np2 => ?_⟩⟩
    have e510 := e58.trans (ex9.trans ex10)
    have x11 := Ex.new (T := T) (ms := []) (o := .tup [x1, v4]) np2
    have a11 := At.laid (ds := [encC k0.cond, .tup ((k0.moves.map D.int).take at'.toNat ++ [D.int b] ++ (k0.moves.map D.int).drop (at' + 1).toNat)]) np2 (Ats.mk (d1.ext e510) (Ats.mk a10 Ats.mk_nil))
    have e511 := e510.trans x11
    refine ⟨_, rfl, _, rfl, dropT_at (T := T) (av := 2) (hx5.ext e511) (by decide) (by rw [lx]; decide) fun v5 H12 a12 ex12 => catT_at (T := T) (a11.ext ex12) a12 (Nat.le_trans (Nat.le_refl 4) (by decide)) fun v6 H13 a13 ex13 => ?_⟩
    have e513 := e511.trans (ex12.trans ex13)
    refine q _ _ ⟨k0.cond, k0.moves.take at'.toNat ++ [b] ++ k0.moves.drop (at' + 1).toNat, k0.says, k0.nxt⟩ ?_ (fun z => hb (z.mv b (by simp))) (dpC_mono (by omega) dp) (e5.trans (e513.mono (by simp))) (let ⟨ds, z⟩ := hd5; ⟨ds, e513.lst (by simp) z⟩)
    unfold encRC
    rw [List.map_append, List.map_append, List.map_take, List.map_drop]
    exact a13
  rintro σ' H' ⟨rfl, rfl⟩
  -- the number of sources
  refine ⟨_, rfl, rfl, _, rfl, ite2 (fun c6 => ?_) (fun c6 => ?_)⟩
  · have lone : ∀ l : List D, l = k0.moves.map D.int → l.length + 1 ≤ 1000000 := fun l e => by rw [e, List.length_map]; omega
    refine ⟨_, rfl, ac, _, _, _, rfl, rfl, sq5, rfl, _, rfl, ac, _, _, _, rfl, rfl, sq5, rfl, _, rfl, by show 1 ≤ sizeLine; decide, fun p1 np1 => ?_⟩
    have y1 := Ex.new (T := T) (ms := []) (o := .tup [.int (-1)]) np1
    have b1 : At K (upd H' p1 (.tup [.int (-1)])) (.ref p1) (.tup [D.int (-1)]) := At.laid np1 (Ats.mk (at_int.mpr rfl) Ats.mk_nil)
    refine catT_at (T := T) (d2.ext y1) b1 (lone _ rfl) fun v1 H6 a6 ex6 => ?_
    have e6 := y1.trans ex6
    refine ⟨_, rfl, ac, _, _, _, rfl, rfl, e6.sqT sq5, rfl, _, rfl, by show 1 ≤ sizeLine; decide, fun p2 np2 => ?_⟩
    have y2 := Ex.new (T := T) (ms := []) (o := .tup [.int (-1)]) np2
    have b2 : At K (upd H6 p2 (.tup [.int (-1)])) (.ref p2) (.tup [D.int (-1)]) := At.laid np2 (Ats.mk (at_int.mpr rfl) Ats.mk_nil)
    refine catT_at (T := T) (d2.ext (e6.trans y2)) b2 (lone _ rfl) fun v2 H7 a7 ex7 => ?_
    have e7 := (e6.trans y2).trans ex7
    have a6' := a6.ext (y2.trans ex7)
    refine ⟨_, rfl, ac, _, _, _, rfl, rfl, e7.sqT sq5, rfl, _, rfl, ?_⟩
    dsimp only [tNoPart]
    refine dropT_one (T := T) (d2.ext e7) fun v3 H8 a8 ex8 => ⟨by show 3 ≤ sizeLine; decide, fun L nL => ?_⟩
    have e8 := e7.trans ex8
    have hd8 : Dr H8 dr := let ⟨ds, z⟩ := hd5; ⟨ds, e8.lst (by simp) z⟩
    have xL := Ex.new (T := T) (ms := [dr]) (o := HO.lst [v1, v2, v3]) nL
    refine ⟨_, rfl, _, rfl, _, _, rfl, rfl, .inr ⟨_, rfl, _, _, rfl, rfl, dr, _, rfl, ?_, hd8.new nL, fun t H9 t0 t1 ex9 hd9 => ?_⟩⟩
    · split <;> omega
    have x89 := (e8.mono (ms' := [dr]) (by simp)).trans (xL.trans ex9)
    have x79 := (ex8.mono (ms' := [dr]) (by simp)).trans (xL.trans ex9)
    have x89' := xL.trans ex9
    obtain ⟨v, ms, hat, amv', lms⟩ : ∃ (v : V) (ms : List Int), atI [v1, v2, v3] t = some v ∧ At K H9 v (.tup (ms.map D.int)) ∧ (ms.length : Int) ≠ r := by
      have tc : t = 0 ∨ t = 1 ∨ (t = 2 ∧ 0 < (r : Int)) := by
        by_cases hr0 : (0 : Int) < r
        · rw [decide_eq_true hr0, if_pos rfl] at t1; omega
        · rw [decide_eq_false hr0, if_neg (by simp)] at t1; omega
      rcases tc with rfl | rfl | ⟨rfl, hr0⟩
      · exact ⟨v1, k0.moves ++ [-1], rfl, by rw [List.map_append]; exact a6'.ext x79, by rw [List.length_append, lm]; show ((r + 1 : Nat) : Int) ≠ r; omega⟩
      · exact ⟨v2, k0.moves ++ [-1], rfl, by rw [List.map_append]; exact a7.ext x79, by rw [List.length_append, lm]; show ((r + 1 : Nat) : Int) ≠ r; omega⟩
      · exact ⟨v3, k0.moves.drop 1, rfl, by rw [List.map_drop]; exact a8.ext x89', by rw [List.length_drop, lm]; omega⟩
    refine ⟨L, _, _, _, rfl, rfl, SqL.of (ex9.lst (by simpa using hd8.ne nL) upd_same), hat, by show 2 ≤ sizeLine; decide, fun p3 np3 => ?_⟩
    have x10 := Ex.new (T := T) (ms := [dr]) (o := .tup [x1, v]) np3
    have a10 : At K (upd H9 p3 (.tup [x1, v])) (.ref p3) (.tup [encC k0.cond, .tup (ms.map D.int)]) := At.laid np3 (Ats.mk (d1.ext x89) (Ats.mk amv' Ats.mk_nil))
    have hd10 := hd9.new (o := .tup [x1, v]) np3
    refine ⟨_, rfl, _, rfl, dropT_at (T := T) (av := 2) (hx5.ext (x89.trans x10)) (by decide) (by rw [lx]; decide) fun v5 H12 a12 ex12 => catT_at (T := T) (a10.ext ex12) a12 (Nat.le_trans (Nat.le_refl 4) (by decide)) fun v6 H13 a13 ex13 => ?_⟩
    have e1013 := ex12.trans ex13
    exact q _ _ ⟨k0.cond, ms, k0.says, k0.nxt⟩ a13 (fun z => lms z.ml) (dpC_mono (by omega) dp) ((e5.trans (x89.trans x10)).trans (e1013.mono (by simp))) (let ⟨ds, z⟩ := hd10; ⟨ds, e1013.lst (by simp) z⟩)
  have lsy : sys.length = k0.says.length := atsy.len
  refine ⟨_, rfl, _, rfl, ac, _, _, _, rfl, rfl, sq5, rfl, asy, _, rfl, .inr sqsy, _, _, rfl, rfl, dr, _, rfl, by omega, hd5, fun pl H6 p0 p1 ex6 hd6 => ?_⟩
  refine ⟨_, rfl, by show 2 ≤ sizeLine; decide, fun q1 nq1 => ?_⟩
  have y1 := Ex.new (T := T) (ms := [dr]) (o := .tup [.int 0, .int b]) nq1
  have b1 : At K (upd H6 q1 (.tup [.int 0, .int b])) (.ref q1) (encSay (0, b)) := At.laid nq1 (Ats.mk (at_int.mpr rfl) (Ats.mk (at_int.mpr rfl) Ats.mk_nil))
  have hd7 := hd6.new (o := .tup [.int 0, .int b]) nq1
  refine ⟨_, rfl, _, rfl, _, rfl, dr, c, rfl, hd7, fun f3 H8 f30 _ ex8 hd8 => ⟨_, _, rfl, rfl, _, rfl, by show 2 ≤ sizeLine; decide, fun q2 nq2 => ?_⟩⟩
  have y2 := Ex.new (T := T) (ms := [dr]) (o := .tup [.int (-1 - f3), .int (-1)]) nq2
  have b2 : At K (upd H8 q2 (.tup [.int (-1 - f3), .int (-1)])) (.ref q2) (encSay (-1 - f3, -1)) := At.laid nq2 (Ats.mk (at_int.mpr rfl) (Ats.mk (at_int.mpr rfl) Ats.mk_nil))
  have hd9 := hd8.new (o := .tup [.int (-1 - f3), .int (-1)]) nq2
  refine ⟨by show 2 ≤ sizeLine; decide, fun L nL => ⟨_, rfl, dr, 2, rfl, by decide, hd9.new nL, fun u H10 u0 u1 ex10 hd10 => ?_⟩⟩
  have xL := (Ex.new (T := T) (ms := [dr]) (o := HO.lst [.ref q1, .ref q2]) nL).trans ex10
  obtain ⟨v, sd, hat, asd, bsd⟩ : ∃ (v : V) (sd : Int × Int), atI [.ref q1, .ref q2] u = some v ∧ At K H10 v (encSay sd) ∧ ¬ (0 ≤ sd.1 ∧ -2 ≤ sd.2 ∧ sd.2 < r) := by
    have uc : u = 0 ∨ u = 1 := by omega
    rcases uc with rfl | rfl
    · exact ⟨_, _, rfl, (b1.ext (ex8.trans y2)).ext xL, fun z => hb z.2⟩
    · exact ⟨_, _, rfl, b2.ext xL, fun z => by have := z.1; omega⟩
  refine ⟨L, _, _, _, rfl, rfl, SqL.of (ex10.lst (by simpa using hd9.ne nL) upd_same), hat, ?_⟩
  have e10 := ((ex6.trans y1).trans (ex8.trans y2)).trans xL
  have hx10 := hx5.ext e10
  have sq10 := e10.sqT sq5
  have d310 := d3.ext e10
  have ple : pl ≤ k0.says.length := by omega
  clear b1 b2 y1 y2 hd7 hd8 hd9 ex6 ex8 ex10 xL hat nL nq1 nq2 u0 u1
  refine ⟨_, rfl, _, _, rfl, rfl, _, rfl, ite2 (fun c7 => ?_) (fun c7 => ?_)⟩
  · refine ⟨_, rfl, _, rfl, takeT_at (T := T) (av := 2) hx10 (by decide) (by rw [lx]; decide) fun v1 H11 a11 x11 => ⟨_, rfl, ac, _, _, _, rfl, rfl, x11.sqT sq10, rfl, _, rfl, _, rfl, takeT_at (T := T) (d310.ext x11) p0 (by rw [List.length_map]; exact ple) fun v2 H12 a12 x12 => ⟨_, rfl, by show 1 ≤ sizeLine; decide, fun q3 nq3 => ?_⟩⟩⟩
    have x13 := Ex.new (T := T) (ms := []) (o := .tup [v]) nq3
    have e13 := (x11.trans x12).trans x13
    have a13 : At K (upd H12 q3 (.tup [v])) (.ref q3) (.tup [encSay sd]) := At.laid nq3 (Ats.mk (asd.ext (x11.trans x12)) Ats.mk_nil)
    refine catT_at (T := T) (a12.ext x13) a13 (by rw [List.length_take, List.length_map]; show min _ _ + 1 ≤ 1000000; omega) fun v3 H14 a14 x14 => ?_
    have e14 := e13.trans x14
    refine ⟨_, rfl, ac, _, _, _, rfl, rfl, e14.sqT sq10, rfl, _, rfl, _, rfl, dropT_at (T := T) (d310.ext e14) p0 (by rw [List.length_map]; exact ple) fun v4 H15 a15 x15 => catT_at (T := T) (a14.ext x15) a15 (by simp; omega) fun v5 H16 a16 x16 => ⟨by show 1 ≤ sizeLine; decide, fun q4 nq4 => ?_⟩⟩
    have e16 := e14.trans (x15.trans x16)
    have x17 := Ex.new (T := T) (ms := []) (o := .tup [v5]) nq4
    have a17 := At.laid (ds := [.tup ((k0.says.map encSay).take pl.toNat ++ [encSay sd] ++ (k0.says.map encSay).drop pl.toNat)]) nq4 (Ats.mk a16 Ats.mk_nil)
    have e17 := e16.trans x17
    refine catT_at (T := T) (a11.ext (((x12.trans x13).trans x14).trans ((x15.trans x16).trans x17))) a17 (by show 2 + 1 ≤ 1000000; decide) fun v6 H18 a18 x18 => ?_
    have e18 := e17.trans x18
    refine ⟨_, rfl, _, rfl, dropT_at (T := T) (av := 3) (hx10.ext e18) (by decide) (by rw [lx]; decide) fun v7 H19 a19 x19 => catT_at (T := T) (a18.ext x19) a19 (by show 3 + 1 ≤ 1000000; decide) fun v8 H20 a20 x20 => ?_⟩
    have e20 := e18.trans (x19.trans x20)
    refine q _ _ ⟨k0.cond, k0.moves, k0.says.take pl.toNat ++ [sd] ++ k0.says.drop pl.toNat, k0.nxt⟩ ?_ (fun z => bsd (z.say sd (by simp))) (dpC_mono (by omega) dp) ((e5.trans e10).trans (e20.mono (by simp))) (let ⟨ds, z⟩ := hd10; ⟨ds, e20.lst (by simp) z⟩)
    unfold encRC
    rw [List.map_append, List.map_append, List.map_take, List.map_drop]
    exact a20
  refine ⟨_, rfl, _, rfl, takeT_at (T := T) (av := 3) hx10 (by decide) (by rw [lx]; decide) fun v1 H11 a11 x11 => ?_⟩
  have hd11 : Dr H11 dr := let ⟨ds, z⟩ := hd10; ⟨ds, x11.lst (by simp) z⟩
  refine ⟨_, rfl, _, rfl, _, rfl, dr, c, rfl, hd11, fun g1 H12 g10 _ ex12 hd12 => ⟨_, _, rfl, rfl, _, rfl, _, rfl, _, rfl, dr, c, rfl, hd12, fun g2 H13 g20 _ ex13 hd13 => ⟨_, _, rfl, rfl, by show 2 ≤ sizeLine; decide, fun L2 nL2 => ⟨_, rfl, dr, 2, rfl, by decide, hd13.new nL2, fun u H14 u0 u1 ex14 hd14 => ?_⟩⟩⟩⟩
  obtain ⟨vn, hvn, hat2⟩ := menu_at (xs := ([(S : Int) + g1, -1 - g2] : List Int).map V.int) u0 u1
  obtain ⟨nx, hnx, rfl⟩ := List.mem_map.mp hvn
  have hnx : ¬ (0 ≤ nx ∧ nx < S) := by
    simp only [List.mem_cons, List.not_mem_nil, or_false] at hnx
    omega
  have x14 := (ex12.trans ex13).trans ((Ex.new (T := T) (ms := [dr]) (o := HO.lst (([(S : Int) + g1, -1 - g2] : List Int).map V.int)) nL2).trans ex14)
  refine ⟨L2, _, _, _, rfl, rfl, SqL.of (ex14.lst (by simpa using hd13.ne nL2) upd_same), hat2, by show 1 ≤ sizeLine; decide, fun q3 nq3 => ?_⟩
  have x15 := Ex.new (T := T) (ms := [dr]) (o := .tup [.int nx]) nq3
  have a15 : At K (upd H14 q3 (.tup [.int nx])) (.ref q3) (.tup [D.int nx]) := At.laid nq3 (Ats.mk (at_int.mpr rfl) Ats.mk_nil)
  have hd15 := hd14.new (o := .tup [.int nx]) nq3
  refine catT_at (T := T) (a11.ext (x14.trans x15)) a15 (by show 3 + 1 ≤ 1000000; decide) fun v2 H16 a16 x16 => ?_
  exact q _ _ ⟨k0.cond, k0.moves, k0.says, nx⟩ a16 (fun z => hnx z.nx) (dpC_mono (by omega) dp) (((e5.trans e10).trans (x11.mono (by simp))).trans ((x14.trans x15).trans (x16.mono (by simp)))) (let ⟨ds, z⟩ := hd15; ⟨ds, x16.lst (by simp) z⟩)

abbrev N__law_spoilt : List Str := ["draws", "machine", "cell", "tags", "steps", "kind", "at", "tag", "row", "cases", "case", "place", "bad"]
theorem sc__law_spoilt : FnScope N__law_spoilt ["draws", "machine", "cell"] (defScope s__law_spoilt) := ⟨rfl, rfl, rfl, by decide +kernel, rfl, by decide +kernel, by decide +kernel⟩
def sp__law_spoilt (K : PySem.W.Frag) (T : List Addr) (n : Nat) : Sp := fun vs H Q _ => ∃ (dr : Addr) (c : Int) (x : V) (m : M), vs = [.ref dr, x, .int c] ∧ At K H x (encM m) ∧ okM n m ∧ 3 ≤ n ∧ Wd T H ∧ Dr H dr ∧
  ∀ v H' m', At K H' v (encRM m') → ¬ MachR m' → (∀ s ∈ m'.steps, ∀ cs ∈ s, ∀ c ∈ cs, dpC (n + 14) c.cond) → Ex T [dr] H H' → Dr H' dr → Q v H'
theorem ok__law_spoilt {f : Addr} {fd : FuncData} {k : Nat} {T : List Addr} {n : Nat} (F : Fun K "_law_spoilt" "_law_spoilt" s__law_spoilt f fd) (m_len : mg "len" = none)
    {a__law_take : Addr} {d__law_take : FuncData} (G__law_take : FnOk P w K mg base CX0 k a__law_take d__law_take ["draws", "many"] (sp__law_take T)) (k__law_take : PySem.W.keepIn K (.ref a__law_take) = true) (b__law_take : Binds K d__law_take ["draws", "many"] []) (m__law_take : mg "_law_take" = some (.ref a__law_take))
    {a__law_far : Addr} {d__law_far : FuncData} (G__law_far : FnOk P w K mg base CX0 k a__law_far d__law_far ["draws", "cell"] (sp__law_far T)) (k__law_far : PySem.W.keepIn K (.ref a__law_far) = true) (b__law_far : Binds K d__law_far ["draws", "cell"] []) (m__law_far : mg "_law_far" = some (.ref a__law_far))
    {a__law_condition : Addr} {d__law_condition : FuncData} (G__law_condition : FnOk P w K mg base CX0 k a__law_condition d__law_condition ["draws", "registers", "depth"] (sp__law_condition K T 3)) (k__law_condition : PySem.W.keepIn K (.ref a__law_condition) = true) (b__law_condition : Binds K d__law_condition ["draws", "registers", "depth"] []) (m__law_condition : mg "_law_condition" = some (.ref a__law_condition))
    {a__law_bad_case : Addr} {d__law_bad_case : FuncData} (G__law_bad_case : FnOk P w K mg base CX0 k a__law_bad_case d__law_bad_case ["draws", "registers", "standings", "cell", "case"] (sp__law_bad_case K T n)) (k__law_bad_case : PySem.W.keepIn K (.ref a__law_bad_case) = true) (b__law_bad_case : Binds K d__law_bad_case ["draws", "registers", "standings", "cell", "case"] []) (m__law_bad_case : mg "_law_bad_case" = some (.ref a__law_bad_case)) :
    FnOk P w K mg base CX0 (k + 1) f fd ["draws", "machine", "cell"] (sp__law_spoilt K T n) := by
  refine F.ok sc__law_spoilt (fun vs H Q E h => ?_) (fun cdv A outer s H vs Q E hr h => ?_)
  · obtain ⟨dr, c, x, m, rfl, _⟩ := h
    rfl
  obtain ⟨dr, c, x, m, rfl, hx, ok, n2, wd, hd, q⟩ := h
  refine ⟨_, (pss_cons (ps_set (i := 3) sc__law_spoilt.nd rfl (.inl rfl) (pe_ix ix_tup (pv 1) pe_int (fun _ _ => rfl)))
    (pss_cons (ps_set (i := 4) sc__law_spoilt.nd rfl (.inl rfl) (pe_ix ix_tup (pv 1) pe_int (fun _ _ => rfl)))
    (pss_cons (ps_set (i := 5) sc__law_spoilt.nd rfl (.inl rfl) (pe_call G__law_take hr (by rfl) m__law_take k__law_take b__law_take .nil pass0 (pa_cons (pv 0) (pa_cons pe_int pa_nil))))
    (pss_cons (ps_set (i := 6) sc__law_spoilt.nd rfl (.inl rfl) (pe_call G__law_take hr (by rfl) m__law_take k__law_take b__law_take .nil pass0 (pa_cons (pv 0) (pa_cons (pe_callB call_len_seq (by rfl) m_len PySem.boot_len (pa_cons (pv 4) pa_nil)) pa_nil))))
    (pss_cons (ps_set (i := 7) sc__law_spoilt.nd rfl (.inl rfl) (pe_call G__law_take hr (by rfl) m__law_take k__law_take b__law_take .nil pass0 (pa_cons (pv 0) (pa_cons (pv 3) pa_nil))))
    (pss_cons (ps_if (pt_cmpR op_eq (pv 5) pe_int (nomark _))
      (pss_one (ps_ret (pe_tup (pa_cons (pv 3) (pa_cons (pe_op op_sub (pe_un un_neg pe_int) (pe_call G__law_far hr (by rfl) m__law_far k__law_far b__law_far .nil pass0 (pa_cons (pv 0) (pa_cons (pv 2) pa_nil)))) (pa_cons (pv 4) pa_nil))))))
      pss_nil)
    (pss_cons (ps_if (pt_cmpR op_eq (pv 5) pe_int (nomark _))
      (pss_one (ps_ret (pe_tup (pa_cons (pv 3) (pa_cons (pe_ix ix_tup (pv 1) pe_int (fun _ _ => rfl)) (pa_cons (pe_tup pa_nil) pa_nil))))))
      pss_nil)
    (pss_cons (ps_if (pt_cmpR op_eq (pv 5) pe_int (nomark _))
      (pss_cons (ps_set (i := 8) sc__law_spoilt.nd rfl (.inl rfl) (pe_ix ix_list (pe_lst (pa_cons (pe_slice sl_tupA (pe_ix ix_tup (pv 4) (pv 6) (fun _ _ => rfl)) (po_some pe_int) po_none) (pa_cons (pe_op op_catA (pe_ix ix_tup (pv 4) (pv 6) (fun _ _ => rfl)) (pe_tup (pa_cons (pe_tup pa_nil) pa_nil))) pa_nil))) (pe_call G__law_take hr (by rfl) m__law_take k__law_take b__law_take .nil pass0 (pa_cons (pv 0) (pa_cons pe_int pa_nil))) (fun _ _ => rfl)))
      (pss_one (ps_ret (pe_tup (pa_cons (pv 3) (pa_cons (pe_ix ix_tup (pv 1) pe_int (fun _ _ => rfl)) (pa_cons (pe_op op_catA (pe_op op_catA (pe_slice sl_tupA (pv 4) po_none (po_some (pv 6))) (pe_tup (pa_cons (pv 8) pa_nil))) (pe_slice sl_tupA (pv 4) (po_some (pe_op op_add (pv 6) pe_int)) po_none)) pa_nil)))))))
      pss_nil)
    (pss_cons (ps_if (pt_cmpR op_eq (pv 5) pe_int (nomark _))
      (pss_one (ps_ret (pe_tup (pa_cons (pe_un un_neg (pe_call G__law_far hr (by rfl) m__law_far k__law_far b__law_far .nil pass0 (pa_cons (pv 0) (pa_cons (pv 2) pa_nil)))) (pa_cons (pe_ix ix_tup (pv 1) pe_int (fun _ _ => rfl)) (pa_cons (pe_op Tm.op_repN (pe_tup (pa_cons (pe_tup pa_nil) pa_nil)) (pe_callB call_len_seq (by rfl) m_len PySem.boot_len (pa_cons (pv 4) pa_nil))) pa_nil))))))
      pss_nil)
    (pss_cons (ps_if (pt_cmpR op_eq (pv 5) pe_int (nomark _))
      (pss_one (ps_ret (pe_tup (pa_cons (pe_ix ix_list (pe_lst (pa_cons (pe_op op_add (pe_op op_add (pv 3) pe_int) (pe_call G__law_far hr (by rfl) m__law_far k__law_far b__law_far .nil pass0 (pa_cons (pv 0) (pa_cons (pv 2) pa_nil)))) (pa_cons (pe_op op_sub (pv 3) pe_int) pa_nil))) (pe_call G__law_take hr (by rfl) m__law_take k__law_take b__law_take .nil pass0 (pa_cons (pv 0) (pa_cons pe_int pa_nil))) (fun _ _ => rfl)) (pa_cons (pe_ix ix_tup (pv 1) pe_int (fun _ _ => rfl)) (pa_cons (pv 4) pa_nil))))))
      pss_nil)
    (pss_cons (ps_set (i := 9) sc__law_spoilt.nd rfl (.inl rfl) (pe_ix ix_tup (pe_ix ix_tup (pv 4) (pv 6) (fun _ _ => rfl)) (pv 7) (fun _ _ => rfl)))
    (pss_cons (ps_set (i := 10) sc__law_spoilt.nd rfl (.inl rfl) (pe_tup (pa_cons (pe_call G__law_condition hr (by rfl) m__law_condition k__law_condition b__law_condition .nil pass0 (pa_cons (pv 0) (pa_cons (pe_ix ix_tup (pv 1) pe_int (fun _ _ => rfl)) (pa_cons pe_int pa_nil)))) (pa_cons (pe_op Tm.op_repN (pe_tup (pa_cons (pe_un un_neg pe_int) pa_nil)) (pe_ix ix_tup (pv 1) pe_int (fun _ _ => rfl))) (pa_cons (pe_tup pa_nil) (pa_cons pe_int pa_nil))))))
    (C8.pss_cut (ps_if (pw_and (pt_cmpR op_gt (pe_callB call_len_seq (by rfl) m_len PySem.boot_len (pa_cons (pv 9) pa_nil)) pe_int (nomark _)) (pw_and1 (pt_cmpR op_eq (pe_call G__law_take hr (by rfl) m__law_take k__law_take b__law_take .nil pass0 (pa_cons (pv 0) (pa_cons pe_int pa_nil))) pe_int (nomark _)))).pt
      (pss_one (ps_set (i := 10) sc__law_spoilt.nd rfl (.inl rfl) (pe_ix ix_tup (pv 9) (pe_call G__law_take hr (by rfl) m__law_take k__law_take b__law_take .nil pass0 (pa_cons (pv 0) (pa_cons (pe_callB call_len_seq (by rfl) m_len PySem.boot_len (pa_cons (pv 9) pa_nil)) pa_nil))) (fun _ _ => rfl))))
      pss_nil)
    (pss_cons (ps_set (i := 11) sc__law_spoilt.nd rfl (.inl rfl) (pe_call G__law_take hr (by rfl) m__law_take k__law_take b__law_take .nil pass0 (pa_cons (pv 0) (pa_cons (pe_op op_add (pe_callB call_len_seq (by rfl) m_len PySem.boot_len (pa_cons (pv 9) pa_nil)) pe_int) pa_nil))))
    (pss_cons (ps_set (i := 12) sc__law_spoilt.nd rfl (.inl rfl) (pe_call G__law_bad_case hr (by rfl) m__law_bad_case k__law_bad_case b__law_bad_case .nil pass0 (pa_cons (pv 0) (pa_cons (pe_ix ix_tup (pv 1) pe_int (fun _ _ => rfl)) (pa_cons (pe_callB call_len_seq (by rfl) m_len PySem.boot_len (pa_cons (pv 4) pa_nil)) (pa_cons (pv 2) (pa_cons (pv 10) pa_nil)))))))
    (pss_cons (ps_set (i := 8) sc__law_spoilt.nd rfl (.inl rfl) (pe_op op_catA (pe_op op_catA (pe_slice sl_tupA (pe_ix ix_tup (pv 4) (pv 6) (fun _ _ => rfl)) po_none (po_some (pv 7))) (pe_tup (pa_cons (pe_op op_catA (pe_op op_catA (pe_slice sl_tupA (pv 9) po_none (po_some (pv 11))) (pe_tup (pa_cons (pv 12) pa_nil))) (pe_slice sl_tupA (pv 9) (po_some (pv 11)) po_none)) pa_nil))) (pe_slice sl_tupA (pe_ix ix_tup (pv 4) (pv 6) (fun _ _ => rfl)) (po_some (pe_op op_add (pv 7) pe_int)) po_none)))
    (pss_one (ps_ret (pe_tup (pa_cons (pv 3) (pa_cons (pe_ix ix_tup (pv 1) pe_int (fun _ _ => rfl)) (pa_cons (pe_op op_catA (pe_op op_catA (pe_slice sl_tupA (pv 4) po_none (po_some (pv 6))) (pe_tup (pa_cons (pv 8) pa_nil))) (pe_slice sl_tupA (pv 4) (po_some (pe_op op_add (pv 6) pe_int)) po_none)) pa_nil)))))))))))))))))))))), ?_⟩
  obtain ⟨am, y1, y2, y3, rfl, sqm, h1, h2, h3⟩ := hx.t3
  cases at_int.mp h1
  cases at_int.mp h2
  obtain ⟨as', xs, rfl, sqs, ats⟩ := at_tup.mp h3
  have xl : xs.length = m.steps.length := ats.len
  have s1 := ok.some
  have t1 := ok.tags
  refine ⟨_, rfl, am, _, _, _, rfl, rfl, sqm, rfl, _, rfl, am, _, _, _, rfl, rfl, sqm, rfl, ?_⟩
  refine ⟨_, rfl, dr, 12, rfl, by decide, hd, fun kind H1 k0 k1 ex1 hd1 => ?_⟩
  refine ⟨_, rfl, _, rfl, as', _, rfl, .inr (ex1.sqT sqs), dr, _, rfl, by omega, hd1, fun at' H2 a0 a1 ex2 hd2 => ?_⟩
  refine ⟨_, rfl, _, rfl, dr, _, rfl, by omega, hd2, fun tg H3 g0 g1 ex3 hd3 => ?_⟩
  have e3 := (ex1.trans ex2).trans ex3
  have rs := raw_steps m
  have rl : (rawM m).steps.length = m.steps.length := List.length_map ..
  have rd : ∀ s ∈ (rawM m).steps, ∀ cs ∈ s, ∀ c ∈ cs, dpC (n + 14) c.cond := fun s hs cs hcs c hc => dpC_mono (by omega) (raw_dp ok s hs cs hcs c hc)
  have h33 : At K H3 (.ref as') (.tup ((rawM m).steps.map encRSt)) := by rw [rs]; exact h3.ext e3
  have sqm3 := e3.sqT sqm
  have sqs3 := e3.sqT sqs
  have rr := raw_right ok
  clear ex1 ex2 ex3 hd1 hd2
  -- registers below 0
  refine ⟨_, rfl, rfl, _, rfl, ite2 (fun c0 => ?_) (fun c0 => ?_)⟩
  · refine ⟨_, rfl, _, rfl, _, rfl, _, rfl, dr, c, rfl, hd3, fun g H4 g0' _ ex4 hd4 => ⟨_, _, rfl, rfl, _, rfl, by show 3 ≤ sizeLine; decide, fun p np => ?_⟩⟩
    have x5 := Ex.new (T := T) (ms := [dr]) (o := .tup [.int m.tags, .int (-1 - g), .ref as']) np
    refine q _ _ ⟨m.tags, -1 - g, (rawM m).steps⟩ (At.laid np (Ats.mk (at_int.mpr rfl) (Ats.mk (at_int.mpr rfl) (Ats.mk (h33.ext ex4) Ats.mk_nil)))) (fun z => ?_) rd ((e3.trans ex4).trans x5) (hd4.new np)
    have : (0 : Int) ≤ -1 - g := z.rg
    omega
  -- no standing
  refine ⟨_, rfl, rfl, _, rfl, ite2 (fun c1 => ?_) (fun c1 => ?_)⟩
  · refine ⟨_, rfl, _, rfl, am, _, _, _, rfl, rfl, sqm3, rfl, Nat.zero_le _, fun p1 np1 => ⟨by show 3 ≤ sizeLine; decide, fun p np => ?_⟩⟩
    have x4 := Ex.new (T := T) (ms := [dr]) (o := .tup ([] : List V)) np1
    have x5 := Ex.new (T := T) (ms := [dr]) (o := .tup [.int m.tags, .int m.regs, .ref p1]) np
    exact q _ _ ⟨m.tags, m.regs, []⟩ (At.laid np (Ats.mk (at_int.mpr rfl) (Ats.mk (at_int.mpr rfl) (Ats.mk (At.laid np1 Ats.mk_nil) Ats.mk_nil)))) (fun z => z.st rfl) (fun s hs => by cases hs) ((e3.trans x4).trans x5) ((hd3.new np1).new np)
  obtain ⟨a, rfl⟩ := Int.eq_ofNat_of_zero_le a0
  have al : a < (rawM m).steps.length := by rw [rl]; omega
  obtain ⟨_, xs', exs, _, ats3⟩ := at_tup.mp h33
  cases exs
  have ats3 : Ats K H3 xs ((rawM m).steps.map encRSt) := by rw [rs]; exact Ats.ext e3 ats
  obtain ⟨xr, hx1, hx2⟩ := ats3.get (i := a) (d := encRSt (rawM m).steps[a]) (by rw [List.getElem?_map, List.getElem?_eq_getElem al]; rfl)
  obtain ⟨ar, xrs, rfl, sqr, atr⟩ := at_tup.mp hx2
  have smem := List.getElem_mem al
  have slen := rr.ln _ smem
  have sdp := rd _ smem
  -- a row of another length
  refine ⟨_, rfl, rfl, _, rfl, ite2 (fun c2 => ?_) (fun c2 => ?_)⟩
  · refine ⟨_, rfl, _, rfl, as', _, _, _, rfl, rfl, sqs3, at_natI hx1, _, rfl, ?_⟩
    dsimp only [tNoPart]
    refine dropT_one (T := T) hx2 fun v1 H4 a4 x4 => ?_
    refine ⟨_, rfl, _, rfl, as', _, _, _, rfl, rfl, x4.sqT sqs3, at_natI hx1, Nat.zero_le _, fun p1 np1 => ⟨by show 1 ≤ sizeLine; decide, fun p2 np2 => ?_⟩⟩
    have y1 := Ex.new (T := T) (ms := []) (o := .tup ([] : List V)) np1
    have y2 := Ex.new (T := T) (ms := []) (o := .tup [.ref p1]) np2
    have b1 : At K (upd H4 p1 (.tup [])) (.ref p1) (encRCs []) := At.laid np1 Ats.mk_nil
    have b2 : At K (upd (upd H4 p1 (.tup [])) p2 (.tup [.ref p1])) (.ref p2) (.tup [encRCs []]) := At.laid np2 (Ats.mk b1 Ats.mk_nil)
    have sl1 : (rawM m).steps[a].length + 1 ≤ 1000000 := by have := ok.tmax; have : ((rawM m).steps[a].length : Int) = (m.tags : Int) := slen; omega
    refine catT_at (T := T) (hx2.ext ((x4.trans y1).trans y2)) b2 (by rw [List.length_map]; exact sl1) fun v2 H5 a5 x5 => ⟨by show 2 ≤ sizeLine; decide, fun L nL => ?_⟩
    have x35 := ((x4.trans y1).trans y2).trans x5
    have hd5 : Dr H5 dr := let ⟨ds, z⟩ := hd3; ⟨ds, x35.lst (by simp) z⟩
    have xL := Ex.new (T := T) (ms := [dr]) (o := HO.lst [v1, v2]) nL
    refine ⟨_, rfl, dr, 2, rfl, by decide, hd5.new nL, fun u H6 u0 u1 ex6 hd6 => ?_⟩
    have xL6 := xL.trans ex6
    have x46 := (((y1.trans y2).trans x5).mono (ms' := [dr]) (by simp)).trans xL6
    have x36 := (x35.mono (ms' := [dr]) (by simp)).trans xL6
    obtain ⟨v, st, hat, ast, lst, dst⟩ : ∃ (v : V) (st : List (List RCase)), atI [v1, v2] u = some v ∧ At K H6 v (encRSt st) ∧ (st.length : Int) ≠ m.tags ∧ ∀ cs ∈ st, ∀ c ∈ cs, dpC (n + 14) c.cond := by
      have sl : ((rawM m).steps[a].length : Int) = (m.tags : Int) := slen
      have uc : u = 0 ∨ u = 1 := by omega
      rcases uc with rfl | rfl
      · refine ⟨v1, (rawM m).steps[a].drop 1, rfl, ?_, by rw [List.length_drop]; omega, fun cs hcs => sdp cs (List.mem_of_mem_drop hcs)⟩
        unfold encRSt
        rw [List.map_drop]
        exact a4.ext x46
      · refine ⟨v2, (rawM m).steps[a] ++ [[]], rfl, ?_, by rw [List.length_append]; show (((rawM m).steps[a].length + 1 : Nat) : Int) ≠ m.tags; omega, fun cs hcs => ?_⟩
        · unfold encRSt
          rw [List.map_append]
          exact a5.ext xL6
        · rcases List.mem_append.mp hcs with h | h
          · exact sdp cs h
          · rw [List.mem_singleton.mp h]
            intro c hc
            cases hc
    refine ⟨L, _, _, _, rfl, rfl, SqL.of (ex6.lst (by simpa using hd5.ne nL) upd_same), hat, ?_⟩
    have e6 := e3.trans x36
    clear xL6 xL ex6 x46 hd5 nL hat u0 u1
    have h36 := h33.ext x36
    refine ⟨_, rfl, _, rfl, am, _, _, _, rfl, rfl, x36.sqT sqm3, rfl, _, rfl, _, rfl, _, rfl, takeT_at (T := T) h36 (Int.natCast_nonneg a) (by rw [List.length_map]; omega) fun v7 H7 a7 x7 => ⟨_, rfl, by show 1 ≤ sizeLine; decide, fun q1 nq1 => ?_⟩⟩
    have z1 := Ex.new (T := T) (ms := []) (o := .tup [v]) nq1
    have c1' : At K (upd H7 q1 (.tup [v])) (.ref q1) (.tup [encRSt st]) := At.laid nq1 (Ats.mk (ast.ext x7) Ats.mk_nil)
    have smax := ok.smax
    refine catT_at (T := T) (a7.ext z1) c1' (by rw [List.length_take, List.length_map]; show min _ _ + 1 ≤ 1000000; omega) fun v8 H8 a8 x8 => ?_
    have e68 := (x7.trans z1).trans x8
    refine ⟨_, rfl, _, rfl, _, _, rfl, rfl, _, rfl, dropT_at (T := T) (h36.ext e68) (by omega) (by rw [List.length_map]; omega) fun v9 H9 a9 x9 => catT_at (T := T) (a8.ext x9) a9 (by simp; omega) fun v10 H10 a10 x10 => ⟨by show 3 ≤ sizeLine; decide, fun q2 nq2 => ?_⟩⟩
    have e610 := e68.trans (x9.trans x10)
    have x11 := Ex.new (T := T) (ms := [dr]) (o := .tup [.int m.tags, .int m.regs, v10]) nq2
    have hd10 : Dr H10 dr := let ⟨ds, z⟩ := hd6; ⟨ds, e610.lst (by simp) z⟩
    refine q _ _ ⟨m.tags, m.regs, (rawM m).steps.take a ++ [st] ++ (rawM m).steps.drop (a + 1)⟩ (At.laid nq2 (Ats.mk (at_int.mpr rfl) (Ats.mk (at_int.mpr rfl) (Ats.mk ?_ Ats.mk_nil)))) (fun z => lst (z.ln st (by simp))) (fun s hs => ?_) ((e6.trans (e610.mono (by simp))).trans x11) (hd10.new nq2)
    · rw [List.map_append, List.map_append, List.map_take, List.map_drop]
      exact a10
    · rcases List.mem_append.mp hs with h | h
      · rcases List.mem_append.mp h with h | h
        · exact rd s (List.mem_of_mem_take h)
        · rw [List.mem_singleton.mp h]; exact dst
      · exact rd s (List.mem_of_mem_drop h)
  -- tags below 1
  refine ⟨_, rfl, rfl, _, rfl, ite2 (fun c3 => ?_) (fun c3 => ?_)⟩
  · refine ⟨_, rfl, _, rfl, dr, c, rfl, hd3, fun g H4 g0' _ ex4 hd4 => ⟨_, rfl, _, rfl, am, _, _, _, rfl, rfl, ex4.sqT sqm3, rfl, Nat.zero_le _, fun p1 np1 => ⟨by show 1 ≤ sizeLine; decide, fun p2 np2 => ?_⟩⟩⟩
    have y1 := Ex.new (T := T) (ms := [dr]) (o := .tup ([] : List V)) np1
    have y2 := Ex.new (T := T) (ms := [dr]) (o := .tup [.ref p1]) np2
    have b1 : At K (upd H4 p1 (.tup [])) (.ref p1) (encRSt []) := At.laid np1 Ats.mk_nil
    have hd5 := (hd4.new (o := .tup ([] : List V)) np1).new (o := .tup [.ref p1]) np2
    have smax := ok.smax
    refine ⟨_, rfl, as', _, rfl, .inr (((ex4.trans y1).trans y2).sqT sqs3), p2, _, [.ref p1], rfl, rfl, SqT.of upd_same, by simp, by omega, by omega, by show 1 ≤ 1000; decide, fun p3 H6 hor sq6 => ⟨by show 3 ≤ sizeLine; decide, fun p np => ?_⟩⟩
    have x6 : Ex T [dr] (upd (upd H4 p1 (.tup [])) p2 (.tup [.ref p1])) H6 := by
      rcases hor with rfl | ⟨n3, rfl⟩
      · exact Ex.refl
      · exact Ex.new n3
    have hd6 : Dr H6 dr := by
      rcases hor with rfl | ⟨n3, rfl⟩
      · exact hd5
      · exact hd5.new n3
    have b3 : At K H6 (.ref p3) (.tup (List.replicate ((xs.length : Int)).toNat (encRSt []))) := at_tup.mpr ⟨p3, _, rfl, sq6, Ats.repF ((b1.ext y2).ext x6) _⟩
    have x7 := Ex.new (T := T) (ms := [dr]) (o := .tup [.int (-g), .int m.regs, .ref p3]) np
    refine q _ _ ⟨-g, m.regs, List.replicate ((xs.length : Int)).toNat []⟩ (At.laid np (Ats.mk (at_int.mpr rfl) (Ats.mk (at_int.mpr rfl) (Ats.mk ?_ Ats.mk_nil)))) (fun z => ?_) (fun s hs cs hcs => ?_) (((((e3.trans ex4).trans y1).trans y2).trans x6).trans x7) (hd6.new np)
    · rw [List.map_replicate]
      exact b3
    · have : (1 : Int) ≤ -g := z.tg
      omega
    · rw [List.eq_of_mem_replicate hs] at hcs
      cases hcs
  -- other tags
  refine ⟨_, rfl, rfl, _, rfl, ite2 (fun c4 => ?_) (fun c4 => ?_)⟩
  · refine ⟨_, rfl, _, _, rfl, rfl, _, rfl, _, rfl, dr, c, rfl, hd3, fun g H4 g0' _ ex4 hd4 => ⟨_, _, rfl, rfl, _, rfl, _, _, rfl, rfl, by show 2 ≤ sizeLine; decide, fun L nL => ⟨_, rfl, dr, 2, rfl, by decide, hd4.new nL, fun u H5 u0 u1 ex5 hd5 => ?_⟩⟩⟩
    obtain ⟨v, hv, hat⟩ := menu_at (xs := ([(m.tags : Int) + 1 + g, (m.tags : Int) - 1] : List Int).map V.int) u0 u1
    obtain ⟨t, ht, rfl⟩ := List.mem_map.mp hv
    have ht : t ≠ m.tags := by
      simp only [List.mem_cons, List.not_mem_nil, or_false] at ht
      omega
    have x5 := ex4.trans ((Ex.new (T := T) (ms := [dr]) (o := HO.lst (([(m.tags : Int) + 1 + g, (m.tags : Int) - 1] : List Int).map V.int)) nL).trans ex5)
    refine ⟨L, _, _, _, rfl, rfl, SqL.of (ex5.lst (by simpa using hd4.ne nL) upd_same), hat, _, rfl, am, _, _, _, rfl, rfl, x5.sqT sqm3, rfl, _, rfl, by show 3 ≤ sizeLine; decide, fun p np => ?_⟩
    have x6 := Ex.new (T := T) (ms := [dr]) (o := .tup [.int t, .int m.regs, .ref as']) np
    refine q _ _ ⟨t, m.regs, (rawM m).steps⟩ (At.laid np (Ats.mk (at_int.mpr rfl) (Ats.mk (at_int.mpr rfl) (Ats.mk (h33.ext x5) Ats.mk_nil)))) (fun z => ht ?_) rd ((e3.trans x5).trans x6) (hd5.new np)
    have h := z.ln _ smem
    show t = (m.tags : Int)
    have h2 : ((rawM m).steps[a].length : Int) = (m.tags : Int) := slen
    have h3 : ((rawM m).steps[a].length : Int) = t := h
    omega
  -- one case
  obtain ⟨t, rfl⟩ := Int.eq_ofNat_of_zero_le g0
  have slen' : ((rawM m).steps[a].length : Int) = (m.tags : Int) := slen
  have tl : t < (rawM m).steps[a].length := by omega
  obtain ⟨xc, hc1, hc2⟩ := atr.get (i := t) (d := encRCs (rawM m).steps[a][t]) (by rw [List.getElem?_map, List.getElem?_eq_getElem tl]; rfl)
  obtain ⟨ac, xcs, rfl, sqc, atc⟩ := at_tup.mp hc2
  have cmem := List.getElem_mem tl
  have cbd := raw_cases ok _ smem _ cmem
  have cdp := raw_dp ok _ smem _ cmem
  have wd3 := e3.wd wd
  refine ⟨_, rfl, _, rfl, as', _, _, _, rfl, rfl, sqs3, at_natI hx1, _, rfl, ar, _, _, _, rfl, rfl, sqr, at_natI hc1, ?_⟩
  refine ⟨_, rfl, _, rfl, am, _, _, _, rfl, rfl, sqm3, rfl, dr, m.regs, 2, 1, rfl, rfl, by decide, wd3, hd3, fun v4 H4 c4 a4 ok4 ex4 hd4 => ?_⟩
  have wd4 := ex4.wd wd3
  -- (-1,) * machine[1]
  refine ⟨_, rfl, by show 1 ≤ sizeLine; decide, fun p5 np5 => ?_⟩
  have y5 := Ex.new (T := T) (ms := [dr]) (o := .tup [.int (-1)]) np5
  have rmax := ok.rmax
  refine ⟨_, rfl, am, _, _, _, rfl, rfl, (ex4.trans y5).sqT sqm3, rfl, ?_⟩
  refine rep1_at (T := T) (d := .int (-1)) (At.laid np5 (Ats.mk (at_int.mpr rfl) Ats.mk_nil)) (by omega) (by omega) fun v6 H6 a6 x6 => ?_
  have hd6 : Dr H6 dr := let ⟨ds, z⟩ := hd4.new (o := .tup [.int (-1)]) np5; ⟨ds, x6.lst (by simp) z⟩
  refine ⟨Nat.zero_le _, fun p7 np7 => ⟨by show 4 ≤ sizeLine; decide, fun p8 np8 => ?_⟩⟩
  have y7 := Ex.new (T := T) (ms := [dr]) (o := .tup ([] : List V)) np7
  have y8 := Ex.new (T := T) (ms := [dr]) (o := .tup [v4, v6, .ref p7, .int 0]) np8
  have hd8 := (hd6.new (o := .tup ([] : List V)) np7).new (o := .tup [v4, v6, .ref p7, .int 0]) np8
  have x46 := y5.trans (x6.mono (ms' := [dr]) (by simp))
  have a8 := At.laid (ds := [encC c4, .tup (List.replicate ((m.regs : Int)).toNat (.int (-1))), .tup [], .int 0]) np8 (Ats.mk (a4.ext (x46.trans y7)) (Ats.mk (a6.ext y7) (Ats.mk (At.laid np7 Ats.mk_nil) (Ats.mk (at_int.mpr rfl) Ats.mk_nil))))
  have e48 := (x46.trans y7).trans y8
  have e38 := ex4.trans e48
  generalize upd (upd H6 p7 (.tup [])) p8 (.tup [v4, v6, .ref p7, .int 0]) = H8 at hd8 a8 e48 e38
  clear x46 y8 y7 hd6 y5 hd4 a6 x6
  refine ⟨fun σ' H' => ∃ (vk : V) (k : RCase), σ' = [some (.ref dr), some (.ref am), some (.int c), some (.int m.tags), some (.ref as'), some (.int kind), some (.int (a : Nat)), some (.int (t : Nat)), none, some (.ref ac), some vk, none, none] ∧ Ex T [dr] H3 H' ∧ Dr H' dr ∧ At K H' vk (encRC k) ∧ k.moves.length = m.regs ∧ k.says.length ≤ 1000 ∧ dpC n k.cond, ?_, ?_⟩
  · have own : ∀ H', Ex T [dr] H8 H' → Dr H' dr → (∃ (vk : V) (k : RCase), [some (.ref dr), some (.ref am), some (.int c), some (.int m.tags), some (.ref as'), some (.int kind), some (.int (a : Nat)), some (.int (t : Nat)), none, some (.ref ac), some (.ref p8), none, none] = [some (.ref dr), some (.ref am), some (.int c), some (.int m.tags), some (.ref as'), some (.int kind), some (.int (a : Nat)), some (.int (t : Nat)), none, some (.ref ac), some vk, none, none] ∧ Ex T [dr] H3 H' ∧ Dr H' dr ∧ At K H' vk (encRC k) ∧ k.moves.length = m.regs ∧ k.says.length ≤ 1000 ∧ dpC n k.cond) := fun H' e hd' => by
      refine ⟨.ref p8, ⟨c4, List.replicate m.regs (-1), [], 0⟩, rfl, e38.trans e, hd', ?_, List.length_replicate, Nat.zero_le _, dpC_mono (by omega) (okC_dp ok4).1⟩
      have := a8.ext e
      unfold encRC
      rw [List.map_replicate]
      exact this
    refine ⟨_, rfl, ac, _, rfl, .inr (e38.sqT sqc), _, _, rfl, rfl, _, rfl, ite2 (fun c5 => ?_) (fun c5 => iteF (own H8 Ex.refl hd8))⟩
    refine ⟨_, rfl, dr, 2, rfl, by decide, hd8, fun u H9 u0 u1 ex9 hd9 => ⟨rfl, _, rfl, ite2 (fun c6 => ?_) (fun c6 => own H9 ex9 hd9)⟩⟩
    have e39 := e38.trans ex9
    have xl0 : 0 < xcs.length := by
      have := of_decide_eq_true c5
      omega
    refine ⟨_, rfl, _, rfl, _, rfl, ac, _, rfl, .inr (e39.sqT sqc), dr, _, rfl, by omega, hd9, fun j H10 j0 j1 ex10 hd10 => ?_⟩
    obtain ⟨j, rfl⟩ := Int.eq_ofNat_of_zero_le j0
    have xl : xcs.length = (rawM m).steps[a][t].length := by rw [atc.length, List.length_map]
    have jl : j < (rawM m).steps[a][t].length := by omega
    have e310 := e39.trans ex10
    obtain ⟨xk, hk1, hk2⟩ := (Ats.ext e310 atc).get (i := j) (d := encRC (rawM m).steps[a][t][j]) (by rw [List.getElem?_map, List.getElem?_eq_getElem jl]; rfl)
    have kmem := List.getElem_mem jl
    exact ⟨ac, _, _, _, rfl, rfl, e310.sqT sqc, at_natI hk1, xk, _, rfl, e310, hd10, hk2, (cbd.2 _ kmem).2, (cbd.2 _ kmem).1, cdp _ kmem⟩
  clear a8 e48 e38 hd8 a4 ok4 wd4 ex4
  rintro σ' H5 ⟨vk, k, rfl, e5, hd5, ak, ml, sl, dk⟩
  have xl : xcs.length = (rawM m).steps[a][t].length := by rw [atc.length, List.length_map]
  refine ⟨_, rfl, _, rfl, ac, _, rfl, .inr (e5.sqT sqc), _, _, rfl, rfl, dr, _, rfl, by omega, hd5, fun pl H6 pl0 pl1 ex6 hd6 => ?_⟩
  have e6 := e5.trans ex6
  refine ⟨_, rfl, _, rfl, am, _, _, _, rfl, rfl, e6.sqT sqm3, rfl, _, rfl, as', _, rfl, .inr (e6.sqT sqs3), _, rfl, _, rfl, dr, m.regs, xs.length, c, vk, k, rfl, ak.ext ex6, ml, rmax, sl, dk, e6.wd wd3, hd6, fun vb H7 kb a7 nr dpb ex7 hd7 => ?_⟩
  have e7 := e6.trans ex7
  have h7 := h33.ext e7
  have r7 := hx2.ext e7
  have c7 := hc2.ext e7
  have sqs7 := e7.sqT sqs3
  have sqm7 := e7.sqT sqm3
  clear ak ex6 hd6 ex7 e5 hd5 e6 sqs3 sqm3 sqm sqs sqr sqc h3 hx
  have tle : (t : Int) ≤ ((List.map encRCs (rawM m).steps[a]).length : Nat) := by rw [List.length_map]; omega
  have ple : pl ≤ ((List.map encRC (rawM m).steps[a][t]).length : Nat) := by rw [List.length_map]; omega
  have tmax := ok.tmax
  have smax := ok.smax
  have cmax := cbd.1
  refine ⟨_, rfl, _, rfl, as', _, _, _, rfl, rfl, sqs7, at_natI hx1, _, rfl, _, rfl, takeT_at (T := T) r7 (Int.natCast_nonneg t) tle fun v8 H8 a8 x8 => ?_⟩
  refine ⟨_, rfl, _, rfl, _, rfl, takeT_at (T := T) (c7.ext x8) pl0 ple fun v9 H9 a9 x9 => ⟨_, rfl, by show 1 ≤ sizeLine; decide, fun q1 nq1 => ?_⟩⟩
  have z1 := Ex.new (T := T) (ms := []) (o := .tup [vb]) nq1
  have x89 := x8.trans x9
  have b1 : At K (upd H9 q1 (.tup [vb])) (.ref q1) (.tup [encRC kb]) := At.laid nq1 (Ats.mk (a7.ext x89) Ats.mk_nil)
  refine catT_at (T := T) (a9.ext z1) b1 (by rw [List.length_take, List.length_map]; show min _ _ + 1 ≤ 1000000; omega) fun v10 H10 a10 x10 => ?_
  have e10 := (x89.trans z1).trans x10
  refine ⟨_, rfl, _, rfl, _, rfl, dropT_at (T := T) (c7.ext e10) pl0 ple fun v11 H11 a11 x11 => catT_at (T := T) (a10.ext x11) a11 (by simp; omega) fun v12 H12 a12 x12 => ⟨by show 1 ≤ sizeLine; decide, fun q2 nq2 => ?_⟩⟩
  have z2 := Ex.new (T := T) (ms := []) (o := .tup [v12]) nq2
  have e12 := e10.trans (x11.trans x12)
  have b2 : At K (upd H12 q2 (.tup [v12])) (.ref q2) (.tup [.tup ((List.map encRC (rawM m).steps[a][t]).take pl.toNat ++ [encRC kb] ++ (List.map encRC (rawM m).steps[a][t]).drop pl.toNat)]) := At.laid nq2 (Ats.mk a12 Ats.mk_nil)
  have x812 : Ex T [] H8 (upd H12 q2 (.tup [v12])) := ((((x9.trans z1).trans x10).trans x11).trans x12).trans z2
  refine catT_at (T := T) (a8.ext x812) b2 (by rw [List.length_take, List.length_map]; show min _ _ + 1 ≤ 1000000; omega) fun v13 H13 a13 x13 => ?_
  have e13 := (e12.trans z2).trans x13
  refine ⟨_, rfl, _, rfl, as', _, _, _, rfl, rfl, e13.sqT sqs7, at_natI hx1, _, rfl, _, _, rfl, rfl, _, rfl, dropT_at (T := T) (r7.ext e13) (by omega) (by rw [List.length_map]; omega) fun v14 H14 a14 x14 => catT_at (T := T) (a13.ext x14) a14 (by simp; omega) fun v15 H15 a15 x15 => ?_⟩
  have e15 := e13.trans (x14.trans x15)
  -- the machine
  refine ⟨_, rfl, _, rfl, am, _, _, _, rfl, rfl, e15.sqT sqm7, rfl, _, rfl, _, rfl, _, rfl, takeT_at (T := T) (h7.ext e15) (Int.natCast_nonneg a) (by rw [List.length_map]; omega) fun v16 H16 a16 x16 => ⟨_, rfl, by show 1 ≤ sizeLine; decide, fun q3 nq3 => ?_⟩⟩
  have z3 := Ex.new (T := T) (ms := []) (o := .tup [v15]) nq3
  have b3 := At.laid (K := K) nq3 (Ats.mk (a15.ext x16) Ats.mk_nil)
  refine catT_at (T := T) (a16.ext z3) b3 (by rw [List.length_take, List.length_map]; show min _ _ + 1 ≤ 1000000; omega) fun v17 H17 a17 x17 => ?_
  have e17 := ((e15.trans x16).trans z3).trans x17
  refine ⟨_, rfl, _, rfl, _, _, rfl, rfl, _, rfl, dropT_at (T := T) (h7.ext e17) (by omega) (by rw [List.length_map]; omega) fun v18 H18 a18 x18 => catT_at (T := T) (a17.ext x18) a18 (by simp; omega) fun v19 H19 a19 x19 => ⟨by show 3 ≤ sizeLine; decide, fun q4 nq4 => ?_⟩⟩
  have e19 := e17.trans (x18.trans x19)
  have z4 := Ex.new (T := T) (ms := [dr]) (o := .tup [.int m.tags, .int m.regs, v19]) nq4
  have hd19 : Dr H19 dr := let ⟨ds, z⟩ := hd7; ⟨ds, e19.lst (by simp) z⟩
  refine q _ _ ⟨m.tags, m.regs, (rawM m).steps.take a ++ [(rawM m).steps[a].take t ++ [(rawM m).steps[a][t].take pl.toNat ++ [kb] ++ (rawM m).steps[a][t].drop pl.toNat] ++ (rawM m).steps[a].drop (t + 1)] ++ (rawM m).steps.drop (a + 1)⟩ (At.laid nq4 (Ats.mk (at_int.mpr rfl) (Ats.mk (at_int.mpr rfl) (Ats.mk ?_ Ats.mk_nil)))) (fun z => nr ?_) (fun s hs => ?_) (((e3.trans e7).trans (e19.mono (by simp))).trans z4) (hd19.new nq4)
  · rw [List.map_append, List.map_append, List.map_take, List.map_drop]
    show At K H19 v19 (.tup ((List.map encRSt (rawM m).steps).take a ++ [D.tup (((rawM m).steps[a].take t ++ [(rawM m).steps[a][t].take pl.toNat ++ [kb] ++ (rawM m).steps[a][t].drop pl.toNat] ++ (rawM m).steps[a].drop (t + 1)).map encRCs)] ++ (List.map encRSt (rawM m).steps).drop (a + 1)))
    rw [List.map_append, List.map_append, List.map_take, List.map_drop]
    show At K H19 v19 (.tup ((List.map encRSt (rawM m).steps).take a ++ [D.tup ((List.map encRCs (rawM m).steps[a]).take t ++ [D.tup (((rawM m).steps[a][t].take pl.toNat ++ [kb] ++ (rawM m).steps[a][t].drop pl.toNat).map encRC)] ++ (List.map encRCs (rawM m).steps[a]).drop (t + 1))] ++ (List.map encRSt (rawM m).steps).drop (a + 1)))
    rw [List.map_append, List.map_append, List.map_take, List.map_drop]
    exact a19
  · have h := z.cs _ (List.mem_append_left _ (List.mem_append_right _ (List.mem_singleton.mpr rfl))) _ (List.mem_append_left _ (List.mem_append_right _ (List.mem_singleton.mpr rfl))) kb (List.mem_append_left _ (List.mem_append_right _ (List.mem_singleton.mpr rfl)))
    have hl : ((rawM m).steps.take a ++ [(rawM m).steps[a].take t ++ [(rawM m).steps[a][t].take pl.toNat ++ [kb] ++ (rawM m).steps[a][t].drop pl.toNat] ++ (rawM m).steps[a].drop (t + 1)] ++ (rawM m).steps.drop (a + 1)).length = xs.length := by
      rw [List.length_append, List.length_append, List.length_take, List.length_drop]
      show min _ _ + 1 + _ = _
      omega
    exact hl ▸ h
  · rcases List.mem_append.mp hs with h | h
    · rcases List.mem_append.mp h with h | h
      · exact rd s (List.mem_of_mem_take h)
      · rw [List.mem_singleton.mp h]
        intro cs hcs
        rcases List.mem_append.mp hcs with h | h
        · rcases List.mem_append.mp h with h | h
          · exact sdp cs (List.mem_of_mem_take h)
          · rw [List.mem_singleton.mp h]
            intro cc hcc
            rcases List.mem_append.mp hcc with h | h
            · rcases List.mem_append.mp h with h | h
              · exact dpC_mono (by omega) (cdp cc (List.mem_of_mem_take h))
              · rw [List.mem_singleton.mp h]; exact dpb
            · exact dpC_mono (by omega) (cdp cc (List.mem_of_mem_drop h))
        · exact sdp cs (List.mem_of_mem_drop h)
    · exact rd s (List.mem_of_mem_drop h)

abbrev N__law_wide_right : List Str := ["draws", "says", "case", "at", "place", "bad", "found", "faulty", "cases"]
theorem sc__law_wide_right : FnScope N__law_wide_right ["draws"] (defScope s__law_wide_right) := ⟨rfl, rfl, rfl, by decide +kernel, rfl, by decide +kernel, by decide +kernel⟩
def sp__law_wide_right (K : PySem.W.Frag) (T : List Addr) (n : Nat) : Sp := fun vs H Q _ => ∃ (dr : Addr), vs = [.ref dr] ∧ 1 ≤ n ∧ Wd T H ∧ Dr H dr ∧ ∀ H', Ex T [dr] H H' → Dr H' dr → Q (.bl true) H'
theorem ok__law_wide_right {f : Addr} {fd : FuncData} {k : Nat} {T : List Addr} {n : Nat} (F : Fun K "_law_wide_right" "_law_wide_right" s__law_wide_right f fd)
    {a__law_take : Addr} {d__law_take : FuncData} (G__law_take : FnOk P w K mg base CX0 k a__law_take d__law_take ["draws", "many"] (sp__law_take T)) (k__law_take : PySem.W.keepIn K (.ref a__law_take) = true) (b__law_take : Binds K d__law_take ["draws", "many"] []) (m__law_take : mg "_law_take" = some (.ref a__law_take))
    {a__law_checked : Addr} {d__law_checked : FuncData} (G__law_checked : FnOk P w K mg base CX0 k a__law_checked d__law_checked ["machine"] (sp__law_checked T (RightD K n))) (k__law_checked : PySem.W.keepIn K (.ref a__law_checked) = true) (b__law_checked : Binds K d__law_checked ["machine"] []) (m__law_checked : mg "_law_checked" = some (.ref a__law_checked)) :
    FnOk P w K mg base CX0 (k + 1) f fd ["draws"] (sp__law_wide_right K T n) := by
  refine F.ok sc__law_wide_right (fun vs H Q E h => ?_) (fun cdv A outer s H vs Q E hr h => ?_)
  · obtain ⟨dr, rfl, _⟩ := h
    rfl
  obtain ⟨dr, rfl, n1, wd, hd, q⟩ := h
  refine ⟨_, (pss_cons (ps_set (i := 1) sc__law_wide_right.nd rfl (.inl rfl) (pe_op Tm.op_repN (pe_tup (pa_cons (pe_tup (pa_cons pe_int (pa_cons (pe_un un_neg pe_int) pa_nil))) pa_nil)) pe_int))
    (pss_cons (ps_set (i := 2) sc__law_wide_right.nd rfl (.inl rfl) (pe_tup (pa_cons (pe_tup (pa_cons pe_str (pa_cons (pe_un un_neg pe_int) (pa_cons pe_int pa_nil)))) (pa_cons (pe_tup (pa_cons pe_int (pa_cons pe_int (pa_cons pe_int (pa_cons pe_int (pa_cons pe_int (pa_cons pe_int (pa_cons pe_int pa_nil)))))))) (pa_cons (pv 1) (pa_cons pe_int pa_nil))))))
    (pss_cons (ps_set (i := 3) sc__law_wide_right.nd rfl (.inl rfl) (pe_call G__law_take hr (by rfl) m__law_take k__law_take b__law_take .nil pass0 (pa_cons (pv 0) (pa_cons pe_int pa_nil))))
    (pss_cons (ps_set (i := 4) sc__law_wide_right.nd rfl (.inl rfl) (pe_call G__law_take hr (by rfl) m__law_take k__law_take b__law_take .nil pass0 (pa_cons (pv 0) (pa_cons pe_int pa_nil))))
    (pss_cons (ps_set (i := 5) sc__law_wide_right.nd rfl (.inl rfl) (pe_lst (pa_cons (pe_op op_catA (pe_tup (pa_cons (pe_tup (pa_cons pe_str (pa_cons (pe_un un_neg pe_int) (pa_cons pe_int pa_nil)))) pa_nil)) (pe_slice sl_tupA (pv 2) (po_some pe_int) po_none)) (pa_cons (pe_op op_catA (pe_slice sl_tupA (pv 2) po_none (po_some pe_int)) (pe_tup (pa_cons pe_int pa_nil))) (pa_cons (pe_op op_catA (pe_slice sl_tupA (pv 2) po_none (po_some pe_int)) (pe_tup (pa_cons (pe_op op_catA (pe_op op_catA (pe_slice sl_tupA (pv 1) po_none (po_some (pv 4))) (pe_tup (pa_cons (pe_tup (pa_cons pe_int (pa_cons pe_int pa_nil))) pa_nil))) (pe_slice sl_tupA (pv 1) (po_some (pe_op op_add (pv 4) pe_int)) po_none)) (pa_cons pe_int pa_nil)))) pa_nil)))))
    (pss_cons (ps_set (i := 6) sc__law_wide_right.nd rfl (.inl rfl) (pe_lst pa_nil))
    (pss_cons (ps_for PassesOwn.never rfl (pi_list (pe_lst (pa_cons (pv 2) (pa_cons (pe_ix ix_list (pv 5) (pe_call G__law_take hr (by rfl) m__law_take k__law_take b__law_take .nil pass0 (pa_cons (pv 0) (pa_cons pe_int pa_nil))) (fun _ _ => rfl)) pa_nil)))) (pg_name (i := 7) sc__law_wide_right.nd rfl (.inl rfl))
      (pss_cons (ps_set (i := 8) sc__law_wide_right.nd rfl (.inl rfl) (pe_op op_catA (pe_op op_catA (pe_op Tm.op_repN (pe_tup (pa_cons (pv 2) pa_nil)) (pv 3)) (pe_tup (pa_cons (pv 7) pa_nil))) (pe_op Tm.op_repN (pe_tup (pa_cons (pv 2) pa_nil)) (pe_op op_sub pe_int (pv 3)))))
      (pss_one (ps_expr (pe_bm PySem.F.plainAttrs_list PySem.F.slot_list_append PySem.F.type_list_append mt_append (pv 6) (pa_cons (pe_call G__law_checked hr (by rfl) m__law_checked k__law_checked b__law_checked .nil pass0 (pa_cons (pe_tup (pa_cons pe_int (pa_cons pe_int (pa_cons (pe_op op_catA (pe_op Tm.op_repN (pe_tup (pa_cons (pe_op Tm.op_repN (pe_tup (pa_cons (pe_tup pa_nil) pa_nil)) pe_int) pa_nil)) pe_int) (pe_tup (pa_cons (pe_op op_catA (pe_op Tm.op_repN (pe_tup (pa_cons (pe_tup pa_nil) pa_nil)) pe_int) (pe_tup (pa_cons (pv 8) pa_nil))) pa_nil))) pa_nil)))) pa_nil)) pa_nil))))))
    (pss_one (ps_ret (pe_cmpR (op_eqD hr.units) (pv 6) (pe_lst (pa_cons pe_str (pa_cons pe_str pa_nil))) (nomark _))))))))))), ?_⟩
  -- says
  refine ⟨_, rfl, by show 2 ≤ sizeLine; decide, fun p1 np1 => ⟨by show 1 ≤ sizeLine; decide, fun p2 np2 => ?_⟩⟩
  have y1 := Ex.new (T := T) (ms := [dr]) (o := .tup [.int 0, .int (-1)]) np1
  have y2 := Ex.new (T := T) (ms := [dr]) (o := .tup [.ref p1]) np2
  have b1 : At K (upd H p1 (.tup [.int 0, .int (-1)])) (.ref p1) (encSay (0, -1)) := At.laid np1 (Ats.mk (at_int.mpr rfl) (Ats.mk (at_int.mpr rfl) Ats.mk_nil))
  have b2 : At K (upd (upd H p1 (.tup [.int 0, .int (-1)])) p2 (.tup [.ref p1])) (.ref p2) (.tup [encSay (0, -1)]) := At.laid np2 (Ats.mk b1 Ats.mk_nil)
  have hd2 := (hd.new (o := .tup [.int 0, .int (-1)]) np1).new (o := .tup [.ref p1]) np2
  dsimp only [tC]
  refine rep1_at (T := T) (k := 9) b2 (by decide) (by decide) fun v3 H3 a3 x3 => ?_
  obtain ⟨l3, _, rfl, _, _⟩ := at_tup.mp a3
  have e3 := (y1.trans y2).trans (x3.mono (ms' := [dr]) (by simp))
  have hd3 : Dr H3 dr := let ⟨ds, z⟩ := hd2; ⟨ds, x3.lst (by simp) z⟩
  clear y1 y2 b1 b2 hd2 x3
  -- the case
  refine ⟨_, rfl, by show 3 ≤ sizeLine; decide, fun p4 np4 => ⟨by show 7 ≤ sizeLine; decide, fun p5 np5 => ⟨_, rfl, by show 4 ≤ sizeLine; decide, fun p6 np6 => ?_⟩⟩⟩
  have y4 := Ex.new (T := T) (ms := [dr]) (o := .tup [.str "less", .int (-1), .int 6]) np4
  have y5 := Ex.new (T := T) (ms := [dr]) (o := .tup [.int 0, .int 1, .int 2, .int 3, .int 4, .int 5, .int 6]) np5
  have y6 := Ex.new (T := T) (ms := [dr]) (o := .tup [.ref p4, .ref p5, .ref l3, .int 40]) np6
  have c4 : At K _ (.ref p4) (encC (.less (-1) 6)) := At.laid np4 (Ats.mk (at_str.mpr rfl) (Ats.mk (at_int.mpr rfl) (Ats.mk (at_int.mpr rfl) Ats.mk_nil)))
  have c5 : At K _ (.ref p5) (.tup (k0W.moves.map .int)) := At.laid np5 (Ats.mk (at_int.mpr rfl) (Ats.mk (at_int.mpr rfl) (Ats.mk (at_int.mpr rfl) (Ats.mk (at_int.mpr rfl) (Ats.mk (at_int.mpr rfl) (Ats.mk (at_int.mpr rfl) (Ats.mk (at_int.mpr rfl) Ats.mk_nil)))))))
  have c6 : At K _ (.ref p6) (encRC k0W) := At.laid np6 (Ats.mk (c4.ext y5) (Ats.mk c5 (Ats.mk (show At K _ (.ref l3) (.tup (k0W.says.map encSay)) from (a3.ext (y4.trans y5))) (Ats.mk (at_int.mpr rfl) Ats.mk_nil))))
  have hd6 := ((hd3.new (o := .tup [.str "less", .int (-1), .int 6]) np4).new (o := .tup [.int 0, .int 1, .int 2, .int 3, .int 4, .int 5, .int 6]) np5).new (o := .tup [.ref p4, .ref p5, .ref l3, .int 40]) np6
  have a36 := a3.ext ((y4.trans y5).trans y6)
  have e6 := e3.trans ((y4.trans y5).trans y6)
  clear y4 y5 y6 c4 c5 hd3 e3 a3
  refine ⟨_, rfl, dr, 61, rfl, by decide, hd6, fun u H7 u0 u1 ex7 hd7 => ⟨_, rfl, dr, 9, rfl, by decide, hd7, fun pl H8 pl0 pl1 ex8 hd8 => ?_⟩⟩
  obtain ⟨u, rfl⟩ := Int.eq_ofNat_of_zero_le u0
  have x68 := ex7.trans ex8
  have e8 := e6.trans x68
  have k8 := c6.ext x68
  have s8 := a36.ext x68
  have wd8 := e8.wd wd
  clear ex7 ex8 hd7 hd6 c6 a36
  -- a wrong place
  refine ⟨_, rfl, by show 3 ≤ sizeLine; decide, fun q1 nq1 => ⟨by show 1 ≤ sizeLine; decide, fun q2 nq2 => ?_⟩⟩
  have z1 := Ex.new (T := T) (ms := []) (o := .tup [.str "less", .int (-1), .int 7]) nq1
  have z2 := Ex.new (T := T) (ms := []) (o := .tup [.ref q1]) nq2
  have d1 : At K _ (.ref q1) (encC (.less (-1) 7)) := At.laid nq1 (Ats.mk (at_str.mpr rfl) (Ats.mk (at_int.mpr rfl) (Ats.mk (at_int.mpr rfl) Ats.mk_nil)))
  have d2 : At K _ (.ref q2) (.tup [encC (.less (-1) 7)]) := At.laid nq2 (Ats.mk d1 Ats.mk_nil)
  refine ⟨_, rfl, _, rfl, dropT_at (T := T) (av := 1) (k8.ext (z1.trans z2)) (by decide) (by decide) fun v9 H9 a9 x9 => catT_at (T := T) (d2.ext x9) a9 (by decide) fun w1 H10 f1 x10 => ?_⟩
  have e10 := ((z1.trans z2).trans x9).trans x10
  clear z1 z2 d1 d2 a9 x9 x10
  -- a wrong standing
  refine ⟨_, rfl, _, rfl, takeT_at (T := T) (av := 3) (k8.ext e10) (by decide) (by decide) fun v11 H11 a11 x11 => ⟨by show 1 ≤ sizeLine; decide, fun q3 nq3 => ?_⟩⟩
  have z3 := Ex.new (T := T) (ms := []) (o := .tup [.int 41]) nq3
  have d3 : At K _ (.ref q3) (.tup [.int 41]) := At.laid nq3 (Ats.mk (at_int.mpr rfl) Ats.mk_nil)
  refine catT_at (T := T) (a11.ext z3) d3 (by decide) fun w2 H12 f2 x12 => ?_
  have x1012 := (x11.trans z3).trans x12
  clear x11 z3 d3 a11 x12
  -- a wrong source
  refine ⟨_, rfl, _, rfl, takeT_at (T := T) (av := 2) (k8.ext (e10.trans x1012)) (by decide) (by decide) fun v13 H13 a13 x13 => ?_⟩
  refine ⟨_, rfl, _, rfl, _, rfl, takeT_at (T := T) (s8.ext ((e10.trans x1012).trans x13)) pl0 (by show pl ≤ 9; omega) fun v14 H14 a14 x14 => ⟨by show 2 ≤ sizeLine; decide, fun q4 nq4 => ⟨by show 1 ≤ sizeLine; decide, fun q5 nq5 => ?_⟩⟩⟩
  have z4 := Ex.new (T := T) (ms := []) (o := .tup [.int 0, .int 7]) nq4
  have z5 := Ex.new (T := T) (ms := []) (o := .tup [.ref q4]) nq5
  have d4 : At K _ (.ref q4) (encSay (0, 7)) := At.laid nq4 (Ats.mk (at_int.mpr rfl) (Ats.mk (at_int.mpr rfl) Ats.mk_nil))
  have d5 : At K _ (.ref q5) (.tup [encSay (0, 7)]) := At.laid nq5 (Ats.mk d4 Ats.mk_nil)
  have nine : ∀ l : List D, (List.take pl.toNat (List.replicate (9 : Int).toNat (encSay (0, -1)))).length ≤ 9 := fun _ => by rw [List.length_take]; exact Nat.min_le_right _ _
  refine catT_at (T := T) (a14.ext (z4.trans z5)) d5 (by have := nine []; show _ + 1 ≤ 1000000; omega) fun v15 H15 a15 x15 => ?_
  have e15 := (((e10.trans x1012).trans x13).trans x14).trans ((z4.trans z5).trans x15)
  refine ⟨_, rfl, _, rfl, _, _, rfl, rfl, _, rfl, dropT_at (T := T) (s8.ext e15) (by omega) (by show pl + 1 ≤ 9; omega) fun v16 H16 a16 x16 => catT_at (T := T) (a15.ext x16) a16 (by have := nine []; rw [List.length_append, List.length_drop]; show _ + 1 + (9 - _) ≤ 1000000; omega) fun v17 H17 a17 x17 => ⟨by show 2 ≤ sizeLine; decide, fun q6 nq6 => ?_⟩⟩
  have z6 := Ex.new (T := T) (ms := []) (o := .tup [v17, .int 40]) nq6
  have d6 := At.laid (K := K) nq6 (Ats.mk a17 (Ats.mk (at_int.mpr (rfl : V.int 40 = V.int 40)) Ats.mk_nil))
  have x1318 := (((x14.trans (z4.trans z5)).trans x15).trans (x16.trans x17)).trans z6
  refine catT_at (T := T) (a13.ext x1318) d6 (by show 2 + 2 ≤ 1000000; decide) fun w3 H18 f3 x18 => ?_
  have x1218 := (x13.trans x1318).trans x18
  have x818 := (e10.trans x1012).trans x1218
  have f1 : At K H18 w1 (encRC ⟨.less (-1) 7, k0W.moves, k0W.says, 40⟩) := f1.ext (x1012.trans x1218)
  have f2 : At K H18 w2 (encRC ⟨k0W.cond, k0W.moves, k0W.says, 41⟩) := f2.ext x1218
  have f3 : At K H18 w3 (encRC ⟨k0W.cond, k0W.moves, k0W.says.take pl.toNat ++ [(0, 7)] ++ k0W.says.drop (pl + 1).toNat, 40⟩) := by
    unfold encRC
    rw [List.map_append, List.map_append, List.map_take, List.map_drop]
    exact f3
  have k18 := k8.ext x818
  have hd18 : Dr H18 dr := let ⟨ds, z⟩ := hd8; ⟨ds, x818.lst (by simp) z⟩
  have e18 := e8.trans (x818.mono (ms' := [dr]) (by simp))
  clear z4 z5 d4 d5 a15 x15 e15 a16 x16 z6 d6 x1318 x18 x13 a13 a14 x14 x1012 x1218 e10 x818 s8 k8 hd8 e8 e6 x68 a17 x17 nine
  refine ⟨by show 3 ≤ sizeLine; decide, fun L nL => ?_⟩
  have xL := Ex.new (T := T) (ms := [dr]) (o := HO.lst [w1, w2, w3]) nL
  have hL : upd H18 L (HO.lst [w1, w2, w3]) L = some (.lst [w1, w2, w3]) := upd_same
  have hdL := hd18.new (o := HO.lst [w1, w2, w3]) nL
  have nLd := hd18.ne nL
  have wdL := xL.wd (e18.wd wd)
  refine ⟨Nat.zero_le _, fun FL nF => ?_⟩
  have cl0 := Col.start (K := K) (D := FL) (Ex.refl (T := T) (ms := [dr])) nF
  have hdF := hdL.new (o := HO.lst ([] : List V)) nF
  have nFd := hdL.ne nF
  refine ⟨_, rfl, _, rfl, _, rfl, dr, 3, rfl, by decide, hdF, fun y H20 y0 y1 ex20 hd20 => ?_⟩
  obtain ⟨v, hv, hat⟩ := menu_at (xs := [w1, w2, w3]) y0 y1
  have xF := Ex.new (T := T) (ms := [dr]) (o := HO.lst ([] : List V)) nF
  have e20 := (xL.trans xF).trans ex20
  refine ⟨L, _, _, _, rfl, rfl, SqL.of ((xF.trans ex20).lst (by simpa using nLd) hL), hat, by show 2 ≤ sizeLine; decide, fun IL nI => ?_⟩
  have xI := Ex.new (T := T) (ms := [dr]) (o := HO.lst [.ref p6, v]) nI
  have nFL : FL ∉ [dr] := by simpa using nFd
  have clI := (cl0.ext nFL ex20).ext nFL xI
  have hdI := hd20.new (o := HO.lst [.ref p6, v]) nI
  have eI := e20.trans xI
  have kI := k18.ext eI
  have hI : upd H20 IL (HO.lst [.ref p6, v]) IL = some (.lst [.ref p6, v]) := upd_same
  have sI : SqT K (upd H20 IL (HO.lst [.ref p6, v])) l3 (List.replicate 9 v) → True := fun _ => trivial
  have dl : ∀ a b, dpC n (.less a b) := fun a b => by unfold dpC; cases n <;> trivial
  have wrong : ∃ f : RCase, At K (upd H20 IL (HO.lst [.ref p6, v])) v (encRC f) ∧ dpC n f.cond ∧ ¬ CaseR 7 41 f := by
    simp only [List.mem_cons, List.not_mem_nil, or_false] at hv
    rcases hv with rfl | rfl | rfl
    · exact ⟨_, f1.ext eI, dl _ _, fun z => by have := z.pl; cases this⟩
    · exact ⟨_, f2.ext eI, dl _ _, fun z => by have := z.nx.2; exact absurd this (by show ¬ ((41 : Int) < 41); decide)⟩
    · exact ⟨_, f3.ext eI, dl _ _, fun z => by have := (z.say (0, 7) (by simp)).2.2; exact absurd this (by decide)⟩
  obtain ⟨fb, bad1, bad2, bad3⟩ := wrong
  have two : ∀ (j : Nat) (x : V), [V.ref p6, v][j]? = some x → ∃ (f : RCase) (b : Bool), At K (upd H20 IL (HO.lst [.ref p6, v])) x (encRC f) ∧ dpC n f.cond ∧ (b = true ↔ CaseR 7 41 f) ∧ ([true, false].take (j + 1)).map (fun b => D.str (txW b)) = ([true, false].take j).map (fun b => D.str (txW b)) ++ [D.str (txW b)] := fun j x hj => by
    match j, hj with
    | 0, hj => cases hj; exact ⟨k0W, true, kI, (by show dpC n (.less (-1) 6); unfold dpC; cases n <;> trivial), ⟨fun _ => wide_ok, fun _ => rfl⟩, rfl⟩
    | 1, hj => cases hj; exact ⟨fb, false, bad1, bad2, ⟨(fun h => by cases h), fun z => absurd z bad3⟩, rfl⟩
  have eI' := e18.trans eI
  clear f1 f2 f3 hat hv y0 y1 bad1 bad2 bad3 sI
  have nIL : IL ∉ [dr, FL] := by
    have h1 := hd20.ne nI
    have h2 := (cl0.ext nFL ex20).ne nI
    simp only [List.mem_cons, List.not_mem_nil, or_false, not_or]
    exact ⟨h1, fun h => h2 h.symm⟩
  have wdB := eI'.wd wd
  generalize upd H20 IL (HO.lst [.ref p6, v]) = HB at *
  refine ⟨IL, rfl, ⟨_, SqL.of hI⟩, for_list (xs := [.ref p6, v]) (fun j σ' H' => (∃ y7 y8, σ' = [some (.ref dr), some (.ref l3), some (.ref p6), some (.int (u : Nat)), some (.int pl), some (.ref L), some (.ref FL), y7, y8]) ∧ Dr H' dr ∧ Ex T [dr, FL] HB H' ∧ Col K T [dr] FL _ H' (([true, false].take j).map fun b => D.str (txW b))) ⟨⟨_, _, rfl⟩, hdI, Ex.refl, clI⟩ (fun j σ' H' _ z => SqL.of (z.2.2.1.lst nIL hI)) ?_ ?_⟩
  · rintro j x σ' H21 hj ⟨⟨y7, y8, rfl⟩, hd21, ex21, cl⟩
    obtain ⟨f, b, hf, df, hb, ht⟩ := two j x hj
    have kx : At K H21 (.ref p6) (encRC k0W) := kI.ext ex21
    have fx := hf.ext ex21
    have wd21 : Wd T H21 := ex21.wd wdB
    refine ⟨_, rfl, by show 1 ≤ sizeLine; decide, fun r1 nr1 => ⟨_, rfl, ?_⟩⟩
    have z1 := Ex.new (T := T) (ms := []) (o := .tup [.ref p6]) nr1
    refine rep1_at (T := T) (k := (u : Nat)) (d := encRC k0W) (At.laid nr1 (Ats.mk kx Ats.mk_nil)) (by omega) (by omega) fun b1 Ha a1 x1 => ⟨_, rfl, by show 1 ≤ sizeLine; decide, fun r2 nr2 => ?_⟩
    have z2 := Ex.new (T := T) (ms := []) (o := .tup [x]) nr2
    have e2 := z1.trans x1
    have c2 : At K _ (.ref r2) (.tup [encRC f]) := At.laid nr2 (Ats.mk (fx.ext e2) Ats.mk_nil)
    refine catT_at (T := T) (a1.ext z2) c2 (by rw [List.length_replicate]; show _ + 1 ≤ 1000000; omega) fun b2 Hb a2 x2 => ⟨_, rfl, by show 1 ≤ sizeLine; decide, fun r3 nr3 => ⟨_, rfl, _, _, rfl, rfl, ?_⟩⟩
    have e3 := (e2.trans z2).trans x2
    have z3 := Ex.new (T := T) (ms := []) (o := .tup [.ref p6]) nr3
    refine rep1_at (T := T) (k := 60 - (u : Int)) (d := encRC k0W) (At.laid nr3 (Ats.mk (kx.ext e3) Ats.mk_nil)) (by omega) (by omega) fun b3 Hc a3 x3 => catT_at (T := T) (a2.ext (z3.trans x3)) a3 (by rw [List.length_append, List.length_replicate, List.length_replicate]; show _ + 1 + _ ≤ 1000000; omega) fun cs Hd ac x4 => ?_
    have e4 := (e3.trans z3).trans (x3.trans x4)
    have cl4 := cl.ext nFL (e4.mono (ms' := [dr]) (by simp))
    obtain ⟨_, ps, hFL, _⟩ := id cl4
    clear z1 x1 a1 z2 c2 a2 x2 e2 z3 a3 x3 x4 e3 kx fx cl
    refine ⟨_, rfl, .inl ⟨rfl, _, .inl (.inl hFL)⟩, Nat.zero_le _, fun s1 ns1 => ⟨by show 1 ≤ sizeLine; decide, fun s2 ns2 => ?_⟩⟩
    have w1' := (Ex.new (T := T) (ms := []) (o := .tup ([] : List V)) ns1).trans (Ex.new (T := T) (ms := []) (o := .tup [.ref s1]) ns2)
    try dsimp only [tC]
    refine rep1_at (T := T) (k := 7) (d := .tup []) (At.laid ns2 (Ats.mk (At.laid ns1 Ats.mk_nil) Ats.mk_nil)) (by decide) (by decide) fun b5 He a5 x5 => ⟨by show 1 ≤ sizeLine; decide, fun s3 ns3 => ?_⟩
    have e5 := (w1'.trans x5).trans (Ex.new (T := T) (ms := []) (o := .tup [b5]) ns3)
    try dsimp only [tC]
    refine rep1_at (T := T) (k := 40) (At.laid ns3 (Ats.mk a5 Ats.mk_nil)) (by decide) (by decide) fun b6 Hf a6 x6 => ⟨Nat.zero_le _, fun s4 ns4 => ⟨by show 1 ≤ sizeLine; decide, fun s5 ns5 => ?_⟩⟩
    have w6' := (Ex.new (T := T) (ms := []) (o := .tup ([] : List V)) ns4).trans (Ex.new (T := T) (ms := []) (o := .tup [.ref s4]) ns5)
    try dsimp only [tC]
    refine rep1_at (T := T) (k := 6) (d := .tup []) (At.laid ns5 (Ats.mk (At.laid ns4 Ats.mk_nil) Ats.mk_nil)) (by decide) (by decide) fun b7 Hg a7 x7 => ⟨_, rfl, by show 1 ≤ sizeLine; decide, fun s6 ns6 => ?_⟩
    have w7 := Ex.new (T := T) (ms := []) (o := .tup [cs]) ns6
    have e7 := (e5.trans x6).trans (w6'.trans x7)
    refine catT_at (T := T) (a7.ext w7) (At.laid ns6 (Ats.mk (ac.ext e7) Ats.mk_nil)) (by show 6 + 1 ≤ 1000000; decide) fun b8 Hh a8 x8 => ⟨by show 1 ≤ sizeLine; decide, fun s7 ns7 => ?_⟩
    have w8 := Ex.new (T := T) (ms := []) (o := .tup [b8]) ns7
    refine catT_at (T := T) (a6.ext (((w6'.trans x7).trans (w7.trans x8)).trans w8)) (At.laid ns7 (Ats.mk a8 Ats.mk_nil)) (by show 40 + 1 ≤ 1000000; decide) fun b9 Hi a9 x9 => ⟨by show 3 ≤ sizeLine; decide, fun s8 ns8 => ?_⟩
    have w9 := Ex.new (T := T) (ms := []) (o := .tup [.int 7, .int 7, b9]) ns8
    have e9 := (e4.trans ((e7.trans (w7.trans x8)).trans (w8.trans x9))).trans w9
    have e49 := ((e7.trans (w7.trans x8)).trans (w8.trans x9)).trans w9
    have am : At K _ (.ref s8) (encRM ⟨7, 7, stW (List.replicate u k0W ++ [f] ++ List.replicate (60 - (u : Int)).toNat k0W)⟩) := At.laid ns8 (Ats.mk (at_int.mpr rfl) (Ats.mk (at_int.mpr rfl) (Ats.mk (by
      show At K Hi b9 (.tup ((stW (List.replicate u k0W ++ [f] ++ List.replicate (60 - (u : Int)).toNat k0W)).map encRSt))
      rw [wide_enc, List.map_append, List.map_append, List.map_replicate, List.map_replicate]
      exact a9) Ats.mk_nil)))
    refine ⟨.ref s8, b, rfl, ⟨_, am, wide_dp ?_, hb.trans (wide_all.symm.trans wide_right.symm)⟩, e9.wd wd21, fun Hj x10 => ?_⟩
    · intro cc hc
      rcases List.mem_append.mp hc with hc | hc
      · rcases List.mem_append.mp hc with hc | hc
        · rw [List.eq_of_mem_replicate hc]; exact dl _ _
        · rw [List.mem_singleton.mp hc]; exact df
      · rw [List.eq_of_mem_replicate hc]; exact dl _ _
    have hdj : Dr Hj dr := let ⟨ds, z⟩ := hd21; ⟨ds, (e9.trans x10).lst (by simp) z⟩
    obtain ⟨acc, k1, k2, k3⟩ := cl4.put nF nFL wdL ((e49.trans x10).mono (ms' := [dr]) (by simp)) (x := .str (txW b)) (d := D.str (txW b)) (at_str.mpr rfl) (by rw [List.length_map, List.length_take]; show min _ 2 ≤ 5000; omega)
    refine ⟨FL, _, _, rfl, rfl, k1, k2, ⟨_, _, rfl⟩, hdj.put (fun h => nFd h.symm), (ex21.trans ((e9.trans x10).mono (by simp))).trans (Ex.write (by simp) k1), ?_⟩
    rw [ht]
    exact k3
  rintro σ' H22 ⟨⟨y7, y8, rfl⟩, hd22, _, ⟨exc, ps, hF, ats⟩⟩
  refine ⟨_, rfl, by show 2 ≤ sizeLine; decide, fun QL nQ => ?_⟩
  have xQ := Ex.new (T := T) (ms := [dr]) (o := HO.lst [.str "taken", .str "raised InvalidMachine"]) nQ
  refine eqL_case (n := 0) (m := 0) (es := [.str "taken", .str "raised InvalidMachine"]) (SqL.of (xQ.lst nFL hF)) (ats.ext xQ) (SqL.of upd_same) (Ats.mk (at_str.mpr rfl) (Ats.mk (at_str.mpr rfl) Ats.mk_nil)) ?_ ?_ (by decide) (by decide) (fun _ => q _ (((e18.trans xL).trans exc).trans xQ) (hd22.new nQ)) (fun ne => absurd rfl ne)
  · show dqDs 0 [.str "taken", .str "raised InvalidMachine"]
    unfold dqDs dqDs dqDs dqD
    exact ⟨by decide +kernel, by decide +kernel, trivial⟩
  · unfold dqDs dqDs dqDs dqD
    exact ⟨by decide +kernel, by decide +kernel, trivial⟩

theorem imp_check {f C : Addr} {fd : FuncData} {k n : Nat} {T : List Addr} (F : FnOk P w K mg base (L2N.CX P w) k f fd ["machine"] (spX_check_machine K T n C)) : FnOk P w K mg base (L2N.CX P w) k f fd ["machine"] (spR_check T C (RightD K n)) :=
  F.imp fun _ _ _ _ ⟨x, b, e, ⟨m, am, dp, hb⟩, wd, q1, q2⟩ => ⟨x, m, e, am, dp, wd, fun z => q1 (hb.mpr z), fun z => q2 (by cases b with | false => rfl | true => exact absurd (hb.mp rfl) z)⟩
abbrev N_law : List Str := ["script", "draws", "cell", "machine"]
theorem sc_law : FnScope N_law ["script"] (defScope s_law) := ⟨rfl, rfl, rfl, by decide +kernel, rfl, by decide +kernel, by decide +kernel⟩
def sp_law (K : PySem.W.Frag) (T : List Addr) : Sp := fun vs H Q _ => ∃ (a : Addr) (ns : List Int), vs = [.ref a] ∧ SqL K H a (ns.map V.int) ∧ ns.length ≤ 63 ∧ Wd T H ∧ ∀ H', Q (.bl true) H'
theorem ok_law {f : Addr} {fd : FuncData} {k : Nat} {T : List Addr} (F : Fun K "law" "law" s_law f fd)
    {a__law_draws : Addr} {d__law_draws : FuncData} (G__law_draws : FnOk P w K mg base CX0 k a__law_draws d__law_draws ["script", "many"] (sp__law_draws K T)) (k__law_draws : PySem.W.keepIn K (.ref a__law_draws) = true) (b__law_draws : Binds K d__law_draws ["script", "many"] []) (m__law_draws : mg "_law_draws" = some (.ref a__law_draws))
    {a__law_cell : Addr} {d__law_cell : FuncData} (G__law_cell : FnOk P w K mg base CX0 k a__law_cell d__law_cell ["script", "draws"] (sp__law_cell K T)) (k__law_cell : PySem.W.keepIn K (.ref a__law_cell) = true) (b__law_cell : Binds K d__law_cell ["script", "draws"] []) (m__law_cell : mg "_law_cell" = some (.ref a__law_cell))
    {a__law_any_machine : Addr} {d__law_any_machine : FuncData} (G__law_any_machine : FnOk P w K mg base CX0 k a__law_any_machine d__law_any_machine ["draws"] (sp__law_any_machine K T)) (k__law_any_machine : PySem.W.keepIn K (.ref a__law_any_machine) = true) (b__law_any_machine : Binds K d__law_any_machine ["draws"] []) (m__law_any_machine : mg "_law_any_machine" = some (.ref a__law_any_machine))
    {a__law_take : Addr} {d__law_take : FuncData} (G__law_take : FnOk P w K mg base CX0 k a__law_take d__law_take ["draws", "many"] (sp__law_take T)) (k__law_take : PySem.W.keepIn K (.ref a__law_take) = true) (b__law_take : Binds K d__law_take ["draws", "many"] []) (m__law_take : mg "_law_take" = some (.ref a__law_take))
    {a__law_crowded : Addr} {d__law_crowded : FuncData} (G__law_crowded : FnOk P w K mg base CX0 k a__law_crowded d__law_crowded ["draws", "registers"] (sp__law_crowded K T)) (k__law_crowded : PySem.W.keepIn K (.ref a__law_crowded) = true) (b__law_crowded : Binds K d__law_crowded ["draws", "registers"] []) (m__law_crowded : mg "_law_crowded" = some (.ref a__law_crowded))
    {a__law_wide_right : Addr} {d__law_wide_right : FuncData} (G__law_wide_right : FnOk P w K mg base CX0 k a__law_wide_right d__law_wide_right ["draws"] (sp__law_wide_right K T 17)) (k__law_wide_right : PySem.W.keepIn K (.ref a__law_wide_right) = true) (b__law_wide_right : Binds K d__law_wide_right ["draws"] []) (m__law_wide_right : mg "_law_wide_right" = some (.ref a__law_wide_right))
    {a__law_checked : Addr} {d__law_checked : FuncData} (G__law_checked : FnOk P w K mg base CX0 k a__law_checked d__law_checked ["machine"] (sp__law_checked T (RightD K 17))) (k__law_checked : PySem.W.keepIn K (.ref a__law_checked) = true) (b__law_checked : Binds K d__law_checked ["machine"] []) (m__law_checked : mg "_law_checked" = some (.ref a__law_checked))
    {a__law_spoilt : Addr} {d__law_spoilt : FuncData} (G__law_spoilt : FnOk P w K mg base CX0 k a__law_spoilt d__law_spoilt ["draws", "machine", "cell"] (sp__law_spoilt K T 3)) (k__law_spoilt : PySem.W.keepIn K (.ref a__law_spoilt) = true) (b__law_spoilt : Binds K d__law_spoilt ["draws", "machine", "cell"] []) (m__law_spoilt : mg "_law_spoilt" = some (.ref a__law_spoilt)) :
    FnOk P w K mg base CX0 (k + 1) f fd ["script"] (sp_law K T) := by
  refine F.ok sc_law (fun vs H Q E h => ?_) (fun cdv A outer s H vs Q E hr h => ?_)
  · obtain ⟨a, ns, rfl, _⟩ := h
    rfl
  obtain ⟨a, ns, rfl, hS, h63, wd, q⟩ := h
  refine ⟨_, (pss_cons (ps_set (i := 1) sc_law.nd rfl (.inl rfl) (pe_call G__law_draws hr (by rfl) m__law_draws k__law_draws b__law_draws .nil pass0 (pa_cons (pv 0) (pa_cons pe_int pa_nil))))
    (pss_cons (ps_set (i := 2) sc_law.nd rfl (.inl rfl) (pe_call G__law_cell hr (by rfl) m__law_cell k__law_cell b__law_cell .nil pass0 (pa_cons (pv 0) (pa_cons (pv 1) pa_nil))))
    (pss_cons (ps_set (i := 3) sc_law.nd rfl (.inl rfl) (pe_call G__law_any_machine hr (by rfl) m__law_any_machine k__law_any_machine b__law_any_machine .nil pass0 (pa_cons (pv 1) pa_nil)))
    (C8.pss_cut (ps_if (pt_cmpR op_eq (pe_call G__law_take hr (by rfl) m__law_take k__law_take b__law_take .nil pass0 (pa_cons (pv 1) (pa_cons pe_int pa_nil))) pe_int (nomark _))
      (pss_one (ps_set (i := 3) sc_law.nd rfl (.inl rfl) (pe_call G__law_crowded hr (by rfl) m__law_crowded k__law_crowded b__law_crowded .nil pass0 (pa_cons (pv 1) (pa_cons (pe_call G__law_take hr (by rfl) m__law_take k__law_take b__law_take .nil pass0 (pa_cons (pv 1) (pa_cons pe_int pa_nil))) pa_nil)))))
      pss_nil)
    (pss_cons (ps_if (pt_not (pt_val (pe_call G__law_wide_right hr (by rfl) m__law_wide_right k__law_wide_right b__law_wide_right .nil pass0 (pa_cons (pv 1) pa_nil))))
      (pss_one (ps_ret pe_bl))
      pss_nil)
    (pss_cons (ps_if (pw_or (pt_cmpR (op_neD hr.units) (pe_call G__law_checked hr (by rfl) m__law_checked k__law_checked b__law_checked .nil pass0 (pa_cons (pv 3) pa_nil)) pe_str (nomark _)) (pw_or1 (pt_cmpR (op_neD hr.units) (pe_call G__law_checked hr (by rfl) m__law_checked k__law_checked b__law_checked .nil pass0 (pa_cons (pe_call G__law_spoilt hr (by rfl) m__law_spoilt k__law_spoilt b__law_spoilt .nil pass0 (pa_cons (pv 1) (pa_cons (pv 3) (pa_cons (pv 2) pa_nil)))) pa_nil)) pe_str (nomark _)))).pt
      (pss_one (ps_ret pe_bl))
      pss_nil)
    (pss_cons (ps_if (pt_cmpR (op_neD hr.units) (pe_call G__law_checked hr (by rfl) m__law_checked k__law_checked b__law_checked .nil pass0 (pa_cons (pe_tup (pa_cons (pe_ix ix_tup (pv 3) pe_int (fun _ _ => rfl)) (pa_cons (pe_ix ix_tup (pv 3) pe_int (fun _ _ => rfl)) (pa_cons (pe_tup (pa_cons (pe_op Tm.op_repN (pe_tup (pa_cons (pe_tup pa_nil) pa_nil)) (pe_ix ix_tup (pv 3) pe_int (fun _ _ => rfl))) pa_nil)) pa_nil)))) pa_nil)) pe_str (nomark _))
      (pss_one (ps_ret pe_bl))
      pss_nil)
    (pss_one (ps_ret (pe_cmpR (op_eqD hr.units) (pe_call G__law_checked hr (by rfl) m__law_checked k__law_checked b__law_checked .nil pass0 (pa_cons (pe_tup (pa_cons pe_int (pa_cons pe_int (pa_cons (pe_tup (pa_cons (pe_tup (pa_cons (pe_tup (pa_cons (pe_tup (pa_cons (pe_tup (pa_cons pe_str (pa_cons (pe_un un_neg pe_int) (pa_cons (pe_un un_neg pe_int) pa_nil)))) (pa_cons (pe_tup pa_nil) (pa_cons (pe_tup (pa_cons (pe_tup (pa_cons pe_int (pa_cons (pe_un un_neg pe_int) pa_nil))) pa_nil)) (pa_cons pe_int pa_nil))))) pa_nil)) pa_nil)) pa_nil)) pa_nil)))) pa_nil)) pe_str (nomark _))))))))))), ?_⟩
  refine ⟨_, rfl, a, ns, 2200, rfl, hS, h63, by decide, by decide, wd, fun dr H1 nd ex1 hd1 => ?_⟩
  refine ⟨_, rfl, _, rfl, a, dr, ns, rfl, fun H' e => sqL_stay hS nd ex1 e, hd1, fun cell H2 ex2 hd2 => ?_⟩
  have wd2 : Wd T H2 := ex2.wd (ex1.wd wd)
  refine ⟨_, rfl, dr, rfl, wd2, hd2, fun xm H3 m atm ok ex3 hd3 => ?_⟩
  -- crowded
  refine ⟨fun σ' H' => (∃ (am : Addr) (m : M), σ' = [some (.ref a), some (.ref dr), some (.int cell), some (.ref am)] ∧ At K H' (.ref am) (encM m) ∧ okM 3 m) ∧ Ex T [dr] H2 H' ∧ Dr H' dr, ?_, ?_⟩
  · have isR : ∀ {v : V} {H' : Hp} {m : M}, At K H' v (encM m) → ∃ am : Addr, v = .ref am := fun h => let ⟨am, _, _, _, e, _⟩ := h.t3; ⟨am, e⟩
    refine ⟨_, rfl, dr, 6, rfl, by decide, hd3, fun kd H4 k0 k1 ex4 hd4 => ⟨rfl, _, rfl, ite2 (fun cz => ?_) (fun cz => ?_)⟩⟩
    · refine ⟨_, rfl, _, rfl, dr, 4, rfl, by decide, hd4, fun r H5 r0 r1 ex5 hd5 => ?_⟩
      obtain ⟨r', rfl⟩ := Int.eq_ofNat_of_zero_le r0
      have e25 := (ex3.trans ex4).trans ex5
      refine ⟨dr, r', rfl, by omega, e25.wd wd2, hd5, fun v H6 m' at6 ok6 ex6 hd6 => ?_⟩
      obtain ⟨am, rfl⟩ := isR at6
      exact ⟨⟨am, m', rfl, at6, ok6⟩, e25.trans ex6, hd6⟩
    · obtain ⟨am, rfl⟩ := isR atm
      exact ⟨⟨am, m, rfl, atm.ext ex4, ok⟩, ex3.trans ex4, hd4⟩
  clear atm ok ex3 hd3
  rintro σ1 H3 ⟨⟨am, m, rfl, atm, ok⟩, e3, hd3⟩
  have wd3 := e3.wd wd2
  refine ⟨_, rfl, dr, rfl, by decide, wd3, hd3, fun H4 ex4 hd4 => ⟨_, rfl, iteF ?_⟩⟩
  have at4 := atm.ext ex4
  have wd4 := ex4.wd wd3
  have rr : RightD K 17 (.ref am) true H4 := ⟨rawM m, by rw [enc_rawM]; exact at4, fun s hs cs hcs c hc => dpC_mono (by decide) (raw_dp ok s hs cs hcs c hc), ⟨fun _ => raw_right ok, fun _ => rfl⟩⟩
  have l1 : dqD 0 (.str "taken") := by unfold dqD; decide +kernel
  have l2 : dqD 0 (.str "raised InvalidMachine") := by unfold dqD; decide +kernel
  have n1 : ∀ {H : Hp} {Q : VK}, Q (.bl false) H → rNeD K (.str "taken") (.str "taken") H Q := fun q => neD_case (n := 0) (m := 0) (at_str.mpr rfl) (at_str.mpr rfl) l1 l1 (by decide) (by decide) (fun _ => q) (fun h => absurd rfl h)
  have n2 : ∀ {H : Hp} {Q : VK}, Q (.bl false) H → rNeD K (.str "raised InvalidMachine") (.str "raised InvalidMachine") H Q := fun q => neD_case (n := 0) (m := 0) (at_str.mpr rfl) (at_str.mpr rfl) l2 l2 (by decide) (by decide) (fun _ => q) (fun h => absurd rfl h)
  have t1 : ∀ {H : Hp} {Q : VK}, Q (.bl true) H → rEqD K (.str "taken") (.str "taken") H Q := fun q => eqD_case (n := 0) (m := 0) (at_str.mpr rfl) (at_str.mpr rfl) l1 l1 (by decide) (by decide) (fun _ => q) (fun h => absurd rfl h)
  refine ⟨_, rfl, .ref am, true, rfl, rr, wd4, fun H5 ex5 => ?_⟩
  dsimp only [tC, ↓reduceIte]
  refine n1 ⟨_, rfl, iteF ?_⟩
  have hd5 : Dr H5 dr := let ⟨ds, z⟩ := hd4; ⟨ds, ex5.lst (by simp) z⟩
  have wd5 := ex5.wd wd4
  refine ⟨_, rfl, _, rfl, _, rfl, dr, cell, .ref am, m, rfl, at4.ext ex5, ok, by decide, wd5, hd5, fun vb H6 mb a6 nr6 dp6 ex6 hd6 => ?_⟩
  have wd6 := ex6.wd wd5
  refine ⟨vb, false, rfl, ⟨mb, a6, dp6, ⟨(fun h => by cases h), fun z => absurd z nr6⟩⟩, wd6, fun H7 ex7 => ?_⟩
  dsimp only [tC, ↓reduceIte]
  refine n2 ⟨_, rfl, iteF ?_⟩
  have e47 := (ex5.mono (ms' := [dr]) (by simp)).trans (ex6.trans (ex7.mono (ms' := [dr]) (by simp)))
  have at7 := at4.ext e47
  have wd7 := e47.wd wd4
  clear a6 nr6 dp6 hd6 hd5 hd4 e47 ex6 ex7 ex5 rr
  obtain ⟨_, x1, x2, x3, e, sqm, g1, g2, g3⟩ := at7.t3
  cases e
  cases at_int.mp g1
  cases at_int.mp g2
  have tags := ok.tags
  have tmax := ok.tmax
  -- no cases
  refine ⟨_, rfl, am, _, _, _, rfl, rfl, sqm, rfl, _, rfl, am, _, _, _, rfl, rfl, sqm, rfl, Nat.zero_le _, fun p1 np1 => ⟨by show 1 ≤ sizeLine; decide, fun p2 np2 => ?_⟩⟩
  have z12 := (Ex.new (T := T) (ms := []) (o := .tup ([] : List V)) np1).trans (Ex.new (T := T) (ms := []) (o := .tup [.ref p1]) np2)
  refine ⟨_, rfl, am, _, _, _, rfl, rfl, z12.sqT sqm, rfl, ?_⟩
  refine rep1_at (T := T) (k := (m.tags : Nat)) (d := .tup []) (At.laid np2 (Ats.mk (At.laid np1 Ats.mk_nil) Ats.mk_nil)) (by omega) (by omega) fun v3 H8 a8 x8 => ⟨by show 1 ≤ sizeLine; decide, fun p4 np4 => ⟨by show 3 ≤ sizeLine; decide, fun p5 np5 => ?_⟩⟩
  have z8 := ((z12.trans x8).trans (Ex.new (T := T) (ms := []) (o := .tup [v3]) np4)).trans (Ex.new (T := T) (ms := []) (o := .tup [.int m.tags, .int m.regs, .ref p4]) np5)
  have emp : ∀ s ∈ ([List.replicate m.tags []] : List (List (List RCase))), s.length = m.tags ∧ ∀ cs ∈ s, cs = [] := fun s hs => by
    rw [List.mem_singleton.mp hs]
    exact ⟨List.length_replicate, fun cs h => List.eq_of_mem_replicate h⟩
  have right1 : MachR ⟨m.tags, m.regs, [List.replicate m.tags []]⟩ := by
    refine ⟨by show (1 : Int) ≤ (m.tags : Int); omega, by show (0 : Int) ≤ (m.regs : Int); omega, (fun h => by cases h), fun s hs => ?_, fun s hs cs hcs c hc => ?_⟩
    · show (s.length : Int) = (m.tags : Int)
      rw [(emp s hs).1]
    · rw [(emp s hs).2 cs hcs] at hc
      cases hc
  refine ⟨.ref p5, true, rfl, ⟨⟨m.tags, m.regs, [List.replicate m.tags []]⟩, At.laid np5 (Ats.mk (at_int.mpr rfl) (Ats.mk (at_int.mpr rfl) (Ats.mk (At.laid np4 (Ats.mk ?_ Ats.mk_nil)) Ats.mk_nil))), fun s hs cs hcs c hc => ?_, ⟨fun _ => right1, fun _ => rfl⟩⟩, z8.wd wd7, fun H9 ex9 => ?_⟩
  · unfold encRSt
    rw [List.map_replicate]
    exact a8
  · rw [(emp s hs).2 cs hcs] at hc
    cases hc
  dsimp only [tC, ↓reduceIte]
  refine n1 ⟨_, rfl, iteF ?_⟩
  have wd9 := (z8.trans ex9).wd wd7
  clear a8 x8 z8 z12 ex9
  -- no registers
  refine ⟨_, rfl, _, rfl, by show 3 ≤ sizeLine; decide, fun q1 nq1 => ⟨Nat.zero_le _, fun q2 nq2 => ⟨_, rfl, by show 2 ≤ sizeLine; decide, fun q3 nq3 => ⟨by show 1 ≤ sizeLine; decide, fun q4 nq4 => ⟨by show 4 ≤ sizeLine; decide, fun q5 nq5 => ?_⟩⟩⟩⟩⟩
  have c1 : At K _ (.ref q1) (encC (.less (-1) (-1))) := At.laid nq1 (Ats.mk (at_str.mpr rfl) (Ats.mk (at_int.mpr rfl) (Ats.mk (at_int.mpr rfl) Ats.mk_nil)))
  have c2 : At K _ (.ref q2) (.tup []) := At.laid nq2 Ats.mk_nil
  have c3 : At K _ (.ref q3) (encSay (0, -1)) := At.laid nq3 (Ats.mk (at_int.mpr rfl) (Ats.mk (at_int.mpr rfl) Ats.mk_nil))
  have c4 : At K _ (.ref q4) (.tup [encSay (0, -1)]) := At.laid nq4 (Ats.mk c3 Ats.mk_nil)
  have y1 := Ex.new (T := T) (ms := []) (o := .tup [.str "less", .int (-1), .int (-1)]) nq1
  have y2 := Ex.new (T := T) (ms := []) (o := .tup ([] : List V)) nq2
  have y3 := Ex.new (T := T) (ms := []) (o := .tup [.int 0, .int (-1)]) nq3
  have y4 := Ex.new (T := T) (ms := []) (o := .tup [.ref q3]) nq4
  have y5 := Ex.new (T := T) (ms := []) (o := .tup [.ref q1, .ref q2, .ref q4, .int 0]) nq5
  have c5 : At K _ (.ref q5) (encRC ⟨.less (-1) (-1), [], [(0, -1)], 0⟩) := At.laid nq5 (Ats.mk (c1.ext ((y2.trans y3).trans y4)) (Ats.mk (c2.ext (y3.trans y4)) (Ats.mk c4 (Ats.mk (at_int.mpr rfl) Ats.mk_nil))))
  refine ⟨by show 1 ≤ sizeLine; decide, fun q6 nq6 => ⟨by show 1 ≤ sizeLine; decide, fun q7 nq7 => ⟨by show 1 ≤ sizeLine; decide, fun q8 nq8 => ⟨by show 3 ≤ sizeLine; decide, fun q9 nq9 => ?_⟩⟩⟩⟩
  have y9 := ((((((((y1.trans y2).trans y3).trans y4).trans y5).trans (Ex.new (T := T) (ms := []) (o := .tup [.ref q5]) nq6)).trans (Ex.new (T := T) (ms := []) (o := .tup [.ref q6]) nq7)).trans (Ex.new (T := T) (ms := []) (o := .tup [.ref q7]) nq8)).trans (Ex.new (T := T) (ms := []) (o := .tup [.int 1, .int 0, .ref q8]) nq9))
  have one : ∀ s ∈ ([[[⟨.less (-1) (-1), [], [(0, -1)], 0⟩]]] : List (List (List RCase))), s.length = 1 ∧ ∀ cs ∈ s, ∀ c ∈ cs, c = ⟨.less (-1) (-1), [], [(0, -1)], 0⟩ := fun s hs => by
    rw [List.mem_singleton.mp hs]
    refine ⟨rfl, fun cs h c hc => ?_⟩
    rw [List.mem_singleton.mp h] at hc
    exact List.mem_singleton.mp hc
  have right2 : MachR ⟨1, 0, [[[⟨.less (-1) (-1), [], [(0, -1)], 0⟩]]]⟩ := by
    refine ⟨by decide, by decide, (fun h => by cases h), fun s hs => ?_, fun s hs cs hcs c hc => ?_⟩
    · show (s.length : Int) = 1
      rw [(one s hs).1]
      rfl
    · rw [(one s hs).2 cs hcs c hc]
      refine ⟨rfl, rfl, (fun s h => by cases h), fun p hp => ?_, by decide⟩
      rw [List.mem_singleton.mp hp]
      decide
  refine ⟨.ref q9, true, rfl, ⟨⟨1, 0, [[[⟨.less (-1) (-1), [], [(0, -1)], 0⟩]]]⟩, At.laid nq9 (Ats.mk (at_int.mpr rfl) (Ats.mk (at_int.mpr rfl) (Ats.mk (At.laid nq8 (Ats.mk (At.laid nq7 (Ats.mk (At.laid nq6 (Ats.mk c5 Ats.mk_nil)) Ats.mk_nil)) Ats.mk_nil)) Ats.mk_nil))), fun s hs cs hcs c hc => ?_, ⟨fun _ => right2, fun _ => rfl⟩⟩, y9.wd wd9, fun HE exE => ?_⟩
  · rw [(one s hs).2 cs hcs c hc]
    show dpC 17 (.less (-1) (-1))
    unfold dpC
    trivial
  dsimp only [tC, ↓reduceIte]
  exact t1 (q _)

end
/-- tables of defs by name -/
def TabOf (mg : Str → Option Value) (h : Heap) (nm : Str) : Prop := ∃ a o fd c P, mg nm = some (.ref a) ∧ h.get? a = some o ∧ o.data = .func fd ∧ fd.code = .ref c ∧ h.IsCode c P #[] ∧ h.TableAt c P #[]
theorem walk_tabs {l : PySem.W.OpenLaw} {n k : Nat} {q : Program} {loose : List Str} {XP : (Str → Option Value) → Heap → Prop} {YP : World → Heap → Prop} {d : DefRec} {K : Params → PySem.W.Frag} {CX : World → CXT} {x : Str} (names : List Str)
    (hn : l.most = some n) (hn2 : n ≤ sizeLine) (hdf : d.params.defaults = []) (hr : Room k callerA) (hrec : (names.all fun nm => (recsOf q).any fun e => e.name == nm) = true) (hY : ∀ (w : World) (h : Heap), YP w h → (K w.params).In h)
    (F : ∀ (w : World) (mg : Str → Option Value) (fa : Addr) (h : Heap), YP w h → (K w.params).In h → h.Ns mainGlobals mg → mg d.name = some (.ref fa) → (∀ nm ∈ names, TabOf mg h nm) → LamX.LawAtS l w (K w.params) (CX w) k n x mg fa h)
    (hCX : ∀ (w : World) (H : Hp) (s : Shared) (e : Value) (s' : Shared), CX w [] H s (fun _ _ _ => False) e s' → False) :
    PySem.W.WalkO q loose XP YP l.row.toRowW d [] (fun f vs => PySem.call f vs) := by
  refine Att.attach_callB hn hdf fun w s₀ s₁ mg mb fa o pm cd doc a vs ns G Y ho hd hcd hmg hobj hints hlen hbits hg => ?_
  have KX := hY w _ Y
  have own : ∀ nm ∈ names, TabOf mg s₁.heap nm := fun nm hnm => by
    obtain ⟨dL, hm, hn1⟩ := List.any_eq_true.mp (List.all_eq_true.mp hrec nm hnm)
    have hn2 : dL.name = nm := beq_iff_eq.mp hn1
    obtain ⟨a', o', fd', c', P', h1, r⟩ := G.T.tab dL hm
    rw [hn2] at h1
    exact ⟨a', o', fd', c', P', h1, r⟩
  obtain ⟨fd, cs, sp, hT, nT, C, hb, hsp, hF⟩ := F w mg fa _ Y KX G.T.g hmg own
  exact LamX.law_callTs KX G.T.g G.T.b G.T.builtins G.T.nolimit hg hT nT C G.T.bmain hobj hints (Nat.le_trans hlen hn2) hr hF hb (fun H hH hS => hsp H a ns hlen hbits hH hS) fun H e s' => hCX w H s₁ e s'
/-- a def's table, found by its code object in the written part -/
theorem tab_at {K : PySem.W.Frag} {h : Heap} {mg : Str → Option Value} {nm : Str} {f c P : Addr} {oc e : Value} {od dd : Option Addr} {osl sl : Array (Option Value)} {fd : FuncData} {vs : Array Value} (X : K.In h) (t : TabOf mg h nm) (m : mg nm = some (.ref f))
    (l : K.lookup f = some ⟨oc, od, .func fd, osl⟩) (cd : fd.code = .ref c) (u : K.lookup c = some ⟨e, dd, .fields vs, sl⟩) (v : vs[11]? = some (.ref P)) :
    h.get? P = some { cls := .none, data := .fields #[] } ∧ PySem.W.CodeHd h c P := by
  obtain ⟨a', o', fd', c', P', h1, h2, h3, h4, h5, h6⟩ := t
  rw [m] at h1
  cases h1
  have g1 := X _ _ l
  rw [g1] at h2
  cases h2
  cases h3
  rw [cd] at h4
  cases h4
  have g2 := X _ _ u
  have hd := PySem.W.CodeHd.of h5 h6
  obtain ⟨⟨oc', vc, e1, _, e3, e4⟩, hP⟩ := h6
  rw [g2] at e1
  cases e1
  cases e3
  rw [v] at e4
  cases e4
  exact ⟨hP, hd⟩

theorem all_mk {l : PySem.W.OpenLaw} {w : World} {K : PySem.W.Frag} {h : Heap} {mg : Str → Option Value} {fa f__places_right f__check_source f__check_case f_check_machine f__law_draws f__law_take f__law_cell f__law_place f__law_condition f__law_source f__law_moves f__law_says f__law_cases f__law_machine f__law_any_machine f__law_error_name f__law_crowded f__law_checked f__law_far f__law_bad_condition f__law_bad_case f__law_spoilt f__law_wide_right f_law : Addr} (X : K.In h) (G : h.Ns mainGlobals mg) (hfa : mg "law" = some (.ref fa))
    {od__places_right an__places_right : Option Addr} {sl__places_right : Array (Option Value)} {oc__places_right kV__places_right dc__places_right pm__places_right ct__places_right : Value}
    {c__places_right P__places_right : Addr} {e__places_right : Value} {dd__places_right : Option Addr} {vs__places_right : Array Value} {ss__places_right : Array (Option Value)}
    {od__check_source an__check_source : Option Addr} {sl__check_source : Array (Option Value)} {oc__check_source kV__check_source dc__check_source pm__check_source cd__check_source ct__check_source : Value}
    {od__check_case an__check_case : Option Addr} {sl__check_case : Array (Option Value)} {oc__check_case kV__check_case dc__check_case pm__check_case cd__check_case ct__check_case : Value}
    {od_check_machine an_check_machine : Option Addr} {sl_check_machine : Array (Option Value)} {oc_check_machine kV_check_machine dc_check_machine pm_check_machine cd_check_machine ct_check_machine : Value}
    {od__law_draws an__law_draws : Option Addr} {sl__law_draws : Array (Option Value)} {oc__law_draws kV__law_draws dc__law_draws pm__law_draws cd__law_draws ct__law_draws : Value}
    {od__law_take an__law_take : Option Addr} {sl__law_take : Array (Option Value)} {oc__law_take kV__law_take dc__law_take pm__law_take cd__law_take ct__law_take : Value}
    {od__law_cell an__law_cell : Option Addr} {sl__law_cell : Array (Option Value)} {oc__law_cell kV__law_cell dc__law_cell pm__law_cell cd__law_cell ct__law_cell : Value}
    {od__law_place an__law_place : Option Addr} {sl__law_place : Array (Option Value)} {oc__law_place kV__law_place dc__law_place pm__law_place cd__law_place ct__law_place : Value}
    {od__law_condition an__law_condition : Option Addr} {sl__law_condition : Array (Option Value)} {oc__law_condition kV__law_condition dc__law_condition pm__law_condition cd__law_condition ct__law_condition : Value}
    {od__law_source an__law_source : Option Addr} {sl__law_source : Array (Option Value)} {oc__law_source kV__law_source dc__law_source pm__law_source cd__law_source ct__law_source : Value}
    {od__law_moves an__law_moves : Option Addr} {sl__law_moves : Array (Option Value)} {oc__law_moves kV__law_moves dc__law_moves pm__law_moves cd__law_moves ct__law_moves : Value}
    {od__law_says an__law_says : Option Addr} {sl__law_says : Array (Option Value)} {oc__law_says kV__law_says dc__law_says pm__law_says cd__law_says ct__law_says : Value}
    {od__law_cases an__law_cases : Option Addr} {sl__law_cases : Array (Option Value)} {oc__law_cases kV__law_cases dc__law_cases pm__law_cases cd__law_cases ct__law_cases : Value}
    {od__law_machine an__law_machine : Option Addr} {sl__law_machine : Array (Option Value)} {oc__law_machine kV__law_machine dc__law_machine pm__law_machine cd__law_machine ct__law_machine : Value}
    {od__law_any_machine an__law_any_machine : Option Addr} {sl__law_any_machine : Array (Option Value)} {oc__law_any_machine kV__law_any_machine dc__law_any_machine pm__law_any_machine cd__law_any_machine ct__law_any_machine : Value}
    {od__law_error_name an__law_error_name : Option Addr} {sl__law_error_name : Array (Option Value)} {oc__law_error_name kV__law_error_name dc__law_error_name pm__law_error_name cd__law_error_name ct__law_error_name : Value}
    {od__law_crowded an__law_crowded : Option Addr} {sl__law_crowded : Array (Option Value)} {oc__law_crowded kV__law_crowded dc__law_crowded pm__law_crowded cd__law_crowded ct__law_crowded : Value}
    {od__law_checked an__law_checked : Option Addr} {sl__law_checked : Array (Option Value)} {oc__law_checked kV__law_checked dc__law_checked pm__law_checked cd__law_checked ct__law_checked : Value}
    {od__law_far an__law_far : Option Addr} {sl__law_far : Array (Option Value)} {oc__law_far kV__law_far dc__law_far pm__law_far cd__law_far ct__law_far : Value}
    {od__law_bad_condition an__law_bad_condition : Option Addr} {sl__law_bad_condition : Array (Option Value)} {oc__law_bad_condition kV__law_bad_condition dc__law_bad_condition pm__law_bad_condition cd__law_bad_condition ct__law_bad_condition : Value}
    {od__law_bad_case an__law_bad_case : Option Addr} {sl__law_bad_case : Array (Option Value)} {oc__law_bad_case kV__law_bad_case dc__law_bad_case pm__law_bad_case cd__law_bad_case ct__law_bad_case : Value}
    {od__law_spoilt an__law_spoilt : Option Addr} {sl__law_spoilt : Array (Option Value)} {oc__law_spoilt kV__law_spoilt dc__law_spoilt pm__law_spoilt cd__law_spoilt ct__law_spoilt : Value}
    {od__law_wide_right an__law_wide_right : Option Addr} {sl__law_wide_right : Array (Option Value)} {oc__law_wide_right kV__law_wide_right dc__law_wide_right pm__law_wide_right cd__law_wide_right ct__law_wide_right : Value}
    {od_law an_law : Option Addr} {sl_law : Array (Option Value)} {oc_law kV_law dc_law pm_law cd_law ct_law : Value}
    {t_NEW t_NOTHING : Tok}
    (TT : ∀ nm ∈ (["_places_right"] : List Str), TabOf mg h nm)
    (a__places_right : PySem.W.nsIn K mainGlobals "_places_right" = some (some (.ref f__places_right))) (l__places_right : K.lookup f__places_right = some ⟨oc__places_right, od__places_right, .func (PySem.W.fnOf "_places_right" "_places_right" (defArgs s__places_right) (defBody s__places_right) (defScope s__places_right) .none kV__places_right dc__places_right pm__places_right an__places_right (.ref c__places_right) ct__places_right), sl__places_right⟩) (c__places_right_ : PySem.W.codeIn K (.ref c__places_right) "_places_right" = true) (k__places_right : PySem.W.keepIn K (.ref f__places_right) = true)
    (u__places_right : K.lookup c__places_right = some ⟨e__places_right, dd__places_right, .fields vs__places_right, ss__places_right⟩) (v__places_right : vs__places_right[11]? = some (.ref P__places_right)) (w__places_right : K.lookup P__places_right = none)
    (a__check_source : PySem.W.nsIn K mainGlobals "_check_source" = some (some (.ref f__check_source))) (l__check_source : K.lookup f__check_source = some ⟨oc__check_source, od__check_source, .func (PySem.W.fnOf "_check_source" "_check_source" (defArgs s__check_source) (defBody s__check_source) (defScope s__check_source) .none kV__check_source dc__check_source pm__check_source an__check_source cd__check_source ct__check_source), sl__check_source⟩) (c__check_source_ : PySem.W.codeIn K cd__check_source "_check_source" = true) (k__check_source : PySem.W.keepIn K (.ref f__check_source) = true)
    (a__check_case : PySem.W.nsIn K mainGlobals "_check_case" = some (some (.ref f__check_case))) (l__check_case : K.lookup f__check_case = some ⟨oc__check_case, od__check_case, .func (PySem.W.fnOf "_check_case" "_check_case" (defArgs s__check_case) (defBody s__check_case) (defScope s__check_case) .none kV__check_case dc__check_case pm__check_case an__check_case cd__check_case ct__check_case), sl__check_case⟩) (c__check_case_ : PySem.W.codeIn K cd__check_case "_check_case" = true) (k__check_case : PySem.W.keepIn K (.ref f__check_case) = true)
    (a_check_machine : PySem.W.nsIn K mainGlobals "check_machine" = some (some (.ref f_check_machine))) (l_check_machine : K.lookup f_check_machine = some ⟨oc_check_machine, od_check_machine, .func (PySem.W.fnOf "check_machine" "check_machine" (defArgs s_check_machine) (defBody s_check_machine) (defScope s_check_machine) .none kV_check_machine dc_check_machine pm_check_machine an_check_machine cd_check_machine ct_check_machine), sl_check_machine⟩) (c_check_machine_ : PySem.W.codeIn K cd_check_machine "check_machine" = true) (k_check_machine : PySem.W.keepIn K (.ref f_check_machine) = true)
    (a__law_draws : PySem.W.nsIn K mainGlobals "_law_draws" = some (some (.ref f__law_draws))) (l__law_draws : K.lookup f__law_draws = some ⟨oc__law_draws, od__law_draws, .func (PySem.W.fnOf "_law_draws" "_law_draws" (defArgs s__law_draws) (defBody s__law_draws) (defScope s__law_draws) .none kV__law_draws dc__law_draws pm__law_draws an__law_draws cd__law_draws ct__law_draws), sl__law_draws⟩) (c__law_draws_ : PySem.W.codeIn K cd__law_draws "_law_draws" = true) (k__law_draws : PySem.W.keepIn K (.ref f__law_draws) = true)
    (a__law_take : PySem.W.nsIn K mainGlobals "_law_take" = some (some (.ref f__law_take))) (l__law_take : K.lookup f__law_take = some ⟨oc__law_take, od__law_take, .func (PySem.W.fnOf "_law_take" "_law_take" (defArgs s__law_take) (defBody s__law_take) (defScope s__law_take) .none kV__law_take dc__law_take pm__law_take an__law_take cd__law_take ct__law_take), sl__law_take⟩) (c__law_take_ : PySem.W.codeIn K cd__law_take "_law_take" = true) (k__law_take : PySem.W.keepIn K (.ref f__law_take) = true)
    (a__law_cell : PySem.W.nsIn K mainGlobals "_law_cell" = some (some (.ref f__law_cell))) (l__law_cell : K.lookup f__law_cell = some ⟨oc__law_cell, od__law_cell, .func (PySem.W.fnOf "_law_cell" "_law_cell" (defArgs s__law_cell) (defBody s__law_cell) (defScope s__law_cell) .none kV__law_cell dc__law_cell pm__law_cell an__law_cell cd__law_cell ct__law_cell), sl__law_cell⟩) (c__law_cell_ : PySem.W.codeIn K cd__law_cell "_law_cell" = true) (k__law_cell : PySem.W.keepIn K (.ref f__law_cell) = true)
    (a__law_place : PySem.W.nsIn K mainGlobals "_law_place" = some (some (.ref f__law_place))) (l__law_place : K.lookup f__law_place = some ⟨oc__law_place, od__law_place, .func (PySem.W.fnOf "_law_place" "_law_place" (defArgs s__law_place) (defBody s__law_place) (defScope s__law_place) .none kV__law_place dc__law_place pm__law_place an__law_place cd__law_place ct__law_place), sl__law_place⟩) (c__law_place_ : PySem.W.codeIn K cd__law_place "_law_place" = true) (k__law_place : PySem.W.keepIn K (.ref f__law_place) = true)
    (a__law_condition : PySem.W.nsIn K mainGlobals "_law_condition" = some (some (.ref f__law_condition))) (l__law_condition : K.lookup f__law_condition = some ⟨oc__law_condition, od__law_condition, .func (PySem.W.fnOf "_law_condition" "_law_condition" (defArgs s__law_condition) (defBody s__law_condition) (defScope s__law_condition) .none kV__law_condition dc__law_condition pm__law_condition an__law_condition cd__law_condition ct__law_condition), sl__law_condition⟩) (c__law_condition_ : PySem.W.codeIn K cd__law_condition "_law_condition" = true) (k__law_condition : PySem.W.keepIn K (.ref f__law_condition) = true)
    (a__law_source : PySem.W.nsIn K mainGlobals "_law_source" = some (some (.ref f__law_source))) (l__law_source : K.lookup f__law_source = some ⟨oc__law_source, od__law_source, .func (PySem.W.fnOf "_law_source" "_law_source" (defArgs s__law_source) (defBody s__law_source) (defScope s__law_source) .none kV__law_source dc__law_source pm__law_source an__law_source cd__law_source ct__law_source), sl__law_source⟩) (c__law_source_ : PySem.W.codeIn K cd__law_source "_law_source" = true) (k__law_source : PySem.W.keepIn K (.ref f__law_source) = true)
    (a__law_moves : PySem.W.nsIn K mainGlobals "_law_moves" = some (some (.ref f__law_moves))) (l__law_moves : K.lookup f__law_moves = some ⟨oc__law_moves, od__law_moves, .func (PySem.W.fnOf "_law_moves" "_law_moves" (defArgs s__law_moves) (defBody s__law_moves) (defScope s__law_moves) .none kV__law_moves dc__law_moves pm__law_moves an__law_moves cd__law_moves ct__law_moves), sl__law_moves⟩) (c__law_moves_ : PySem.W.codeIn K cd__law_moves "_law_moves" = true) (k__law_moves : PySem.W.keepIn K (.ref f__law_moves) = true)
    (a__law_says : PySem.W.nsIn K mainGlobals "_law_says" = some (some (.ref f__law_says))) (l__law_says : K.lookup f__law_says = some ⟨oc__law_says, od__law_says, .func (PySem.W.fnOf "_law_says" "_law_says" (defArgs s__law_says) (defBody s__law_says) (defScope s__law_says) .none kV__law_says dc__law_says pm__law_says an__law_says cd__law_says ct__law_says), sl__law_says⟩) (c__law_says_ : PySem.W.codeIn K cd__law_says "_law_says" = true) (k__law_says : PySem.W.keepIn K (.ref f__law_says) = true)
    (a__law_cases : PySem.W.nsIn K mainGlobals "_law_cases" = some (some (.ref f__law_cases))) (l__law_cases : K.lookup f__law_cases = some ⟨oc__law_cases, od__law_cases, .func (PySem.W.fnOf "_law_cases" "_law_cases" (defArgs s__law_cases) (defBody s__law_cases) (defScope s__law_cases) .none kV__law_cases dc__law_cases pm__law_cases an__law_cases cd__law_cases ct__law_cases), sl__law_cases⟩) (c__law_cases_ : PySem.W.codeIn K cd__law_cases "_law_cases" = true) (k__law_cases : PySem.W.keepIn K (.ref f__law_cases) = true)
    (a__law_machine : PySem.W.nsIn K mainGlobals "_law_machine" = some (some (.ref f__law_machine))) (l__law_machine : K.lookup f__law_machine = some ⟨oc__law_machine, od__law_machine, .func (PySem.W.fnOf "_law_machine" "_law_machine" (defArgs s__law_machine) (defBody s__law_machine) (defScope s__law_machine) .none kV__law_machine dc__law_machine pm__law_machine an__law_machine cd__law_machine ct__law_machine), sl__law_machine⟩) (c__law_machine_ : PySem.W.codeIn K cd__law_machine "_law_machine" = true) (k__law_machine : PySem.W.keepIn K (.ref f__law_machine) = true)
    (a__law_any_machine : PySem.W.nsIn K mainGlobals "_law_any_machine" = some (some (.ref f__law_any_machine))) (l__law_any_machine : K.lookup f__law_any_machine = some ⟨oc__law_any_machine, od__law_any_machine, .func (PySem.W.fnOf "_law_any_machine" "_law_any_machine" (defArgs s__law_any_machine) (defBody s__law_any_machine) (defScope s__law_any_machine) .none kV__law_any_machine dc__law_any_machine pm__law_any_machine an__law_any_machine cd__law_any_machine ct__law_any_machine), sl__law_any_machine⟩) (c__law_any_machine_ : PySem.W.codeIn K cd__law_any_machine "_law_any_machine" = true) (k__law_any_machine : PySem.W.keepIn K (.ref f__law_any_machine) = true)
    (a__law_error_name : PySem.W.nsIn K mainGlobals "_law_error_name" = some (some (.ref f__law_error_name))) (l__law_error_name : K.lookup f__law_error_name = some ⟨oc__law_error_name, od__law_error_name, .func (PySem.W.fnOf "_law_error_name" "_law_error_name" (defArgs s__law_error_name) (defBody s__law_error_name) (defScope s__law_error_name) .none kV__law_error_name dc__law_error_name pm__law_error_name an__law_error_name cd__law_error_name ct__law_error_name), sl__law_error_name⟩) (c__law_error_name_ : PySem.W.codeIn K cd__law_error_name "_law_error_name" = true) (k__law_error_name : PySem.W.keepIn K (.ref f__law_error_name) = true)
    (a__law_crowded : PySem.W.nsIn K mainGlobals "_law_crowded" = some (some (.ref f__law_crowded))) (l__law_crowded : K.lookup f__law_crowded = some ⟨oc__law_crowded, od__law_crowded, .func (PySem.W.fnOf "_law_crowded" "_law_crowded" (defArgs s__law_crowded) (defBody s__law_crowded) (defScope s__law_crowded) .none kV__law_crowded dc__law_crowded pm__law_crowded an__law_crowded cd__law_crowded ct__law_crowded), sl__law_crowded⟩) (c__law_crowded_ : PySem.W.codeIn K cd__law_crowded "_law_crowded" = true) (k__law_crowded : PySem.W.keepIn K (.ref f__law_crowded) = true)
    (a__law_checked : PySem.W.nsIn K mainGlobals "_law_checked" = some (some (.ref f__law_checked))) (l__law_checked : K.lookup f__law_checked = some ⟨oc__law_checked, od__law_checked, .func (PySem.W.fnOf "_law_checked" "_law_checked" (defArgs s__law_checked) (defBody s__law_checked) (defScope s__law_checked) .none kV__law_checked dc__law_checked pm__law_checked an__law_checked cd__law_checked ct__law_checked), sl__law_checked⟩) (c__law_checked_ : PySem.W.codeIn K cd__law_checked "_law_checked" = true) (k__law_checked : PySem.W.keepIn K (.ref f__law_checked) = true)
    (a__law_far : PySem.W.nsIn K mainGlobals "_law_far" = some (some (.ref f__law_far))) (l__law_far : K.lookup f__law_far = some ⟨oc__law_far, od__law_far, .func (PySem.W.fnOf "_law_far" "_law_far" (defArgs s__law_far) (defBody s__law_far) (defScope s__law_far) .none kV__law_far dc__law_far pm__law_far an__law_far cd__law_far ct__law_far), sl__law_far⟩) (c__law_far_ : PySem.W.codeIn K cd__law_far "_law_far" = true) (k__law_far : PySem.W.keepIn K (.ref f__law_far) = true)
    (a__law_bad_condition : PySem.W.nsIn K mainGlobals "_law_bad_condition" = some (some (.ref f__law_bad_condition))) (l__law_bad_condition : K.lookup f__law_bad_condition = some ⟨oc__law_bad_condition, od__law_bad_condition, .func (PySem.W.fnOf "_law_bad_condition" "_law_bad_condition" (defArgs s__law_bad_condition) (defBody s__law_bad_condition) (defScope s__law_bad_condition) .none kV__law_bad_condition dc__law_bad_condition pm__law_bad_condition an__law_bad_condition cd__law_bad_condition ct__law_bad_condition), sl__law_bad_condition⟩) (c__law_bad_condition_ : PySem.W.codeIn K cd__law_bad_condition "_law_bad_condition" = true) (k__law_bad_condition : PySem.W.keepIn K (.ref f__law_bad_condition) = true)
    (a__law_bad_case : PySem.W.nsIn K mainGlobals "_law_bad_case" = some (some (.ref f__law_bad_case))) (l__law_bad_case : K.lookup f__law_bad_case = some ⟨oc__law_bad_case, od__law_bad_case, .func (PySem.W.fnOf "_law_bad_case" "_law_bad_case" (defArgs s__law_bad_case) (defBody s__law_bad_case) (defScope s__law_bad_case) .none kV__law_bad_case dc__law_bad_case pm__law_bad_case an__law_bad_case cd__law_bad_case ct__law_bad_case), sl__law_bad_case⟩) (c__law_bad_case_ : PySem.W.codeIn K cd__law_bad_case "_law_bad_case" = true) (k__law_bad_case : PySem.W.keepIn K (.ref f__law_bad_case) = true)
    (a__law_spoilt : PySem.W.nsIn K mainGlobals "_law_spoilt" = some (some (.ref f__law_spoilt))) (l__law_spoilt : K.lookup f__law_spoilt = some ⟨oc__law_spoilt, od__law_spoilt, .func (PySem.W.fnOf "_law_spoilt" "_law_spoilt" (defArgs s__law_spoilt) (defBody s__law_spoilt) (defScope s__law_spoilt) .none kV__law_spoilt dc__law_spoilt pm__law_spoilt an__law_spoilt cd__law_spoilt ct__law_spoilt), sl__law_spoilt⟩) (c__law_spoilt_ : PySem.W.codeIn K cd__law_spoilt "_law_spoilt" = true) (k__law_spoilt : PySem.W.keepIn K (.ref f__law_spoilt) = true)
    (a__law_wide_right : PySem.W.nsIn K mainGlobals "_law_wide_right" = some (some (.ref f__law_wide_right))) (l__law_wide_right : K.lookup f__law_wide_right = some ⟨oc__law_wide_right, od__law_wide_right, .func (PySem.W.fnOf "_law_wide_right" "_law_wide_right" (defArgs s__law_wide_right) (defBody s__law_wide_right) (defScope s__law_wide_right) .none kV__law_wide_right dc__law_wide_right pm__law_wide_right an__law_wide_right cd__law_wide_right ct__law_wide_right), sl__law_wide_right⟩) (c__law_wide_right_ : PySem.W.codeIn K cd__law_wide_right "_law_wide_right" = true) (k__law_wide_right : PySem.W.keepIn K (.ref f__law_wide_right) = true)
    (a_law : PySem.W.nsIn K mainGlobals "law" = some (some (.ref f_law))) (l_law : K.lookup f_law = some ⟨oc_law, od_law, .func (PySem.W.fnOf "law" "law" (defArgs s_law) (defBody s_law) (defScope s_law) .none kV_law dc_law pm_law an_law cd_law ct_law), sl_law⟩) (c_law_ : PySem.W.codeIn K cd_law "law" = true) (k_law : PySem.W.keepIn K (.ref f_law) = true)
    (z_NEW : PySem.W.nsIn K mainGlobals "NEW" = some (some (.int (-1) t_NEW)))
    (z_NOTHING : PySem.W.nsIn K mainGlobals "NOTHING" = some (some (.int (-2) t_NOTHING)))
    (z_all : PySem.W.nsIn K mainGlobals "all" = some none)
    (z_len : PySem.W.nsIn K mainGlobals "len" = some none)
    (z_int : PySem.W.nsIn K mainGlobals "int" = some none)
    (z_list : PySem.W.nsIn K mainGlobals "list" = some none)
    (z_range : PySem.W.nsIn K mainGlobals "range" = some none)
    (z_tuple : PySem.W.nsIn K mainGlobals "tuple" = some none)
    (z_isinstance : PySem.W.nsIn K mainGlobals "isinstance" = some none)
    (z_min : PySem.W.nsIn K mainGlobals "min" = some none)
    (z_max : PySem.W.nsIn K mainGlobals "max" = some none)
    (z_abs : PySem.W.nsIn K mainGlobals "abs" = some none)
    (z_ValueError : PySem.W.nsIn K mainGlobals "ValueError" = some none)
    {C_InvalidMachine : Addr} (a_InvalidMachine : PySem.W.nsIn K mainGlobals "InvalidMachine" = some (some (.ref C_InvalidMachine)))
    {C_BadText : Addr} (a_BadText : PySem.W.nsIn K mainGlobals "BadText" = some (some (.ref C_BadText)))
    {C_NoMachine : Addr} (a_NoMachine : PySem.W.nsIn K mainGlobals "NoMachine" = some (some (.ref C_NoMachine)))
    {C_NothingToUndo : Addr} (a_NothingToUndo : PySem.W.nsIn K mainGlobals "NothingToUndo" = some (some (.ref C_NothingToUndo)))
    {C_NothingToRedo : Addr} (a_NothingToRedo : PySem.W.nsIn K mainGlobals "NothingToRedo" = some (some (.ref C_NothingToRedo)))
    {C_ValuesError : Addr} (a_ValuesError : PySem.W.nsIn K mainGlobals "ValuesError" = some (some (.ref C_ValuesError)))
    (xc_hg : PySem.W.findIn K (.ref C_InvalidMachine) "__getattribute__" = some (some (.builtin "BaseException.__getattribute__")))
    (xc_hk : PySem.W.findIn K (.ref C_InvalidMachine) "__getattr__" = some none)
    (xc_hs : PySem.W.subIn K (.ref C_InvalidMachine) (.type "BaseException") = some true)
    (xc_hd : PySem.W.hasDictIn K C_InvalidMachine = true)
    (xc_ha : PySem.W.findIn K (.ref C_InvalidMachine) "__class__" = some (some (.builtin "object.__class__")))
    (xc_hn : PySem.W.specialIn K (.builtin "object.__class__") "__get__" = some (some (.builtin "getset_descriptor.__get__")))
    (xc_ht : PySem.W.takesIn K (.builtin "object.__class__") = some true)
    (xc_hm : PySem.W.mroIn K C_InvalidMachine (.type "object") = some true)
    (xi_x : PySem.W.excIn K C_InvalidMachine [.type "ValueError", .type "Exception", .type "BaseException", .type "object"] "ValueError.__new__" = true)
    (xi_k : PySem.W.keepIn K (.ref C_InvalidMachine) = true)
    (xi_t : PySem.W.typeIn K (.ref C_InvalidMachine) = some (.type "type"))
    (xV : PySem.W.kitOne K (.ref C_InvalidMachine) (.type "ValueError") = some true)
    (eV : PySem.W.exmOne K (.ref C_InvalidMachine) (.ref C_ValuesError) = some true)
    (x_InvalidMachine : PySem.W.kitOne K (.ref C_InvalidMachine) (.ref C_InvalidMachine) = some true)
    (x_BadText : PySem.W.kitOne K (.ref C_InvalidMachine) (.ref C_BadText) = some false)
    (x_NoMachine : PySem.W.kitOne K (.ref C_InvalidMachine) (.ref C_NoMachine) = some false)
    (x_NothingToUndo : PySem.W.kitOne K (.ref C_InvalidMachine) (.ref C_NothingToUndo) = some false)
    (x_NothingToRedo : PySem.W.kitOne K (.ref C_InvalidMachine) (.ref C_NothingToRedo) = some false)
    : LamX.LawAtS l w K CX0 60 63 "script" mg fa h := by
  have e := hfa.symm.trans (PySem.W.mg_of X G a_law)
  cases e
  have T__places_right := funT_mk (st := s__places_right) l__places_right c__places_right_ k__places_right
  have F__places_right := FunT.fn T__places_right
  obtain ⟨tg__places_right, hd__places_right⟩ := tab_at X (TT "_places_right" (by simp)) (PySem.W.mg_of X G a__places_right) l__places_right rfl u__places_right v__places_right
  have b__places_right := F__places_right.binds (ps := ["condition", "registers"]) fun _ _ _ _ _ _ us hl => match us, hl with | [_, _], _ => rfl
  have m__places_right := PySem.W.mg_of X G a__places_right
  have F__check_source := fun_mk (st := s__check_source) l__check_source c__check_source_ k__check_source
  have b__check_source := F__check_source.binds (ps := ["source", "registers"]) fun _ _ _ _ _ _ us hl => match us, hl with | [_, _], _ => rfl
  have m__check_source := PySem.W.mg_of X G a__check_source
  have F__check_case := fun_mk (st := s__check_case) l__check_case c__check_case_ k__check_case
  have b__check_case := F__check_case.binds (ps := ["case", "registers", "standings"]) fun _ _ _ _ _ _ us hl => match us, hl with | [_, _, _], _ => rfl
  have m__check_case := PySem.W.mg_of X G a__check_case
  have F_check_machine := fun_mk (st := s_check_machine) l_check_machine c_check_machine_ k_check_machine
  have b_check_machine := F_check_machine.binds (ps := ["machine"]) fun _ _ _ _ _ _ us hl => match us, hl with | [_], _ => rfl
  have m_check_machine := PySem.W.mg_of X G a_check_machine
  have F__law_draws := fun_mk (st := s__law_draws) l__law_draws c__law_draws_ k__law_draws
  have b__law_draws := F__law_draws.binds (ps := ["script", "many"]) fun _ _ _ _ _ _ us hl => match us, hl with | [_, _], _ => rfl
  have m__law_draws := PySem.W.mg_of X G a__law_draws
  have F__law_take := fun_mk (st := s__law_take) l__law_take c__law_take_ k__law_take
  have b__law_take := F__law_take.binds (ps := ["draws", "many"]) fun _ _ _ _ _ _ us hl => match us, hl with | [_, _], _ => rfl
  have m__law_take := PySem.W.mg_of X G a__law_take
  have F__law_cell := fun_mk (st := s__law_cell) l__law_cell c__law_cell_ k__law_cell
  have b__law_cell := F__law_cell.binds (ps := ["script", "draws"]) fun _ _ _ _ _ _ us hl => match us, hl with | [_, _], _ => rfl
  have m__law_cell := PySem.W.mg_of X G a__law_cell
  have F__law_place := fun_mk (st := s__law_place) l__law_place c__law_place_ k__law_place
  have b__law_place := F__law_place.binds (ps := ["draws", "registers"]) fun _ _ _ _ _ _ us hl => match us, hl with | [_, _], _ => rfl
  have m__law_place := PySem.W.mg_of X G a__law_place
  have F__law_condition := fun_mk (st := s__law_condition) l__law_condition c__law_condition_ k__law_condition
  have b__law_condition := F__law_condition.binds (ps := ["draws", "registers", "depth"]) fun _ _ _ _ _ _ us hl => match us, hl with | [_, _, _], _ => rfl
  have m__law_condition := PySem.W.mg_of X G a__law_condition
  have F__law_source := fun_mk (st := s__law_source) l__law_source c__law_source_ k__law_source
  have b__law_source := F__law_source.binds (ps := ["draws", "registers"]) fun _ _ _ _ _ _ us hl => match us, hl with | [_, _], _ => rfl
  have m__law_source := PySem.W.mg_of X G a__law_source
  have F__law_moves := fun_mk (st := s__law_moves) l__law_moves c__law_moves_ k__law_moves
  have b__law_moves := F__law_moves.binds (ps := ["draws", "registers"]) fun _ _ _ _ _ _ us hl => match us, hl with | [_, _], _ => rfl
  have m__law_moves := PySem.W.mg_of X G a__law_moves
  have F__law_says := fun_mk (st := s__law_says) l__law_says c__law_says_ k__law_says
  have b__law_says := F__law_says.binds (ps := ["draws", "registers"]) fun _ _ _ _ _ _ us hl => match us, hl with | [_, _], _ => rfl
  have m__law_says := PySem.W.mg_of X G a__law_says
  have F__law_cases := fun_mk (st := s__law_cases) l__law_cases c__law_cases_ k__law_cases
  have b__law_cases := F__law_cases.binds (ps := ["draws", "registers", "standings"]) fun _ _ _ _ _ _ us hl => match us, hl with | [_, _, _], _ => rfl
  have m__law_cases := PySem.W.mg_of X G a__law_cases
  have F__law_machine := fun_mk (st := s__law_machine) l__law_machine c__law_machine_ k__law_machine
  have b__law_machine := F__law_machine.binds (ps := ["draws", "tags", "registers", "standings"]) fun _ _ _ _ _ _ us hl => match us, hl with | [_, _, _, _], _ => rfl
  have m__law_machine := PySem.W.mg_of X G a__law_machine
  have F__law_any_machine := fun_mk (st := s__law_any_machine) l__law_any_machine c__law_any_machine_ k__law_any_machine
  have b__law_any_machine := F__law_any_machine.binds (ps := ["draws"]) fun _ _ _ _ _ _ us hl => match us, hl with | [_], _ => rfl
  have m__law_any_machine := PySem.W.mg_of X G a__law_any_machine
  have F__law_error_name := fun_mk (st := s__law_error_name) l__law_error_name c__law_error_name_ k__law_error_name
  have b__law_error_name := F__law_error_name.binds (ps := ["e"]) fun _ _ _ _ _ _ us hl => match us, hl with | [_], _ => rfl
  have m__law_error_name := PySem.W.mg_of X G a__law_error_name
  have F__law_crowded := fun_mk (st := s__law_crowded) l__law_crowded c__law_crowded_ k__law_crowded
  have b__law_crowded := F__law_crowded.binds (ps := ["draws", "registers"]) fun _ _ _ _ _ _ us hl => match us, hl with | [_, _], _ => rfl
  have m__law_crowded := PySem.W.mg_of X G a__law_crowded
  have F__law_checked := fun_mk (st := s__law_checked) l__law_checked c__law_checked_ k__law_checked
  have b__law_checked := F__law_checked.binds (ps := ["machine"]) fun _ _ _ _ _ _ us hl => match us, hl with | [_], _ => rfl
  have m__law_checked := PySem.W.mg_of X G a__law_checked
  have F__law_far := fun_mk (st := s__law_far) l__law_far c__law_far_ k__law_far
  have b__law_far := F__law_far.binds (ps := ["draws", "cell"]) fun _ _ _ _ _ _ us hl => match us, hl with | [_, _], _ => rfl
  have m__law_far := PySem.W.mg_of X G a__law_far
  have F__law_bad_condition := fun_mk (st := s__law_bad_condition) l__law_bad_condition c__law_bad_condition_ k__law_bad_condition
  have b__law_bad_condition := F__law_bad_condition.binds (ps := ["draws", "registers", "cell", "condition"]) fun _ _ _ _ _ _ us hl => match us, hl with | [_, _, _, _], _ => rfl
  have m__law_bad_condition := PySem.W.mg_of X G a__law_bad_condition
  have F__law_bad_case := fun_mk (st := s__law_bad_case) l__law_bad_case c__law_bad_case_ k__law_bad_case
  have b__law_bad_case := F__law_bad_case.binds (ps := ["draws", "registers", "standings", "cell", "case"]) fun _ _ _ _ _ _ us hl => match us, hl with | [_, _, _, _, _], _ => rfl
  have m__law_bad_case := PySem.W.mg_of X G a__law_bad_case
  have F__law_spoilt := fun_mk (st := s__law_spoilt) l__law_spoilt c__law_spoilt_ k__law_spoilt
  have b__law_spoilt := F__law_spoilt.binds (ps := ["draws", "machine", "cell"]) fun _ _ _ _ _ _ us hl => match us, hl with | [_, _, _], _ => rfl
  have m__law_spoilt := PySem.W.mg_of X G a__law_spoilt
  have F__law_wide_right := fun_mk (st := s__law_wide_right) l__law_wide_right c__law_wide_right_ k__law_wide_right
  have b__law_wide_right := F__law_wide_right.binds (ps := ["draws"]) fun _ _ _ _ _ _ us hl => match us, hl with | [_], _ => rfl
  have m__law_wide_right := PySem.W.mg_of X G a__law_wide_right
  have F_law := fun_mk (st := s_law) l_law c_law_ k_law
  have b_law := F_law.binds (ps := ["script"]) fun _ _ _ _ _ _ us hl => match us, hl with | [_], _ => rfl
  have m_law := PySem.W.mg_of X G a_law
  have m_NEW := PySem.W.mg_of X G z_NEW
  have m_NOTHING := PySem.W.mg_of X G z_NOTHING
  have m_all := PySem.W.mg_none_of X G z_all
  have m_len := PySem.W.mg_none_of X G z_len
  have m_int := PySem.W.mg_none_of X G z_int
  have m_list := PySem.W.mg_none_of X G z_list
  have m_range := PySem.W.mg_none_of X G z_range
  have m_tuple := PySem.W.mg_none_of X G z_tuple
  have m_isinstance := PySem.W.mg_none_of X G z_isinstance
  have m_min := PySem.W.mg_none_of X G z_min
  have m_max := PySem.W.mg_none_of X G z_max
  have m_abs := PySem.W.mg_none_of X G z_abs
  have m_ValueError := PySem.W.mg_none_of X G z_ValueError
  have m_InvalidMachine := PySem.W.mg_of X G a_InvalidMachine
  have m_BadText := PySem.W.mg_of X G a_BadText
  have m_NoMachine := PySem.W.mg_of X G a_NoMachine
  have m_NothingToUndo := PySem.W.mg_of X G a_NothingToUndo
  have m_NothingToRedo := PySem.W.mg_of X G a_NothingToRedo
  have m_ValuesError := PySem.W.mg_of X G a_ValuesError
  have XC : ExcC K C_InvalidMachine := ⟨xc_hg, xc_hk, xc_hs, xc_hd, xc_ha, xc_hn, xc_ht, xc_hm⟩
  have XI : ExcT K mg "InvalidMachine" C_InvalidMachine := ⟨m_InvalidMachine, xi_x, xi_k, xc_hs, xi_t⟩
  refine ⟨PySem.W.fnOf "law" "law" (defArgs s_law) (defBody s_law) (defScope s_law) .none kV_law dc_law pm_law an_law cd_law ct_law, [(c__places_right, P__places_right)], sp_law K [P__places_right], ?_, ?_, ?_, fun s v => .of_eq rfl, fun H a ns hl hbits hT hS => ?_, fun base kb nb tb => ?_⟩
  · intro p hp
    simp only [List.mem_cons, List.not_mem_nil, or_false] at hp
    rw [hp]
    exact tg__places_right
  · intro p hp
    simp only [List.mem_cons, List.not_mem_nil, or_false] at hp
    rw [hp]
    exact w__places_right
  · intro p hp
    simp only [List.mem_cons, List.not_mem_nil, or_false] at hp
    rw [hp]
    exact hd__places_right
  · refine ⟨a, ns, rfl, hS, hl, fun P hP => ?_, fun _ => rfl⟩
    simp only [List.mem_cons, List.not_mem_nil, or_false] at hP
    exact ⟨#[], by rw [hP]; exact hT (c__places_right, P__places_right) (by simp), trivial⟩
  have tb__places_right : TabB base mg c__places_right P__places_right := let t := tb (c__places_right, P__places_right) (by simp); ⟨t.code, t.bm, t.gP⟩
  have h__places_right := ok__places_right (P := l.prog) (w := w) (K := K) (base := base) (k := 0) (c := c__places_right) (PT := P__places_right) (T := [P__places_right]) (by simp) T__places_right m_all m_NEW b__places_right m__places_right tb__places_right 18
  have h__check_source := ok__check_source (P := l.prog) (w := w) (K := K) (mg := mg) (base := base) (k := 0) F__check_source m_NOTHING XI
  have h__check_case := ok__check_case (P := l.prog) (w := w) (K := K) (mg := mg) (base := base) (k := 37) (T := [P__places_right]) (n := 17) F__check_case XI m_len (h__places_right.mono (by decide)) k__places_right b__places_right m__places_right (h__check_source.mono (by decide)) k__check_source b__check_source m__check_source
  have h_check_machine := ok_check_machine (P := l.prog) (w := w) (K := K) (mg := mg) (base := base) (k := 38) (T := [P__places_right]) (n := 17) F_check_machine XI m_len (h__check_case.mono (by decide)) k__check_case b__check_case m__check_case
  have h__law_draws : FnOk l.prog w K mg base CX0 1 f__law_draws _ _ _ := ok__law_draws (T := [P__places_right]) F__law_draws m_len m_int m_list m_range
  have h__law_take : FnOk l.prog w K mg base CX0 1 f__law_take _ _ _ := ok__law_take (T := [P__places_right]) F__law_take m_len m_int
  have h__law_cell := ok__law_cell (T := [P__places_right]) F__law_cell m_len m_int h__law_take k__law_take b__law_take m__law_take
  have h__law_place := ok__law_place (T := [P__places_right]) F__law_place h__law_take k__law_take b__law_take m__law_take
  have h__law_condition := ok__law_condition (T := [P__places_right]) F__law_condition b__law_condition m__law_condition m_range m_tuple (h__law_take.mono (by decide)) k__law_take b__law_take m__law_take h__law_place k__law_place b__law_place m__law_place 3
  have h__law_source := ok__law_source (T := [P__places_right]) F__law_source h__law_take k__law_take b__law_take m__law_take
  have h__law_moves := ok__law_moves (k := 2) (T := [P__places_right]) F__law_moves m_range m_tuple (h__law_take.mono (by decide)) k__law_take b__law_take m__law_take h__law_source k__law_source b__law_source m__law_source
  have h__law_says := ok__law_says (k := 2) (T := [P__places_right]) F__law_says m_range m_tuple (h__law_take.mono (by decide)) k__law_take b__law_take m__law_take h__law_source k__law_source b__law_source m__law_source
  have h__law_cases := ok__law_cases (k := 5) (T := [P__places_right]) F__law_cases m_range m_tuple m_int (h__law_take.mono (by decide)) k__law_take b__law_take m__law_take (h__law_condition.mono (by decide)) k__law_condition b__law_condition m__law_condition (h__law_moves.mono (by decide)) k__law_moves b__law_moves m__law_moves (h__law_says.mono (by decide)) k__law_says b__law_says m__law_says
  have h__law_machine := ok__law_machine (T := [P__places_right]) F__law_machine m_range m_tuple h__law_cases k__law_cases b__law_cases m__law_cases
  have h__law_any_machine := ok__law_any_machine (k := 7) (T := [P__places_right]) F__law_any_machine m_min (h__law_take.mono (by decide)) k__law_take b__law_take m__law_take h__law_machine k__law_machine b__law_machine m__law_machine
  have h__law_error_name := ok__law_error_name (P := l.prog) (w := w) (K := K) (mg := mg) (base := base) (k := 38) (T := [P__places_right]) (j := 0) (nm := "InvalidMachine") F__law_error_name XC xV rfl m_isinstance m_ValueError m_range m_int m_len m_InvalidMachine x_InvalidMachine m_BadText x_BadText m_NoMachine x_NoMachine m_NothingToUndo x_NothingToUndo m_NothingToRedo x_NothingToRedo
  have h__law_crowded := ok__law_crowded (P := l.prog) (w := w) (K := K) (mg := mg) (base := base) (k := 3) (T := [P__places_right]) F__law_crowded m_range m_tuple (h__law_take.mono (by decide)) k__law_take b__law_take m__law_take (h__law_place.mono (by decide)) k__law_place b__law_place m__law_place (h__law_moves.mono (by decide)) k__law_moves b__law_moves m__law_moves
  have h__law_checked := ok__law_checked (P := l.prog) (w := w) (K := K) (mg := mg) (base := base) (k := 39) (T := [P__places_right]) (R := RightD K 17) F__law_checked m_ValuesError eV (imp_check h_check_machine) k_check_machine b_check_machine m_check_machine h__law_error_name k__law_error_name b__law_error_name m__law_error_name
  have h__law_far := ok__law_far (P := l.prog) (w := w) (K := K) (mg := mg) (base := base) (k := 1) (T := [P__places_right]) F__law_far m_abs (h__law_take.mono (by decide)) k__law_take b__law_take m__law_take
  have h__law_bad_condition := ok__law_bad_condition (P := l.prog) (w := w) (K := K) (mg := mg) (base := base) (k := 3) (T := [P__places_right]) (n := 3) F__law_bad_condition m_range m_int m_len m_tuple (h__law_far.mono (by decide)) k__law_far b__law_far m__law_far (h__law_take.mono (by decide)) k__law_take b__law_take m__law_take (h__law_place.mono (by decide)) k__law_place b__law_place m__law_place
  have h__law_bad_case := ok__law_bad_case (P := l.prog) (w := w) (K := K) (mg := mg) (base := base) (k := 4) (T := [P__places_right]) (n := 3) F__law_bad_case m_max m_int m_len (h__law_take.mono (by decide)) k__law_take b__law_take m__law_take (h__law_far.mono (by decide)) k__law_far b__law_far m__law_far (h__law_bad_condition.mono (by decide)) k__law_bad_condition b__law_bad_condition m__law_bad_condition
  have h__law_spoilt := ok__law_spoilt (P := l.prog) (w := w) (K := K) (mg := mg) (base := base) (k := 9) (T := [P__places_right]) (n := 3) F__law_spoilt m_len (h__law_take.mono (by decide)) k__law_take b__law_take m__law_take (h__law_far.mono (by decide)) k__law_far b__law_far m__law_far (h__law_condition.mono (by decide)) k__law_condition b__law_condition m__law_condition (h__law_bad_case.mono (by decide)) k__law_bad_case b__law_bad_case m__law_bad_case
  have h__law_wide_right := ok__law_wide_right (P := l.prog) (w := w) (K := K) (mg := mg) (base := base) (k := 40) (T := [P__places_right]) (n := 17) F__law_wide_right (h__law_take.mono (by decide)) k__law_take b__law_take m__law_take (h__law_checked.mono (by decide)) k__law_checked b__law_checked m__law_checked
  exact ok_law (k := 59) F_law (h__law_draws.mono (by decide)) k__law_draws b__law_draws m__law_draws (h__law_cell.mono (by decide)) k__law_cell b__law_cell m__law_cell (h__law_any_machine.mono (by decide)) k__law_any_machine b__law_any_machine m__law_any_machine (h__law_take.mono (by decide)) k__law_take b__law_take m__law_take (h__law_crowded.mono (by decide)) k__law_crowded b__law_crowded m__law_crowded (h__law_wide_right.mono (by decide)) k__law_wide_right b__law_wide_right m__law_wide_right (h__law_checked.mono (by decide)) k__law_checked b__law_checked m__law_checked (h__law_spoilt.mono (by decide)) k__law_spoilt b__law_spoilt m__law_spoilt
end Law
open PySem PySem.W PyProof.Rows
set_option maxRecDepth 100000 in
set_option maxHeartbeats 0 in
theorem PySem.Challenge.cw_anyvalues_k01_right_machines_holds : PySem.Challenge.rw_anyvalues_k01_right_machines.Holds := by
  w_on; o_law; k_head; (case hw => w_witness2)
  k_fill
  refine Law.walk_tabs (l := PySem.Challenge.rw_anyvalues_k01_right_machines) (n := 63) (k := 60) (x := "script") (CX := fun _ => L2.CX0) ["_places_right"] rfl (by decide) rfl ⟨rfl, by decide, by decide⟩ (by decide +kernel) (fun w h Y => PySem.W.kIn_of Y) ?F (fun _ _ _ _ _ z => z)
  case F =>
    intro w mg fa h _ KX G hmg TT
    refine' Law.all_mk KX G hmg TT ?a__places_right ?l__places_right ?c__places_right_ ?k__places_right ?u__places_right ?v__places_right ?w__places_right ?a__check_source ?l__check_source ?c__check_source_ ?k__check_source ?a__check_case ?l__check_case ?c__check_case_ ?k__check_case ?a_check_machine ?l_check_machine ?c_check_machine_ ?k_check_machine ?a__law_draws ?l__law_draws ?c__law_draws_ ?k__law_draws ?a__law_take ?l__law_take ?c__law_take_ ?k__law_take ?a__law_cell ?l__law_cell ?c__law_cell_ ?k__law_cell ?a__law_place ?l__law_place ?c__law_place_ ?k__law_place ?a__law_condition ?l__law_condition ?c__law_condition_ ?k__law_condition ?a__law_source ?l__law_source ?c__law_source_ ?k__law_source ?a__law_moves ?l__law_moves ?c__law_moves_ ?k__law_moves ?a__law_says ?l__law_says ?c__law_says_ ?k__law_says ?a__law_cases ?l__law_cases ?c__law_cases_ ?k__law_cases ?a__law_machine ?l__law_machine ?c__law_machine_ ?k__law_machine ?a__law_any_machine ?l__law_any_machine ?c__law_any_machine_ ?k__law_any_machine ?a__law_error_name ?l__law_error_name ?c__law_error_name_ ?k__law_error_name ?a__law_crowded ?l__law_crowded ?c__law_crowded_ ?k__law_crowded ?a__law_checked ?l__law_checked ?c__law_checked_ ?k__law_checked ?a__law_far ?l__law_far ?c__law_far_ ?k__law_far ?a__law_bad_condition ?l__law_bad_condition ?c__law_bad_condition_ ?k__law_bad_condition ?a__law_bad_case ?l__law_bad_case ?c__law_bad_case_ ?k__law_bad_case ?a__law_spoilt ?l__law_spoilt ?c__law_spoilt_ ?k__law_spoilt ?a__law_wide_right ?l__law_wide_right ?c__law_wide_right_ ?k__law_wide_right ?a_law ?l_law ?c_law_ ?k_law ?z_NEW ?z_NOTHING ?z_all ?z_len ?z_int ?z_list ?z_range ?z_tuple ?z_isinstance ?z_min ?z_max ?z_abs ?z_ValueError ?a_InvalidMachine ?a_BadText ?a_NoMachine ?a_NothingToUndo ?a_NothingToRedo ?a_ValuesError ?xc_hg ?xc_hk ?xc_hs ?xc_hd ?xc_ha ?xc_hn ?xc_ht ?xc_hm ?xi_x ?xi_k ?xi_t ?xV ?eV ?x_InvalidMachine ?x_BadText ?x_NoMachine ?x_NothingToUndo ?x_NothingToRedo
    (case a__places_right => k_is)
    (case l__places_right => k_is)
    (case c__places_right_ => k_is)
    (case k__places_right => k_is)
    (case u__places_right => k_is)
    (case v__places_right => rfl)
    (case w__places_right => rfl)
    (case a__check_source => k_is)
    (case l__check_source => k_is)
    (case c__check_source_ => k_is)
    (case k__check_source => k_is)
    (case a__check_case => k_is)
    (case l__check_case => k_is)
    (case c__check_case_ => k_is)
    (case k__check_case => k_is)
    (case a_check_machine => k_is)
    (case l_check_machine => k_is)
    (case c_check_machine_ => k_is)
    (case k_check_machine => k_is)
    (case a__law_draws => k_is)
    (case l__law_draws => k_is)
    (case c__law_draws_ => k_is)
    (case k__law_draws => k_is)
    (case a__law_take => k_is)
    (case l__law_take => k_is)
    (case c__law_take_ => k_is)
    (case k__law_take => k_is)
    (case a__law_cell => k_is)
    (case l__law_cell => k_is)
    (case c__law_cell_ => k_is)
    (case k__law_cell => k_is)
    (case a__law_place => k_is)
    (case l__law_place => k_is)
    (case c__law_place_ => k_is)
    (case k__law_place => k_is)
    (case a__law_condition => k_is)
    (case l__law_condition => k_is)
    (case c__law_condition_ => k_is)
    (case k__law_condition => k_is)
    (case a__law_source => k_is)
    (case l__law_source => k_is)
    (case c__law_source_ => k_is)
    (case k__law_source => k_is)
    (case a__law_moves => k_is)
    (case l__law_moves => k_is)
    (case c__law_moves_ => k_is)
    (case k__law_moves => k_is)
    (case a__law_says => k_is)
    (case l__law_says => k_is)
    (case c__law_says_ => k_is)
    (case k__law_says => k_is)
    (case a__law_cases => k_is)
    (case l__law_cases => k_is)
    (case c__law_cases_ => k_is)
    (case k__law_cases => k_is)
    (case a__law_machine => k_is)
    (case l__law_machine => k_is)
    (case c__law_machine_ => k_is)
    (case k__law_machine => k_is)
    (case a__law_any_machine => k_is)
    (case l__law_any_machine => k_is)
    (case c__law_any_machine_ => k_is)
    (case k__law_any_machine => k_is)
    (case a__law_error_name => k_is)
    (case l__law_error_name => k_is)
    (case c__law_error_name_ => k_is)
    (case k__law_error_name => k_is)
    (case a__law_crowded => k_is)
    (case l__law_crowded => k_is)
    (case c__law_crowded_ => k_is)
    (case k__law_crowded => k_is)
    (case a__law_checked => k_is)
    (case l__law_checked => k_is)
    (case c__law_checked_ => k_is)
    (case k__law_checked => k_is)
    (case a__law_far => k_is)
    (case l__law_far => k_is)
    (case c__law_far_ => k_is)
    (case k__law_far => k_is)
    (case a__law_bad_condition => k_is)
    (case l__law_bad_condition => k_is)
    (case c__law_bad_condition_ => k_is)
    (case k__law_bad_condition => k_is)
    (case a__law_bad_case => k_is)
    (case l__law_bad_case => k_is)
    (case c__law_bad_case_ => k_is)
    (case k__law_bad_case => k_is)
    (case a__law_spoilt => k_is)
    (case l__law_spoilt => k_is)
    (case c__law_spoilt_ => k_is)
    (case k__law_spoilt => k_is)
    (case a__law_wide_right => k_is)
    (case l__law_wide_right => k_is)
    (case c__law_wide_right_ => k_is)
    (case k__law_wide_right => k_is)
    (case a_law => k_is)
    (case l_law => k_is)
    (case c_law_ => k_is)
    (case k_law => k_is)
    (case z_NEW => k_is)
    (case z_NOTHING => k_is)
    (case z_all => k_is)
    (case z_len => k_is)
    (case z_int => k_is)
    (case z_list => k_is)
    (case z_range => k_is)
    (case z_tuple => k_is)
    (case z_isinstance => k_is)
    (case z_min => k_is)
    (case z_max => k_is)
    (case z_abs => k_is)
    (case z_ValueError => k_is)
    (case a_InvalidMachine => k_is)
    (case a_BadText => k_is)
    (case a_NoMachine => k_is)
    (case a_NothingToUndo => k_is)
    (case a_NothingToRedo => k_is)
    (case a_ValuesError => k_is)
    (case xc_hg => k_is)
    (case xc_hk => k_is)
    (case xc_hs => k_is)
    (case xc_hd => k_is)
    (case xc_ha => k_is)
    (case xc_hn => k_is)
    (case xc_ht => k_is)
    (case xc_hm => k_is)
    (case xi_x => k_exc)
    (case xi_k => k_is)
    (case xi_t => k_is)
    (case xV => kit_is)
    (case eV => kts_exm)
    (case x_InvalidMachine => kit_is)
    (case x_BadText => kit_is)
    (case x_NoMachine => kit_is)
    (case x_NothingToUndo => kit_is)
    (case x_NothingToRedo => kit_is)
#print axioms PySem.Challenge.cw_anyvalues_k01_right_machines_holds
