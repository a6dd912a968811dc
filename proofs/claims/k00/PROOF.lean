import PyProof.Rows.All
import Wide.All
import OpenK.AllK
import Wide.FinOn
import HandS.ForMost
import HandS.EndTab
import HandS.AnyAll
import HandS.GenList
import HandS.IsInst
import HandS.More
import HandS.Conv
import HandS.Strs
import HandS.Codes
import KE.GoesEnum
import KE.GoesMore
import HandS.TupMul
import HandS.WideBits
import HandS.TupAny
import HandS.SetBool
import HandS.SetFor
import HandS.DictComp
import HandS.Zip
import KE.KDictZip
import PyProof.TupleOfGen
import HandS.ListItems
import HandS.Walk
import HandS.SortRule
import PyProof.WalkInts
import PyProof.WalksMore
import HandS.Dict
import PyProof.SetRoads
import KE.KDictKeyed
import KE.KDictDisplayH
import HandS.SortInts
import HandS.Style
import HandS.CallLocal
import HandS.Small
import HandS.Star
import PySem.Challenge.RW_anyvalues_k00_traces
set_option Elab.async false
set_option linter.all false
set_option maxRecDepth 100000
set_option maxHeartbeats 4000000
/-! any, all of a generator expression whose element calls defs: its own frame, walked as a context of its own. -/
namespace Gx
open PySem PySem.Spec PyProof.Rows L2 GenW GxR

/-- the context of a generator expression's frame -/
def gcx (X : Cx) (N' : List Str) (fp : List Addr) (env : Env) (A' : Around) (s : Shared) (H : Hp) : Cx :=
  { X with A := A', N := N', s_0 := s, H_0 := H, env := env, outer := X.stack, stack := env :: X.stack, ex := fp, fn := fun _ => false, calm := true, pn := [], xe := fun _ _ => False }

theorem over_loopG {A : Around} {e : Expr} {gens : List Comprehension} {sc : Scope} {p : Pos} {it acc : Value} {env : Env} : A.over (.compLoop (.GeneratorExp e gens sc p) 0 it acc env) [] = A.deeper env := by
  first
    | rfl
    | (obtain ⟨hd, d, fr, gs, u⟩ := A; simp [Around.over, Around.deeper, marksOver, frameCount, unitsOf, envsOf, guardsOf, pushEnvs, pushGuards, Code.envs, Code.env?, Code.isFrame, Code.guards, Code.isGuard, Code.weight, Code.frames, Code.isCreation, Code.isCaller, Code.cUnits])
theorem over_startG {A : Around} {e : Expr} {gens : List Comprehension} {sc : Scope} {p : Pos} {it acc : Value} {env : Env} : A.over (.compStart (.GeneratorExp e gens sc p) 0 it acc env) [] = A.deeper env := by
  first
    | rfl
    | (obtain ⟨hd, d, fr, gs, u⟩ := A; simp [Around.over, Around.deeper, marksOver, frameCount, unitsOf, envsOf, guardsOf, pushEnvs, pushGuards, Code.envs, Code.env?, Code.isFrame, Code.guards, Code.isGuard, Code.weight, Code.frames, Code.isCreation, Code.isCaller, Code.cUnits])

/-- the names of the expression's frame: captured ones with their place among the def's names -/
abbrev Ents := List (Str × Option Nat)
def capSt (es : Ents) (σ : L2.St) : L2.St := es.map fun e => match e.2 with | none => none | some i => (σ[i]?).getD none
def capsOk (N : List Str) (sc : Scope) (es : Ents) : Bool := es.all fun e => match e.2 with | none => true | some i => N[i]? == some e.1 && sc.names.lookup e.1 == some NameKind.free
def freeOk (sc scope : Scope) : Bool := scope.names.all fun y => y.2 != .cell && (y.2 != .free || (sc.names.lookup y.1 == some NameKind.cell || sc.names.lookup y.1 == some NameKind.free))
structure GSc (sc scope : Scope) (N : List Str) (es : Ents) : Prop where
  kind : scope.kind = .function
  co : scope.isCoroutine = false
  dot : scope.names.lookup (".0" : Str) = some NameKind.local
  free : freeOk sc scope = true
  caps : capsOk N scope es = true
theorem GSc.cell {sc scope : Scope} {N : List Str} {es : Ents} (S : GSc sc scope N es) : ∀ y ∈ scope.names, y.2 ≠ .cell := fun y hy => by
  have h := List.all_eq_true.mp S.free y hy
  rw [Bool.and_eq_true] at h
  intro e
  rw [e] at h
  exact absurd h.1 (by decide)
theorem GSc.fre {sc scope : Scope} {N : List Str} {es : Ents} (S : GSc sc scope N es) : ∀ y ∈ scope.names, y.2 = .free → sc.names.lookup y.1 = some .cell ∨ sc.names.lookup y.1 = some .free := fun y hy e => by
  have h := List.all_eq_true.mp S.free y hy
  rw [Bool.and_eq_true] at h
  have h2 := h.2
  rw [e] at h2
  simpa using h2

section
variable {X : Cx} {N' : List Str} {fp : List Addr} {env : Env} {A' : Around} {s0 : Shared} {H0 : Hp} {go : Addr × Obj} {tn : Nat → Heap → Prop} {Pv : Nat → Nat → L2.St → Hp → Prop} {fin : Bool} {Qe Qs : Hp → Prop}

/-- what is handed out: a truth value; the consumer stops at fin -/
def GProt (X' : Cx) (fp : List Addr) (go : Addr × Obj) (tn : Nat → Heap → Prop) (Pv : Nat → Nat → L2.St → Hp → Prop) (fin : Bool) (Qs : Hp → Prop) : Protocol := fun n _ v s kap =>
  ∃ σ H b, v = .bool b ∧ Inv X' [go] σ H s ∧
    (if b = fin then Qs H else ∃ i m, n = m + 1 ∧ Pv i m σ H ∧ tn i s.heap ∧ (∀ b ∈ fp, H b = none) ∧
      ∀ s'' : Shared, s''.heap = s.heap → s''.os = s.os → AllBare s''.gens → kap (.send .none) s'')
def GRet (X' : Cx) (go : Addr × Obj) (Qe : Hp → Prop) : GenEnd := fun n s₀ r s => ((r = .ok (.ret .none) ∨ r = .ok .next) ∧ (∃ σ H, Inv X' [go] σ H s ∧ Qe H)) ∨ ∃ e, r = .error e ∧ False

theorem _root_.L2.Inv.again' {X' : Cx} {pins : List (Addr × Obj)} {σ : L2.St} {H : Hp} {s s'' : Shared} (I : Inv X' pins σ H s) (h : s''.heap = s.heap) (o : s''.os = s.os) (b : AllBare s''.gens) : Inv X' pins σ H s'' :=
  I.call' (ch := []) o (by rw [h]; exact Un.refl) (by rw [h]; exact I.hok) b fun b z => absurd z (by simp)

/-- the turns of the expression -/
theorem seg_turns {A : Around} {elt tg iter : Expr} {scope : Scope} {pos : Pos} {it : Addr} {J : It} {g : TG} {t : TE}
    (hA : A' = A.deeper env) (hco : env.scope.isCoroutine = false) (T : Turn X.prog X.w X.K tg J fp it tn)
    (hgt : PG (gcx X N' fp env A' s0 H0) tg g) (helt : PE (gcx X N' fp env A' s0 H0) elt t)
    (hfp : ∀ b ∈ fp, b ≠ env.locals ∧ b ∉ frs X.stack ∧ (∀ x c, env.cells.lookup x = some c → c ≠ b) ∧ go.1 ≠ b)
    (turn : ∀ i m σ' H', Pv i m σ' H' → (J.stop i H' ∧ Qe H') ∨ (J.go i H' ∧ ∀ x H'', J.yld i H' x H'' → g x σ' H'' fun σ2 H3 => t σ2 H3 fun v H4 => ∃ b, v = .bl b ∧ if b = fin then Qs H4 else ∃ m', m = m' + 1 ∧ Pv (i + 1) m' σ2 H4)) :
    ∀ (m i : Nat) (s₀ s : Shared) (σ : L2.St) (H : Hp), Pv i m σ H → Inv (gcx X N' fp env A' s0 H0) [go] σ H s → tn i s.heap → (∀ b ∈ fp, H b = none) →
      Seg (model X.prog X.w) A (GRet (gcx X N' fp env A' s0 H0) go Qe) (GProt (gcx X N' fp env A' s0 H0) fp go tn Pv fin Qs) (m + 1) s₀
        (.compLoop (.GeneratorExp elt [⟨tg, iter, [], 0⟩] scope pos) 0 (.ref it) .none env)
        ((model X.prog X.w).den (.compLoop (.GeneratorExp elt [⟨tg, iter, [], 0⟩] scope pos) 0 (.ref it) .none env)) [] s := by
  have hov : A.over (.compLoop (.GeneratorExp elt [⟨tg, iter, [], 0⟩] scope pos) 0 (.ref it) .none env) [] = (gcx X N' fp env A' s0 H0).A := over_loopG.trans hA.symm
  have stat : ∀ {H' : Hp}, (∀ b ∈ fp, H' b = none) → ∀ b ∈ fp, FpOk (gcx X N' fp env A' s0 H0) [go] H' b := fun hn b hb => by
    obtain ⟨h1, h2, h3, h4⟩ := hfp b hb
    exact ⟨hn b hb, h1, h2, .inl hb, h3, fun p hp => by rw [List.mem_singleton.mp (show p ∈ [go] from hp)]; exact h4⟩
  have hy : ∀ v, yieldOut env v = yieldValue v := fun v => by simp only [yieldOut, hco, Bool.false_eq_true, if_false]
  -- one turn, whatever the measure; K: what follows where the walk goes on
  have one : ∀ (m i : Nat) (s₀ s : Shared) (σ : L2.St) (H : Hp), Pv i m σ H → Inv (gcx X N' fp env A' s0 H0) [go] σ H s → tn i s.heap → (∀ b ∈ fp, H b = none) →
      (∀ m', m = m' + 1 → ∀ (i : Nat) (s₀ s : Shared) (σ : L2.St) (H : Hp), Pv i m' σ H → Inv (gcx X N' fp env A' s0 H0) [go] σ H s → tn i s.heap → (∀ b ∈ fp, H b = none) →
        Seg (model X.prog X.w) A (GRet (gcx X N' fp env A' s0 H0) go Qe) (GProt (gcx X N' fp env A' s0 H0) fp go tn Pv fin Qs) (m' + 1) s₀
          (.compLoop (.GeneratorExp elt [⟨tg, iter, [], 0⟩] scope pos) 0 (.ref it) .none env)
          ((model X.prog X.w).den (.compLoop (.GeneratorExp elt [⟨tg, iter, [], 0⟩] scope pos) 0 (.ref it) .none env)) [] s) →
      Seg (model X.prog X.w) A (GRet (gcx X N' fp env A' s0 H0) go Qe) (GProt (gcx X N' fp env A' s0 H0) fp go tn Pv fin Qs) (m + 1) s₀
        (.compLoop (.GeneratorExp elt [⟨tg, iter, [], 0⟩] scope pos) 0 (.ref it) .none env)
        ((model X.prog X.w).den (.compLoop (.GeneratorExp elt [⟨tg, iter, [], 0⟩] scope pos) 0 (.ref it) .none env)) [] s := by
    intro m i s₀ s σ H pv I st fr later
    show Seg _ A _ _ _ s₀ _ ((compTurn (.GeneratorExp elt [⟨tg, iter, [], 0⟩] scope pos) 0 (.ref it) .none env).onRaise (leaving env)) [] s
    rw [compTurn_gen, Sem.onRaise_eq_wrap]
    refine seg_bind_wrap (wpAny_standAt ?_)
    rcases turn i m σ H pv with ⟨stop, q⟩ | ⟨gg, step⟩
    · refine seg_bind_wrap ?_
      rw [hov]
      refine thn (T.done (gcx X N' fp env A' s0 H0) rfl rfl rfl rfl i [go] s σ H _ I (stat fr) st stop) fun r s1 ⟨hr, I1⟩ => ?_
      subst hr
      exact seg_end (.ok .next) (.inl ⟨.inr rfl, σ, H, I1, q⟩)
    · refine seg_bind_wrap ?_
      rw [hov]
      refine thn (T.item (gcx X N' fp env A' s0 H0) rfl rfl rfl rfl i [go] s σ H _ I (stat fr) st gg) fun r s1 ⟨u, hr, h1⟩ => ?_
      subst hr
      refine seg_bind_wrap ?_
      rw [hov]
      refine wpAny_mono h1 (fun _ s2 ⟨x, H2, I2, r2, y2, st2, fr2⟩ => ?_) fun _ _ e => e
      have I2' := I2.pinned (stat fr2) (T.obj _ _ st2)
      refine seg_bind_wrap ?_
      rw [hov]
      refine wpAny_mono (hgt.run _ s2 σ H2 x u _ I2' r2 (step x H2 y2)) (fun _ s3 ⟨σ3, H3, I3, q3⟩ => ?_) fun _ _ e => e.elim
      refine seg_bind_wrap (wpAny_of_eq (by rw [List.forIn_nil]) ?_)
      simp only [if_true]
      simp only [hy]
      rw [Sem.bind_eq_wrap', Sem.bind_eq_wrap', Sem.wrap_wrap, Sem.wrap_wrap]
      refine seg_wrap ?_
      rw [hov]
      refine wpAny_mono (helt.run _ s3 σ3 H3 _ I3 q3) (fun y s4 ⟨v, H4, I4, r4, q4⟩ => ?_) fun _ _ e => e.elim
      obtain ⟨b, rfl, q4⟩ := q4
      obtain rfl : y = .bool b := r4
      refine seg_at (seg_yield rfl rfl rfl ⟨σ3, H4, b, rfl, I4.unpinned, ?_⟩)
      by_cases hb : b = fin
      · rw [if_pos hb] at q4 ⊢
        exact q4
      · rw [if_neg hb] at q4 ⊢
        obtain ⟨m', hm, pv4⟩ := q4
        have tn4 : tn (i + 1) s4.heap := T.keep _ _ _ st2 fun b hb o e => (I4.pin (b, o) (List.mem_append_right _ (List.mem_append_right _ (mem_pinsAt hb e)))).1
        have fr4 : ∀ b ∈ fp, H4 b = none := fun b hb => by
          obtain ⟨o, e, d⟩ := T.obj _ _ st2 b hb
          exact (I4.pin (b, o) (List.mem_append_right _ (List.mem_append_right _ (mem_pinsAt hb e)))).2.1
        refine ⟨i + 1, m', hm, pv4, tn4, fr4, fun s'' eh eo eb => ?_⟩
        subst hm
        refine seg_again rfl (later m' rfl (i + 1) s'' s'' σ3 H4 pv4 (I4.unpinned.again' eh eo eb) (by rw [eh]; exact tn4) fr4)
  intro m
  induction m with
  | zero => exact fun i s₀ s σ H pv I st fr => one 0 i s₀ s σ H pv I st fr fun m' e => by omega
  | succ m ih =>
    intro i s₀ s σ H pv I st fr
    refine one (m + 1) i s₀ s σ H pv I st fr fun m' e => ?_
    obtain rfl : m = m' := by omega
    exact ih

theorem seg_first {A : Around} {elt tg iter : Expr} {scope : Scope} {pos : Pos} {it : Addr} {J : It} {g : TG} {t : TE}
    (hA : A' = A.deeper env) (hco : env.scope.isCoroutine = false) (T : Turn X.prog X.w X.K tg J fp it tn)
    (hgt : PG (gcx X N' fp env A' s0 H0) tg g) (helt : PE (gcx X N' fp env A' s0 H0) elt t)
    (hfp : ∀ b ∈ fp, b ≠ env.locals ∧ b ∉ frs X.stack ∧ (∀ x c, env.cells.lookup x = some c → c ≠ b) ∧ go.1 ≠ b)
    (turn : ∀ i m σ' H', Pv i m σ' H' → (J.stop i H' ∧ Qe H') ∨ (J.go i H' ∧ ∀ x H'', J.yld i H' x H'' → g x σ' H'' fun σ2 H3 => t σ2 H3 fun v H4 => ∃ b, v = .bl b ∧ if b = fin then Qs H4 else ∃ m', m = m' + 1 ∧ Pv (i + 1) m' σ2 H4))
    (m : Nat) (s₀ s : Shared) (σ : L2.St) (H : Hp) (pv : Pv 0 m σ H) (I : Inv (gcx X N' fp env A' s0 H0) [go] σ H s) (st : tn 0 s.heap) (fr : ∀ b ∈ fp, H b = none) :
      Seg (model X.prog X.w) A (GRet (gcx X N' fp env A' s0 H0) go Qe) (GProt (gcx X N' fp env A' s0 H0) fp go tn Pv fin Qs) (m + 1) s₀
        (.compStart (.GeneratorExp elt [⟨tg, iter, [], 0⟩] scope pos) 0 (.ref it) .none env)
        ((model X.prog X.w).den (.compStart (.GeneratorExp elt [⟨tg, iter, [], 0⟩] scope pos) 0 (.ref it) .none env)) [] s := by
  have loop := seg_turns (iter := iter) (scope := scope) (pos := pos) hA hco T hgt helt hfp turn m 0 s₀ s σ H pv I st fr
  show Seg _ A _ _ _ s₀ _ ((compStart (.GeneratorExp elt [⟨tg, iter, [], 0⟩] scope pos) 0 (.ref it) .none env).onRaise (leaving env)) [] s
  unfold compStart
  rw [Sem.onRaise_eq_wrap]
  show Seg _ A _ _ _ s₀ _ ((ask >>= _).wrap _ _ _ _) [] s
  refine seg_bind_wrap (wpAny_askSetting ?_)
  split
  · exact seg_again rfl loop
  · first
      | exact seg_bind_wrap (wpAny_rule (seg_bind_wrap (wpAny_standAt (seg_bind_wrap (T.self _ 0 s _ _ st (seg_again rfl loop))))))
      | (refine seg_bind_wrap (wpAny_rule ?_); show Seg _ A _ _ _ s₀ _ ((standAt iter.pos >>= _).wrap _ _ _ _) [] s; exact seg_bind_wrap (wpAny_standAt (seg_bind_wrap (T.self _ 0 s _ _ st (seg_again rfl loop)))))
end

/-! ### the consumers -/
section
variable {X' : Cx} {fp : List Addr} {go : Addr × Obj} {tn : Nat → Heap → Prop} {Pv : Nat → Nat → L2.St → Hp → Prop} {Qe Qs : Hp → Prop} {A : Around} {g : Nat} {R : Result → Shared → Prop}
theorem all_loop (hh : A.handled = none) (hd : A.depth < recursionLimit) (hgen : ∀ h : Heap, h.get? go.1 = some go.2 → h.IsGen go.1 g)
    (hend : ∀ s' σ H, Inv X' [go] σ H s' → Qe H → R (.ok (.ret (.bool true))) s') (hstop : ∀ s' σ H, Inv X' [go] σ H s' → Qs H → R (.ok (.ret (.bool false))) s') :
    ∀ (m : Nat) (s : Shared), s.heap.IsGen go.1 g → s.heap.NoLimit →
      (∃ gs, s.gens[g]? = some gs ∧ gs.Goes (model X'.prog X'.w) A.in1.in1 (GRet X' go Qe) (GProt X' fp go tn Pv false Qs) (m + 1) (.send .none) (s.setGen g .running)) →
      codeAny (model X'.prog X'.w) A (.builtin "all.loop" ⟨[.ref go.1], []⟩) R s := by
  intro m
  induction m with
  | zero =>
    intro s hg hl ⟨gs, hgs, hgo⟩
    refine codeAny_builtin F.entry_all_loop ?_
    rw [Around.under_plainId F.plain_all_loop _]
    show wpAny _ A.in1 (pyNext (.ref go.1) >>= _) _ _ s
    refine wpAny_bind (next_genG (A := A.in1) (F := fun _ _ s => ∃ σ H, Inv X' [go] σ H s ∧ Qe H) (Er := fun _ _ => False) hh hl hd hg hgs hgo (fun v s₁ gs' hbare hv => ?_) (fun s₁ hp h' hk => ?_) fun e s₁ he => he.elim)
    · obtain ⟨σ, H, b, rfl, I, hif⟩ := hv
      refine wpAny_bind (wpAny_holding (wpAny_truthy_bool ?_))
      refine wpAny_bind (wpAny_letGo ?_)
      cases b with
      | true =>
        rw [if_neg (by decide)] at hif
        obtain ⟨i, m', e, _⟩ := hif
        exact absurd e (by omega)
      | false =>
        rw [if_pos rfl] at hif
        simp only [Bool.false_eq_true, if_false]
        refine wpAny_bind (wpAny_rule (wpAny_pure ?_))
        exact hstop _ σ H (I.again' (by rfl) rfl (allBare_setGen I.bare hbare)) hif
    · obtain ⟨σ, H, I, q⟩ := hp
      refine wpAny_bind (wpAny_rule (wpAny_pure ?_))
      refine hend _ σ H ?_ q
      exact I.call' (ch := []) rfl (Un.kept hk) (I.hok.kept hk) (allBare_setGen I.bare rfl) fun b z => absurd z (by simp)
  | succ m ih =>
    intro s hg hl ⟨gs, hgs, hgo⟩
    have hgl : g < s.gens.size := (Array.getElem?_eq_some_iff.mp hgs).1
    refine codeAny_builtin F.entry_all_loop ?_
    rw [Around.under_plainId F.plain_all_loop _]
    show wpAny _ A.in1 (pyNext (.ref go.1) >>= _) _ _ s
    refine wpAny_bind (wpAny_gsz (n := g + 1) hgl (next_genG (A := A.in1) (F := fun _ _ s => ∃ σ H, Inv X' [go] σ H s ∧ Qe H) (Er := fun _ _ => False) hh hl hd hg hgs hgo (fun v s₁ gs' hbare hv => ?_) (fun s₁ hp h' hk => ?_) fun e s₁ he => he.elim))
    · intro hsz
      obtain ⟨σ, H, b, rfl, I, hif⟩ := hv
      refine wpAny_bind (wpAny_holding (wpAny_truthy_bool ?_))
      refine wpAny_bind (wpAny_letGo ?_)
      cases b with
      | true =>
        rw [if_neg (by decide)] at hif
        obtain ⟨i, m', e, pv, tnm, fr, hk⟩ := hif
        obtain rfl : m = m' := by omega
        simp only [if_true]
        have hsz1 : g < s₁.gens.size := by
          have q : (s₁.setGen g gs').gens.size = s₁.gens.size := setGen_size _ _ _
          have hsz' : g + 1 ≤ (s₁.setGen g gs').gens.size := hsz
          omega
        refine wpAny_pure ⟨plainId_quiet F.plain_all_loop _, ih _ (hgen _ (I.pin go (List.mem_append_right _ (List.mem_singleton.mpr rfl))).1) I.nolimit ⟨gs', setGen_at hsz1, ?_⟩⟩
        exact hk _ rfl rfl (allBare_setGen (s := s₁.setGen g gs') (allBare_setGen I.bare hbare) rfl)
      | false =>
        rw [if_pos rfl] at hif
        simp only [Bool.false_eq_true, if_false]
        refine wpAny_bind (wpAny_rule (wpAny_pure ?_))
        exact hstop _ σ H (I.again' (by rfl) rfl (allBare_setGen I.bare hbare)) hif
    · intro hsz
      obtain ⟨σ, H, I, q⟩ := hp
      refine wpAny_bind (wpAny_rule (wpAny_pure ?_))
      refine hend _ σ H ?_ q
      exact I.call' (ch := []) rfl (Un.kept hk) (I.hok.kept hk) (allBare_setGen I.bare rfl) fun b z => absurd z (by simp)
theorem any_loop (hh : A.handled = none) (hd : A.depth < recursionLimit) (hgen : ∀ h : Heap, h.get? go.1 = some go.2 → h.IsGen go.1 g)
    (hend : ∀ s' σ H, Inv X' [go] σ H s' → Qe H → R (.ok (.ret (.bool false))) s') (hstop : ∀ s' σ H, Inv X' [go] σ H s' → Qs H → R (.ok (.ret (.bool true))) s') :
    ∀ (m : Nat) (s : Shared), s.heap.IsGen go.1 g → s.heap.NoLimit →
      (∃ gs, s.gens[g]? = some gs ∧ gs.Goes (model X'.prog X'.w) A.in1.in1 (GRet X' go Qe) (GProt X' fp go tn Pv true Qs) (m + 1) (.send .none) (s.setGen g .running)) →
      codeAny (model X'.prog X'.w) A (.builtin "any.loop" ⟨[.ref go.1], []⟩) R s := by
  intro m
  induction m with
  | zero =>
    intro s hg hl ⟨gs, hgs, hgo⟩
    refine codeAny_builtin F.entry_any_loop ?_
    rw [Around.under_plainId F.plain_any_loop _]
    show wpAny _ A.in1 (pyNext (.ref go.1) >>= _) _ _ s
    refine wpAny_bind (next_genG (A := A.in1) (F := fun _ _ s => ∃ σ H, Inv X' [go] σ H s ∧ Qe H) (Er := fun _ _ => False) hh hl hd hg hgs hgo (fun v s₁ gs' hbare hv => ?_) (fun s₁ hp h' hk => ?_) fun e s₁ he => he.elim)
    · obtain ⟨σ, H, b, rfl, I, hif⟩ := hv
      refine wpAny_bind (wpAny_holding (wpAny_truthy_bool ?_))
      refine wpAny_bind (wpAny_letGo ?_)
      cases b with
      | false =>
        rw [if_neg (by decide)] at hif
        obtain ⟨i, m', e, _⟩ := hif
        exact absurd e (by omega)
      | true =>
        rw [if_pos rfl] at hif
        simp only [if_true]
        refine wpAny_bind (wpAny_rule (wpAny_pure ?_))
        exact hstop _ σ H (I.again' (by rfl) rfl (allBare_setGen I.bare hbare)) hif
    · obtain ⟨σ, H, I, q⟩ := hp
      refine wpAny_bind (wpAny_rule (wpAny_pure ?_))
      refine hend _ σ H ?_ q
      exact I.call' (ch := []) rfl (Un.kept hk) (I.hok.kept hk) (allBare_setGen I.bare rfl) fun b z => absurd z (by simp)
  | succ m ih =>
    intro s hg hl ⟨gs, hgs, hgo⟩
    have hgl : g < s.gens.size := (Array.getElem?_eq_some_iff.mp hgs).1
    refine codeAny_builtin F.entry_any_loop ?_
    rw [Around.under_plainId F.plain_any_loop _]
    show wpAny _ A.in1 (pyNext (.ref go.1) >>= _) _ _ s
    refine wpAny_bind (wpAny_gsz (n := g + 1) hgl (next_genG (A := A.in1) (F := fun _ _ s => ∃ σ H, Inv X' [go] σ H s ∧ Qe H) (Er := fun _ _ => False) hh hl hd hg hgs hgo (fun v s₁ gs' hbare hv => ?_) (fun s₁ hp h' hk => ?_) fun e s₁ he => he.elim))
    · intro hsz
      obtain ⟨σ, H, b, rfl, I, hif⟩ := hv
      refine wpAny_bind (wpAny_holding (wpAny_truthy_bool ?_))
      refine wpAny_bind (wpAny_letGo ?_)
      cases b with
      | false =>
        rw [if_neg (by decide)] at hif
        obtain ⟨i, m', e, pv, tnm, fr, hk⟩ := hif
        obtain rfl : m = m' := by omega
        simp only [Bool.false_eq_true, if_false]
        have hsz1 : g < s₁.gens.size := by
          have q : (s₁.setGen g gs').gens.size = s₁.gens.size := setGen_size _ _ _
          have hsz' : g + 1 ≤ (s₁.setGen g gs').gens.size := hsz
          omega
        refine wpAny_pure ⟨plainId_quiet F.plain_any_loop _, ih _ (hgen _ (I.pin go (List.mem_append_right _ (List.mem_singleton.mpr rfl))).1) I.nolimit ⟨gs', setGen_at hsz1, ?_⟩⟩
        exact hk _ rfl rfl (allBare_setGen (s := s₁.setGen g gs') (allBare_setGen I.bare hbare) rfl)
      | true =>
        rw [if_pos rfl] at hif
        simp only [if_true]
        refine wpAny_bind (wpAny_rule (wpAny_pure ?_))
        exact hstop _ σ H (I.again' (by rfl) rfl (allBare_setGen I.bare hbare)) hif
    · intro hsz
      obtain ⟨σ, H, I, q⟩ := hp
      refine wpAny_bind (wpAny_rule (wpAny_pure ?_))
      refine hend _ σ H ?_ q
      exact I.call' (ch := []) rfl (Un.kept hk) (I.hok.kept hk) (allBare_setGen I.bare rfl) fun b z => absurd z (by simp)
end

/-! ### the making -/
theorem clo_look {cells : List (Str × Addr)} {names : List (Str × NameKind)} (hf : ∀ y ∈ names, y.2 = .free → ∃ c, cells.lookup y.1 = some c) {x : Str} {c : Addr} (h : (cloFrom cells names []).lookup x = some c) : cells.lookup x = some c := by
  rcases cloFrom_mem (PySem.mem_of_lookup h) with z | ⟨h1, h2⟩
  · cases z
  · obtain ⟨c', e⟩ := hf _ h1 rfl
    rw [show cells.lookup x = some c' from e] at h2 ⊢
    rw [h2]
    all_goals rfl
theorem clo_has {cells : List (Str × Addr)} {names : List (Str × NameKind)} {x : Str} (h : names.lookup x = some .free) : ∃ c, (cloFrom cells names []).lookup x = some c :=
  mem_lookup (cloFrom_has (PySem.mem_of_lookup h))
theorem capSt_at {es : Ents} {σ : L2.St} {i : Nat} {v : V} (h : (capSt es σ)[i]? = some (some v)) : ∃ x j, es[i]? = some (x, some j) ∧ σ[j]? = some (some v) := by
  unfold capSt at h
  rw [List.getElem?_map] at h
  cases e : es[i]? with
  | none => rw [e] at h; cases h
  | some p =>
    obtain ⟨x, o⟩ := p
    rw [e] at h
    cases o with
    | none => cases h
    | some j =>
      refine ⟨x, j, rfl, ?_⟩
      have h' : (σ[j]?).getD none = some v := Option.some.inj h
      cases e2 : σ[j]? with
      | none => rw [e2] at h'; cases h'
      | some w => rw [e2] at h'; exact congrArg some h'

section
variable {X : Cx} {pins : List (Addr × Obj)} {σ : L2.St} {H : Hp} {s : Shared}

/-- the frame of the expression, as it is made -/
theorem inv_gen {sc scope : Scope} {es : Ents} {fp : List Addr} {A' : Around} {code : Value} {go : Addr × Obj} {s4 s5 : Shared} {itv : Value} (hsc : X.env.scope = sc) (S : GSc sc scope X.N es) (hhd : A'.handled = none)
    (hfr : A'.frames = some (genEnv scope (cloFrom X.env.cells scope.names []) s4.heap.objs.size code builtinsNs X.env :: X.stack))
    (I : Inv X pins σ H s4) (hf : ∀ b ∈ fp, FpOk X pins H b) (hlt : ∀ b ∈ fp, b < s4.heap.objs.size) (os : s5.os = s4.os) (bare : AllBare s5.gens) (kp : ∀ b o, s4.heap.get? b = some o → s5.heap.get? b = some o)
    (ns : s5.heap.Ns s4.heap.objs.size (fun y => if y = ".0" then some itv else none)) (hgo : s5.heap.get? go.1 = some go.2) (hgs : s4.heap.objs.size < go.1) (hgd : ∀ v, go.2.data ≠ .cell v) :
    Inv (gcx X (es.map (·.1)) fp (genEnv scope (cloFrom X.env.cells scope.names []) s4.heap.objs.size code builtinsNs X.env) A' s4 H) [go] (capSt es σ) H s5 := by
  subst hsc
  have hfree : ∀ y ∈ scope.names, y.2 = .free → ∃ c, X.env.cells.lookup y.1 = some c := fun y hy e => I.ok.has y.1 (S.fre y hy e)
  have gone : ∀ a, s4.heap.objs.size ≤ a → H a = none := fun a ha => I.hok.fresh ha
  have hCf : ∀ b, b ∈ frs X.stack → b < s4.heap.objs.size := fun b hb => by
    rcases List.mem_cons.mp (I.stkSub b hb) with z | z
    · rw [z]; exact I.lt
    · obtain ⟨_, o, ho, _⟩ := I.funs.mem z
      exact Heap.lt_size ho
  refine ⟨⟨I.ok.mod, S.kind, I.ok.glob, rfl, Nat.le_refl _, fun x y c h1 h2 => I.ok.inj x y c (clo_look hfree h1) (clo_look hfree h2), fun x hx => ?_, fun x c h => (by cases h), fun _ => hhd, hfr, .inr ⟨rfl, rfl⟩, fun b hb => ⟨Nat.ne_of_lt (hlt b hb), fun x c h => (hf b hb).2.2.2.2.1 x c (clo_look hfree h)⟩,
    fun b o e => I.bs b o e, Nat.le_trans I.ok.bsz I.sz, fun b o e hb => ?_, fun b hb hm => ?_, I.stack, I.stkFree⟩,
    os, bare, Un.kept kp, ⟨_, ns, fun i x v h1 h2 h3 => ?_⟩, fun x c h => ?_, gone _ (Nat.le_refl _), fun x c h => I.freeC x c (clo_look hfree h), fun p hp => ?_, I.hok.kept kp, ?_⟩
  · have hx : scope.names.lookup x = some .cell ∨ scope.names.lookup x = some .free := hx
    rcases hx with hx | hx
    · exact absurd rfl (S.cell _ (PySem.mem_of_lookup hx))
    · exact clo_has hx
  · rcases (hf b hb).2.2.2.1 with z | z
    · exact I.ok.noex b o e z
    · exact absurd (Nat.lt_of_lt_of_le (Heap.lt_size e) (Nat.le_trans I.ok.bsz z)) (Nat.lt_irrefl _)
  · obtain ⟨h1, h2, h3, _⟩ := hf b hb
    rcases List.mem_cons.mp (I.stkSub b hm) with z | z
    · exact h2 z
    · exact h3 z
  · obtain ⟨x', j, h4, h5⟩ := capSt_at h2
    have hx' : x' = x := by
      have h1' : (es.map (·.1))[i]? = some x := h1
      rw [List.getElem?_map, h4] at h1'
      exact Option.some.inj h1'
    subst hx'
    have hc := List.all_eq_true.mp S.caps (x', some j) (List.mem_of_getElem? h4)
    simp only [Bool.and_eq_true, beq_iff_eq] at hc
    obtain ⟨hN, hfr'⟩ := hc
    have hk := S.fre (x', .free) (PySem.mem_of_lookup hfr') rfl
    obtain ⟨m, hn, hl⟩ := I.loc
    obtain ⟨u, r, l⟩ := hl j x' v hN h5 (.inr hk)
    refine ⟨u, r, ?_⟩
    rcases l with ⟨hk', _⟩ | ⟨_, c, hcell, hat⟩
    · exfalso
      have hk'' : X.env.scope.names.lookup x' = some .local := hk'
      rcases hk with z | z <;> (rw [show X.env.scope.names.lookup x' = _ from z] at hk''; cases hk'')
    · obtain ⟨c', hc'⟩ := clo_has (cells := X.env.cells) hfr'
      have e := clo_look hfree hc'
      rw [hcell] at e
      cases e
      obtain ⟨o, ho, hd⟩ := hat
      exact .inr ⟨.inr hfr', c, hc', o, kp _ _ ho, hd⟩
  · obtain ⟨v, o, ho, hd⟩ := I.cell x c (clo_look hfree h)
    exact ⟨v, o, kp _ _ ho, hd⟩
  · have e : p = go := List.mem_singleton.mp (show p ∈ [go] from hp)
    subst e
    refine ⟨hgo, gone _ (Nat.le_of_lt hgs), Nat.ne_of_gt hgs, fun hb => ?_, hgd⟩
    exact absurd (Nat.lt_trans hgs (hCf _ hb)) (Nat.lt_irrefl _)
  · show (capSt es σ).length = (es.map (·.1)).length
    unfold capSt
    rw [List.length_map, List.length_map]
end

/-- the reading: Pv, by the turn and what is left of turns; fin: the value that ends the walk -/
def tGen (fin : Bool) (P : Addr) (es : Ents) (wi : TI) (g : TG) (t : TE) : TE := fun σ H Q => wi σ H fun J H1 => TabG H1 P ∧ ∀ H2, Tabbed P H1 H2 → ∃ Pv : Nat → Nat → L2.St → Hp → Prop, (∃ m, Pv 0 m (capSt es σ) H2) ∧
  ∀ i m σ' H', Pv i m σ' H' → (J.stop i H' ∧ Q (.bl (!fin)) H') ∨ (J.go i H' ∧ ∀ x H'', J.yld i H' x H'' → g x σ' H'' fun σ2 H3 => t σ2 H3 fun v H4 => ∃ b, v = .bl b ∧ if b = fin then Q (.bl fin) H4 else ∃ m', m = m' + 1 ∧ Pv (i + 1) m' σ2 H4)

/-- a generator that has not begun -/
def Ready (X : Cx) (pins : List (Addr × Obj)) (σ : L2.St) (fin : Bool) (Q : VK) (u : Value) (s' : Shared) : Prop :=
  ∃ (X' : Cx) (fp : List Addr) (go : Addr × Obj) (g : Nat) (tn : Nat → Heap → Prop) (Pv : Nat → Nat → L2.St → Hp → Prop) (m : Nat), X'.prog = X.prog ∧ X'.w = X.w ∧ u = .ref go.1 ∧ s'.heap.IsGen go.1 g ∧ s'.heap.NoLimit ∧ (∀ h : Heap, h.get? go.1 = some go.2 → h.IsGen go.1 g) ∧
    (∃ gs, s'.gens[g]? = some gs ∧ gs.Goes (model X.prog X.w) X.A.in1.in1 (GRet X' go (Q (.bl (!fin)))) (GProt X' fp go tn Pv fin (Q (.bl fin))) (m + 1) (.send .none) (s'.setGen g .running)) ∧
    ∀ σ' H' s'', Inv X' [go] σ' H' s'' → Inv X pins σ H' s''

theorem gen_made {k : Nat} {c P : Addr} {elt tg iter : Expr} {gpos : Pos} {scope : Scope} {es : Ents} {wi : TI} {g : TG} {t : TE} {fin : Bool} {pins : List (Addr × Obj)} {s : Shared} {σ : L2.St} {H : Hp} {Q : VK} {X : Cx}
    (hr : Room (k + 1) X.A) (TB : TabB X.base X.mg c P) (hcode : X.env.code = .ref c) (S : GSc X.env.scope scope X.N es) (hi : PI X tg iter wi)
    (hgt : ∀ fp cl C code A' s H, PG (gcx X (es.map (·.1)) fp (genEnv scope cl C code builtinsNs X.env) A' s H) tg g)
    (helt : ∀ fp cl C code A' s H, Room k A' → PE (gcx X (es.map (·.1)) fp (genEnv scope cl C code builtinsNs X.env) A' s H) elt t)
    (hs : ∀ v, genFold iter X.env v = pure v) (I : Inv X pins σ H s) (h : tGen fin P es wi g t σ H Q) :
    wpAny (model X.prog X.w) X.A (eval (.GeneratorExp elt [⟨tg, iter, [], 0⟩] scope gpos) X.env) (Ready X pins σ fin Q) X.xe s := by
  have hfree : ∀ y ∈ scope.names, y.2 = .free → ∃ c, X.env.cells.lookup y.1 = some c := fun y hy e => I.ok.has y.1 (S.fre y hy e)
  refine wpAny_GeneratorExp_make S.co (closure_ok hfree) S.cell S.dot S.kind (by have := hr.dp; omega) ?_ hs
  refine thn (hi.run pins s σ H _ I h) fun xv s1 h1 => thn h1 fun itv s2 hp => ?_
  obtain ⟨it, fp, tn, J, H1, rfl, I1, T, st, hf, ⟨ps, hP, ht⟩, hR⟩ := hp
  have hPs : s2.heap.get? P = some { cls := .none, data := .fields ps } := I1.hok P _ hP
  have cd : PySem.W.CodeHd s2.heap c P := TB.code.keeps fun b u e => I1.bk b u e
  have nP : ∀ b, H1 b = none → b ≠ P := fun b e z => by rw [z, hP] at e; cases e
  refine ⟨I1.nolimit, ?_⟩
  have cont : ∀ (code : Value) (h3 : Heap) (tk : Nat) (ps' : Array Value), Heap.ExtBut P s2.heap h3 → s2.heap.objs.size ≤ h3.objs.size → h3.get? P = some { cls := .none, data := .fields ps' } → (∃ more, ps' = ps ++ more) → TriplesOk ps'.toList →
      wpAny (model X.prog X.w) X.A (builtinsFor X.env.globals X.env.builtins) (fun bi s₄ =>
        ∀ h', h'.Ns s₄.heap.objs.size (fun y => if y = ".0" then some (.ref it) else none) → Heap.SameBut s₄.heap.objs.size (s₄.heap.push { cls := .type "frame", data := .dict #[] }) h' →
          Ready X pins σ fin Q (.ref h'.objs.size) { s₄ with
            gens := s₄.gens.push (.fresh (.compStart (.GeneratorExp elt [⟨tg, iter, [], 0⟩] scope gpos) 0 (.ref it) .none (genEnv scope (cloFrom X.env.cells scope.names []) s₄.heap.objs.size code bi X.env))),
            toks := s₄.toks + 1 + 1 + 1,
            heap := h'.push { cls := .type "generator", data := .fields #[.int s₄.gens.size 0, .str "<genexpr>" (s₄.toks + 1), .str (X.env.qual ++ "<genexpr>") (s₄.toks + 1 + 1)] } }) X.xe { s2 with heap := h3, toks := tk } := by
    intro code h3 tk ps' hx hsz hP3 hmore ht3
    obtain ⟨more, em⟩ := hmore
    subst em
    obtain ⟨bm, ob, e1, e2, e3, e4, e5, e6, e7, e8⟩ := TB.bm
    have keep3 : ∀ b u, b ≠ P → s2.heap.get? b = some u → h3.get? b = some u := fun b u hb e => hx b u hb e
    have I4 : Inv X pins σ (upd H1 P (.tbl (ps ++ more))) { s2 with heap := h3, toks := tk } := inv_tab (g' := s2.gens) (d' := s2.drawn) (t' := tk) I1 hP keep3 hP3 I1.bare
    have hTb : Tabbed P H1 (upd H1 P (.tbl (ps ++ more))) := ⟨⟨_, upd_same, ht3⟩, fun b hb => upd_ne hb⟩
    obtain ⟨Pv, ⟨m, pv⟩, turn⟩ := hR _ hTb
    have hf4 : ∀ b ∈ fp, FpOk X pins (upd H1 P (.tbl (ps ++ more))) b := fun b hb => by
      obtain ⟨f0, fr⟩ := hf b hb
      exact ⟨by rw [upd_ne (nP b f0)]; exact f0, fr⟩
    have st4 : tn 0 h3 := T.keep _ _ _ st fun b hb o e => keep3 b o (nP b (hf b hb).1) e
    have lt4 : ∀ b ∈ fp, b < h3.objs.size := fun b hb => by
      obtain ⟨o, ho, _⟩ := T.obj _ _ st4 b hb
      exact Heap.lt_size ho
    refine wpAny_builtinsFor (m := X.mg) (by rw [I1.ok.glob]; exact (I1.mod.glob.keeps I1.bk).extBut hx TB.gP) e1 e2 (keep3 _ _ e4 (I1.bk _ _ e5)) e6 e7 e8 ?_
    intro h' hn' hs'
    have hsz' : h'.objs.size = h3.objs.size + 1 := by rw [hs'.1]; exact Heap.size_push ..
    have keep' : ∀ b o, h3.get? b = some o → h'.get? b = some o := fun b o e => hs'.extBut b o (Nat.ne_of_lt (Heap.lt_size e)) (Heap.get?_push_of_some _ e)
    have main : ∀ (go : Obj) (nm qn : Value) (tk5 : Nat) (GS : Array GenState), go.cls = .type "generator" → go.data = .fields #[.int s2.gens.size 0, nm, qn] → go.slots = #[] → (∀ h : Heap, (h.push go).get? h.objs.size = some go) → AllBare GS →
        GS[s2.gens.size]? = some (.fresh (.compStart (.GeneratorExp elt [⟨tg, iter, [], 0⟩] scope gpos) 0 (.ref it) .none (genEnv scope (cloFrom X.env.cells scope.names []) h3.objs.size code builtinsNs X.env))) →
        Ready X pins σ fin Q (.ref h'.objs.size) { s2 with gens := GS, toks := tk5, heap := h'.push go } := by
      intro go nm qn tk5 GS hgc hgd hgsl hgp hGb hGS
      have hgen : ∀ h : Heap, h.get? h'.objs.size = some go → h.IsGen h'.objs.size s2.gens.size := fun h e => ⟨go, nm, qn, e, hgc, hgd, hgsl⟩
      have keep5 : ∀ b o, h3.get? b = some o → (h'.push go).get? b = some o := fun b o e => Heap.get?_push_of_some _ (keep' b o e)
      have kO : ∀ A' : Around, A' = X.A.in1.in1.deeper (genEnv scope (cloFrom X.env.cells scope.names []) h3.objs.size code builtinsNs X.env) → A'.frames = some (genEnv scope (cloFrom X.env.cells scope.names []) h3.objs.size code builtinsNs X.env :: X.stack) := fun A' e => by
        rw [e]
        exact Around.frames_deeper (A := X.A.in1.in1) I1.ok.frames
      have I5 : ∀ s5 : Shared, s5.os = s2.os → AllBare s5.gens → s5.heap = h'.push go → Inv (gcx X (es.map (·.1)) fp (genEnv scope (cloFrom X.env.cells scope.names []) h3.objs.size code builtinsNs X.env) (X.A.in1.in1.deeper (genEnv scope (cloFrom X.env.cells scope.names []) h3.objs.size code builtinsNs X.env)) { s2 with heap := h3, toks := tk } (upd H1 P (.tbl (ps ++ more))))
          [(h'.objs.size, go)] (capSt es σ) (upd H1 P (.tbl (ps ++ more))) s5 := fun s5 o5 b5 e5 =>
        inv_gen (s4 := { s2 with heap := h3, toks := tk }) rfl S hr.hd (kO _ rfl) I4 hf4 lt4 o5 b5 (by rw [e5]; exact keep5) (by rw [e5]; exact hn'.push _) (by rw [e5]; exact hgp h') (by show h3.objs.size < h'.objs.size; omega) (fun v q => by rw [hgd] at q; cases q)
      refine ⟨gcx X (es.map (·.1)) fp (genEnv scope (cloFrom X.env.cells scope.names []) h3.objs.size code builtinsNs X.env) (X.A.in1.in1.deeper (genEnv scope (cloFrom X.env.cells scope.names []) h3.objs.size code builtinsNs X.env)) { s2 with heap := h3, toks := tk } (upd H1 P (.tbl (ps ++ more))), fp, (h'.objs.size, go), s2.gens.size, tn, Pv, m, rfl, rfl, rfl, hgen _ (hgp h'), I4.nolimit.keeps keep5, hgen, ⟨_, hGS, rfl, ?_⟩, fun σ' H' s'' I' => ?_⟩
      · refine seg_first (A := X.A.in1.in1) (X := X) (N' := es.map (·.1)) (fp := fp) (env := genEnv scope (cloFrom X.env.cells scope.names []) h3.objs.size code builtinsNs X.env) (s0 := { s2 with heap := h3, toks := tk }) (H0 := upd H1 P (.tbl (ps ++ more))) (fin := fin) (Qe := Q (.bl (!fin))) (Qs := Q (.bl fin)) rfl S.co T
          (hgt ..) (helt _ _ _ _ _ _ _ ⟨hr.hd, ?_, ?_⟩) (fun b hb => ?_) turn m _ (({ s2 with gens := GS, toks := tk5, heap := h'.push go } : Shared).setGen s2.gens.size .running) _ _ pv (I5 (({ s2 with gens := GS, toks := tk5, heap := h'.push go } : Shared).setGen s2.gens.size .running) rfl (allBare_setGen (s := { s2 with gens := GS, toks := tk5, heap := h'.push go }) hGb rfl) rfl) (T.keep _ _ _ st4 fun b _ o e => keep5 b o e) fun b hb => (hf4 b hb).1
        · have := hr.dp
          show X.A.depth + 1 + 3 * k + 5 < _
          omega
        · have := hr.un
          show X.A.units + 1 + 1 + 3 + 16 * k + 200 < _
          omega
        · obtain ⟨f0, f1, f2, f3, f4, f5⟩ := hf4 b hb
          refine ⟨Nat.ne_of_lt (lt4 b hb), fun hm => ?_, fun x c h => f4 x c (clo_look hfree h), fun z => ?_⟩
          · rcases List.mem_cons.mp (I4.stkSub b hm) with z | z
            · exact f1 z
            · exact f2 z
          · have z' : h'.objs.size = b := z
            have q := lt4 b hb
            rw [← z', hsz'] at q
            exact absurd q (Nat.not_lt_of_le (Nat.le_succ _))
      · refine I4.call' (ch := fp) I'.os I'.base I'.hok I'.bare fun b hb => ?_
        obtain ⟨f0, f1, f2, f3, f4, f5⟩ := hf4 b hb
        exact ⟨f3, f1, f4, f5⟩
    exact main _ _ _ _ _ rfl rfl rfl (fun h => Heap.get?_push_size _ rfl) (AllBare.push I1.bare rfl) (Array.getElem?_push_size ..)
  cases hfd : codeAmong gpos ps.toList with
  | none =>
    refine wpAny_genexprCodeX hcode (cd.code hPs ht) (cd.tab hPs) hfd fun c' h' tk hx hge hlt hco' _ htab' _ => ?_
    obtain ⟨o1, vs, f1, tf, fl, tg', inF, tx, tt, op, _, _, _, _, _, _, _, _, _, htr, _⟩ := hco'
    exact cont _ h' tk _ hx (Nat.le_trans hge (Nat.le_of_lt hlt)) htab'.2 ⟨_, rfl⟩ htr
  | some cv =>
    refine wpAny_genexprCode_hit hcode (cd.code hPs ht) hfd ?_
    exact cont cv s2.heap s2.toks ps (Heap.ExtBut.refl _ _) (Nat.le_refl _) hPs ⟨#[], by simp⟩ ht

section
variable {k : Nat} {c P : Addr} {elt tg iter : Expr} {p pos gpos : Pos} {scope : Scope} {es : Ents} {wi : TI} {g : TG} {t : TE} {X : Cx}
theorem pe_allG (hr : Room (k + 1) X.A) (hg : Gl X "all") (hm : X.mg "all" = none) (TB : TabB X.base X.mg c P) (hcode : X.env.code = .ref c) (S : GSc X.env.scope scope X.N es) (hi : PI X tg iter wi)
    (hgt : ∀ fp cl C code A' s H, PG (gcx X (es.map (·.1)) fp (genEnv scope cl C code builtinsNs X.env) A' s H) tg g)
    (helt : ∀ fp cl C code A' s H, Room k A' → PE (gcx X (es.map (·.1)) fp (genEnv scope cl C code builtinsNs X.env) A' s H) elt t)
    (hs : ∀ v, genFold iter X.env v = pure v := by intro _; rfl) (hb : bootBuiltins "all" = some (.builtin "all") := by decide +kernel)
    (he : starEach [.GeneratorExp elt [⟨tg, iter, [], 0⟩] scope gpos] X.env = (false, eval (.GeneratorExp elt [⟨tg, iter, [], 0⟩] scope gpos) X.env) :: starEach [] X.env := by rfl) :
    PE X (.Call (.Name "all" p) [.GeneratorExp elt [⟨tg, iter, [], 0⟩] scope gpos] [] pos) (tGen false P es wi g t) := by
  refine ⟨fun pins s σ H Q I h => ?_⟩
  refine wpAny_Call_Name_kw (ld_blt I hg hm hb ?_)
  refine PyProof.Rows.callWith_builtin1 ?_ he (by rfl)
  rw [he]
  show wpAny _ _ (spliced ((false, eval (.GeneratorExp elt [⟨tg, iter, [], 0⟩] scope gpos) X.env) :: backTo pos (starEach [] X.env))) _ _ s
  refine Calls.spliced_cons (thn (gen_made hr TB hcode S hi hgt helt hs I h) fun u s1 hR => ?_)
  obtain ⟨X', fp, go, gn, tn, Pv, m, hP, hw, rfl, hg1, hl1, hgen, hgoes, hback⟩ := hR
  refine Calls.spliced_nil ?_
  refine call_function_tree F.kind_all F.plain_all F.entry_all (F.args_all1 _) ?_
  unfold Builtin.«all»
  refine wpAny_bind (m := oneArg "all" _) (wpAny_pure ?_)
  refine wpAny_bind (wpAny_pyIter_gen hg1 ?_)
  rw [← hP, ← hw] at hgoes ⊢
  refine wpAny_pure ⟨plainId_quiet F.plain_all_loop _, all_loop (Qe := Q (.bl true)) (Qs := Q (.bl false)) hr.hd (by have := hr.dp; omega) hgen (fun s' σ' H' I' q => ?_) (fun s' σ' H' I' q => ?_) m s1 hg1 hl1 hgoes⟩
  · exact ⟨.bl true, H', hback _ _ _ I', rfl, q⟩
  · exact ⟨.bl false, H', hback _ _ _ I', rfl, q⟩
theorem pe_anyG (hr : Room (k + 1) X.A) (hg : Gl X "any") (hm : X.mg "any" = none) (TB : TabB X.base X.mg c P) (hcode : X.env.code = .ref c) (S : GSc X.env.scope scope X.N es) (hi : PI X tg iter wi)
    (hgt : ∀ fp cl C code A' s H, PG (gcx X (es.map (·.1)) fp (genEnv scope cl C code builtinsNs X.env) A' s H) tg g)
    (helt : ∀ fp cl C code A' s H, Room k A' → PE (gcx X (es.map (·.1)) fp (genEnv scope cl C code builtinsNs X.env) A' s H) elt t)
    (hs : ∀ v, genFold iter X.env v = pure v := by intro _; rfl) (hb : bootBuiltins "any" = some (.builtin "any") := by decide +kernel)
    (he : starEach [.GeneratorExp elt [⟨tg, iter, [], 0⟩] scope gpos] X.env = (false, eval (.GeneratorExp elt [⟨tg, iter, [], 0⟩] scope gpos) X.env) :: starEach [] X.env := by rfl) :
    PE X (.Call (.Name "any" p) [.GeneratorExp elt [⟨tg, iter, [], 0⟩] scope gpos] [] pos) (tGen true P es wi g t) := by
  refine ⟨fun pins s σ H Q I h => ?_⟩
  refine wpAny_Call_Name_kw (ld_blt I hg hm hb ?_)
  refine PyProof.Rows.callWith_builtin1 ?_ he (by rfl)
  rw [he]
  show wpAny _ _ (spliced ((false, eval (.GeneratorExp elt [⟨tg, iter, [], 0⟩] scope gpos) X.env) :: backTo pos (starEach [] X.env))) _ _ s
  refine Calls.spliced_cons (thn (gen_made hr TB hcode S hi hgt helt hs I h) fun u s1 hR => ?_)
  obtain ⟨X', fp, go, gn, tn, Pv, m, hP, hw, rfl, hg1, hl1, hgen, hgoes, hback⟩ := hR
  refine Calls.spliced_nil ?_
  refine call_function_tree F.kind_any F.plain_any F.entry_any (F.args_any1 _) ?_
  unfold Builtin.«any»
  refine wpAny_bind (m := oneArg "any" _) (wpAny_pure ?_)
  refine wpAny_bind (wpAny_pyIter_gen hg1 ?_)
  rw [← hP, ← hw] at hgoes ⊢
  refine wpAny_pure ⟨plainId_quiet F.plain_any_loop _, any_loop (Qe := Q (.bl false)) (Qs := Q (.bl true)) hr.hd (by have := hr.dp; omega) hgen (fun s' σ' H' I' q => ?_) (fun s' σ' H' I' q => ?_) m s1 hg1 hl1 hgoes⟩
  · exact ⟨.bl false, H', hback _ _ _ I', rfl, q⟩
  · exact ⟨.bl true, H', hback _ _ _ I', rfl, q⟩
end
end Gx

/-! Plain data of any depth, and how a heap holds it. -/
namespace Dv
open PySem PySem.Spec PyProof.Rows L2 GxR Gx

inductive D where
  | non | bl (b : Bool) | int (i : Int) | str (s : Str) | tup (ds : List D)

section
variable (K : PySem.W.Frag) (H : Hp)
mutual
def At : V → D → Prop
  | v, .non => v = .non
  | v, .bl b => v = .bl b
  | v, .int i => v = .int i
  | v, .str s => v = .str s
  | v, .tup ds => ∃ a xs, v = .ref a ∧ SqT K H a xs ∧ Ats xs ds
def Ats : List V → List D → Prop
  | xs, [] => xs = []
  | xs, d :: ds => ∃ x r, xs = x :: r ∧ At x d ∧ Ats r ds
end
end

/-- H' is H but for what is new, the lists at ms, and tables, which may grow -/
structure Ex (T ms : List Addr) (H H' : Hp) : Prop where
  keep : ∀ b o, b ∉ ms → H b = some o → (∀ ps, o ≠ .tbl ps) → H' b = some o
  tups : ∀ b xs, Rd H b (.tup xs) → Rd H' b (.tup xs)
  tabs : (∀ P ∈ T, TabG H P) → ∀ P ∈ T, TabG H' P
  there : ∀ b o, H b = some o → ∃ o', H' b = some o'

section
variable {K : PySem.W.Frag} {T ms : List Addr} {H H1 H2 H' : Hp}
theorem Ex.refl : Ex T ms H H := ⟨fun _ _ _ h _ => h, fun _ _ h => h, fun h => h, fun _ o h => ⟨o, h⟩⟩
theorem Ex.trans (a : Ex T ms H H1) (b : Ex T ms H1 H2) : Ex T ms H H2 :=
  ⟨fun c o n h t => b.keep c o n (a.keep c o n h t) t, fun c xs h => b.tups c xs (a.tups c xs h), fun h => b.tabs (a.tabs h), fun c o h => let ⟨o', e⟩ := a.there c o h; b.there c o' e⟩
theorem Ex.mono {ms' : List Addr} (a : Ex T ms H H1) (h : ∀ b ∈ ms, b ∈ ms') : Ex T ms' H H1 :=
  ⟨fun c o n q t => a.keep c o (fun z => n (h c z)) q t, a.tups, a.tabs, a.there⟩
theorem Ex.nil (a : Ex T [] H H1) : Ex T ms H H1 := a.mono fun _ h => by cases h
theorem tabG_upd {P p : Addr} {o : HO} (h : TabG H P) (n : P ≠ p) : TabG (upd H p o) P := by
  obtain ⟨ps, e, t⟩ := h
  exact ⟨ps, by rw [upd_ne n]; exact e, t⟩
theorem rd_upd {b p : Addr} {xs : List V} {o : HO} (h : Rd H b (.tup xs)) (n : b ≠ p) : Rd (upd H p o) b (.tup xs) := by
  rcases h with h | ⟨ob, h⟩
  · exact .inl (by rw [upd_ne n]; exact h)
  · exact .inr ⟨ob, by rw [upd_ne n]; exact h⟩
theorem rd_ne {b p : Addr} {xs : List V} (h : Rd H b (.tup xs)) (n : H p = none) : b ≠ p := by
  rcases h with h | ⟨ob, h⟩
  · exact ne_of_none h n
  · exact ne_of_none h n
/-- a new object -/
theorem upd_there {p b : Addr} {o u : HO} (h : H b = some u) : ∃ o', upd H p o b = some o' := by
  by_cases e : b = p
  · exact ⟨o, by rw [e, upd_same]⟩
  · exact ⟨u, by rw [upd_ne e]; exact h⟩
theorem Ex.new {p : Addr} {o : HO} (n : H p = none) : Ex T ms H (upd H p o) := by
  refine ⟨fun b u _ h _ => by rw [upd_ne (ne_of_none h n)]; exact h, fun b xs h => rd_upd h (rd_ne h n), fun h P hP => ?_, fun b u h => upd_there h⟩
  obtain ⟨ps, e, t⟩ := h P hP
  exact tabG_upd ⟨ps, e, t⟩ (ne_of_none e n)
/-- an object that was new is written again -/
theorem Ex.put {p : Addr} {o : HO} (a : Ex T ms H H1) (n : H p = none) (hT : ∀ P ∈ T, TabG H P) : Ex T ms H (upd H1 p o) := by
  refine ⟨fun b u m h t => by rw [upd_ne (ne_of_none h n)]; exact a.keep b u m h t, fun b xs h => rd_upd (a.tups b xs h) (rd_ne h n), fun h P hP => ?_, fun b u h => let ⟨_, e⟩ := a.there b u h; upd_there e⟩
  obtain ⟨ps, e, t⟩ := hT P hP
  exact tabG_upd (a.tabs h P hP) (ne_of_none e n)
/-- a list at ms is written -/
theorem Ex.write {m : Addr} {o : HO} {xs : List V} (hm : m ∈ ms) (h : H m = some (.lst xs)) : Ex T ms H (upd H m o) := by
  refine ⟨fun b u n e t => by rw [upd_ne (fun z => n (by rw [z]; exact hm))]; exact e, fun b ys e => ?_, fun hh P hP => ?_, fun b u h => upd_there h⟩
  · have nb : b ≠ m := fun z => by
      subst z
      rcases e with e | ⟨ob, e⟩ <;> (rw [h] at e; cases e)
    exact rd_upd e nb
  · obtain ⟨ps, e, t⟩ := hh P hP
    exact tabG_upd ⟨ps, e, t⟩ (fun z => by subst z; rw [h] at e; cases e)
/-- a table has grown -/
theorem Ex.tab {P : Addr} (h : TabG H P) (t : Tabbed P H H') : Ex T ms H H' := by
  obtain ⟨⟨ps, e, _⟩, ht⟩ := And.intro h t
  refine ⟨fun b o _ q n => ?_, fun b xs q => ?_, fun hh Q hQ => ?_, fun b o q => ?_⟩
  · rw [ht.2 b fun z => by subst z; rw [e] at q; cases q; exact n _ rfl]; exact q
  · have nb : b ≠ P := fun z => by
      subst z
      rcases q with q | ⟨ob, q⟩ <;> (rw [e] at q; cases q)
    rcases q with q | ⟨ob, q⟩
    · exact .inl (by rw [ht.2 b nb]; exact q)
    · exact .inr ⟨ob, by rw [ht.2 b nb]; exact q⟩
  · by_cases z : Q = P
    · rw [z]; exact ht.1
    · obtain ⟨ps', e', t'⟩ := hh Q hQ
      exact ⟨ps', by rw [ht.2 Q z]; exact e', t'⟩
  · by_cases z : b = P
    · obtain ⟨ps', e', _⟩ := ht.1
      exact ⟨_, by rw [z]; exact e'⟩
    · exact ⟨o, by rw [ht.2 b z]; exact q⟩
/-- what is new behind is new ahead -/
theorem Ex.free {p : Addr} (a : Ex T ms H H1) (n : H1 p = none) : H p = none := by
  cases e : H p with
  | none => rfl
  | some o =>
    obtain ⟨o', e'⟩ := a.there p o e
    rw [n] at e'; cases e'
theorem Ex.sqT (a : Ex T ms H H1) {b : Addr} {xs : List V} (h : SqT K H b xs) : SqT K H1 b xs := h.imp (a.tups b xs) id
theorem Ex.sqL (a : Ex T ms H H1) {b : Addr} {xs : List V} (n : b ∉ ms) (h : SqL K H b xs) : SqL K H1 b xs := by
  refine h.imp (fun z => ?_) id
  rcases z with z | ⟨o, z⟩
  · exact .inl (a.keep _ _ n z fun ps e => by cases e)
  · exact .inr ⟨o, a.keep _ _ n z fun ps e => by cases e⟩

mutual
theorem At.ext (a : Ex T ms H H1) : ∀ {v : V} {d : D}, At K H v d → At K H1 v d
  | v, .non, h => by unfold At at h ⊢; exact h
  | v, .bl b, h => by unfold At at h ⊢; exact h
  | v, .int i, h => by unfold At at h ⊢; exact h
  | v, .str s, h => by unfold At at h ⊢; exact h
  | v, .tup ds, h => by
    unfold At at h ⊢
    obtain ⟨p, xs, e, q, r⟩ := h
    exact ⟨p, xs, e, a.sqT q, Ats.ext a r⟩
theorem Ats.ext (a : Ex T ms H H1) : ∀ {xs : List V} {ds : List D}, Ats K H xs ds → Ats K H1 xs ds
  | xs, [], h => by unfold Ats at h ⊢; exact h
  | xs, d :: ds, h => by
    unfold Ats at h ⊢
    obtain ⟨x, r, e, q, t⟩ := h
    exact ⟨x, r, e, At.ext a q, Ats.ext a t⟩
end
theorem at_non {v : V} : At K H v .non ↔ v = .non := by unfold At; exact Iff.rfl
theorem at_bl {v : V} {b : Bool} : At K H v (.bl b) ↔ v = .bl b := by unfold At; exact Iff.rfl
theorem at_int {v : V} {i : Int} : At K H v (.int i) ↔ v = .int i := by unfold At; exact Iff.rfl
theorem at_str {v : V} {s : Str} : At K H v (.str s) ↔ v = .str s := by unfold At; exact Iff.rfl
theorem at_tup {v : V} {ds : List D} : At K H v (.tup ds) ↔ ∃ a xs, v = .ref a ∧ SqT K H a xs ∧ Ats K H xs ds := by
  constructor
  · intro h; unfold At at h; exact h
  · intro h; unfold At; exact h
theorem ats_nil {xs : List V} : Ats K H xs [] ↔ xs = [] := by unfold Ats; exact Iff.rfl
theorem ats_cons {xs : List V} {d : D} {ds : List D} : Ats K H xs (d :: ds) ↔ ∃ x r, xs = x :: r ∧ At K H x d ∧ Ats K H r ds := by
  constructor
  · intro h; unfold Ats at h; exact h
  · intro h; unfold Ats; exact h
theorem Ats.mk_nil : Ats K H [] [] := ats_nil.mpr rfl
theorem Ats.mk {x : V} {d : D} {xs : List V} {ds : List D} (h : At K H x d) (t : Ats K H xs ds) : Ats K H (x :: xs) (d :: ds) := ats_cons.mpr ⟨x, xs, rfl, h, t⟩
theorem Ats.length : ∀ {xs : List V} {ds : List D}, Ats K H xs ds → xs.length = ds.length
  | xs, [], h => by rw [ats_nil.mp h]; rfl
  | xs, d :: ds, h => by
    obtain ⟨x, r, rfl, _, t⟩ := ats_cons.mp h
    rw [List.length_cons, List.length_cons, t.length]
theorem Ats.get : ∀ {xs : List V} {ds : List D} {i : Nat} {d : D}, Ats K H xs ds → ds[i]? = some d → ∃ x, xs[i]? = some x ∧ At K H x d
  | xs, [], i, d, h, e => by simp at e
  | xs, d' :: ds, 0, d, h, e => by
    obtain ⟨x, r, rfl, q, _⟩ := ats_cons.mp h
    obtain rfl : d' = d := by simpa using e
    exact ⟨x, rfl, q⟩
  | xs, d' :: ds, i + 1, d, h, e => by
    obtain ⟨x, r, rfl, _, t⟩ := ats_cons.mp h
    obtain ⟨y, h1, h2⟩ := t.get (i := i) (d := d) (by simpa using e)
    exact ⟨y, by simpa using h1, h2⟩
theorem Ats.get' {xs : List V} {ds : List D} {i : Nat} {x : V} (h : Ats K H xs ds) (e : xs[i]? = some x) : ∃ d, ds[i]? = some d ∧ At K H x d := by
  have hl := h.length
  have hi : i < ds.length := by rw [← hl]; exact (List.getElem?_eq_some_iff.mp e).1
  obtain ⟨y, h1, h2⟩ := h.get (List.getElem?_eq_getElem hi)
  rw [e] at h1; cases h1
  exact ⟨_, List.getElem?_eq_getElem hi, h2⟩
theorem Ats.append : ∀ {xs ys : List V} {ds es : List D}, Ats K H xs ds → Ats K H ys es → Ats K H (xs ++ ys) (ds ++ es)
  | xs, ys, [], es, h, t => by rw [ats_nil.mp h]; exact t
  | xs, ys, d :: ds, es, h, t => by
    obtain ⟨x, r, rfl, q, s⟩ := ats_cons.mp h
    exact Ats.mk q (Ats.append s t)
theorem Ats.of_forall : ∀ {xs : List V} {ds : List D}, xs.length = ds.length → (∀ (i : Nat) (x : V) (d : D), xs[i]? = some x → ds[i]? = some d → At K H x d) → Ats K H xs ds
  | [], [], _, _ => Ats.mk_nil
  | x :: xs, d :: ds, hl, h => Ats.mk (h 0 x d rfl rfl) (Ats.of_forall (by simpa using hl) fun i x d h1 h2 => h (i + 1) x d (by simpa using h1) (by simpa using h2))
/-- a new tuple of data -/
theorem At.new {p : Addr} {xs : List V} {ds : List D} (h : H p = some (.tup xs)) (r : Ats K H xs ds) : At K H (.ref p) (.tup ds) := at_tup.mpr ⟨p, xs, rfl, SqT.of h, r⟩
/-- laid at p over H -/
theorem At.laid {p : Addr} {xs : List V} {ds : List D} (n : H p = none) (r : Ats K H xs ds) : At K (upd H p (.tup xs)) (.ref p) (.tup ds) :=
  At.new upd_same (Ats.ext (T := []) (ms := []) (Ex.new n) r)
theorem At.t1 {v : V} {d1 : D} (h : At K H v (.tup [d1])) : ∃ a x1, v = .ref a ∧ SqT K H a [x1] ∧ At K H x1 d1 := by
  obtain ⟨a, xs, rfl, q, r⟩ := at_tup.mp h
  obtain ⟨x1, _, rfl, h1, r⟩ := ats_cons.mp r
  cases ats_nil.mp r
  exact ⟨a, x1, rfl, q, h1⟩
theorem At.t2 {v : V} {d1 d2 : D} (h : At K H v (.tup [d1, d2])) : ∃ a x1 x2, v = .ref a ∧ SqT K H a [x1, x2] ∧ At K H x1 d1 ∧ At K H x2 d2 := by
  obtain ⟨a, xs, rfl, q, r⟩ := at_tup.mp h
  obtain ⟨x1, _, rfl, h1, r⟩ := ats_cons.mp r
  obtain ⟨x2, _, rfl, h2, r⟩ := ats_cons.mp r
  cases ats_nil.mp r
  exact ⟨a, x1, x2, rfl, q, h1, h2⟩
theorem At.t3 {v : V} {d1 d2 d3 : D} (h : At K H v (.tup [d1, d2, d3])) : ∃ a x1 x2 x3, v = .ref a ∧ SqT K H a [x1, x2, x3] ∧ At K H x1 d1 ∧ At K H x2 d2 ∧ At K H x3 d3 := by
  obtain ⟨a, xs, rfl, q, r⟩ := at_tup.mp h
  obtain ⟨x1, _, rfl, h1, r⟩ := ats_cons.mp r
  obtain ⟨x2, _, rfl, h2, r⟩ := ats_cons.mp r
  obtain ⟨x3, _, rfl, h3, r⟩ := ats_cons.mp r
  cases ats_nil.mp r
  exact ⟨a, x1, x2, x3, rfl, q, h1, h2, h3⟩
theorem At.t4 {v : V} {d1 d2 d3 d4 : D} (h : At K H v (.tup [d1, d2, d3, d4])) : ∃ a x1 x2 x3 x4, v = .ref a ∧ SqT K H a [x1, x2, x3, x4] ∧ At K H x1 d1 ∧ At K H x2 d2 ∧ At K H x3 d3 ∧ At K H x4 d4 := by
  obtain ⟨a, xs, rfl, q, r⟩ := at_tup.mp h
  obtain ⟨x1, _, rfl, h1, r⟩ := ats_cons.mp r
  obtain ⟨x2, _, rfl, h2, r⟩ := ats_cons.mp r
  obtain ⟨x3, _, rfl, h3, r⟩ := ats_cons.mp r
  obtain ⟨x4, _, rfl, h4, r⟩ := ats_cons.mp r
  cases ats_nil.mp r
  exact ⟨a, x1, x2, x3, x4, rfl, q, h1, h2, h3, h4⟩
end

/-! ### conditions -/
inductive C where
  | tru | fls | less (a b : Int) | same (a b : Int) | emp (a : Int) | nt (c : C) | all (cs : List C) | any (cs : List C)
mutual
def encC : C → D
  | .tru => .tup [.str "true"]
  | .fls => .tup [.str "false"]
  | .less a b => .tup [.str "less", .int a, .int b]
  | .same a b => .tup [.str "same", .int a, .int b]
  | .emp a => .tup [.str "empty", .int a]
  | .nt c => .tup [.str "not", encC c]
  | .all cs => .tup [.str "all", .tup (encCs cs)]
  | .any cs => .tup [.str "any", .tup (encCs cs)]
def encCs : List C → List D
  | [] => []
  | c :: cs => encC c :: encCs cs
end
theorem encCs_length : ∀ cs : List C, (encCs cs).length = cs.length
  | [] => by unfold encCs; rfl
  | c :: cs => by unfold encCs; rw [List.length_cons, List.length_cons, encCs_length cs]
theorem encCs_get : ∀ (cs : List C) (i : Nat), (encCs cs)[i]? = (cs[i]?).map encC
  | [], i => by unfold encCs; simp
  | c :: cs, 0 => by unfold encCs; simp
  | c :: cs, i + 1 => by
    unfold encCs
    rw [List.getElem?_cons_succ, List.getElem?_cons_succ]
    exact encCs_get cs i
def worth (v : Int) (h : List (Option Int)) (p : Int) : Option Int := if p = -1 then some v else if p = -2 then none else (h[p.toNat]?).getD none
def ltO : Option Int → Option Int → Bool
  | some x, some y => decide (x < y)
  | _, _ => false
def eqO : Option Int → Option Int → Bool
  | some x, some y => decide (x = y)
  | _, _ => false
mutual
def hold (v : Int) (h : List (Option Int)) : C → Bool
  | .tru => true
  | .fls => false
  | .less a b => ltO (worth v h a) (worth v h b)
  | .same a b => eqO (worth v h a) (worth v h b)
  | .emp a => (worth v h a).isNone
  | .nt c => !hold v h c
  | .all cs => holdA v h cs
  | .any cs => holdE v h cs
def holdA (v : Int) (h : List (Option Int)) : List C → Bool
  | [] => true
  | c :: cs => hold v h c && holdA v h cs
def holdE (v : Int) (h : List (Option Int)) : List C → Bool
  | [] => false
  | c :: cs => hold v h c || holdE v h cs
end
/-- places below r; depth at most n -/
def plOk (r : Nat) (p : Int) : Prop := -1 ≤ p ∧ p < r
mutual
def okC (r : Nat) : Nat → C → Prop
  | _, .tru => True
  | _, .fls => True
  | _, .less a b => plOk r a ∧ plOk r b
  | _, .same a b => plOk r a ∧ plOk r b
  | _, .emp a => plOk r a
  | 0, .nt _ => False
  | n + 1, .nt c => okC r n c
  | 0, .all _ => False
  | n + 1, .all cs => cs.length ≤ 100000 ∧ okCs r n cs
  | 0, .any _ => False
  | n + 1, .any cs => cs.length ≤ 100000 ∧ okCs r n cs
def okCs (r : Nat) : Nat → List C → Prop
  | _, [] => True
  | n, c :: cs => okC r n c ∧ okCs r n cs
end

/-- a def whose code object stands at c -/
structure FunT (K : PySem.W.Frag) (x qual : Str) (st : Stmt) (f : Addr) (fd : FuncData) (c : Addr) : Prop where
  ex : ∃ (oc : Value) (od : Option Addr) (kV doc pm : Value) (an : Option Addr) (ct : Value) (osl : Array (Option Value)),
    fd = PySem.W.fnOf x qual (defArgs st) (defBody st) (defScope st) .none kV doc pm an (.ref c) ct ∧ K.lookup f = some ⟨oc, od, .func fd, osl⟩ ∧ PySem.W.codeIn K (.ref c) qual = true
  kp : PySem.W.keepIn K (.ref f) = true
section
variable {P : Program} {w : World} {K : PySem.W.Frag} {mg : Str → Option Value} {base : Heap}
theorem FunT.ok {x qual : Str} {st : Stmt} {f c : Addr} {fd : FuncData} {N ps : List Str} {k : Nat} {sp : Sp} (F : FunT K x qual st f fd c) (S : FnScope N ps (defScope st)) (len : ∀ vs H Q E, sp vs H Q E → vs.length = ps.length)
    (hbody : ∀ (A : Around) (outer : List Env) (s : Shared) (H : Hp) (vs : List V) (Q : VK) (E : XK), Room k (A.deeper (envOfC qual (defScope st) s.heap.objs.size f (.ref c))) → sp vs H Q E →
      ∃ t, PSs (cxOf CX0 P w K mg base N qual (defScope st) f (.ref c) A outer s H E).nox (defBody st) t ∧ t { nx := fun _ H' => Q .non H', rt := Q } (start N vs) H) : FnOk P w K mg base CX0 (k + 1) f fd ps sp := by
  obtain ⟨oc, od, kV, doc, pm, an, ct, osl, rfl, lk, hcd⟩ := F.ex
  refine fn_of lk hcd S len fun A outer s H vs Q E hr hsp => ?_
  obtain ⟨t, h, q⟩ := hbody A outer s H vs Q E hr hsp
  exact ⟨t, h.nox, q⟩
theorem FunT.fn {x qual : Str} {st : Stmt} {f c : Addr} {fd : FuncData} (F : FunT K x qual st f fd c) : Fun K x qual st f fd := by
  obtain ⟨oc, od, kV, doc, pm, an, ct, osl, h⟩ := F.ex
  exact ⟨⟨oc, od, kV, doc, pm, an, .ref c, ct, osl, h⟩, F.kp⟩
theorem funT_mk {x qual : Str} {st : Stmt} {f c : Addr} {oc : Value} {od an : Option Addr} {osl : Array (Option Value)} {kV doc pm ct : Value} (l : K.lookup f = some ⟨oc, od, .func (PySem.W.fnOf x qual (defArgs st) (defBody st) (defScope st) .none kV doc pm an (.ref c) ct), osl⟩)
    (cc : PySem.W.codeIn K (.ref c) qual = true) (k : PySem.W.keepIn K (.ref f) = true) : FunT K x qual st f (PySem.W.fnOf x qual (defArgs st) (defBody st) (defScope st) .none kV doc pm an (.ref c) ct) c := ⟨⟨oc, od, kV, doc, pm, an, ct, osl, rfl, l, cc⟩, k⟩
end

/-- the tables stand -/
def Wd (T : List Addr) (H : Hp) : Prop := ∀ P ∈ T, TabG H P
theorem Ex.wd {T ms : List Addr} {H H1 : Hp} (a : Ex T ms H H1) (h : Wd T H) : Wd T H1 := a.tabs h

/-! ### held values -/
def oV : Option Int → V
  | none => .non
  | some i => .int i
def encO : Option Int → D
  | none => .non
  | some i => .int i
def encH (h : List (Option Int)) : D := .tup (h.map encO)
theorem at_encO {K : PySem.W.Frag} {H : Hp} {v : V} {o : Option Int} : At K H v (encO o) ↔ v = oV o := by
  cases o with
  | none => exact at_non
  | some i => exact at_int
theorem ats_encO {K : PySem.W.Frag} {H : Hp} : ∀ {xs : List V} {h : List (Option Int)}, Ats K H xs (h.map encO) ↔ xs = h.map oV
  | xs, [] => ats_nil
  | xs, o :: h => by
    rw [List.map_cons, ats_cons, List.map_cons]
    constructor
    · rintro ⟨x, r, rfl, h1, h2⟩
      rw [at_encO.mp h1, ats_encO.mp h2]
    · rintro rfl
      exact ⟨_, _, rfl, at_encO.mpr rfl, ats_encO.mpr rfl⟩
theorem at_encH {K : PySem.W.Frag} {H : Hp} {v : V} {h : List (Option Int)} : At K H v (encH h) ↔ ∃ a, v = .ref a ∧ SqT K H a (h.map oV) := by
  unfold encH
  rw [at_tup]
  constructor
  · rintro ⟨a, xs, rfl, q, r⟩
    rw [ats_encO.mp r] at q
    exact ⟨a, rfl, q⟩
  · rintro ⟨a, rfl, q⟩
    exact ⟨a, _, rfl, q, ats_encO.mpr rfl⟩
theorem worth_new (v : Int) (h : List (Option Int)) : worth v h (-1) = some v := rfl
theorem worth_nothing (v : Int) (h : List (Option Int)) : worth v h (-2) = none := rfl
theorem worth_at {v : Int} {h : List (Option Int)} {p : Int} (h0 : 0 ≤ p) : worth v h p = (h[p.toNat]?).getD none := by
  unfold worth
  rw [if_neg (by omega), if_neg (by omega)]
theorem oV_at {v : Int} {h : List (Option Int)} {p : Int} (h0 : 0 ≤ p) (h1 : p < h.length) : atI (h.map oV) p = some (oV (worth v h p)) := by
  have hk : p.toNat < h.length := by omega
  have ek : p = ((p.toNat : Nat) : Int) := by omega
  rw [worth_at h0, List.getElem?_eq_getElem hk]
  have q : atI (h.map oV) ((p.toNat : Nat) : Int) = some (oV h[p.toNat]) := atI_nat (by rw [List.getElem?_map, List.getElem?_eq_getElem hk]; rfl)
  rw [← ek] at q
  exact q

theorem ifStrNe {x y : Str} {A B : Prop} (h : x ≠ y) (b : B) : if decide (V.str x = V.str y) = true then A else B := by
  rw [decide_eq_false (fun e => h (V.str.inj e)), if_neg Bool.false_ne_true]
  exact b
theorem ifStrEq {x : Str} {A B : Prop} (a : A) : if decide (V.str x = V.str x) = true then A else B := by
  rw [decide_eq_true rfl, if_pos rfl]
  exact a
theorem decStr {x y : Str} : decide (V.str x = V.str y) = decide (x = y) := by
  by_cases h : x = y
  · rw [h, decide_eq_true rfl, decide_eq_true rfl]
  · rw [decide_eq_false h, decide_eq_false fun e => h (V.str.inj e)]
theorem holdA_cons (v : Int) (h : List (Option Int)) (c : C) (cs : List C) : holdA v h (c :: cs) = (hold v h c && holdA v h cs) := by
  conv => lhs; unfold holdA
theorem holdE_cons (v : Int) (h : List (Option Int)) (c : C) (cs : List C) : holdE v h (c :: cs) = (hold v h c || holdE v h cs) := by
  conv => lhs; unfold holdE
theorem okCs_get {r n : Nat} : ∀ {cs : List C} {i : Nat} {c : C}, okCs r n cs → cs[i]? = some c → okC r n c
  | [], i, c, h, e => by simp at e
  | c' :: cs, 0, c, h, e => by
    unfold okCs at h
    obtain rfl : c' = c := by simpa using e
    exact h.1
  | c' :: cs, i + 1, c, h, e => by
    unfold okCs at h
    exact okCs_get h.2 (by simpa using e)
/-- the parts of a condition, in a tuple -/
theorem part_at {K : PySem.W.Frag} {H : Hp} {xs : List V} {cs : List C} {i : Nat} (h : Ats K H xs (encCs cs)) (hi : i < cs.length) : ∃ x, xs[i]? = some x ∧ At K H x (encC cs[i]) :=
  h.get (by rw [encCs_get, List.getElem?_eq_getElem hi]; rfl)

/-- a list of ints that is drawn from -/
def Dr (H : Hp) (dr : Addr) : Prop := ∃ ds : List Int, H dr = some (.lst (ds.map V.int))
theorem small5000 {n : Nat} (h : n ≤ 5000) : n < sizeLine := Nat.lt_of_le_of_lt h (by decide)
theorem iv_set {ns : List Int} {j : Nat} {z : Int} : (ns.map V.int).set j (.int z) = (ns.set j z).map V.int := by rw [List.map_set]
theorem iv_snoc {ns : List Int} {z : Int} : ns.map V.int ++ [.int z] = (ns ++ [z]).map V.int := by rw [List.map_append]; rfl
theorem iv_at {ns : List Int} {k : Int} (h0 : 0 ≤ k) (h1 : k < ns.length) : atI (ns.map V.int) k = some (.int (ns.getD k.toNat 0)) := by
  have hk : k.toNat < ns.length := by omega
  have ek : k = ((k.toNat : Nat) : Int) := by omega
  have q : atI (ns.map V.int) ((k.toNat : Nat) : Int) = some (.int ns[k.toNat]) := atI_nat (by rw [List.getElem?_map, List.getElem?_eq_getElem hk]; rfl)
  rw [← ek] at q
  rw [q, List.getD_eq_getElem?_getD, List.getElem?_eq_getElem hk]
  rfl
theorem ix_nat {n : Nat} {i : Int} (h0 : 0 ≤ i) (h1 : i < n) : ixN n i = some i.toNat := by
  unfold ixN
  rw [if_pos h0, if_pos h1]

theorem yesIf {σ : L2.St} {H : Hp} {A B : Hp → Prop} (h : A H) : tYes σ H (fun b H3 => if b = true then A H3 else B H3) := by
  show (if true = true then A H else B H)
  rw [if_pos rfl]
  exact h

/-- an item of a written menu -/
theorem menu_at {xs : List V} {x : Int} (h0 : 0 ≤ x) (h1 : x < xs.length) : ∃ v, v ∈ xs ∧ atI xs x = some v := by
  have hk : x.toNat < xs.length := by omega
  have ek : x = ((x.toNat : Nat) : Int) := by omega
  have q : atI xs ((x.toNat : Nat) : Int) = some xs[x.toNat] := atI_nat (List.getElem?_eq_getElem hk)
  rw [← ek] at q
  exact ⟨_, List.getElem_mem hk, q⟩
def tyN : D → String
  | .non => "NoneType"
  | .bl _ => "bool"
  | .int _ => "int"
  | .str _ => "str"
  | .tup _ => "tuple"
theorem ty_sqT {K : PySem.W.Frag} {H : Hp} {a : Addr} {xs : List V} (h : SqT K H a xs) : TyX K H (.ref a) (.type "tuple") := by
  rcases h with (h | ⟨o, h⟩) | ⟨o, its, n, h, c, _⟩
  · exact .base (.tup h)
  · exact .fTuple h
  · exact .kTuple h c
theorem ty_at {K : PySem.W.Frag} {H : Hp} {v : V} {d : D} (h : At K H v d) : TyX K H v (.type (tyN d)) := by
  cases d with
  | non => rw [at_non.mp h]; exact .base .non
  | bl b => rw [at_bl.mp h]; exact .base (.bl b)
  | int i => rw [at_int.mp h]; exact .base (.int i)
  | str x => rw [at_str.mp h]; exact .base (.str x)
  | tup ds =>
    obtain ⟨a, xs, rfl, q, _⟩ := at_tup.mp h
    exact ty_sqT q
mutual
def okD : Nat → D → Prop
  | 0, .tup _ => False
  | n + 1, .tup ds => ds.length ≤ 100000 ∧ okDs n ds
  | _, _ => True
def okDs : Nat → List D → Prop
  | _, [] => True
  | n, d :: ds => okD n d ∧ okDs n ds
end
theorem okDs_get {n : Nat} : ∀ {ds : List D} {i : Nat} {d : D}, okDs n ds → ds[i]? = some d → okD n d
  | [], i, d, h, e => by simp at e
  | d' :: ds, 0, d, h, e => by
    unfold okDs at h
    obtain rfl : d' = d := by simpa using e
    exact h.1
  | d' :: ds, i + 1, d, h, e => by
    unfold okDs at h
    exact okDs_get h.2 (by simpa using e)
theorem nat_at {xs : List V} {i : Nat} {x : V} (h : xs[i]? = some x) : atI xs (0 + (i : Int)) = some x := by
  rw [Int.zero_add]
  exact atI_nat h

theorem inV_true : ∀ bs : List Bool, inV (.bl true) (bs.map V.bl) = bs.any id
  | [] => rfl
  | b :: bs => by
    show (eqV (.bl b) (.bl true) || inV (.bl true) (bs.map V.bl)) = (id b || bs.any id)
    rw [inV_true bs]
    cases b <;> rfl
theorem inV_false : ∀ bs : List Bool, inV (.bl false) (bs.map V.bl) = !bs.all id
  | [] => rfl
  | b :: bs => by
    show (eqV (.bl b) (.bl false) || inV (.bl false) (bs.map V.bl)) = !(id b && bs.all id)
    rw [inV_false bs]
    cases b <;> simp [eqV]
theorem flat_bls : ∀ bs : List Bool, (bs.map V.bl).all flatV = true
  | [] => rfl
  | _ :: bs => flat_bls bs
theorem holdE_any (v : Int) (h : List (Option Int)) : ∀ cs : List C, (cs.map (hold v h)).any id = holdE v h cs
  | [] => by unfold holdE; rfl
  | c :: cs => by rw [holdE_cons, List.map_cons, List.any_cons, holdE_any v h cs]; rfl
theorem holdA_all (v : Int) (h : List (Option Int)) : ∀ cs : List C, (cs.map (hold v h)).all id = holdA v h cs
  | [] => by unfold holdA; rfl
  | c :: cs => by rw [holdA_cons, List.map_cons, List.all_cons, holdA_all v h cs]; rfl

mutual
theorem okC_succ {r : Nat} : ∀ {n : Nat} {c : C}, okC r n c → okC r (n + 1) c
  | _, .tru, _ => by unfold okC; trivial
  | _, .fls, _ => by unfold okC; trivial
  | _, .less a b, h => by unfold okC at h ⊢; exact h
  | _, .same a b, h => by unfold okC at h ⊢; exact h
  | _, .emp a, h => by unfold okC at h ⊢; exact h
  | 0, .nt c, h => by unfold okC at h; exact h.elim
  | n + 1, .nt c, h => by unfold okC at h ⊢; exact okC_succ h
  | 0, .all cs, h => by unfold okC at h; exact h.elim
  | n + 1, .all cs, h => by unfold okC at h ⊢; exact ⟨h.1, okCs_succ h.2⟩
  | 0, .any cs, h => by unfold okC at h; exact h.elim
  | n + 1, .any cs, h => by unfold okC at h ⊢; exact ⟨h.1, okCs_succ h.2⟩
theorem okCs_succ {r : Nat} : ∀ {n : Nat} {cs : List C}, okCs r n cs → okCs r (n + 1) cs
  | _, [], _ => by unfold okCs; trivial
  | n, c :: cs, h => by unfold okCs at h ⊢; exact ⟨okC_succ h.1, okCs_succ h.2⟩
end
theorem okC_mono {r n n' : Nat} {c : C} (h : okC r n c) (l : n ≤ n') : okC r n' c := by
  induction l with
  | refl => exact h
  | step _ ih => exact okC_succ ih
theorem okC_less {r n : Nat} {a b : Int} (ha : plOk r a) (hb : plOk r b) : okC r n (.less a b) := by unfold okC; exact ⟨ha, hb⟩
theorem okC_same {r n : Nat} {a b : Int} (ha : plOk r a) (hb : plOk r b) : okC r n (.same a b) := by unfold okC; exact ⟨ha, hb⟩
theorem okC_emp {r n : Nat} {a : Int} (ha : plOk r a) : okC r n (.emp a) := by unfold okC; exact ha
theorem okC_tru {r n : Nat} : okC r n .tru := by unfold okC; trivial
theorem okC_fls {r n : Nat} : okC r n .fls := by unfold okC; trivial
theorem okC_nt {r n : Nat} {c : C} (h : okC r n c) : okC r (n + 1) (.nt c) := by unfold okC; exact h
theorem okC_all {r n : Nat} {cs : List C} (l : cs.length ≤ 100000) (h : okCs r n cs) : okC r (n + 1) (.all cs) := by unfold okC; exact ⟨l, h⟩
theorem okC_any {r n : Nat} {cs : List C} (l : cs.length ≤ 100000) (h : okCs r n cs) : okC r (n + 1) (.any cs) := by unfold okC; exact ⟨l, h⟩
theorem okCs_nil {r n : Nat} : okCs r n [] := by unfold okCs; trivial
theorem okCs_cons {r n : Nat} {c : C} {cs : List C} (h : okC r n c) (t : okCs r n cs) : okCs r n (c :: cs) := by unfold okCs; exact ⟨h, t⟩
theorem okCs_snoc {r n : Nat} : ∀ {cs : List C} {c : C}, okCs r n cs → okC r n c → okCs r n (cs ++ [c])
  | [], c, _, h => okCs_cons h okCs_nil
  | c' :: cs, c, t, h => by
    unfold okCs at t
    exact okCs_cons t.1 (okCs_snoc t.2 h)
theorem encCs_snoc : ∀ (cs : List C) (c : C), encCs (cs ++ [c]) = encCs cs ++ [encC c]
  | [], c => by unfold encCs; simp [encCs]
  | c' :: cs, c => by
    show encCs (c' :: (cs ++ [c])) = encCs (c' :: cs) ++ [encC c]
    conv => lhs; unfold encCs
    conv => rhs; unfold encCs
    rw [encCs_snoc cs c]
    rfl
section
variable {K : PySem.W.Frag} {H : Hp} {p : Addr}
theorem at_less {v : V} {a b : Int} (h : At K H v (.tup [.str "less", .int a, .int b])) : At K H v (encC (.less a b)) := by unfold encC; exact h
theorem new_less {a b : Int} (n : H p = none) : At K (upd H p (.tup [.str "less", .int a, .int b])) (.ref p) (encC (.less a b)) := by
  unfold encC
  exact At.laid n (Ats.mk (at_str.mpr rfl) (Ats.mk (at_int.mpr rfl) (Ats.mk (at_int.mpr rfl) Ats.mk_nil)))
theorem new_same {a b : Int} (n : H p = none) : At K (upd H p (.tup [.str "same", .int a, .int b])) (.ref p) (encC (.same a b)) := by
  unfold encC
  exact At.laid n (Ats.mk (at_str.mpr rfl) (Ats.mk (at_int.mpr rfl) (Ats.mk (at_int.mpr rfl) Ats.mk_nil)))
theorem new_emp {a : Int} (n : H p = none) : At K (upd H p (.tup [.str "empty", .int a])) (.ref p) (encC (.emp a)) := by
  unfold encC
  exact At.laid n (Ats.mk (at_str.mpr rfl) (Ats.mk (at_int.mpr rfl) Ats.mk_nil))
theorem new_tru (n : H p = none) : At K (upd H p (.tup [.str "true"])) (.ref p) (encC .tru) := by
  unfold encC
  exact At.laid n (Ats.mk (at_str.mpr rfl) Ats.mk_nil)
theorem new_fls (n : H p = none) : At K (upd H p (.tup [.str "false"])) (.ref p) (encC .fls) := by
  unfold encC
  exact At.laid n (Ats.mk (at_str.mpr rfl) Ats.mk_nil)
theorem new_nt {v : V} {c : C} (n : H p = none) (h : At K H v (encC c)) : At K (upd H p (.tup [.str "not", v])) (.ref p) (encC (.nt c)) := by
  unfold encC
  exact At.laid n (Ats.mk (at_str.mpr rfl) (Ats.mk h Ats.mk_nil))
theorem new_all {v : V} {cs : List C} (n : H p = none) (h : At K H v (.tup (encCs cs))) : At K (upd H p (.tup [.str "all", v])) (.ref p) (encC (.all cs)) := by
  unfold encC
  exact At.laid n (Ats.mk (at_str.mpr rfl) (Ats.mk h Ats.mk_nil))
theorem new_any {v : V} {cs : List C} (n : H p = none) (h : At K H v (.tup (encCs cs))) : At K (upd H p (.tup [.str "any", v])) (.ref p) (encC (.any cs)) := by
  unfold encC
  exact At.laid n (Ats.mk (at_str.mpr rfl) (Ats.mk h Ats.mk_nil))
theorem ats_c1 {x : V} {c : C} (h : At K H x (encC c)) : Ats K H [x] (encCs [c]) := by
  unfold encCs encCs
  exact Ats.mk h Ats.mk_nil
theorem ats_c2 {x y : V} {c d : C} (h : At K H x (encC c)) (h2 : At K H y (encC d)) : Ats K H [x, y] (encCs [c, d]) := by
  unfold encCs encCs encCs
  exact Ats.mk h (Ats.mk h2 Ats.mk_nil)
end
theorem Dr.new {H : Hp} {dr p : Addr} {o : HO} (h : Dr H dr) (n : H p = none) : Dr (upd H p o) dr := by
  obtain ⟨ds, e⟩ := h
  exact ⟨ds, by rw [upd_ne (ne_of_none e n)]; exact e⟩
theorem Dr.put {H : Hp} {dr p : Addr} {o : HO} (h : Dr H dr) (n : dr ≠ p) : Dr (upd H p o) dr := by
  obtain ⟨ds, e⟩ := h
  exact ⟨ds, by rw [upd_ne n]; exact e⟩
theorem Dr.ne {H : Hp} {dr p : Addr} (h : Dr H dr) (n : H p = none) : p ≠ dr := by
  obtain ⟨ds, e⟩ := h
  exact (ne_of_none e n).symm
theorem Ex.lst {T ms : List Addr} {H H1 : Hp} (a : Ex T ms H H1) {p : Addr} {xs : List V} (n : p ∉ ms) (h : H p = some (.lst xs)) : H1 p = some (.lst xs) := a.keep p _ n h fun ps e => by cases e

theorem sqL_stay {K : PySem.W.Frag} {T : List Addr} {H0 H H' : Hp} {a dr : Addr} {xs : List V} (h : SqL K H0 a xs) (n : H0 dr = none) (e0 : Ex T [] H0 H) (e : Ex T [dr] H H') : SqL K H' a xs := by
  rcases h with h | h
  · have ne : a ≠ dr := by
      rcases h with h | ⟨o, h⟩
      · exact ne_of_none h n
      · exact ne_of_none h n
    exact e.sqL (by simpa using ne) (e0.sqL (by simp) (.inl h))
  · exact .inr h
theorem flat_rep {x : V} : ∀ n : Nat, (List.replicate n [x]).flatten = List.replicate n x
  | 0 => rfl
  | n + 1 => by rw [List.replicate_succ, List.flatten_cons, flat_rep n, List.replicate_succ]; rfl
theorem encCs_rep (c : C) : ∀ n : Nat, encCs (List.replicate n c) = List.replicate n (encC c)
  | 0 => by unfold encCs; rfl
  | n + 1 => by rw [List.replicate_succ, List.replicate_succ]; conv => lhs; unfold encCs; rw [encCs_rep c n]
theorem ats_rep {K : PySem.W.Frag} {H : Hp} {x : V} {d : D} (h : At K H x d) : ∀ n : Nat, Ats K H (List.replicate n x) (List.replicate n d)
  | 0 => Ats.mk_nil
  | n + 1 => by rw [List.replicate_succ, List.replicate_succ]; exact Ats.mk h (ats_rep h n)
theorem encCs_app : ∀ (cs ds : List C), encCs (cs ++ ds) = encCs cs ++ encCs ds
  | [], ds => by
    have e : encCs [] = [] := by unfold encCs; rfl
    rw [e]
    rfl
  | c :: cs, ds => by
    show encCs (c :: (cs ++ ds)) = _
    conv => lhs; unfold encCs
    conv => rhs; lhs; unfold encCs
    rw [encCs_app cs ds]
    rfl
theorem okCs_rep {r n : Nat} {c : C} (h : okC r n c) : ∀ k : Nat, okCs r n (List.replicate k c)
  | 0 => okCs_nil
  | k + 1 => by rw [List.replicate_succ]; exact okCs_cons h (okCs_rep h k)
theorem okCs_app {r n : Nat} : ∀ {cs ds : List C}, okCs r n cs → okCs r n ds → okCs r n (cs ++ ds)
  | [], ds, _, h => h
  | c :: cs, ds, t, h => by
    unfold okCs at t
    exact okCs_cons t.1 (okCs_app t.2 h)
/-- an item put into a row of one and the same -/
theorem ins_rep {K : PySem.W.Frag} {H : Hp} {x y : V} {c d : C} (hx : At K H x (encC c)) (hy : At K H y (encC d)) (n i : Nat) :
    Ats K H ((List.replicate n x).take i ++ [y] ++ (List.replicate n x).drop i) (encCs (List.replicate (min i n) c ++ [d] ++ List.replicate (n - i) c)) := by
  rw [List.take_replicate, List.drop_replicate, encCs_app, encCs_app, encCs_rep, encCs_rep]
  refine ((ats_rep hx _).append ?_).append (ats_rep hx _)
  unfold encCs encCs
  exact Ats.mk hy Ats.mk_nil
theorem ins_ok {r m : Nat} {c d : C} (hc : okC r m c) (hd : okC r m d) (n i : Nat) : okCs r m (List.replicate (min i n) c ++ [d] ++ List.replicate (n - i) c) :=
  okCs_app (okCs_app (okCs_rep hc _) (okCs_cons hd okCs_nil)) (okCs_rep hc _)
theorem ins_len {c d : C} (n i : Nat) (h : i ≤ n) : (List.replicate (min i n) c ++ [d] ++ List.replicate (n - i) c).length = n + 1 := by
  rw [List.length_append, List.length_append, List.length_replicate, List.length_replicate, List.length_singleton]
  omega
end Dv

/-! for i, x in enumerate(a tuple). -/
namespace PySem
open Sem (wp)
open AutoSeq1 (wpAny_loadPart')
theorem meets_enumT {v : Value} {o : Obj} {H : Heap → Prop} (B : Begins v o H) :
    Meets (Builtin.«enumerate.__new__» ⟨[.type "enumerate", v], []⟩) (fun _ R s => H s.heap ∧
      R (.ok (.ret (.ref (s.heap.push o).objs.size))) { s with heap := (s.heap.push o).push { cls := .type "enumerate", data := .fields #[.none, .bool false, .ref s.heap.objs.size, rawInt 0, .none, .none] } }) :=
  .of_wp fun prog w A R s h => by
    obtain ⟨hp, g, d, tk, os⟩ := s
    obtain ⟨h1, h⟩ := h
    have hsub := sub_enumerate
    have q1 : ∀ {A' : Around} {E : Value → Shared → Prop} {Q : Value → Shared → Prop}, Q (.ref hp.objs.size) ⟨hp.push o, g, d, tk, os⟩ → wpAny (model prog w) A' (pyIter v) Q E ⟨hp, g, d, tk, os⟩ :=
      fun q => B.iter prog w _ _ ⟨hp, g, d, tk, os⟩ _ h1 q
    wp_walk using q1
    refine wpAny_stack_any fun st => wpAny_pure ?_
    split
    · rename_i c _ _ _ _ _
      cases (c == Value.type "enumerate")
      all_goals
        wp_walk using q1
        exact ⟨_, rfl, h⟩
    · wp_walk using q1
      exact ⟨_, rfl, h⟩
section
variable {prog : Program} {w : World} {A : Around} {E : Value → Shared → Prop} {s : Shared}
theorem enumT_begins {v : Value} {o : Obj} {H : Heap → Prop} {Q : Value → Shared → Prop} (B : Begins v o H) (h1 : H s.heap)
    (h : ∀ h', IsEnum h' (s.heap.objs.size + 1) s.heap.objs.size 0 .none → h'.get? s.heap.objs.size = some o → (∀ b o, s.heap.get? b = some o → h'.get? b = some o) → Q (.ref (s.heap.objs.size + 1)) { s with heap := h' }) :
    wpAny (model prog w) A (call (.type "enumerate") [v]) Q E s := by
  refine callType_new F.called_enumerate (by decide) (F.typeCall_enumerate_1 _) (F.newCall_enumerate_1 _) (fun obj => F.args_object_init_2 obj _) F.entry_enumerate_new (meets_enumT B) ⟨h1, ?_⟩
  have hz : (s.heap.push o).objs.size = s.heap.objs.size + 1 := Heap.size_push ..
  show _ ∧ _
  rw [hz]
  have he : IsEnum ((s.heap.push o).push { cls := .type "enumerate", data := .fields #[.none, .bool false, .ref s.heap.objs.size, rawInt 0, .none, .none] }) (s.heap.objs.size + 1) s.heap.objs.size 0 .none := by
    have z := Heap.get?_push_size (s.heap.push o) (o := { cls := .type "enumerate", data := .fields #[.none, .bool false, .ref s.heap.objs.size, rawInt 0, .none, .none] }) rfl
    rw [hz] at z
    exact z
  exact ⟨⟨_, he, rfl⟩, h _ he (Heap.get?_push_of_some _ (Heap.get?_push_size _ B.free)) fun b o x => Heap.get?_push_of_some _ (Heap.get?_push_of_some _ x)⟩
end
end PySem
namespace Ent
open PySem PySem.Spec PyProof.Rows L2
/-- the items of the tuple at a, each in a new pair with its place -/
def IteT (K : PySem.W.Frag) (a : Addr) : It :=
  ⟨fun i H => ∃ (xs : List V) (x : V), SqT K H a xs ∧ xs[i]? = some x, fun i H v H' => ∃ T x, v = .ref T ∧ H T = none ∧ H' = upd H T (.tup [.int (i : Nat), x]) ∧ ∀ xs, SqT K H a xs → xs[i]? = some x, fun i H => ∃ xs : List V, SqT K H a xs ∧ xs.length ≤ i⟩
theorem turn_enumT {P : Program} {w : World} {K : PySem.W.Frag} {elts : List Expr} {kk : Nat} {tpos : Pos} (a e it : Addr) (hae : a ≠ e) (hai : a ≠ it) :
    Turn P w K (.Tuple elts kk tpos) (IteT K a) [e, it] e (fun i h => (∃ old, IsEnum h e it ((i : Nat) : Int) old) ∧ h.IsTupleIter it a i ∧ e ≠ it) where
  mem := by simp
  obj := fun i h st b hb => by
    obtain ⟨⟨old, he⟩, ⟨o, ho, hc, hd⟩, _⟩ := st
    have e' : b = e ∨ b = it := by simpa using hb
    rcases e' with z | z
    · rw [z]; exact ⟨_, he, fun v q => nomatch q⟩
    · rw [z]; exact ⟨o, ho, fun v q => by rw [hd] at q; cases q⟩
  keep := fun i h h' st k => let ⟨⟨old, he⟩, hi, hne⟩ := st; ⟨⟨old, k e (by simp) _ he⟩, hi.at fun o q => k it (by simp) o q, hne⟩
  item := by
    intro X hP hw hK hc i pins s σ H E I hf st hg
    subst hP hw hK
    obtain ⟨⟨old, he⟩, hit, hne⟩ := st
    obtain ⟨xs, x, hq, hx⟩ := hg
    obtain ⟨its, rv, p, hz⟩ := I.tuple hq
    obtain ⟨u, hu, ru⟩ := rv.get hx
    have hel : e < s.heap.objs.size := Heap.lt_size he
    have hil : it < s.heap.objs.size := by obtain ⟨_, q, _⟩ := hit; exact Heap.lt_size q
    have hlt : i < its.toArray.size := by
      rw [List.size_toArray]
      exact (List.getElem?_eq_some_iff.mp hu).1
    refine wpAny_pyNext_enum_itemD (Draws.tuple (A := X.A.in1) (I.ok.hd hc) it a hai its.toArray) he ⟨hit, show s.heap.IsTuple a its.toArray from p⟩ hlt hne (by simp [hne, Ne.symm hae]) fun y h' tk hy ho hst hT hsz hk => ?_
    obtain ⟨hit', _⟩ := hst
    have ey : y = u := by
      have hu' : its.toArray[i]? = some u := by simpa using hu
      rw [hy] at hu'
      exact Option.some.inj hu'
    subst ey
    refine ⟨_, rfl, wpAny_letOwnedTupleGo_enum (s := { s with heap := h', toks := tk + 1 }) ho fun h'' he' sb => ?_⟩
    have hT2 : h''.get? s.heap.objs.size = some { cls := .type "tuple", data := .seq #[.int i tk, y] } := (sb.2 _ (Nat.ne_of_gt hel)).trans hT
    have new : ObjOk X.prog X.w (upd H s.heap.objs.size (.tup [.int (i : Nat), x])) h'' s.heap.objs.size (.tup [.int (i : Nat), x]) :=
      ⟨by show 2 ≤ sizeLine; decide, [.int i tk, y], .cons ⟨_, rfl⟩ (.cons ru .nil), ⟨_, hT2, rfl, _, rfl⟩⟩
    have I1 : Inv X pins σ (upd H s.heap.objs.size (.tup [.int (i : Nat), x])) { s with heap := h'', toks := tk + 1 } :=
      I.turnedNew (ch := [e, it]) (fun b ob hb q => (sb.2 b (fun z => hb (by simp [z]))).trans (hk b ob (fun z => hb (by simp [z])) (fun z => hb (by simp [z])) q)) hf (Nat.le_refl _) new
    refine ⟨.ref s.heap.objs.size, _, I1, rfl, ⟨_, x, rfl, I.hok.fresh (Nat.le_refl _), rfl, fun ys hy => by rw [I.tuple_inj hy hq]; exact hx⟩, ⟨⟨y, ?_⟩, hit'.at fun o q => (sb.2 it (Ne.symm hne)).trans q, hne⟩, fun b hb => ?_⟩
    · have e1 : ((i + 1 : Nat) : Int) = (i : Int) + 1 := by omega
      rw [e1]
      exact he'
    · have hb' : b < s.heap.objs.size := by
        have e' : b = e ∨ b = it := by simpa using hb
        rcases e' with z | z
        · rw [z]; exact hel
        · rw [z]; exact hil
      rw [upd_ne (Nat.ne_of_lt hb')]
      exact (hf b hb).1
  done := by
    intro X hP hw hK hc i pins s σ H E I hf st hg
    subst hP hw hK
    obtain ⟨⟨old, he⟩, hit, hne⟩ := st
    obtain ⟨xs, hq, hx⟩ := hg
    obtain ⟨its, rv, p, hz⟩ := I.tuple hq
    obtain ⟨f0, f1, f2, f3, f4, f5⟩ := hf it (by simp)
    have hl := rv.length
    have D : Draws X.prog X.w X.A.in1 it [it, a] i (fun _ _ => False) (fun j h => h.IsTupleIter it a j ∧ h.IsTuple a its.toArray ∧ j = i) := {
      live := fun _ _ st => let ⟨o, ho, _⟩ := st.1; ⟨o, ho⟩
      frame := fun _ _ _ st hk => ⟨st.1.at fun o e => hk it (by simp) o e, st.2.1.at fun o e => hk a (by simp) o e, st.2.2⟩
      item := fun j s Q E hj st hQ => absurd st.2.2 (Nat.ne_of_lt hj)
      done := fun s Q E st hE => wpAny_nextOf_tuple_end (I.ok.hd hc) st.1 st.2.1 (by simp; omega) hE }
    exact wpAny_pyNext_enum_endD D he ⟨hit, show s.heap.IsTuple a its.toArray from p, rfl⟩ fun h' eb => ⟨rfl, I.turned (t' := s.toks) (fun b o hb q => eb b o hb q) f0 f1 f3 f4 f5⟩
  self := fun A i s Q E st h => let ⟨⟨_, he⟩, _⟩ := st; wpAny_pyIter_enum he h
def iEnumT (K : PySem.W.Frag) (ta : TA) : TI := fun σ H R => ta σ H fun vs H1 => ∃ a xs, vs = [.ref a] ∧ SqT K H1 a xs ∧ R (IteT K a) H1
theorem pi_enumT {X : Cx} {e : Expr} {ta : TA} {p pos tpos : Pos} {elts : List Expr} {kk : Nat} (hg : Gl X "enumerate") (hm : X.mg "enumerate" = none) (ha : PA X [e] ta) (hs : starEach [e] X.env = [(false, eval e X.env)] := by rfl) :
    PI X (.Tuple elts kk tpos) (.Call (.Name "enumerate" p) [e] [] pos) (iEnumT X.K ta) := by
  refine ⟨fun pins s σ H R I h => ?_⟩
  refine Call_ (ld_blt I hg hm boot_enumerate (PyProof.Rows.callWith_type1 (thn (ha.run pos pins s σ H _ I h) fun us s1 ⟨vs, H1, I1, r1, q1⟩ => ?_) hs rfl))
  obtain ⟨a, xs, ex, hq, q⟩ := q1
  subst ex
  cases r1 with
  | cons r rr =>
    cases rr
    cases r
    obtain ⟨its, rv, p', hz⟩ := I1.tuple hq
    have hlt : a < s1.heap.objs.size := p'.lt
    refine enumT_begins (begins_tuple a its.toArray) (show s1.heap.IsTuple a its.toArray from p') fun h' he hit hk => wpAny_pyIter_enum he ?_
    have I2 : Inv X pins σ H1 { s1 with heap := h' } := I1.kept (t' := s1.toks) hk
    refine ⟨s1.heap.objs.size + 1, [s1.heap.objs.size + 1, s1.heap.objs.size], _, _, H1, rfl, I2, turn_enumT a (s1.heap.objs.size + 1) s1.heap.objs.size (Nat.ne_of_lt (Nat.lt_succ_of_lt hlt)) (Nat.ne_of_lt hlt), ⟨⟨.none, he⟩, ⟨_, hit, rfl, rfl⟩, Nat.succ_ne_self _⟩, fun b hb => ?_, q⟩
    have e' : b = s1.heap.objs.size + 1 ∨ b = s1.heap.objs.size := by simpa using hb
    have hle : s1.heap.objs.size ≤ b := by
      rcases e' with z | z
      · rw [z]; exact Nat.le_add_right _ _
      · rw [z]; exact Nat.le_refl _
    exact I1.fpOk hle (I1.hok.fresh hle)
end Ent

/-! tuple * int, the count 0 and 1 too. -/
namespace Tm
open PySem PySem.Spec PyProof.Rows L2
open PySem.AutoSeq1 (wpAny_loadPart')
theorem mul_one (l : Addr) (items : Array Value) (n : Nat) (dd : Option Addr) (sl : Array (Option Value)) (u : Tok) :
    Meets (Builtin.«tuple.__mul__» ⟨[.ref l, .int 1 u], []⟩) (fun _ R s => s.heap.get? l = some { cls := .type "tuple", dict := dd, data := .seq items n, slots := sl } ∧ R (.ok (.ret (Value.ref l))) s) :=
  .of_wp fun prog w A R s h => by
    obtain ⟨hp, g, d, tk, os⟩ := s
    obtain ⟨hl, h⟩ := h
    have f1 := AutoSeq1.idx_int
    have c1 : (items.isEmpty || (1 : Int) == 1) = true := by simp
    wp_walk using wpAny_loadPart' hl
    repeat (first
      | (refine wpAny_ite_false (decide_eq_false (by decide)) ?_; wp_walk using wpAny_loadPart' hl)
      | (refine wpAny_ite_true (decide_eq_true c1) ?_; wp_walk using wpAny_loadPart' hl)
      | (rw [if_pos c1]; wp_walk using wpAny_loadPart' hl))
    exact ⟨_, rfl, h⟩
theorem mul_zero (l : Addr) (items : Array Value) (n : Nat) (dd : Option Addr) (sl : Array (Option Value)) (u : Tok) (hne : items.isEmpty = false) :
    Meets (Builtin.«tuple.__mul__» ⟨[.ref l, .int 0 u], []⟩) (fun _ R s => s.heap.get? l = some { cls := .type "tuple", dict := dd, data := .seq items n, slots := sl } ∧
      R (.ok (.ret (Value.ref s.heap.objs.size))) { s with heap := s.heap.push { cls := Value.type "tuple", data := Data.seq #[] }, toks := s.toks }) :=
  .of_wp fun prog w A R s h => by
    obtain ⟨hp, g, d, tk, os⟩ := s
    obtain ⟨hl, h⟩ := h
    have f1 := AutoSeq1.idx_int
    have c1 : ¬ (items.isEmpty || (0 : Int) == 1) = true := by rw [hne]; decide
    wp_walk using wpAny_loadPart' hl
    repeat (first
      | (refine wpAny_ite_false (decide_eq_false c1) ?_; wp_walk using wpAny_loadPart' hl)
      | (refine wpAny_ite_false (decide_eq_false (by decide)) ?_; wp_walk using wpAny_loadPart' hl)
      | (refine wpAny_ite_true (decide_eq_true (by simp)) ?_; wp_walk using wpAny_loadPart' hl))
    exact ⟨_, rfl, h⟩
def rRepN (K : PySem.W.Frag) : R2 := fun x y H Q => ∃ l k xs, x = .ref l ∧ y = .int k ∧ SqT K H l xs ∧ xs ≠ [] ∧ 0 ≤ k ∧ k ≤ 1000 ∧ xs.length ≤ 1000 ∧
  ∀ p H', (H' = H ∨ (H p = none ∧ H' = upd H p (.tup (List.replicate k.toNat xs).flatten))) → SqT K H' p (List.replicate k.toNat xs).flatten → Q (.ref p) H'
section
variable {X : Cx}
theorem op_repN : OpR X (binaryOp .Mult) (rRepN X.K) := by
  intro pins s σ H x y v u Q I rx ry h
  obtain ⟨l, k, xs, ex, ey, hT, hne, h0, h1, hz, q⟩ := h
  by_cases h2 : 2 ≤ k
  · exact op_repT pins s σ H x y v u Q I rx ry ⟨l, k, xs, ex, ey, hT, hne, h2, h1, hz, fun p np => q p _ (.inr ⟨np, rfl⟩) (SqT.of upd_same)⟩
  subst ex ey
  cases rx
  obtain ⟨t, rfl⟩ := ry
  obtain ⟨its, r, ⟨⟨cls, dd, data, sl⟩, ho, hc, n, hd⟩, hs⟩ := I.tuple hT
  simp only at hc hd
  subst hc hd
  have hi : its.toArray.isEmpty = false := by
    cases its with
    | nil => cases r; exact absurd rfl hne
    | cons a b => rfl
  by_cases e1 : k = 1
  · subst e1
    refine wpAny_binaryOp_repeat_ref (T := "tuple") (U := "int") (by decide) ⟨_, ho, rfl⟩ (fun s' => typeIs_int s' 1 t) noFill_tuple_mul F.fills_int_mul F.slot_int_rmul repeat_tuple F.slot_int_index.lookup
      (call_meets F.slot_int_rmul (typeIs_int s 1 t) F.entry_int_rmul (F.args_int_rmul_2 _ _) (int_rmul_tuple 1 t l its.toArray n dd sl)
        ⟨ho, rfl, ⟨_, ho, rfl⟩, call_meets F.slot_tuple_mul ⟨_, ho, rfl⟩ F.entry_tuple_mul (F.args_tuple_mul_2 _ _) (mul_one l its.toArray n dd sl t) ⟨ho, ?_⟩⟩)
    have e : (List.replicate (1 : Int).toNat xs).flatten = xs := by
      show [xs].flatten = xs
      simp
    refine ⟨.ref l, H, I, rfl, q l H (.inl rfl) ?_⟩
    rw [e]
    exact hT
  · have e0 : k = 0 := by omega
    subst e0
    refine wpAny_binaryOp_repeat_ref (T := "tuple") (U := "int") (by decide) ⟨_, ho, rfl⟩ (fun s' => typeIs_int s' 0 t) noFill_tuple_mul F.fills_int_mul F.slot_int_rmul repeat_tuple F.slot_int_index.lookup
      (call_meets F.slot_int_rmul (typeIs_int s 0 t) F.entry_int_rmul (F.args_int_rmul_2 _ _) (int_rmul_tuple 0 t l its.toArray n dd sl)
        ⟨ho, rfl, ⟨_, ho, rfl⟩, call_meets F.slot_tuple_mul ⟨_, ho, rfl⟩ F.entry_tuple_mul (F.args_tuple_mul_2 _ _) (mul_zero l its.toArray n dd sl t hi) ⟨ho, ?_⟩⟩)
    have nf : H s.heap.objs.size = none := I.hok.fresh (Nat.le_refl _)
    refine ⟨.ref s.heap.objs.size, _, I.laid (t' := s.toks) (o := .tup []) (fun b ob q => Heap.get?_push_of_some _ q) (Nat.le_refl _) ?_, rfl, q _ _ (.inr ⟨nf, rfl⟩) (SqT.of upd_same)⟩
    exact ⟨Nat.zero_le _, [], .nil, IsTup.new _ _⟩
end
end Tm

/-! Machines as data. -/
namespace Dv
open PySem PySem.Spec PyProof.Rows L2 GxR Gx

structure Case where
  cond : C
  moves : List Int
  says : List (Int × Int)
  nxt : Nat
structure M where
  tags : Nat
  regs : Nat
  steps : List (List (List Case))
def encSay (p : Int × Int) : D := .tup [.int p.1, .int p.2]
def encCase (c : Case) : D := .tup [encC c.cond, .tup (c.moves.map .int), .tup (c.says.map encSay), .int c.nxt]
def encCases (cs : List Case) : D := .tup (cs.map encCase)
def encSt (s : List (List Case)) : D := .tup (s.map encCases)
def encM (m : M) : D := .tup [.int m.tags, .int m.regs, .tup (m.steps.map encSt)]
def encCt (st : Nat) (h : List (Option Int)) : D := .tup [.int st, encH h]
def encE (e : Nat × Int) : D := .tup [.int e.1, .int e.2]
def encA1 (p : Int × Option Int) : D := .tup [.int p.1, encO p.2]
def encA (a : List (Int × Option Int)) : D := .tup (a.map encA1)

structure okCase (r S n : Nat) (c : Case) : Prop where
  cond : okC r n c.cond
  mlen : c.moves.length = r
  mv : ∀ s ∈ c.moves, -2 ≤ s ∧ s < r
  say : ∀ p ∈ c.says, 0 ≤ p.1 ∧ -2 ≤ p.2 ∧ p.2 < r
  slen : c.says.length ≤ 1000
  nxt : c.nxt < S
structure okM (n : Nat) (m : M) : Prop where
  tags : 1 ≤ m.tags
  tmax : m.tags ≤ 1000
  rmax : m.regs ≤ 1000
  some : 0 < m.steps.length
  smax : m.steps.length ≤ 1000
  all : ∀ s ∈ m.steps, s.length = m.tags
  cases : ∀ s ∈ m.steps, ∀ cs ∈ s, cs.length ≤ 1000 ∧ ∀ c ∈ cs, okCase m.regs m.steps.length n c

def M.cases (m : M) (st t : Nat) : List Case := (m.steps.getD st []).getD t []
def holdC (v : Int) (h : List (Option Int)) (c : Case) : Bool := hold v h c.cond
def idxC (v : Int) (h : List (Option Int)) (cs : List Case) : Option Nat := cs.findIdx? (holdC v h)
def saidC (v : Int) (h : List (Option Int)) (c : Case) : List (Int × Option Int) := c.says.map fun p => (p.1, worth v h p.2)
def keptC (v : Int) (h : List (Option Int)) (c : Case) : List (Option Int) := c.moves.map (worth v h)
/-- the standing, the held values and the answer behind an entry -/
def readM (m : M) (st : Nat) (h : List (Option Int)) (e : Nat × Int) : Nat × List (Option Int) × List (Int × Option Int) :=
  match (m.cases st e.1).find? (holdC e.2 h) with
  | none => (st, h, [])
  | some c => (c.nxt, keptC e.2 h c, saidC e.2 h c)
def encR (r : Nat × List (Option Int) × List (Int × Option Int)) : D := .tup [encCt r.1 r.2.1, encA r.2.2]
def oN : Option Nat → V
  | none => .non
  | some k => .int k

theorem M.cases_at {m : M} {st t : Nat} {n : Nat} (ok : okM n m) (hs : st < m.steps.length) (ht : t < m.tags) :
    ∃ s, m.steps[st]? = some s ∧ s[t]? = some (m.cases st t) ∧ (m.cases st t).length ≤ 1000 ∧ ∀ c ∈ m.cases st t, okCase m.regs m.steps.length n c := by
  have hm : m.steps[st] ∈ m.steps := List.getElem_mem hs
  have hl : t < m.steps[st].length := by rw [ok.all _ hm]; exact ht
  have e : m.cases st t = m.steps[st][t] := by
    unfold M.cases
    have e1 : m.steps.getD st [] = m.steps[st] := by
      rw [List.getD_eq_getElem?_getD, List.getElem?_eq_getElem hs]
      rfl
    rw [e1, List.getD_eq_getElem?_getD, List.getElem?_eq_getElem hl]
    rfl
  refine ⟨m.steps[st], List.getElem?_eq_getElem hs, by rw [e]; exact List.getElem?_eq_getElem hl, ?_⟩
  rw [e]
  exact ok.cases _ hm _ (List.getElem_mem hl)

section
variable {K : PySem.W.Frag} {H : Hp} {α : Type} {f : α → D}
theorem Ats.at {xs : List V} {l : List α} {i : Nat} {a : α} (h : Ats K H xs (l.map f)) (e : l[i]? = some a) : ∃ x, xs[i]? = some x ∧ At K H x (f a) :=
  h.get (by rw [List.getElem?_map, e]; rfl)
theorem Ats.len {xs : List V} {l : List α} (h : Ats K H xs (l.map f)) : xs.length = l.length := by rw [h.length, List.length_map]
theorem Ats.snoc {xs : List V} {l : List α} {x : V} {a : α} (h : Ats K H xs (l.map f)) (hx : At K H x (f a)) : Ats K H (xs ++ [x]) ((l ++ [a]).map f) := by
  rw [List.map_append]
  exact h.append (Ats.mk hx Ats.mk_nil)
theorem ats_int {xs : List V} {l : List Int} : Ats K H xs (l.map D.int) ↔ xs = l.map V.int := by
  constructor
  · intro h
    refine List.ext_getElem? fun i => ?_
    rw [List.getElem?_map]
    cases e : l[i]? with
    | none =>
      have hl := h.len
      have : l.length ≤ i := List.getElem?_eq_none_iff.mp e
      rw [List.getElem?_eq_none (by omega)]
      rfl
    | some a =>
      obtain ⟨x, h1, h2⟩ := h.at e
      rw [h1, at_int.mp h2]
      rfl
  · rintro rfl
    refine Ats.of_forall (by rw [List.length_map, List.length_map]) fun i x d h1 h2 => ?_
    rw [List.getElem?_map] at h1 h2
    cases e : l[i]? with
    | none => rw [e] at h1; cases h1
    | some a =>
      rw [e] at h1 h2
      cases h1
      cases h2
      exact at_int.mpr rfl
end
theorem at_natI {xs : List V} {i : Nat} {x : V} (h : xs[i]? = some x) : atI xs ((i : Nat) : Int) = some x := atI_nat h
theorem idxC_find (v : Int) (h : List (Option Int)) (cs : List Case) : (idxC v h cs = none ∧ cs.find? (holdC v h) = none) ∨ ∃ k c, idxC v h cs = some k ∧ cs[k]? = some c ∧ cs.find? (holdC v h) = some c := by
  unfold idxC
  induction cs with
  | nil => exact .inl ⟨rfl, rfl⟩
  | cons c cs ih =>
    rw [List.findIdx?_cons, List.find?_cons]
    cases hb : holdC v h c with
    | true => exact .inr ⟨0, c, by simp, rfl, rfl⟩
    | false =>
      rcases ih with ⟨h1, h2⟩ | ⟨k, c', h1, h2, h3⟩
      · exact .inl ⟨by simp [h1], h2⟩
      · exact .inr ⟨k + 1, c', by simp [h1], by simpa using h2, h3⟩
/-- a search that has come to i -/
theorem idxC_drop (v : Int) (h : List (Option Int)) (cs : List Case) {i : Nat} (hn : ∀ j c, j < i → cs[j]? = some c → holdC v h c = false) {c : Case} (hc : cs[i]? = some c) (hb : holdC v h c = true) : idxC v h cs = some i := by
  unfold idxC
  rw [List.findIdx?_eq_some_iff_getElem]
  obtain ⟨hi, e⟩ := List.getElem?_eq_some_iff.mp hc
  refine ⟨hi, by rw [e]; exact hb, fun j hj => ?_⟩
  rw [hn j _ hj (List.getElem?_eq_getElem (by omega))]
  exact Bool.false_ne_true
theorem idxC_none (v : Int) (h : List (Option Int)) (cs : List Case) (hn : ∀ (j : Nat) (c : Case), cs[j]? = some c → holdC v h c = false) : idxC v h cs = none := by
  unfold idxC
  rw [List.findIdx?_eq_none_iff]
  intro c hc
  obtain ⟨j, hj, e⟩ := List.getElem_of_mem hc
  exact hn j c (by rw [List.getElem?_eq_getElem hj, e])

/-! ### a list that is made item by item -/
def Col (K : PySem.W.Frag) (T ms : List Addr) (D : Addr) (H H' : Hp) (ds : List Dv.D) : Prop := Ex T ms H H' ∧ ∃ xs, H' D = some (.lst xs) ∧ Ats K H' xs ds
section
variable {K : PySem.W.Frag} {T ms : List Addr} {D : Addr} {H H0 H1 H2 : Hp} {ds : List Dv.D}
theorem Col.start (e : Ex T ms H H0) (n : H0 D = none) : Col K T ms D H (upd H0 D (.lst [])) [] := ⟨e.trans (Ex.new n), [], upd_same, Ats.mk_nil⟩
theorem Col.put (c : Col K T ms D H H1 ds) (free : H D = none) (nD : D ∉ ms) (wd : Wd T H) (e : Ex T ms H1 H2) {x : V} {d : Dv.D} (hx : At K H2 x d) (hl : ds.length ≤ 5000) :
    ∃ acc, H2 D = some (.lst acc) ∧ acc.length < sizeLine ∧ Col K T ms D H (upd H2 D (.lst (acc ++ [x]))) (ds ++ [d]) := by
  obtain ⟨ex, xs, hD, ats⟩ := c
  have hD2 : H2 D = some (.lst xs) := e.lst nD hD
  have exw : Ex T [D] H2 (upd H2 D (.lst (xs ++ [x]))) := Ex.write (by simp) hD2
  exact ⟨xs, hD2, small5000 (by rw [ats.length]; exact hl), (ex.trans e).put free wd, xs ++ [x], upd_same, ((ats.ext e).append (Ats.mk hx Ats.mk_nil)).ext exw⟩
theorem Col.ne (c : Col K T ms D H H1 ds) {p : Addr} (n : H1 p = none) : D ≠ p := by
  obtain ⟨_, xs, hD, _⟩ := c
  exact ne_of_none hD n
end
theorem Col.ext {K : PySem.W.Frag} {T ms : List Addr} {D : Addr} {H H1 H2 : Hp} {ds : List Dv.D} (c : Col K T ms D H H1 ds) (nD : D ∉ ms) (e : Ex T ms H1 H2) : Col K T ms D H H2 ds := by
  obtain ⟨ex, xs, hD, ats⟩ := c
  exact ⟨ex.trans e, xs, e.lst nD hD, ats.ext e⟩
theorem take_map {α β : Type} (f : α → β) (l : List α) {i : Nat} {a : α} (h : l[i]? = some a) : (l.take i).map f ++ [f a] = (l.take (i + 1)).map f := by
  rw [List.take_add_one, h, List.map_append]
  rfl
theorem take_len {α β : Type} (f : α → β) (l : List α) (i n : Nat) (h : l.length ≤ n) : ((l.take i).map f).length ≤ n := by
  rw [List.length_map, List.length_take]
  exact Nat.le_trans (Nat.min_le_right _ _) h
theorem oV_len {h : List (Option Int)} : (h.map oV).length = h.length := List.length_map ..
theorem wipe1 {σ : L2.St} {i : Nat} {x : Option V} : wipe ((wipe σ [i]).set i x) [i] = wipe σ [i] := by
  show (((σ.set i none).set i x).set i none) = σ.set i none
  rw [List.set_set, List.set_set]
theorem wipe2 {σ : L2.St} {i j : Nat} {x y : Option V} (h : i ≠ j) : wipe (((wipe σ [i, j]).set i x).set j y) [i, j] = wipe σ [i, j] := by
  show (((((σ.set j none).set i none).set i x).set j y).set j none).set i none = (σ.set j none).set i none
  rw [List.set_set, List.set_comm _ _ h, List.set_set, List.set_comm _ _ h, List.set_set, List.set_set]

/-! ### logs -/
abbrev Ct := Nat × List (Option Int)
def stepM (m : M) (c : Ct) (e : Nat × Int) : Ct := ((readM m c.1 c.2 e).1, (readM m c.1 c.2 e).2.1)
def contM (m : M) (c : Ct) (es : List (Nat × Int)) : Ct := es.foldl (stepM m) c
def answersM (m : M) : Ct → List (Nat × Int) → List (List (Int × Option Int))
  | _, [] => []
  | c, e :: es => (readM m c.1 c.2 e).2.2 :: answersM m (stepM m c e) es
theorem answersM_append (m : M) : ∀ (c : Ct) (es fs : List (Nat × Int)), answersM m c (es ++ fs) = answersM m c es ++ answersM m (contM m c es) fs
  | c, [], fs => rfl
  | c, e :: es, fs => by
    show _ :: answersM m (stepM m c e) (es ++ fs) = _
    rw [answersM_append m (stepM m c e) es fs]
    rfl
theorem contM_append (m : M) (c : Ct) (es fs : List (Nat × Int)) : contM m c (es ++ fs) = contM m (contM m c es) fs := List.foldl_append
theorem answersM_length (m : M) : ∀ (c : Ct) (es : List (Nat × Int)), (answersM m c es).length = es.length
  | c, [] => rfl
  | c, e :: es => by
    show (answersM m (stepM m c e) es).length + 1 = es.length + 1
    rw [answersM_length m]
structure okCt (m : M) (c : Ct) : Prop where
  st : c.1 < m.steps.length
  len : c.2.length = m.regs
theorem okCt.step {m : M} {c : Ct} {n : Nat} {e : Nat × Int} (h : okCt m c) (ok : okM n m) (ht : e.1 < m.tags) : okCt m (stepM m c e) := by
  obtain ⟨_, _, _, _, hc⟩ := M.cases_at ok h.st ht
  unfold stepM readM
  cases ef : (m.cases c.1 e.1).find? (holdC e.2 c.2) with
  | none => exact h
  | some k =>
    have okc := hc k (List.mem_of_find?_eq_some ef)
    exact ⟨okc.nxt, by show (keptC e.2 c.2 k).length = m.regs; unfold keptC; rw [List.length_map, okc.mlen]⟩
theorem okCt.cont {m : M} {n : Nat} (ok : okM n m) : ∀ {es : List (Nat × Int)} {c : Ct}, okCt m c → (∀ e ∈ es, e.1 < m.tags) → okCt m (contM m c es)
  | [], c, h, _ => h
  | e :: es, c, h, ht => okCt.cont ok (es := es) (h.step ok (ht e (by simp))) fun f hf => ht f (by simp [hf])
/-- a log that lies in a list or in a tuple -/
def Sq (K : PySem.W.Frag) (H : Hp) (a : Addr) (xs : List V) : Prop := SqL K H a xs ∨ SqT K H a xs
def Lg (K : PySem.W.Frag) (H : Hp) (v : V) (es : List (Nat × Int)) : Prop := ∃ a xs, v = .ref a ∧ Sq K H a xs ∧ Ats K H xs (es.map encE)
section
variable {K : PySem.W.Frag} {T : List Addr} {H H1 : Hp}
theorem Sq.ext {a : Addr} {xs : List V} (h : Sq K H a xs) (e : Ex T [] H H1) : Sq K H1 a xs := h.imp (e.sqL (by simp)) e.sqT
theorem Lg.ext {v : V} {es : List (Nat × Int)} (h : Lg K H v es) (e : Ex T [] H H1) : Lg K H1 v es := by
  obtain ⟨a, xs, rfl, s, t⟩ := h
  exact ⟨a, xs, rfl, s.ext e, t.ext e⟩
theorem Lg.tup {v : V} {es : List (Nat × Int)} (h : At K H v (.tup (es.map encE))) : Lg K H v es := by
  obtain ⟨a, xs, rfl, s, t⟩ := at_tup.mp h
  exact ⟨a, xs, rfl, .inr s, t⟩
end
theorem pi_or {X : Cx} {tg e : Expr} {u v : TI} (h1 : PI X tg e u) (h2 : PI X tg e v) : PI X tg e (fun σ H R => u σ H R ∨ v σ H R) :=
  ⟨fun pins s σ H R I h => h.elim (h1.run pins s σ H R I) (h2.run pins s σ H R I)⟩
end Dv

/-! == of data at any depth. -/
namespace Dv
open PySem PySem.Spec PyProof.Rows L2 GxR Gx
mutual
def toPy : D → PyData
  | .non => .none
  | .bl b => .bool b
  | .int i => .int i
  | .str s => .str s
  | .tup ds => .tuple (toPys ds)
def toPys : List D → List PyData
  | [] => []
  | d :: ds => toPy d :: toPys ds
end
mutual
def plD : Nat → D → Prop
  | 0, .tup _ => False
  | n + 1, .tup ds => plDs n ds
  | _, .str _ => False
  | _, _ => True
def plDs : Nat → List D → Prop
  | _, [] => True
  | n, d :: ds => plD n d ∧ plDs n ds
end
section
variable {K : PySem.W.Frag} {H : Hp}
mutual
theorem At.dp : ∀ {v : V} {d : D}, At K H v d → Dp K H v (toPy d)
  | v, .non, h => by rw [at_non.mp h]; unfold toPy; exact .non
  | v, .bl b, h => by rw [at_bl.mp h]; unfold toPy; exact .bl b
  | v, .int i, h => by rw [at_int.mp h]; unfold toPy; exact .int i
  | v, .str s, h => by rw [at_str.mp h]; unfold toPy; exact .str s
  | v, .tup ds, h => by
    obtain ⟨a, xs, rfl, q, r⟩ := at_tup.mp h
    unfold toPy
    exact .tup q (Ats.dp r)
theorem Ats.dp : ∀ {xs : List V} {ds : List D}, Ats K H xs ds → DpAll K H xs (toPys ds)
  | xs, [], h => by rw [ats_nil.mp h]; unfold toPys; exact .nil
  | xs, d :: ds, h => by
    obtain ⟨x, r, rfl, q, t⟩ := ats_cons.mp h
    unfold toPys
    exact .cons (At.dp q) (Ats.dp t)
end
end
mutual
theorem plD_lay : ∀ {n : Nat} {d : D}, plD n d → (toPy d).canLay0 = true ∧ (toPy d).depth ≤ n
  | n, .non, _ => by unfold toPy PyData.canLay0 PyData.depth; exact ⟨rfl, Nat.zero_le _⟩
  | n, .bl b, _ => by unfold toPy PyData.canLay0 PyData.depth; exact ⟨rfl, Nat.zero_le _⟩
  | n, .int i, _ => by unfold toPy PyData.canLay0 PyData.depth; exact ⟨rfl, Nat.zero_le _⟩
  | 0, .str s, h => by unfold plD at h; exact h.elim
  | n + 1, .str s, h => by unfold plD at h; exact h.elim
  | 0, .tup ds, h => by unfold plD at h; exact h.elim
  | n + 1, .tup ds, h => by
    unfold plD at h
    have z := plDs_lay h
    unfold toPy PyData.canLay0 PyData.depth
    exact ⟨z.1, Nat.succ_le_succ z.2⟩
theorem plDs_lay : ∀ {n : Nat} {ds : List D}, plDs n ds → PyData.canLayAll0 (toPys ds) = true ∧ PyData.depthAll (toPys ds) ≤ n
  | n, [], _ => by unfold toPys PyData.canLayAll0 PyData.depthAll; exact ⟨rfl, Nat.zero_le _⟩
  | n, d :: ds, h => by
    unfold plDs at h
    have z1 := plD_lay h.1
    have z2 := plDs_lay h.2
    unfold toPys PyData.canLayAll0 PyData.depthAll
    exact ⟨by rw [z1.1, z2.1]; rfl, Nat.max_le.mpr ⟨z1.2, z2.2⟩⟩
end
theorem plD_shaped {n : Nat} {d : D} (h : plD n d) (hn : n ≤ 64) : SeqAt.shaped (toPy d) = true := by
  have z := plD_lay h
  unfold SeqAt.shaped
  rw [z.1, decide_eq_true (Nat.le_trans z.2 hn)]
  rfl
theorem plD_refl {n : Nat} {d : D} (h : plD n d) : PyData.eqv (toPy d) (toPy d) = true := SeqAt.eqv_refl _ (plD_lay h).1
/-- equal data, compared -/
theorem eqD_same {K : PySem.W.Frag} {H : Hp} {x y : V} {d : D} {n : Nat} {Q : VK} (hx : At K H x d) (hy : At K H y d) (h : plD n d) (hn : n ≤ 64) (q : Q (.bl true) H) : rEqD K x y H Q :=
  ⟨_, _, hx.dp, hy.dp, plD_shaped h hn, plD_shaped h hn, by rw [plD_refl h]; exact q⟩
theorem neD_same {K : PySem.W.Frag} {H : Hp} {x y : V} {d : D} {n : Nat} {Q : VK} (hx : At K H x d) (hy : At K H y d) (h : plD n d) (hn : n ≤ 64) (q : Q (.bl false) H) : rNeD K x y H Q :=
  ⟨_, _, hx.dp, hy.dp, plD_shaped h hn, plD_shaped h hn, by rw [plD_refl h]; exact q⟩
theorem plDs_map {α : Type} {f : α → D} {n : Nat} : ∀ {l : List α}, (∀ a ∈ l, plD n (f a)) → plDs n (l.map f)
  | [], _ => by rw [List.map_nil]; unfold plDs; trivial
  | a :: l, h => by
    rw [List.map_cons]
    unfold plDs
    exact ⟨h a (by simp), plDs_map fun b hb => h b (by simp [hb])⟩
theorem plD_int {n : Nat} {i : Int} : plD n (.int i) := by cases n <;> (unfold plD; trivial)
theorem plD_tup {n : Nat} {ds : List D} (h : plDs n ds) : plD (n + 1) (.tup ds) := by unfold plD; exact h
theorem plDs_cons {n : Nat} {d : D} {ds : List D} (h : plD n d) (t : plDs n ds) : plDs n (d :: ds) := by unfold plDs; exact ⟨h, t⟩
theorem plDs_nil {n : Nat} : plDs n [] := by unfold plDs; trivial
theorem plD_encO {n : Nat} {o : Option Int} : plD n (encO o) := by cases o <;> cases n <;> (unfold encO plD; trivial)
theorem plD_encH {n : Nat} {h : List (Option Int)} : plD (n + 1) (encH h) := plD_tup (plDs_map fun _ _ => plD_encO)
theorem plD_encCt {n st : Nat} {h : List (Option Int)} : plD (n + 2) (encCt st h) := plD_tup (plDs_cons plD_int (plDs_cons plD_encH plDs_nil))
theorem plD_encA {n : Nat} {a : List (Int × Option Int)} : plD (n + 2) (encA a) := plD_tup (plDs_map fun _ _ => plD_tup (plDs_cons plD_int (plDs_cons plD_encO plDs_nil)))
theorem plD_answers {n : Nat} {l : List (List (Int × Option Int))} : plD (n + 3) (.tup (l.map encA)) := plD_tup (plDs_map fun _ _ => plD_encA)
theorem plD_encE {n : Nat} {e : Nat × Int} : plD (n + 1) (encE e) := plD_tup (plDs_cons plD_int (plDs_cons plD_int plDs_nil))
theorem plD_log {n : Nat} {es : List (Nat × Int)} : plD (n + 2) (.tup (es.map encE)) := plD_tup (plDs_map fun _ _ => plD_encE)
/-- a list and a list of the same data -/
theorem neD_lists {K : PySem.W.Frag} {H : Hp} {a b : Addr} {xs ys : List V} {ds : List D} {n : Nat} {Q : VK} (h1 : SqL K H a xs) (hx : Ats K H xs ds) (h2 : SqL K H b ys) (hy : Ats K H ys ds) (h : plDs n ds) (hn : n ≤ 63) (q : Q (.bl false) H) : rNeD K (.ref a) (.ref b) H Q := by
  have z := plDs_lay h
  have s : SeqAt.shaped (.list (toPys ds)) = true := by
    unfold SeqAt.shaped
    have e1 : (PyData.list (toPys ds)).canLay0 = true := by unfold PyData.canLay0; exact z.1
    have e2 : (PyData.list (toPys ds)).depth ≤ 64 := by unfold PyData.depth; omega
    rw [e1, decide_eq_true e2]
    rfl
  refine ⟨.list (toPys ds), .list (toPys ds), .lst h1 hx.dp, .lst h2 hy.dp, s, s, ?_⟩
  rw [SeqAt.eqv_refl _ (SeqAt.canLay_of_shaped s)]
  exact q
end Dv

/-! == of two different data -/
namespace Dv
open PySem PySem.Spec PyProof.Rows L2 GxR Gx
mutual
def dqD : Nat → D → Prop
  | 0, .tup _ => False
  | n + 1, .tup ds => dqDs n ds
  | _, .str s => (toPy (.str s)).canLay0 = true
  | _, .bl _ => False
  | _, _ => True
def dqDs : Nat → List D → Prop
  | _, [] => True
  | n, d :: ds => dqD n d ∧ dqDs n ds
end
mutual
theorem dqD_lay : ∀ {n : Nat} {d : D}, dqD n d → (toPy d).canLay0 = true ∧ (toPy d).depth ≤ n
  | n, .non, _ => by unfold toPy PyData.canLay0 PyData.depth; exact ⟨rfl, Nat.zero_le _⟩
  | 0, .bl b, h => by unfold dqD at h; exact h.elim
  | n + 1, .bl b, h => by unfold dqD at h; exact h.elim
  | n, .int i, _ => by unfold toPy PyData.canLay0 PyData.depth; exact ⟨rfl, Nat.zero_le _⟩
  | 0, .str s, h => by unfold dqD at h; exact ⟨h, by unfold toPy PyData.depth; exact Nat.zero_le _⟩
  | n + 1, .str s, h => by unfold dqD at h; exact ⟨h, by unfold toPy PyData.depth; exact Nat.zero_le _⟩
  | 0, .tup ds, h => by unfold dqD at h; exact h.elim
  | n + 1, .tup ds, h => by
    unfold dqD at h
    have z := dqDs_lay h
    unfold toPy PyData.canLay0 PyData.depth
    exact ⟨z.1, Nat.succ_le_succ z.2⟩
theorem dqDs_lay : ∀ {n : Nat} {ds : List D}, dqDs n ds → PyData.canLayAll0 (toPys ds) = true ∧ PyData.depthAll (toPys ds) ≤ n
  | n, [], _ => by unfold toPys PyData.canLayAll0 PyData.depthAll; exact ⟨rfl, Nat.zero_le _⟩
  | n, d :: ds, h => by
    unfold dqDs at h
    have z1 := dqD_lay h.1
    have z2 := dqDs_lay h.2
    unfold toPys PyData.canLayAll0 PyData.depthAll
    exact ⟨by rw [z1.1, z2.1]; rfl, Nat.max_le.mpr ⟨z1.2, z2.2⟩⟩
end
theorem dq_bl {n : Nat} {b : Bool} : ¬ dqD n (.bl b) := fun h => by cases n <;> (unfold dqD at h; exact h.elim)
mutual
theorem dqD_eq : ∀ {n m : Nat} {d e : D}, dqD n d → dqD m e → PyData.eqv (toPy d) (toPy e) = true → d = e
  | n, m, .non, .non, _, _, _ => rfl
  | n, m, .bl b, e, h, _, _ => (dq_bl h).elim
  | n, m, d, .bl b, _, h, _ => (dq_bl h).elim
  | n, m, .int i, .int j, _, _, q => by unfold toPy PyData.eqv at q; rw [beq_iff_eq.mp q]
  | n, m, .str i, .str j, _, _, q => by unfold toPy PyData.eqv at q; rw [beq_iff_eq.mp q]
  | 0, m, .tup ds, .tup es, h, g, q => by unfold dqD at h; exact h.elim
  | n + 1, 0, .tup ds, .tup es, h, g, q => by unfold dqD at g; exact g.elim
  | n + 1, m + 1, .tup ds, .tup es, h, g, q => by
    unfold dqD at h g
    unfold toPy PyData.eqv at q
    rw [dqDs_eq h g q]
  | n, m, .non, .int _, _, _, q => by unfold toPy PyData.eqv at q; cases q
  | n, m, .non, .str _, _, _, q => by unfold toPy PyData.eqv at q; cases q
  | n, m, .non, .tup _, _, _, q => by unfold toPy PyData.eqv at q; cases q
  | n, m, .int _, .non, _, _, q => by unfold toPy PyData.eqv at q; cases q
  | n, m, .int _, .str _, _, _, q => by unfold toPy PyData.eqv at q; cases q
  | n, m, .int _, .tup _, _, _, q => by unfold toPy PyData.eqv at q; cases q
  | n, m, .str _, .non, _, _, q => by unfold toPy PyData.eqv at q; cases q
  | n, m, .str _, .int _, _, _, q => by unfold toPy PyData.eqv at q; cases q
  | n, m, .str _, .tup _, _, _, q => by unfold toPy PyData.eqv at q; cases q
  | n, m, .tup _, .non, _, _, q => by unfold toPy PyData.eqv at q; cases q
  | n, m, .tup _, .int _, _, _, q => by unfold toPy PyData.eqv at q; cases q
  | n, m, .tup _, .str _, _, _, q => by unfold toPy PyData.eqv at q; cases q
theorem dqDs_eq : ∀ {n m : Nat} {ds es : List D}, dqDs n ds → dqDs m es → PyData.eqvAll (toPys ds) (toPys es) = true → ds = es
  | n, m, [], [], _, _, _ => rfl
  | n, m, [], _ :: _, _, _, q => by unfold toPys PyData.eqvAll at q; cases q
  | n, m, _ :: _, [], _, _, q => by unfold toPys PyData.eqvAll at q; cases q
  | n, m, d :: ds, e :: es, h, g, q => by
    unfold dqDs at h g
    unfold toPys PyData.eqvAll at q
    have q2 := Bool.and_eq_true_iff.mp q
    rw [dqD_eq h.1 g.1 q2.1, dqDs_eq h.2 g.2 q2.2]
end
theorem dqD_shaped {n : Nat} {d : D} (h : dqD n d) (hn : n ≤ 64) : SeqAt.shaped (toPy d) = true := by
  have z := dqD_lay h
  unfold SeqAt.shaped
  rw [z.1, decide_eq_true (Nat.le_trans z.2 hn)]
  rfl
theorem dqDs_shaped {n : Nat} {ds : List D} (h : dqDs n ds) (hn : n ≤ 63) : SeqAt.shaped (.list (toPys ds)) = true := by
  have z := dqDs_lay h
  unfold SeqAt.shaped
  have e1 : (PyData.list (toPys ds)).canLay0 = true := by unfold PyData.canLay0; exact z.1
  have e2 : (PyData.list (toPys ds)).depth ≤ 64 := by unfold PyData.depth; omega
  rw [e1, decide_eq_true e2]
  rfl
section
variable {K : PySem.W.Frag} {H : Hp} {Q : VK}
theorem eqD_case {x y : V} {d e : D} {n m : Nat} (hx : At K H x d) (hy : At K H y e) (h : dqD n d) (g : dqD m e) (hn : n ≤ 64) (hm : m ≤ 64) (q1 : d = e → Q (.bl true) H) (q2 : d ≠ e → Q (.bl false) H) : rEqD K x y H Q := by
  refine ⟨_, _, hx.dp, hy.dp, dqD_shaped h hn, dqD_shaped g hm, ?_⟩
  cases c : PyData.eqv (toPy d) (toPy e) with
  | true => exact q1 (dqD_eq h g c)
  | false => exact q2 fun he => by subst he; rw [SeqAt.eqv_refl _ (dqD_lay h).1] at c; cases c
theorem neD_case {x y : V} {d e : D} {n m : Nat} (hx : At K H x d) (hy : At K H y e) (h : dqD n d) (g : dqD m e) (hn : n ≤ 64) (hm : m ≤ 64) (q1 : d = e → Q (.bl false) H) (q2 : d ≠ e → Q (.bl true) H) : rNeD K x y H Q := by
  refine ⟨_, _, hx.dp, hy.dp, dqD_shaped h hn, dqD_shaped g hm, ?_⟩
  cases c : PyData.eqv (toPy d) (toPy e) with
  | true => exact q1 (dqD_eq h g c)
  | false => exact q2 fun he => by subst he; rw [SeqAt.eqv_refl _ (dqD_lay h).1] at c; cases c
theorem eqL_case {a b : Addr} {xs ys : List V} {ds es : List D} {n m : Nat} (h1 : SqL K H a xs) (hx : Ats K H xs ds) (h2 : SqL K H b ys) (hy : Ats K H ys es) (h : dqDs n ds) (g : dqDs m es) (hn : n ≤ 63) (hm : m ≤ 63) (q1 : ds = es → Q (.bl true) H) (q2 : ds ≠ es → Q (.bl false) H) : rEqD K (.ref a) (.ref b) H Q := by
  refine ⟨.list (toPys ds), .list (toPys es), .lst h1 hx.dp, .lst h2 hy.dp, dqDs_shaped h hn, dqDs_shaped g hm, ?_⟩
  show Q (.bl (PyData.eqvAll (toPys ds) (toPys es))) H
  cases c : PyData.eqvAll (toPys ds) (toPys es) with
  | true => exact q1 (dqDs_eq h g c)
  | false =>
    refine q2 fun he => ?_
    subst he
    have := SeqAt.eqv_refl _ (SeqAt.canLay_of_shaped (dqDs_shaped h hn))
    rw [show PyData.eqv (.list (toPys ds)) (.list (toPys ds)) = PyData.eqvAll (toPys ds) (toPys ds) from rfl, c] at this
    cases this
theorem neL_case {a b : Addr} {xs ys : List V} {ds es : List D} {n m : Nat} (h1 : SqL K H a xs) (hx : Ats K H xs ds) (h2 : SqL K H b ys) (hy : Ats K H ys es) (h : dqDs n ds) (g : dqDs m es) (hn : n ≤ 63) (hm : m ≤ 63) (q1 : ds = es → Q (.bl false) H) (q2 : ds ≠ es → Q (.bl true) H) : rNeD K (.ref a) (.ref b) H Q := by
  refine ⟨.list (toPys ds), .list (toPys es), .lst h1 hx.dp, .lst h2 hy.dp, dqDs_shaped h hn, dqDs_shaped g hm, ?_⟩
  show Q (.bl (!PyData.eqvAll (toPys ds) (toPys es))) H
  cases c : PyData.eqvAll (toPys ds) (toPys es) with
  | true => exact q1 (dqDs_eq h g c)
  | false =>
    refine q2 fun he => ?_
    subst he
    have := SeqAt.eqv_refl _ (SeqAt.canLay_of_shaped (dqDs_shaped h hn))
    rw [show PyData.eqv (.list (toPys ds)) (.list (toPys ds)) = PyData.eqvAll (toPys ds) (toPys ds) from rfl, c] at this
    cases this
end
theorem dqD_int {n : Nat} {i : Int} : dqD n (.int i) := by cases n <;> (unfold dqD; trivial)
theorem dqD_non {n : Nat} : dqD n .non := by cases n <;> (unfold dqD; trivial)
theorem dqD_tup {n : Nat} {ds : List D} (h : dqDs n ds) : dqD (n + 1) (.tup ds) := by unfold dqD; exact h
theorem dqDs_cons {n : Nat} {d : D} {ds : List D} (h : dqD n d) (t : dqDs n ds) : dqDs n (d :: ds) := by unfold dqDs; exact ⟨h, t⟩
theorem dqDs_nil {n : Nat} : dqDs n [] := by unfold dqDs; trivial
theorem dqDs_map {α : Type} {f : α → D} {n : Nat} : ∀ {l : List α}, (∀ a ∈ l, dqD n (f a)) → dqDs n (l.map f)
  | [], _ => by rw [List.map_nil]; unfold dqDs; trivial
  | a :: l, h => by
    rw [List.map_cons]
    unfold dqDs
    exact ⟨h a (by simp), dqDs_map fun b hb => h b (by simp [hb])⟩
theorem dqD_encO {n : Nat} {o : Option Int} : dqD n (encO o) := by cases o <;> cases n <;> (unfold encO dqD; trivial)
theorem dqD_encH {n : Nat} {h : List (Option Int)} : dqD (n + 1) (encH h) := dqD_tup (dqDs_map fun _ _ => dqD_encO)
theorem dqD_encA1 {n : Nat} {a : Int × Option Int} : dqD (n + 1) (encA1 a) := dqD_tup (dqDs_cons dqD_int (dqDs_cons dqD_encO dqDs_nil))
theorem dqD_encA {n : Nat} {a : List (Int × Option Int)} : dqD (n + 2) (encA a) := dqD_tup (dqDs_map fun _ _ => dqD_encA1)
theorem dqD_answers {n : Nat} {l : List (List (Int × Option Int))} : dqD (n + 3) (.tup (l.map encA)) := dqD_tup (dqDs_map fun _ _ => dqD_encA)
theorem encO_inj {a b : Option Int} (h : encO a = encO b) : a = b := by
  cases a <;> cases b
  · rfl
  · unfold encO at h; cases h
  · unfold encO at h; cases h
  · unfold encO at h; cases h; rfl
theorem map_inj {α β : Type} {f : α → β} (hf : ∀ a b, f a = f b → a = b) : ∀ {as bs : List α}, as.map f = bs.map f → as = bs
  | [], [], _ => rfl
  | [], _ :: _, h => by cases h
  | _ :: _, [], h => by cases h
  | a :: as, b :: bs, h => by
    rw [List.map_cons, List.map_cons] at h
    have := List.cons.inj h
    rw [hf _ _ this.1, map_inj hf this.2]
theorem encH_inj {a b : List (Option Int)} (h : encH a = encH b) : a = b := map_inj (fun _ _ => encO_inj) (D.tup.inj h)
theorem encA1_inj {a b : Int × Option Int} (h : encA1 a = encA1 b) : a = b := by
  obtain ⟨a1, a2⟩ := a
  obtain ⟨b1, b2⟩ := b
  have h2 := D.tup.inj h
  have h3 := List.cons.inj h2
  have e1 : a1 = b1 := D.int.inj h3.1
  have e2 : a2 = b2 := encO_inj (List.cons.inj h3.2).1
  rw [e1, e2]
theorem encA_inj {a b : List (Int × Option Int)} (h : encA a = encA b) : a = b := map_inj (fun _ _ => encA1_inj) (D.tup.inj h)
end Dv

/-! Rising changes of values, and the sizes of ints. -/
namespace Dv
open PySem PySem.Spec PyProof.Rows L2 GxR Gx

/-! ### sizes -/
def Bd (n : Nat) (x : Int) : Prop := x.natAbs < 2 ^ n
theorem Bd.mono {n m : Nat} {x : Int} (h : Bd n x) (e : n ≤ m) : Bd m x := Nat.lt_of_lt_of_le h (Nat.pow_le_pow_right (by decide) e)
theorem Bd.add {n : Nat} {x y : Int} (h : Bd n x) (g : Bd n y) : Bd (n + 1) (x + y) := by
  unfold Bd at *
  rw [Nat.pow_succ]
  have := Int.natAbs_add_le x y
  generalize 2 ^ n = z at *
  omega
theorem Bd.neg {n : Nat} {x : Int} (h : Bd n x) : Bd n (-x) := by
  unfold Bd at *
  rw [Int.natAbs_neg]
  exact h
theorem Bd.sub {n : Nat} {x y : Int} (h : Bd n x) (g : Bd n y) : Bd (n + 1) (x - y) := by
  rw [Int.sub_eq_add_neg]
  exact h.add g.neg
theorem Bd.mul {n m : Nat} {x y : Int} (h : Bd n x) (g : Bd m y) : Bd (n + m) (x * y) := wide_lt h g
theorem Bd.le {n : Nat} {x y : Int} (h : Bd n y) (g : x.natAbs ≤ y.natAbs) : Bd n x := Nat.lt_of_le_of_lt g h
theorem Bd.div {n : Nat} {x d : Int} (h : Bd n x) (hd : 0 < d) : Bd n (x / d) := h.le (by
  rcases Int.le_total 0 x with c | c
  · have h1 := Int.ediv_nonneg c (Int.le_of_lt hd)
    have h2 := Int.ediv_le_self d c
    omega
  · have h1 : x ≤ x / d := (Int.le_ediv_iff_mul_le hd).mpr (by
      have : x * d ≤ x * 1 := Int.mul_le_mul_of_nonpos_left c (by omega)
      omega)
    have h2 : x / d ≤ 0 := by
      have : x / d < 1 := Int.ediv_lt_of_lt_mul hd (by omega)
      omega
    omega)
theorem bd_small {n : Nat} {x : Int} (h : x.natAbs < 1048576) (e : 20 ≤ n) : Bd n x :=
  Nat.lt_of_lt_of_le (show x.natAbs < 2 ^ 20 from h) (Nat.pow_le_pow_right (by decide) e)
theorem bd_near {n : Nat} {x b : Int} (h : x.natAbs ≤ b.natAbs + 1009) (g : Bd n b) (e : 20 ≤ n) : Bd (n + 1) x := by
  have p : 2 ^ 20 ≤ 2 ^ n := Nat.pow_le_pow_right (by decide) e
  have q : (2 : Nat) ^ 20 = 1048576 := by decide
  unfold Bd at *
  rw [Nat.pow_succ]
  generalize 2 ^ n = z at *
  omega
theorem bd_bits {n : Nat} {x : Int} (h : Builtin.Int.intBits x ≤ n) : Bd n x := by
  unfold Builtin.Int.intBits at h
  split at h
  · rename_i z
    have : x = 0 := by simpa using z
    subst this
    exact Nat.pos_of_ne_zero (by simp)
  · exact Nat.lt_of_lt_of_le Nat.lt_log2_self (Nat.pow_le_pow_right (by decide) h)
theorem bd_sum {n : Nat} : ∀ {l : List Int}, (∀ z ∈ l, Bd n z) → Bd (n + l.length) l.sum
  | [], _ => Nat.pos_of_ne_zero (by simp)
  | z :: l, h => by
    rw [List.sum_cons]
    exact ((h z (by simp)).mono (Nat.le_add_right _ _)).add (bd_sum fun y hy => h y (by simp [hy]))

theorem cut_take {xs : List V} {av : Int} (h0 : 0 ≤ av) : cutV xs none (some av) = xs.take av.toNat := by
  obtain ⟨k, rfl⟩ := Int.eq_ofNat_of_zero_le h0
  unfold cutV
  rw [HT.sIx_nat, HT.sIx_none, Int.toNat_natCast, List.drop_zero, Nat.sub_zero]
  by_cases c : k ≤ xs.length
  · rw [Nat.min_eq_left c]
  · rw [Nat.min_eq_right (by omega), List.take_of_length_le (Nat.le_refl _), List.take_of_length_le (by omega)]
def rTupK (K : PySem.W.Frag) : List V → Hp → VK → Prop := fun xs H Q => ∃ p ys, xs = [V.ref p] ∧ ((SqL K H p ys ∧ ∀ (l : Addr), H l = none → Q (V.ref l) (upd H l (HO.tup ys))) ∨ SqT K H p ys ∧ Q (V.ref p) H)
def rLenK2 (K : PySem.W.Frag) : List V → Hp → VK → Prop := fun xs H Q => ∃ p ys, xs = [V.ref p] ∧ (SqL K H p ys ∨ SqT K H p ys) ∧ Q (V.int ys.length) H
/-! ### rising changes -/
def Rise (f : Int → Int) : Prop := ∀ x y, x < y → f x < f y
theorem Rise.lt {f : Int → Int} (h : Rise f) (x y : Int) : f x < f y ↔ x < y := by
  constructor
  · intro g
    rcases Int.lt_trichotomy x y with c | c | c
    · exact c
    · subst c; omega
    · have := h _ _ c; omega
  · exact h x y
theorem Rise.eq {f : Int → Int} (h : Rise f) (x y : Int) : f x = f y ↔ x = y := by
  constructor
  · intro g
    rcases Int.lt_trichotomy x y with c | c | c
    · have := h _ _ c; omega
    · exact c
    · have := h _ _ c; omega
  · rintro rfl; rfl
structure Ch where
  s : Int
  ss : List Int
def Ch.ok (c : Ch) : Prop := c.ss.length = 6 ∧ (∀ z ∈ c.ss, 1 ≤ z ∧ Bd 1048700 z) ∧ Bd 1048700 c.s
def Ch.f (c : Ch) (v : Int) : Int := c.s + v / 6 * c.ss.sum + (c.ss.take (v % 6).toNat).sum
theorem Ch.rise {c : Ch} (h : c.ok) : Rise c.f := by
  obtain ⟨s, ss⟩ := c
  obtain ⟨hl, hp, _⟩ := h
  match ss, hl, hp with
  | [a, b, d, e, g, i], _, hp =>
  have ha := (hp a (by simp)).1
  have hb := (hp b (by simp)).1
  have hd := (hp d (by simp)).1
  have he := (hp e (by simp)).1
  have hg := (hp g (by simp)).1
  have hi := (hp i (by simp)).1
  clear hp
  have eS : ([a, b, d, e, g, i] : List Int).sum = a + b + d + e + g + i := by simp [List.sum_cons]; omega
  have p0 : ((([a, b, d, e, g, i] : List Int).take ((0 : Int)).toNat)).sum = 0 := rfl
  have p1 : ((([a, b, d, e, g, i] : List Int).take ((1 : Int)).toNat)).sum = a := by show ([a] : List Int).sum = a; simp
  have p2 : ((([a, b, d, e, g, i] : List Int).take ((2 : Int)).toNat)).sum = a + b := by show ([a, b] : List Int).sum = _; simp
  have p3 : ((([a, b, d, e, g, i] : List Int).take ((3 : Int)).toNat)).sum = a + b + d := by show ([a, b, d] : List Int).sum = _; simp; omega
  have p4 : ((([a, b, d, e, g, i] : List Int).take ((4 : Int)).toNat)).sum = a + b + d + e := by show ([a, b, d, e] : List Int).sum = _; simp; omega
  have p5 : ((([a, b, d, e, g, i] : List Int).take ((5 : Int)).toNat)).sum = a + b + d + e + g := by show ([a, b, d, e, g] : List Int).sum = _; simp; omega
  intro x y hxy
  show s + x / 6 * ([a, b, d, e, g, i] : List Int).sum + (([a, b, d, e, g, i] : List Int).take (x % 6).toNat).sum < s + y / 6 * ([a, b, d, e, g, i] : List Int).sum + (([a, b, d, e, g, i] : List Int).take (y % 6).toNat).sum
  rw [eS]
  have hx := Int.emod_nonneg x (show (6 : Int) ≠ 0 by decide)
  have hx6 := Int.emod_lt_of_pos x (show (0 : Int) < 6 by decide)
  have hy := Int.emod_nonneg y (show (6 : Int) ≠ 0 by decide)
  have hy6 := Int.emod_lt_of_pos y (show (0 : Int) < 6 by decide)
  have dx := Int.mul_ediv_add_emod x 6
  have dy := Int.mul_ediv_add_emod y 6
  have key : x / 6 = y / 6 ∧ x % 6 < y % 6 ∨ x / 6 + 1 ≤ y / 6 := by omega
  generalize x / 6 = qx at *
  generalize y / 6 = qy at *
  generalize x % 6 = rx at *
  generalize y % 6 = ry at *
  have hmul : qx + 1 ≤ qy → qx * (a + b + d + e + g + i) + (a + b + d + e + g + i) ≤ qy * (a + b + d + e + g + i) := fun h => by
    have := Int.mul_le_mul_of_nonneg_right h (show 0 ≤ a + b + d + e + g + i by omega)
    rw [Int.add_mul, Int.one_mul] at this
    exact this
  rcases (by omega : rx = 0 ∨ rx = 1 ∨ rx = 2 ∨ rx = 3 ∨ rx = 4 ∨ rx = 5) with rfl | rfl | rfl | rfl | rfl | rfl <;>
  rcases (by omega : ry = 0 ∨ ry = 1 ∨ ry = 2 ∨ ry = 3 ∨ ry = 4 ∨ ry = 5) with rfl | rfl | rfl | rfl | rfl | rfl <;>
  (simp only [p0, p1, p2, p3, p4, p5]
   rcases key with ⟨rfl, k⟩ | k
   · omega
   · have := hmul k
     omega)
theorem Ch.bd {c : Ch} {n : Nat} {v : Int} (h : c.ok) (hv : Bd n v) : Bd (n + 1048708) (c.f v) := by
  obtain ⟨hl, hp, hs⟩ := h
  have b1 : Bd 1048706 c.ss.sum := by
    have := bd_sum (n := 1048700) (l := c.ss) fun z hz => (hp z hz).2
    rw [hl] at this
    exact this
  have b2 : Bd 1048706 (c.ss.take (v % 6).toNat).sum := by
    have := bd_sum (n := 1048700) (l := c.ss.take (v % 6).toNat) fun z hz => (hp z (List.mem_of_mem_take hz)).2
    refine this.mono ?_
    rw [List.length_take]
    omega
  have b3 := (hv.div (d := 6) (by decide)).mul b1
  unfold Ch.f
  exact ((hs.mono (by omega)).add b3).add (b2.mono (by omega))
/-- a change lies at v, apart from dr -/
def AtCh (H : Hp) (dr : Addr) (v : V) (c : Ch) : Prop := ∃ a b, v = .ref a ∧ a ≠ dr ∧ b ≠ dr ∧ H a = some (.lst [.int c.s, .ref b]) ∧ H b = some (.lst (c.ss.map V.int))
theorem AtCh.ext {H H1 : Hp} {T : List Addr} {dr : Addr} {v : V} {c : Ch} (h : AtCh H dr v c) (e : Ex T [dr] H H1) : AtCh H1 dr v c := by
  obtain ⟨a, b, rfl, na, nb, ha, hb⟩ := h
  exact ⟨a, b, rfl, na, nb, e.lst (by simpa using na) ha, e.lst (by simpa using nb) hb⟩

/-! ### machines see the order alone -/
def mapH (f : Int → Int) (h : List (Option Int)) : List (Option Int) := h.map (Option.map f)
def chE (f : Int → Int) (p : Int × Option Int) : Int × Option Int := (p.1, p.2.map f)
def chL (f : Int → Int) (e : Nat × Int) : Nat × Int := (e.1, f e.2)
def toA (e : Nat × Int) : Int × Option Int := (e.1, some e.2)
theorem mapH_len {f : Int → Int} {h : List (Option Int)} : (mapH f h).length = h.length := List.length_map ..
theorem enc_toA (es : List (Nat × Int)) : es.map encE = (es.map toA).map encA1 := by
  rw [List.map_map]
  rfl
theorem chL_toA (f : Int → Int) (es : List (Nat × Int)) : (es.map toA).map (chE f) = (es.map (chL f)).map toA := by
  rw [List.map_map, List.map_map]
  rfl
section
variable {f : Int → Int}
theorem worth_map (v : Int) (h : List (Option Int)) (p : Int) : worth (f v) (mapH f h) p = (worth v h p).map f := by
  unfold worth mapH
  split
  · rfl
  · split
    · rfl
    · rw [List.getElem?_map]
      cases h[p.toNat]? <;> rfl
theorem ltO_map (r : Rise f) (a b : Option Int) : ltO (a.map f) (b.map f) = ltO a b := by
  cases a <;> cases b <;> try rfl
  rename_i x y
  show decide (f x < f y) = decide (x < y)
  rw [decide_eq_decide]
  exact r.lt x y
theorem eqO_map (r : Rise f) (a b : Option Int) : eqO (a.map f) (b.map f) = eqO a b := by
  cases a <;> cases b <;> try rfl
  rename_i x y
  show decide (f x = f y) = decide (x = y)
  rw [decide_eq_decide]
  exact r.eq x y
mutual
theorem hold_map (r : Rise f) (v : Int) (h : List (Option Int)) : ∀ c : C, hold (f v) (mapH f h) c = hold v h c
  | .tru => by unfold hold; rfl
  | .fls => by unfold hold; rfl
  | .less a b => by unfold hold; rw [worth_map, worth_map, ltO_map r]
  | .same a b => by unfold hold; rw [worth_map, worth_map, eqO_map r]
  | .emp a => by unfold hold; rw [worth_map]; cases worth v h a <;> rfl
  | .nt c => by unfold hold; rw [hold_map r v h c]
  | .all cs => by unfold hold; exact holdA_map r v h cs
  | .any cs => by unfold hold; exact holdE_map r v h cs
theorem holdA_map (r : Rise f) (v : Int) (h : List (Option Int)) : ∀ cs : List C, holdA (f v) (mapH f h) cs = holdA v h cs
  | [] => by unfold holdA; rfl
  | c :: cs => by rw [holdA_cons, holdA_cons, hold_map r v h c, holdA_map r v h cs]
theorem holdE_map (r : Rise f) (v : Int) (h : List (Option Int)) : ∀ cs : List C, holdE (f v) (mapH f h) cs = holdE v h cs
  | [] => by unfold holdE; rfl
  | c :: cs => by rw [holdE_cons, holdE_cons, hold_map r v h c, holdE_map r v h cs]
end
theorem saidC_map (v : Int) (h : List (Option Int)) (c : Case) : saidC (f v) (mapH f h) c = (saidC v h c).map (chE f) := by
  unfold saidC
  rw [List.map_map]
  refine List.map_congr_left fun p _ => ?_
  show (p.1, worth (f v) (mapH f h) p.2) = (p.1, (worth v h p.2).map f)
  rw [worth_map]
theorem keptC_map (v : Int) (h : List (Option Int)) (c : Case) : keptC (f v) (mapH f h) c = mapH f (keptC v h c) := by
  unfold keptC
  show _ = List.map _ _
  rw [List.map_map]
  refine List.map_congr_left fun p _ => ?_
  rw [worth_map]
  rfl
theorem readM_map (r : Rise f) (m : M) (st : Nat) (h : List (Option Int)) (e : Nat × Int) :
    readM m st (mapH f h) (chL f e) = ((readM m st h e).1, mapH f (readM m st h e).2.1, (readM m st h e).2.2.map (chE f)) := by
  unfold readM
  have ef : holdC (chL f e).2 (mapH f h) = holdC e.2 h := funext fun c => hold_map r e.2 h c.cond
  rw [ef]
  show (match (m.cases st e.1).find? (holdC e.2 h) with | none => _ | some c => _) = _
  cases (m.cases st e.1).find? (holdC e.2 h) with
  | none => rfl
  | some c =>
    show (c.nxt, keptC (f e.2) (mapH f h) c, saidC (f e.2) (mapH f h) c) = _
    rw [saidC_map, keptC_map]
def mapC (f : Int → Int) (c : Ct) : Ct := (c.1, mapH f c.2)
theorem stepM_map (r : Rise f) (m : M) (c : Ct) (e : Nat × Int) : stepM m (mapC f c) (chL f e) = mapC f (stepM m c e) := by
  show ((readM m c.1 (mapH f c.2) (chL f e)).1, (readM m c.1 (mapH f c.2) (chL f e)).2.1) = _
  rw [readM_map r]
  rfl
theorem contM_map (r : Rise f) (m : M) : ∀ (c : Ct) (es : List (Nat × Int)), contM m (mapC f c) (es.map (chL f)) = mapC f (contM m c es)
  | c, [] => rfl
  | c, e :: es => by
    show contM m (stepM m (mapC f c) (chL f e)) (es.map (chL f)) = mapC f (contM m (stepM m c e) es)
    rw [stepM_map r, contM_map r m _ es]
theorem answersM_map (r : Rise f) (m : M) : ∀ (c : Ct) (es : List (Nat × Int)), answersM m (mapC f c) (es.map (chL f)) = (answersM m c es).map (List.map (chE f))
  | c, [] => rfl
  | c, e :: es => by
    show (readM m c.1 (mapH f c.2) (chL f e)).2.2 :: answersM m (stepM m (mapC f c) (chL f e)) (es.map (chL f)) = _ :: _
    rw [readM_map r, stepM_map r, answersM_map r m _ es]
theorem mapH_rep (n : Nat) : mapH f (List.replicate n none) = List.replicate n none := by
  unfold mapH
  rw [List.map_replicate]
  rfl
end
/-! ### where values come from -/
def PH (P : Int → Prop) (h : List (Option Int)) : Prop := ∀ x, some x ∈ h → P x
def PA (P : Int → Prop) (a : List (Int × Option Int)) : Prop := ∀ p ∈ a, ∀ x, p.2 = some x → P x
section
variable {P : Int → Prop}
theorem worth_P {v : Int} {h : List (Option Int)} {p : Int} (hh : PH P h) (hv : P v) {x : Int} (e : worth v h p = some x) : P x := by
  unfold worth at e
  split at e
  · cases e; exact hv
  · split at e
    · cases e
    · cases g : h[p.toNat]? with
      | none => rw [g] at e; cases e
      | some o =>
        rw [g] at e
        exact hh x (by
          have : o = some x := e
          rw [this] at g
          exact List.mem_of_getElem? g)
theorem readM_P (m : M) (st : Nat) {h : List (Option Int)} {e : Nat × Int} (hh : PH P h) (he : P e.2) : PH P (readM m st h e).2.1 ∧ PA P (readM m st h e).2.2 := by
  unfold readM
  cases (m.cases st e.1).find? (holdC e.2 h) with
  | none => exact ⟨hh, fun p hp => by cases hp⟩
  | some c =>
    refine ⟨fun x hx => ?_, fun p hp x hx => ?_⟩
    · obtain ⟨s, _, e'⟩ := List.mem_map.mp hx
      exact worth_P hh he e'
    · obtain ⟨s, _, rfl⟩ := List.mem_map.mp hp
      exact worth_P hh he hx
theorem answersM_P (m : M) : ∀ {c : Ct} {es : List (Nat × Int)}, PH P c.2 → (∀ e ∈ es, P e.2) → ∀ a ∈ answersM m c es, PA P a
  | c, [], _, _, a, h => by cases h
  | c, e :: es, hc, he, a, h => by
    have r := readM_P m c.1 hc (he e (by simp))
    rcases List.mem_cons.mp h with rfl | h
    · exact r.2
    · exact answersM_P m (c := stepM m c e) r.1 (fun f hf => he f (by simp [hf])) a h
theorem contM_P (m : M) : ∀ {c : Ct} {es : List (Nat × Int)}, PH P c.2 → (∀ e ∈ es, P e.2) → PH P (contM m c es).2
  | c, [], hc, _ => hc
  | c, e :: es, hc, he => contM_P m (c := stepM m c e) (es := es) (readM_P m c.1 hc (he e (by simp))).1 fun f hf => he f (by simp [hf])
theorem PH_rep (n : Nat) : PH P (List.replicate n none) := fun x h => by
  have := (List.mem_replicate.mp h).2
  cases this
end
theorem plogA {P : Int → Prop} {es : List (Nat × Int)} (h : ∀ e ∈ es, P e.2) : PA P (es.map toA) := fun p hp x hx => by
  obtain ⟨e, he, rfl⟩ := List.mem_map.mp hp
  cases hx
  exact h e he
theorem chL_tag {f : Int → Int} {t : Nat} {es : List (Nat × Int)} (h : ∀ e ∈ es, e.1 < t) : ∀ e ∈ es.map (chL f), e.1 < t := fun p hp => by
  obtain ⟨e, he, rfl⟩ := List.mem_map.mp hp
  exact h e he
theorem chL_P {P : Int → Prop} {f : Int → Int} {es : List (Nat × Int)} (h : ∀ e ∈ es, P (f e.2)) : ∀ e ∈ es.map (chL f), P e.2 := fun p hp => by
  obtain ⟨e, he, rfl⟩ := List.mem_map.mp hp
  exact h e he
/-- a log that was changed -/
theorem at_chL {K : PySem.W.Frag} {H : Hp} {v : V} {f : Int → Int} {es : List (Nat × Int)} (h : At K H v (.tup (((es.map toA).map (chE f)).map encA1))) : At K H v (.tup ((es.map (chL f)).map encE)) := by
  rw [chL_toA, ← enc_toA] at h
  exact h
theorem at_toA {K : PySem.W.Frag} {H : Hp} {v : V} {es : List (Nat × Int)} (h : At K H v (.tup (es.map encE))) : At K H v (.tup ((es.map toA).map encA1)) := by
  rw [← enc_toA]
  exact h
end Dv

/-! Turned machines. -/
namespace Dv
open PySem PySem.Spec PyProof.Rows L2 GxR Gx
mutual
def turnC : C → C
  | .tru => .tru
  | .fls => .fls
  | .less a b => .less b a
  | .same a b => .same a b
  | .emp a => .emp a
  | .nt c => .nt (turnC c)
  | .all cs => .all (turnCs cs)
  | .any cs => .any (turnCs cs)
def turnCs : List C → List C
  | [] => []
  | c :: cs => turnC c :: turnCs cs
end
theorem turnCs_map : ∀ cs : List C, turnCs cs = cs.map turnC
  | [] => by unfold turnCs; rfl
  | c :: cs => by unfold turnCs; rw [List.map_cons, turnCs_map cs]
theorem turnCs_len (cs : List C) : (turnCs cs).length = cs.length := by rw [turnCs_map, List.length_map]
def turnCase (c : Case) : Case := { c with cond := turnC c.cond }
def turnM (m : M) : M := { m with steps := m.steps.map (List.map (List.map turnCase)) }
mutual
theorem okC_turn {r : Nat} : ∀ {n : Nat} {c : C}, okC r n c → okC r n (turnC c)
  | n, .tru, h => by unfold turnC; exact h
  | n, .fls, h => by unfold turnC; exact h
  | n, .less a b, h => by unfold turnC; unfold okC at *; exact ⟨h.2, h.1⟩
  | n, .same a b, h => by unfold turnC; exact h
  | n, .emp a, h => by unfold turnC; exact h
  | 0, .nt c, h => by unfold okC at h; exact h.elim
  | n + 1, .nt c, h => by unfold turnC; unfold okC at *; exact okC_turn h
  | 0, .all cs, h => by unfold okC at h; exact h.elim
  | n + 1, .all cs, h => by unfold turnC; unfold okC at *; rw [turnCs_len]; exact ⟨h.1, okCs_turn h.2⟩
  | 0, .any cs, h => by unfold okC at h; exact h.elim
  | n + 1, .any cs, h => by unfold turnC; unfold okC at *; rw [turnCs_len]; exact ⟨h.1, okCs_turn h.2⟩
theorem okCs_turn {r : Nat} : ∀ {n : Nat} {cs : List C}, okCs r n cs → okCs r n (turnCs cs)
  | n, [], h => by unfold turnCs; exact h
  | n, c :: cs, h => by unfold turnCs; unfold okCs at *; exact ⟨okC_turn h.1, okCs_turn h.2⟩
end
theorem turnC_nt (c : C) : turnC (.nt c) = .nt (turnC c) := by conv => lhs; unfold turnC
theorem turnC_all (cs : List C) : turnC (.all cs) = .all (turnCs cs) := by conv => lhs; unfold turnC
theorem turnC_any (cs : List C) : turnC (.any cs) = .any (turnCs cs) := by conv => lhs; unfold turnC
theorem turnCs_cons (c : C) (cs : List C) : turnCs (c :: cs) = turnC c :: turnCs cs := by conv => lhs; unfold turnCs
mutual
theorem turnC_turn : ∀ c : C, turnC (turnC c) = c
  | .tru => by unfold turnC turnC; rfl
  | .fls => by unfold turnC turnC; rfl
  | .less a b => by unfold turnC turnC; rfl
  | .same a b => by unfold turnC turnC; rfl
  | .emp a => by unfold turnC turnC; rfl
  | .nt c => by rw [turnC_nt, turnC_nt, turnC_turn c]
  | .all cs => by rw [turnC_all, turnC_all, turnCs_turn cs]
  | .any cs => by rw [turnC_any, turnC_any, turnCs_turn cs]
theorem turnCs_turn : ∀ cs : List C, turnCs (turnCs cs) = cs
  | [] => by unfold turnCs turnCs; rfl
  | c :: cs => by rw [turnCs_cons, turnCs_cons, turnC_turn c, turnCs_turn cs]
end
theorem encCs_map : ∀ cs : List C, encCs cs = cs.map encC
  | [] => by unfold encCs; rfl
  | c :: cs => by unfold encCs; rw [List.map_cons, encCs_map cs]
theorem encCs_turn (cs : List C) : cs.map (fun c => encC (turnC c)) = encCs (turnCs cs) := by
  rw [encCs_map, turnCs_map, List.map_map]
  rfl
theorem okCase_turn {r S n : Nat} {c : Case} (h : okCase r S n c) : okCase r S n (turnCase c) := ⟨okC_turn h.cond, h.mlen, h.mv, h.say, h.slen, h.nxt⟩
theorem okM_turn {n : Nat} {m : M} (h : okM n m) : okM n (turnM m) := by
  refine ⟨h.tags, h.tmax, h.rmax, by show 0 < (List.map _ _).length; rw [List.length_map]; exact h.some, by show (List.map _ _).length ≤ _; rw [List.length_map]; exact h.smax, fun s hs => ?_, fun s hs cs hcs => ?_⟩
  · obtain ⟨s', hs', rfl⟩ := List.mem_map.mp hs
    rw [List.length_map]
    exact h.all s' hs'
  · obtain ⟨s', hs', rfl⟩ := List.mem_map.mp hs
    obtain ⟨cs', hcs', rfl⟩ := List.mem_map.mp hcs
    have r := h.cases s' hs' cs' hcs'
    refine ⟨by rw [List.length_map]; exact r.1, fun c hc => ?_⟩
    obtain ⟨c', hc', rfl⟩ := List.mem_map.mp hc
    show okCase m.regs (List.map _ m.steps).length n (turnCase c')
    rw [List.length_map]
    exact okCase_turn (r.2 c' hc')
theorem turnM_cases (m : M) (st t : Nat) : (turnM m).cases st t = (m.cases st t).map turnCase := by
  show ((m.steps.map (List.map (List.map turnCase))).getD st []).getD t [] = ((m.steps.getD st []).getD t []).map turnCase
  rw [List.getD_eq_getElem?_getD, List.getD_eq_getElem?_getD, List.getElem?_map]
  rw [List.getD_eq_getElem?_getD (l := m.steps), List.getD_eq_getElem?_getD]
  cases m.steps[st]? with
  | none => rfl
  | some s =>
    show ((List.map (List.map turnCase) s)[t]?).getD [] = ((s[t]?).getD []).map turnCase
    rw [List.getElem?_map]
    cases s[t]? <;> rfl
theorem turnM_steps (m : M) : (turnM m).steps.length = m.steps.length := List.length_map ..
theorem okCt_turn {m : M} {c : Ct} (h : okCt m c) : okCt (turnM m) c := ⟨by rw [turnM_steps]; exact h.st, h.len⟩
/-! ### falling changes -/
def Fall (f : Int → Int) : Prop := ∀ x y, x < y → f y < f x
theorem fall_neg : Fall (fun x => -x) := fun x y h => by show -y < -x; omega
section
variable {f : Int → Int}
theorem Fall.lt (h : Fall f) (x y : Int) : f y < f x ↔ x < y := by
  constructor
  · intro g
    rcases Int.lt_trichotomy x y with c | c | c
    · exact c
    · subst c; omega
    · have := h _ _ c; omega
  · exact h x y
theorem Fall.eq (h : Fall f) (x y : Int) : f x = f y ↔ x = y := by
  constructor
  · intro g
    rcases Int.lt_trichotomy x y with c | c | c
    · have := h _ _ c; omega
    · exact c
    · have := h _ _ c; omega
  · rintro rfl; rfl
theorem ltO_fall (r : Fall f) (a b : Option Int) : ltO (b.map f) (a.map f) = ltO a b := by
  cases a <;> cases b <;> try rfl
  rename_i x y
  show decide (f y < f x) = decide (x < y)
  rw [decide_eq_decide]
  exact r.lt x y
theorem eqO_fall (r : Fall f) (a b : Option Int) : eqO (a.map f) (b.map f) = eqO a b := by
  cases a <;> cases b <;> try rfl
  rename_i x y
  show decide (f x = f y) = decide (x = y)
  rw [decide_eq_decide]
  exact r.eq x y
mutual
theorem hold_turn (r : Fall f) (v : Int) (h : List (Option Int)) : ∀ c : C, hold (f v) (mapH f h) (turnC c) = hold v h c
  | .tru => by unfold turnC; unfold hold; rfl
  | .fls => by unfold turnC; unfold hold; rfl
  | .less a b => by unfold turnC; unfold hold; rw [worth_map, worth_map, ltO_fall r]
  | .same a b => by unfold turnC; unfold hold; rw [worth_map, worth_map, eqO_fall r]
  | .emp a => by unfold turnC; unfold hold; rw [worth_map]; cases worth v h a <;> rfl
  | .nt c => by unfold turnC; unfold hold; rw [hold_turn r v h c]
  | .all cs => by unfold turnC; unfold hold; exact holdA_turn r v h cs
  | .any cs => by unfold turnC; unfold hold; exact holdE_turn r v h cs
theorem holdA_turn (r : Fall f) (v : Int) (h : List (Option Int)) : ∀ cs : List C, holdA (f v) (mapH f h) (turnCs cs) = holdA v h cs
  | [] => by unfold turnCs; unfold holdA; rfl
  | c :: cs => by unfold turnCs; rw [holdA_cons, holdA_cons, hold_turn r v h c, holdA_turn r v h cs]
theorem holdE_turn (r : Fall f) (v : Int) (h : List (Option Int)) : ∀ cs : List C, holdE (f v) (mapH f h) (turnCs cs) = holdE v h cs
  | [] => by unfold turnCs; unfold holdE; rfl
  | c :: cs => by unfold turnCs; rw [holdE_cons, holdE_cons, hold_turn r v h c, holdE_turn r v h cs]
end
theorem readM_turn (r : Fall f) (m : M) (st : Nat) (h : List (Option Int)) (e : Nat × Int) :
    readM (turnM m) st (mapH f h) (chL f e) = ((readM m st h e).1, mapH f (readM m st h e).2.1, (readM m st h e).2.2.map (chE f)) := by
  unfold readM
  rw [turnM_cases, List.find?_map]
  have ef : holdC (chL f e).2 (mapH f h) ∘ turnCase = holdC e.2 h := funext fun c => hold_turn r e.2 h c.cond
  rw [ef]
  show (match ((m.cases st e.1).find? (holdC e.2 h)).map turnCase with | none => _ | some c => _) = _
  cases (m.cases st e.1).find? (holdC e.2 h) with
  | none => rfl
  | some c =>
    show (c.nxt, keptC (f e.2) (mapH f h) (turnCase c), saidC (f e.2) (mapH f h) (turnCase c)) = _
    rw [saidC_map, keptC_map]
    rfl
theorem stepM_turn (r : Fall f) (m : M) (c : Ct) (e : Nat × Int) : stepM (turnM m) (mapC f c) (chL f e) = mapC f (stepM m c e) := by
  show ((readM (turnM m) c.1 (mapH f c.2) (chL f e)).1, (readM (turnM m) c.1 (mapH f c.2) (chL f e)).2.1) = _
  rw [readM_turn r]
  rfl
theorem answersM_turn (r : Fall f) (m : M) : ∀ (c : Ct) (es : List (Nat × Int)), answersM (turnM m) (mapC f c) (es.map (chL f)) = (answersM m c es).map (List.map (chE f))
  | c, [] => rfl
  | c, e :: es => by
    show (readM (turnM m) c.1 (mapH f c.2) (chL f e)).2.2 :: answersM (turnM m) (stepM (turnM m) (mapC f c) (chL f e)) (es.map (chL f)) = _ :: _
    rw [readM_turn r, stepM_turn r, answersM_turn r m _ es]
end
theorem encCase_turn (c : Case) : encCase (turnCase c) = .tup [encC (turnC c.cond), .tup (c.moves.map .int), .tup (c.says.map encSay), .int c.nxt] := rfl
theorem wipe_get (k : Nat) : ∀ (vs : List Nat) (σ : L2.St), (wipe σ vs)[k]? = if k ∈ vs then (σ[k]?).map (fun _ => none) else σ[k]?
  | [], σ => by
    rw [if_neg (by simp)]
    rfl
  | v :: vs, σ => by
    show ((wipe σ vs).set v none)[k]? = _
    rw [List.getElem?_set]
    have ih := wipe_get k vs σ
    by_cases h : v = k
    · subst h
      simp only [List.mem_cons, true_or, if_true, wipe_length]
      by_cases hl : v < σ.length
      · simp [hl]
      · simp [hl]
    · rw [if_neg h, ih]
      have : k ∈ v :: vs ↔ k ∈ vs := by simp; exact fun e => absurd e.symm h
      simp only [this]
theorem wipe_set {vs : List Nat} {σ : L2.St} {i : Nat} {x : Option V} (h : i ∈ vs) : wipe (σ.set i x) vs = wipe σ vs := by
  refine List.ext_getElem? fun k => ?_
  rw [wipe_get, wipe_get, List.getElem?_set]
  split
  · rename_i hk
    split
    · rename_i e
      subst e
      split
      · rename_i hl
        rw [List.getElem?_eq_getElem hl]
        rfl
      · rename_i hl
        rw [List.getElem?_eq_none (Nat.le_of_not_lt hl)]
    · rfl
  · rename_i hk
    rw [if_neg (fun e => hk (by rw [← e]; exact h))]
theorem wipe_wipe {vs : List Nat} {σ : L2.St} : wipe (wipe σ vs) vs = wipe σ vs := by
  refine List.ext_getElem? fun k => ?_
  rw [wipe_get, wipe_get]
  split
  · cases σ[k]? <;> rfl
  · rfl
theorem wipe4 {vs : List Nat} {σ : L2.St} {i j k l : Nat} {x y z u : Option V} (h1 : i ∈ vs) (h2 : j ∈ vs) (h3 : k ∈ vs) (h4 : l ∈ vs) : wipe (((((wipe σ vs).set i x).set j y).set k z).set l u) vs = wipe σ vs := by
  rw [wipe_set h4, wipe_set h3, wipe_set h2, wipe_set h1, wipe_wipe]
theorem Col.put' {K : PySem.W.Frag} {T ms : List Addr} {D : Addr} {H H1 H2 : Hp} {ds : List Dv.D} (c : Col K T ms D H H1 ds) (free : H D = none) (nD : D ∉ ms) (wd : Wd T H) (e : Ex T ms H1 H2) {x : V} {d : Dv.D} (hx : At K H2 x d) (hl : ds.length ≤ 100000) :
    ∃ acc, H2 D = some (.lst acc) ∧ acc.length < sizeLine ∧ Col K T ms D H (upd H2 D (.lst (acc ++ [x]))) (ds ++ [d]) := by
  obtain ⟨ex, xs, hD, ats⟩ := c
  have hD2 : H2 D = some (.lst xs) := e.lst nD hD
  have exw : Ex T [D] H2 (upd H2 D (.lst (xs ++ [x]))) := Ex.write (by simp) hD2
  exact ⟨xs, hD2, Nat.lt_of_le_of_lt (by rw [ats.length]; exact hl) (by decide), (ex.trans e).put free wd, xs ++ [x], upd_same, ((ats.ext e).append (Ats.mk hx Ats.mk_nil)).ext exw⟩
end Dv

/-! Whether a machine is right. -/
namespace Dv
open PySem PySem.Spec PyProof.Rows L2 GxR Gx
/-- a statement that is never come to -/
theorem ps_dead {X : Cx} {st : Stmt} : PS X st (fun _ _ _ => False) := ⟨fun _ _ _ _ _ _ h => h.elim⟩
def plI (r p : Int) : Bool := decide (-1 ≤ p) && decide (p < r)
mutual
def plB (r : Int) : C → Bool
  | .tru => true
  | .fls => true
  | .less a b => plI r a && plI r b
  | .same a b => plI r a && plI r b
  | .emp a => plI r a
  | .nt c => plB r c
  | .all cs => plBs r cs
  | .any cs => plBs r cs
def plBs (r : Int) : List C → Bool
  | [] => true
  | c :: cs => plB r c && plBs r cs
end
theorem plBs_cons (r : Int) (c : C) (cs : List C) : plBs r (c :: cs) = (plB r c && plBs r cs) := by conv => lhs; unfold plBs

mutual
def dpC : Nat → C → Prop
  | 0, .nt _ => False
  | n + 1, .nt c => dpC n c
  | 0, .all _ => False
  | n + 1, .all cs => cs.length ≤ 100000 ∧ dpCs n cs
  | 0, .any _ => False
  | n + 1, .any cs => cs.length ≤ 100000 ∧ dpCs n cs
  | _, _ => True
def dpCs : Nat → List C → Prop
  | _, [] => True
  | n, c :: cs => dpC n c ∧ dpCs n cs
end
theorem dpCs_get {n : Nat} : ∀ {cs : List C} {i : Nat} {c : C}, dpCs n cs → cs[i]? = some c → dpC n c
  | [], i, c, h, e => by simp at e
  | c' :: cs, 0, c, h, e => by
    unfold dpCs at h
    obtain rfl : c' = c := by simpa using e
    exact h.1
  | c' :: cs, i + 1, c, h, e => by
    unfold dpCs at h
    exact dpCs_get h.2 (by simpa using e)
theorem pl_of {r : Nat} {p : Int} (h : plOk r p) : plI r p = true := by
  unfold plOk at h
  unfold plI
  rw [decide_eq_true h.1, decide_eq_true h.2]
  rfl
mutual
theorem okC_dp {r : Nat} : ∀ {n : Nat} {c : C}, okC r n c → dpC n c ∧ plB r c = true
  | n, .tru, h => by unfold dpC plB; cases n <;> exact ⟨trivial, rfl⟩
  | n, .fls, h => by unfold dpC plB; cases n <;> exact ⟨trivial, rfl⟩
  | n, .less a b, h => by unfold dpC plB; unfold okC at h; rw [pl_of h.1, pl_of h.2]; cases n <;> exact ⟨trivial, rfl⟩
  | n, .same a b, h => by unfold dpC plB; unfold okC at h; rw [pl_of h.1, pl_of h.2]; cases n <;> exact ⟨trivial, rfl⟩
  | n, .emp a, h => by unfold dpC plB; unfold okC at h; rw [pl_of h]; cases n <;> exact ⟨trivial, rfl⟩
  | 0, .nt c, h => by unfold okC at h; exact h.elim
  | n + 1, .nt c, h => by unfold dpC plB; unfold okC at h; exact okC_dp h
  | 0, .all cs, h => by unfold okC at h; exact h.elim
  | n + 1, .all cs, h => by unfold dpC plB; unfold okC at h; have r := okCs_dp h.2; exact ⟨⟨h.1, r.1⟩, r.2⟩
  | 0, .any cs, h => by unfold okC at h; exact h.elim
  | n + 1, .any cs, h => by unfold dpC plB; unfold okC at h; have r := okCs_dp h.2; exact ⟨⟨h.1, r.1⟩, r.2⟩
theorem okCs_dp {r : Nat} : ∀ {n : Nat} {cs : List C}, okCs r n cs → dpCs n cs ∧ plBs r cs = true
  | n, [], h => by unfold dpCs plBs; exact ⟨trivial, rfl⟩
  | n, c :: cs, h => by
    unfold okCs at h
    have r1 := okC_dp h.1
    have r2 := okCs_dp h.2
    rw [plBs_cons, r1.2, r2.2]
    unfold dpCs
    exact ⟨⟨r1.1, r2.1⟩, rfl⟩
end
/-- a condition is an atom, or not, all, any -/
theorem shapeC (r : Int) (c : C) : (∃ (wo : Str) (ps : List Int), encC c = .tup (.str wo :: ps.map .int) ∧ wo ≠ "not" ∧ inV (V.str wo) [V.str "all", V.str "any"] = false ∧ plB r c = ps.all (plI r) ∧ ps.length ≤ 2) ∨ (∃ d, c = .nt d) ∨ (∃ cs, c = .all cs) ∨ ∃ cs, c = .any cs := by
  cases c with
  | tru => exact .inl ⟨"true", [], by unfold encC; rfl, by decide +kernel, by decide +kernel, by unfold plB; rfl, by decide⟩
  | fls => exact .inl ⟨"false", [], by unfold encC; rfl, by decide +kernel, by decide +kernel, by unfold plB; rfl, by decide⟩
  | less a b => exact .inl ⟨"less", [a, b], by unfold encC; rfl, by decide +kernel, by decide +kernel, by unfold plB; simp, by simp⟩
  | same a b => exact .inl ⟨"same", [a, b], by unfold encC; rfl, by decide +kernel, by decide +kernel, by unfold plB; simp, by simp⟩
  | emp a => exact .inl ⟨"empty", [a], by unfold encC; rfl, by decide +kernel, by decide +kernel, by unfold plB; simp, by simp⟩
  | nt d => exact .inr (.inl ⟨d, rfl⟩)
  | all cs => exact .inr (.inr (.inl ⟨cs, rfl⟩))
  | any cs => exact .inr (.inr (.inr ⟨cs, rfl⟩))
theorem cut_drop2 {xs : List V} {av : Int} (h0 : 0 ≤ av) (h1 : av ≤ xs.length) : cutV xs (some av) none = xs.drop av.toNat := by
  obtain ⟨k, rfl⟩ := Int.eq_ofNat_of_zero_le h0
  have hk : k ≤ xs.length := by omega
  unfold cutV
  rw [HT.sIx_nat, HT.sIx_none, Int.toNat_natCast, Nat.min_eq_left hk, List.take_of_length_le (by rw [List.length_drop]; exact Nat.le_refl _)]
theorem slA_drop {K : PySem.W.Frag} {H : Hp} {T : List Addr} {Q : VK} {a : Addr} {xs : List V} {av : Int} (sq : SqT K H a xs) (h0 : 0 ≤ av) (h1 : av ≤ xs.length) (q : ∀ p H', SqT K H' p (xs.drop av.toNat) → Ex T [] H H' → Q (.ref p) H') : rSlA K (.ref a) (some av) none H Q := by
  refine ⟨a, xs, rfl, sq, fun hw => q a H ?_ Ex.refl, fun _ p np => q p _ (SqT.of ?_) (Ex.new np)⟩
  · obtain ⟨k, rfl⟩ := Int.eq_ofNat_of_zero_le h0
    have hk : k ≤ xs.length := by omega
    have := hw.1
    rw [HT.sIx_nat] at this
    have e : k = 0 := by omega
    subst e
    exact sq
  · rw [upd_same, cut_drop2 h0 h1]
end Dv

/-! Built machines. -/
namespace Dv
open PySem PySem.Spec PyProof.Rows L2 GxR Gx
theorem tup_new {K : PySem.W.Frag} {T : List Addr} {H : Hp} {xs : List V} {ds : List D} {Q : V → Hp → Prop} (hl : xs.length ≤ sizeLine) (r : Ats K H xs ds) (k : ∀ v H', At K H' v (.tup ds) → Ex T [] H H' → Q v H') :
    xs.length ≤ sizeLine ∧ ∀ p, H p = none → Q (.ref p) (upd H p (.tup xs)) := ⟨hl, fun p np => k _ _ (At.laid np r) (Ex.new np)⟩
theorem bd_near2 {n : Nat} {x b : Int} (h : x.natAbs ≤ b.natAbs + 100000) (g : Bd n b) (e : 20 ≤ n) : Bd (n + 1) x := by
  have p : 2 ^ 20 ≤ 2 ^ n := Nat.pow_le_pow_right (by decide) e
  have q : (2 : Nat) ^ 20 = 1048576 := by decide
  unfold Bd at *
  rw [Nat.pow_succ]
  generalize 2 ^ n = z at *
  omega
theorem answersM_rows (m : M) : ∀ (es : List (Nat × Int)) (st : Nat → Ct) (row : Nat → List (Int × Option Int)), (∀ k e, es[k]? = some e → readM m (st k).1 (st k).2 e = ((st (k + 1)).1, (st (k + 1)).2, row k)) →
    answersM m (st 0) es = (List.range es.length).map row
  | [], st, row, _ => rfl
  | e :: es, st, row, h => by
    have h0 := h 0 e rfl
    show (readM m (st 0).1 (st 0).2 e).2.2 :: answersM m (stepM m (st 0) e) es = _
    have e1 : stepM m (st 0) e = st 1 := by
      unfold stepM
      rw [h0]
    rw [e1, answersM_rows m es (fun k => st (k + 1)) (fun k => row (k + 1)) (fun k e' he => h (k + 1) e' (by simpa using he)), h0, List.length_cons, List.range_succ_eq_map, List.map_cons, List.map_map]
    rfl
theorem last_at {xs : List Int} (h : xs ≠ []) : atI (xs.map V.int) (-1) = some (.int (xs.getLast h)) := by
  have e : xs.map V.int = xs.dropLast.map V.int ++ [.int (xs.getLast h)] := by
    conv => lhs; rw [← List.dropLast_concat_getLast h]
    rw [List.map_append]
    rfl
  rw [e]
  exact atI_last _ _
def asLog (xs : List Int) : List (Nat × Int) := xs.map fun x => (0, x)
theorem asLog_get {xs : List Int} {k : Nat} {e : Nat × Int} (h : (asLog xs)[k]? = some e) : e = (0, xs.getD k 0) ∧ k < xs.length := by
  unfold asLog at h
  rw [List.getElem?_map] at h
  cases g : xs[k]? with
  | none => rw [g] at h; cases h
  | some x =>
    rw [g] at h
    cases h
    refine ⟨?_, (List.getElem?_eq_some_iff.mp g).1⟩
    rw [List.getD_eq_getElem?_getD, g]
    rfl
theorem asLog_len (xs : List Int) : (asLog xs).length = xs.length := List.length_map ..
theorem take_all {xs : List Int} {k : Nat} (h : k < xs.length) (p : Int → Bool) : (xs.take (k + 1)).all p = ((xs.take k).all p && p (xs.getD k 0)) := by
  rw [List.take_add_one, List.getElem?_eq_getElem h, List.all_append, List.getD_eq_getElem?_getD, List.getElem?_eq_getElem h]
  simp
mutual
def tuD : Nat → D → Prop
  | _, .int _ => True
  | _, .str _ => True
  | n + 1, .tup ds => ds.length ≤ 100000 ∧ tuDs n ds
  | _, _ => False
def tuDs : Nat → List D → Prop
  | _, [] => True
  | n, d :: ds => tuD n d ∧ tuDs n ds
end
theorem tuDs_get {n : Nat} : ∀ {ds : List D} {i : Nat} {d : D}, tuDs n ds → ds[i]? = some d → tuD n d
  | [], i, d, h, e => by simp at e
  | d' :: ds, 0, d, h, e => by
    unfold tuDs at h
    obtain rfl : d' = d := by simpa using e
    exact h.1
  | d' :: ds, i + 1, d, h, e => by
    unfold tuDs at h
    exact tuDs_get h.2 (by simpa using e)
theorem eqvAll_ints : ∀ xs ys : List Int, PyData.eqvAll (toPys (xs.map D.int)) (toPys (ys.map D.int)) = decide (xs = ys)
  | [], [] => by unfold toPys PyData.eqvAll; rfl
  | [], y :: ys => by rw [List.map_nil, List.map_cons]; unfold toPys PyData.eqvAll; rw [decide_eq_false (by simp)]
  | x :: xs, [] => by rw [List.map_nil, List.map_cons]; unfold toPys PyData.eqvAll; rw [decide_eq_false (by simp)]
  | x :: xs, y :: ys => by
    rw [List.map_cons, List.map_cons]
    unfold toPys PyData.eqvAll
    rw [eqvAll_ints xs ys]
    unfold toPy PyData.eqv
    by_cases h : x = y
    · subst h
      simp
    · simp [h]
theorem neD_ints {K : PySem.W.Frag} {H : Hp} {a b : Addr} {xs ys : List Int} {Q : VK} (h1 : SqL K H a (xs.map V.int)) (h2 : SqL K H b (ys.map V.int)) (q : Q (.bl (!decide (xs = ys))) H) : rNeD K (.ref a) (.ref b) H Q := by
  have sh : ∀ zs : List Int, SeqAt.shaped (.list (toPys (zs.map D.int))) = true := fun zs => by
    have z := plDs_lay (plDs_map (n := 0) (f := D.int) (l := zs) fun _ _ => plD_int)
    unfold SeqAt.shaped
    have e1 : (PyData.list (toPys (zs.map D.int))).canLay0 = true := by unfold PyData.canLay0; exact z.1
    have e2 : (PyData.list (toPys (zs.map D.int))).depth ≤ 64 := by unfold PyData.depth; omega
    rw [e1, decide_eq_true e2]
    rfl
  refine ⟨_, _, .lst h1 (ats_int.mpr rfl : Ats K H _ (xs.map D.int)).dp, .lst h2 (ats_int.mpr rfl : Ats K H _ (ys.map D.int)).dp, sh xs, sh ys, ?_⟩
  show Q (.bl (!PyData.eqvAll _ _)) H
  rw [eqvAll_ints]
  exact q
theorem rep_bool {K : PySem.W.Frag} {H : Hp} {T : List Addr} {Q : VK} {x : V} {ds : List D} {b : Bool} (hx : At K H x (.tup ds)) (hne : ds ≠ []) (hl : ds.length ≤ 1000) (q : ∀ v H', At K H' v (.tup (if b = true then ds else [])) → Ex T [] H H' → Q v H') :
    Tm.rRepN K x (.int (if b = true then 1 else 0)) H Q := by
  obtain ⟨a, xs, rfl, sq, ats⟩ := at_tup.mp hx
  have l := ats.length
  refine ⟨a, _, xs, rfl, rfl, sq, fun e => hne (by subst e; cases ds with | nil => rfl | cons => simp at l), by split <;> decide, by split <;> decide, by omega, fun p H' hH sq' => ?_⟩
  have ex : Ex T [] H H' := by
    rcases hH with rfl | ⟨n, rfl⟩
    · exact Ex.refl
    · exact Ex.new n
  refine q _ _ (at_tup.mpr ⟨p, _, rfl, sq', ?_⟩) ex
  cases b with
  | true =>
    show Ats K H' (List.replicate (1 : Int).toNat xs).flatten ds
    have e : (List.replicate (1 : Int).toNat xs).flatten = xs := by show (xs ++ []) = xs; rw [List.append_nil]
    rw [e]
    exact ats.ext ex
  | false => exact Ats.mk_nil
/-! records -/
def recM : M := ⟨1, 1, [[[⟨.any [.emp 0, .less 0 (-1)], [-1], [(0, -1)], 0⟩]]]⟩
theorem recM_ok : okM 3 recM := by
  refine ⟨by decide, by decide, by decide, by decide, by decide, fun s hs => ?_, fun s hs cs hcs => ?_⟩
  · obtain rfl := List.mem_singleton.mp hs; rfl
  · obtain rfl := List.mem_singleton.mp hs
    obtain rfl := List.mem_singleton.mp hcs
    refine ⟨by decide, fun c hc => ?_⟩
    obtain rfl := List.mem_singleton.mp hc
    refine ⟨by show okC 1 3 (.any [.emp 0, .less 0 (-1)]); simp [okC, okCs, plOk], rfl, fun s hs => ?_, fun s hs => ?_, by decide, by decide⟩
    · obtain rfl := List.mem_singleton.mp hs; decide
    · obtain rfl := List.mem_singleton.mp hs; decide
theorem recM_read (o : Option Int) (x : Int) : readM recM 0 [o] (0, x) = if (o.isNone || ltO o (some x)) = true then (0, [some x], [(0, some x)]) else (0, [o], []) := by
  have e : M.cases recM 0 0 = [⟨.any [.emp 0, .less 0 (-1)], [-1], [(0, -1)], 0⟩] := rfl
  have w0 : worth x [o] 0 = o := rfl
  have hh : hold x [o] (.any [.emp 0, .less 0 (-1)]) = (o.isNone || ltO o (some x)) := by
    unfold hold
    rw [holdE_cons, holdE_cons]
    unfold hold holdE
    rw [w0, worth_new, Bool.or_false]
  have e1 : (readM recM 0 [o] (0, x)) = (match (M.cases recM 0 0).find? (holdC x [o]) with | none => (0, [o], []) | some c => (c.nxt, keptC x [o] c, saidC x [o] c)) := rfl
  rw [e1, e]
  cases hb : (o.isNone || ltO o (some x)) with
  | true =>
    rw [List.find?_cons_of_pos (by unfold holdC; rw [hh, hb]), if_pos rfl]
    rfl
  | false =>
    rw [List.find?_cons_of_neg (by unfold holdC; rw [hh, hb]; exact Bool.false_ne_true), if_neg Bool.false_ne_true]
    rfl
def recF (o : Option Int) (z : Int) : Bool := o.isNone || ltO o (some z)
def recStep (o : Option Int) (x : Int) : Option Int := if recF o x = true then some x else o
theorem recF_step (o : Option Int) (x z : Int) : recF (recStep o x) z = (recF o z && decide (x < z)) := by
  cases o with
  | none => rfl
  | some m =>
    unfold recStep
    show recF (if decide (m < x) = true then some x else some m) z = (decide (m < z) && decide (x < z))
    by_cases c : m < x
    · rw [if_pos (decide_eq_true c)]
      show decide (x < z) = _
      by_cases d : x < z
      · rw [decide_eq_true d, decide_eq_true (by omega : m < z)]; rfl
      · rw [decide_eq_false d, Bool.and_false]
    · rw [if_neg (by rw [decide_eq_false c]; exact Bool.false_ne_true)]
      show decide (m < z) = _
      by_cases d : m < z
      · rw [decide_eq_true d, decide_eq_true (by omega : x < z)]; rfl
      · rw [decide_eq_false d, Bool.false_and]
def recO (xs : List Int) : Nat → Option Int
  | 0 => none
  | k + 1 => recStep (recO xs k) (xs.getD k 0)
def recRow (xs : List Int) (k : Nat) : List (Int × Option Int) := if (xs.take k).all (fun y => decide (y < xs.getD k 0)) = true then [(0, some (xs.getD k 0))] else []
theorem recO_all (xs : List Int) (z : Int) : ∀ k, k ≤ xs.length → (xs.take k).all (fun y => decide (y < z)) = recF (recO xs k) z
  | 0, _ => rfl
  | k + 1, h => by
    rw [take_all (by omega), recO_all xs z k (by omega)]
    exact (recF_step _ _ _).symm
def recDue (xs : List Int) : List (List (Int × Option Int)) := (List.range xs.length).map (recRow xs)
theorem rec_due (xs : List Int) : answersM recM (0, [none]) (asLog xs) = recDue xs := by
  have h := answersM_rows recM (asLog xs) (fun k => (0, [recO xs k])) (recRow xs) fun k e he => by
    obtain ⟨rfl, hk⟩ := asLog_get he
    show readM recM 0 [recO xs k] (0, xs.getD k 0) = _
    rw [recM_read]
    show (if recF (recO xs k) (xs.getD k 0) = true then _ else _) = (0, [recStep (recO xs k) (xs.getD k 0)], recRow xs k)
    unfold recStep recRow
    rw [recO_all xs _ k (by omega)]
    cases recF (recO xs k) (xs.getD k 0) <;> rfl
  rw [asLog_len] at h
  exact h
/-! band -/
def bandM : M := ⟨1, 2, [[[⟨.emp 0, [-1, -1], [(0, -1), (1, -1)], 0⟩, ⟨.less (-1) 0, [-1, 1], [(0, -1), (1, 1)], 0⟩, ⟨.less 1 (-1), [0, -1], [(0, 0), (1, -1)], 0⟩]]]⟩
def turnsM : M := ⟨1, 2, [[[⟨.all [.less 0 1, .less (-1) 1], [1, -1], [(0, 1)], 0⟩, ⟨.all [.less 1 0, .less 1 (-1)], [1, -1], [(1, 1)], 0⟩, ⟨.tru, [1, -1], [], 0⟩]]]⟩
def runsM : M := ⟨1, 2, [[[⟨.emp 0, [-1, -1], [], 0⟩, ⟨.less 1 (-1), [0, -1], [], 0⟩, ⟨.tru, [-1, -1], [(0, 0)], 0⟩]]]⟩
/-- one standing, one tag -/
theorem ok_one {r : Nat} {cs : List Case} (hr : r ≤ 1000) (hl : cs.length ≤ 1000) (h : ∀ c ∈ cs, okCase r 1 3 c) : okM 3 ⟨1, r, [[cs]]⟩ := by
  refine ⟨by show 1 ≤ 1; decide, by show 1 ≤ 1000; decide, hr, by show 0 < 1; decide, by show 1 ≤ 1000; decide, fun s hs => ?_, fun s hs ds hds => ?_⟩
  · obtain rfl := List.mem_singleton.mp hs; rfl
  · obtain rfl := List.mem_singleton.mp hs
    obtain rfl := List.mem_singleton.mp hds
    exact ⟨hl, h⟩
theorem ok_case {r : Nat} {c : C} {mv : List Int} {sy : List (Int × Int)} (h1 : okC r 3 c) (h2 : mv.length = r) (h3 : ∀ s ∈ mv, -2 ≤ s ∧ s < r) (h4 : ∀ p ∈ sy, 0 ≤ p.1 ∧ -2 ≤ p.2 ∧ p.2 < r) (h5 : sy.length ≤ 1000) : okCase r 1 3 ⟨c, mv, sy, 0⟩ :=
  ⟨h1, h2, h3, h4, h5, by show 0 < 1; decide⟩
theorem bandM_ok : okM 3 bandM := ok_one (by decide) (by decide) fun c hc => by
  simp only [List.mem_cons, List.not_mem_nil, or_false] at hc
  rcases hc with rfl | rfl | rfl <;> exact ok_case (by simp [okC, okCs, plOk]) rfl (by decide) (by decide) (by decide)
theorem turnsM_ok : okM 3 turnsM := ok_one (by decide) (by decide) fun c hc => by
  simp only [List.mem_cons, List.not_mem_nil, or_false] at hc
  rcases hc with rfl | rfl | rfl <;> exact ok_case (by simp [okC, okCs, plOk]) rfl (by decide) (by decide) (by decide)
theorem runsM_ok : okM 3 runsM := ok_one (by decide) (by decide) fun c hc => by
  simp only [List.mem_cons, List.not_mem_nil, or_false] at hc
  rcases hc with rfl | rfl | rfl <;> exact ok_case (by simp [okC, okCs, plOk]) rfl (by decide) (by decide) (by decide)
/-- the first case that holds, of one standing -/
theorem read_one (r : Nat) (cs : List Case) (h : List (Option Int)) (x : Int) : readM ⟨1, r, [[cs]]⟩ 0 h (0, x) = (match cs.find? (holdC x h) with | none => (0, h, []) | some c => (c.nxt, keptC x h c, saidC x h c)) := rfl
theorem find3 {α : Type} (p : α → Bool) (a b c : α) : [a, b, c].find? p = if p a = true then some a else if p b = true then some b else if p c = true then some c else none := by
  cases h1 : p a <;> cases h2 : p b <;> cases h3 : p c <;> simp [h1, h2, h3]
theorem band_read0 (x : Int) : readM bandM 0 [none, none] (0, x) = (0, [some x, some x], [(0, some x), (1, some x)]) := by
  have e := read_one 2 [⟨.emp 0, [-1, -1], [(0, -1), (1, -1)], 0⟩, ⟨.less (-1) 0, [-1, 1], [(0, -1), (1, 1)], 0⟩, ⟨.less 1 (-1), [0, -1], [(0, 0), (1, -1)], 0⟩] [none, none] x
  have h1 : holdC x [none, none] ⟨.emp 0, [-1, -1], [(0, -1), (1, -1)], 0⟩ = true := by unfold holdC hold; rfl
  rw [find3, if_pos h1] at e
  exact e
theorem band_read (l h x : Int) : readM bandM 0 [some l, some h] (0, x) = if x < l then (0, [some x, some h], [(0, some x), (1, some h)]) else if h < x then (0, [some l, some x], [(0, some l), (1, some x)]) else (0, [some l, some h], []) := by
  have e := read_one 2 [⟨.emp 0, [-1, -1], [(0, -1), (1, -1)], 0⟩, ⟨.less (-1) 0, [-1, 1], [(0, -1), (1, 1)], 0⟩, ⟨.less 1 (-1), [0, -1], [(0, 0), (1, -1)], 0⟩] [some l, some h] x
  have h1 : holdC x [some l, some h] ⟨.emp 0, [-1, -1], [(0, -1), (1, -1)], 0⟩ = false := by unfold holdC hold; rfl
  have h2 : holdC x [some l, some h] ⟨.less (-1) 0, [-1, 1], [(0, -1), (1, 1)], 0⟩ = decide (x < l) := by unfold holdC hold; rfl
  have h3 : holdC x [some l, some h] ⟨.less 1 (-1), [0, -1], [(0, 0), (1, -1)], 0⟩ = decide (h < x) := by unfold holdC hold; rfl
  rw [find3, h1, h2, h3, if_neg Bool.false_ne_true] at e
  by_cases c : x < l
  · rw [if_pos c]
    rw [decide_eq_true c, if_pos rfl] at e
    exact e
  · rw [if_neg c]
    rw [decide_eq_false c, if_neg Bool.false_ne_true] at e
    by_cases d : h < x
    · rw [if_pos d]
      rw [decide_eq_true d, if_pos rfl] at e
      exact e
    · rw [if_neg d]
      rw [decide_eq_false d, if_neg Bool.false_ne_true] at e
      exact e
def bandStep (o : Option (Int × Int)) (x : Int) : Option (Int × Int) :=
  match o with
  | none => some (x, x)
  | some (l, h) => if x < l then some (x, h) else if h < x then some (l, x) else some (l, h)
def bandO (xs : List Int) : Nat → Option (Int × Int)
  | 0 => none
  | k + 1 => bandStep (bandO xs k) (xs.getD k 0)
def bandSay (o : Option (Int × Int)) : List (Int × Option Int) :=
  match o with
  | none => []
  | some (l, h) => [(0, some l), (1, some h)]
def bandRow (xs : List Int) (k : Nat) : List (Int × Option Int) := if bandO xs (k + 1) = bandO xs k then [] else bandSay (bandO xs (k + 1))
def bandDue (xs : List Int) : List (List (Int × Option Int)) := (List.range xs.length).map (bandRow xs)
def bandHeld (o : Option (Int × Int)) : List (Option Int) :=
  match o with
  | none => [none, none]
  | some (l, h) => [some l, some h]
theorem band_step (o : Option (Int × Int)) (x : Int) : readM bandM 0 (bandHeld o) (0, x) = (0, bandHeld (bandStep o x), if bandStep o x = o then [] else bandSay (bandStep o x)) := by
  cases o with
  | none => exact band_read0 x
  | some p =>
    obtain ⟨l, h⟩ := p
    show readM bandM 0 [some l, some h] (0, x) = _
    rw [band_read]
    unfold bandStep
    show _ = (0, bandHeld (if x < l then some (x, h) else if h < x then some (l, x) else some (l, h)), if (if x < l then some (x, h) else if h < x then some (l, x) else some (l, h)) = some (l, h) then [] else bandSay (if x < l then some (x, h) else if h < x then some (l, x) else some (l, h)))
    by_cases c : x < l
    · rw [if_pos c, if_pos c, if_neg (by simp; omega)]
      rfl
    · rw [if_neg c, if_neg c]
      by_cases d : h < x
      · rw [if_pos d, if_pos d, if_neg (by simp; omega)]
        rfl
      · rw [if_neg d, if_neg d, if_pos rfl]
        rfl
theorem band_due (xs : List Int) : answersM bandM (0, [none, none]) (asLog xs) = bandDue xs := by
  have h := answersM_rows bandM (asLog xs) (fun k => (0, bandHeld (bandO xs k))) (bandRow xs) fun k e he => by
    obtain ⟨rfl, hk⟩ := asLog_get he
    exact band_step _ _
  rw [asLog_len] at h
  exact h
/-- the least and the greatest of the first k -/
theorem bandO_spec (xs : List Int) : ∀ k, 0 < k → k ≤ xs.length → ∃ l h, bandO xs k = some (l, h) ∧ l ∈ xs.take k ∧ h ∈ xs.take k ∧ ∀ y ∈ xs.take k, l ≤ y ∧ y ≤ h
  | 0, h0, _ => by omega
  | k + 1, _, hk => by
    have et : xs.take (k + 1) = xs.take k ++ [xs.getD k 0] := by
      rw [List.take_add_one, List.getD_eq_getElem?_getD, List.getElem?_eq_getElem (by omega : k < xs.length)]
      rfl
    rw [et]
    generalize hx : xs.getD k 0 = x
    show ∃ l h, bandStep (bandO xs k) (xs.getD k 0) = some (l, h) ∧ _
    rw [hx]
    by_cases h0 : k = 0
    · subst h0
      refine ⟨x, x, rfl, by simp, by simp, fun y hy => ?_⟩
      simp at hy
      omega
    · obtain ⟨l, h, e, hl, hh, ha⟩ := bandO_spec xs k (by omega) (by omega)
      have lh := (ha l hl).2
      rw [e]
      unfold bandStep
      show ∃ l' h', (if x < l then some (x, h) else if h < x then some (l, x) else some (l, h)) = some (l', h') ∧ _
      by_cases c : x < l
      · rw [if_pos c]
        refine ⟨x, h, rfl, by simp, by simp [hh], fun y hy => ?_⟩
        rcases List.mem_append.mp hy with hy | hy
        · have := ha y hy; omega
        · obtain rfl := List.mem_singleton.mp hy; omega
      · rw [if_neg c]
        by_cases d : h < x
        · rw [if_pos d]
          refine ⟨l, x, rfl, by simp [hl], by simp, fun y hy => ?_⟩
          rcases List.mem_append.mp hy with hy | hy
          · have := ha y hy; omega
          · obtain rfl := List.mem_singleton.mp hy; omega
        · rw [if_neg d]
          refine ⟨l, h, rfl, by simp [hl], by simp [hh], fun y hy => ?_⟩
          rcases List.mem_append.mp hy with hy | hy
          · exact ha y hy
          · obtain rfl := List.mem_singleton.mp hy; omega
/-! turning points -/
theorem turns_read (a b : Option Int) (x : Int) : readM turnsM 0 [a, b] (0, x) = (0, [b, some x], if (ltO a b && ltO (some x) b) = true then [(0, b)] else if (ltO b a && ltO b (some x)) = true then [(1, b)] else []) := by
  have e := read_one 2 [⟨.all [.less 0 1, .less (-1) 1], [1, -1], [(0, 1)], 0⟩, ⟨.all [.less 1 0, .less 1 (-1)], [1, -1], [(1, 1)], 0⟩, ⟨.tru, [1, -1], [], 0⟩] [a, b] x
  have h1 : holdC x [a, b] ⟨.all [.less 0 1, .less (-1) 1], [1, -1], [(0, 1)], 0⟩ = (ltO a b && ltO (some x) b) := by
    unfold holdC hold
    rw [holdA_cons, holdA_cons]
    unfold hold holdA
    rw [Bool.and_true]
    rfl
  have h2 : holdC x [a, b] ⟨.all [.less 1 0, .less 1 (-1)], [1, -1], [(1, 1)], 0⟩ = (ltO b a && ltO b (some x)) := by
    unfold holdC hold
    rw [holdA_cons, holdA_cons]
    unfold hold holdA
    rw [Bool.and_true]
    rfl
  have h3 : holdC x [a, b] ⟨.tru, [1, -1], [], 0⟩ = true := by unfold holdC hold; rfl
  rw [find3, h1, h2, h3] at e
  refine e.trans ?_
  cases (ltO a b && ltO (some x) b) <;> cases (ltO b a && ltO b (some x)) <;> rfl
def turnsO (xs : List Int) : Nat → List (Option Int)
  | 0 => [none, none]
  | 1 => [none, some (xs.getD 0 0)]
  | k + 2 => [some (xs.getD k 0), some (xs.getD (k + 1) 0)]
def turnsRow (xs : List Int) (k : Nat) : List (Int × Option Int) :=
  if k < 2 then [] else if xs.getD (k - 2) 0 < xs.getD (k - 1) 0 ∧ xs.getD k 0 < xs.getD (k - 1) 0 then [(0, some (xs.getD (k - 1) 0))]
  else if xs.getD (k - 1) 0 < xs.getD (k - 2) 0 ∧ xs.getD (k - 1) 0 < xs.getD k 0 then [(1, some (xs.getD (k - 1) 0))] else []
def turnsDue (xs : List Int) : List (List (Int × Option Int)) := (List.range xs.length).map (turnsRow xs)
theorem turns_due (xs : List Int) : answersM turnsM (0, [none, none]) (asLog xs) = turnsDue xs := by
  have h := answersM_rows turnsM (asLog xs) (fun k => (0, turnsO xs k)) (turnsRow xs) fun k e he => by
    obtain ⟨rfl, hk⟩ := asLog_get he
    match k with
    | 0 => exact turns_read none none _
    | 1 => exact turns_read none (some _) _
    | k + 2 =>
      show readM turnsM 0 [some (xs.getD k 0), some (xs.getD (k + 1) 0)] (0, xs.getD (k + 2) 0) = (0, [some (xs.getD (k + 1) 0), some (xs.getD (k + 2) 0)], turnsRow xs (k + 2))
      rw [turns_read]
      unfold turnsRow
      rw [if_neg (show ¬ k + 2 < 2 by omega)]
      show (0, _, (if (decide (xs.getD k 0 < xs.getD (k + 1) 0) && decide (xs.getD (k + 2) 0 < xs.getD (k + 1) 0)) = true then _ else if (decide (xs.getD (k + 1) 0 < xs.getD k 0) && decide (xs.getD (k + 1) 0 < xs.getD (k + 2) 0)) = true then _ else _)) = (0, _, (if xs.getD k 0 < xs.getD (k + 1) 0 ∧ xs.getD (k + 2) 0 < xs.getD (k + 1) 0 then _ else if xs.getD (k + 1) 0 < xs.getD k 0 ∧ xs.getD (k + 1) 0 < xs.getD (k + 2) 0 then _ else _))
      simp only [Bool.and_eq_true, decide_eq_true_eq]
      rfl
  rw [asLog_len] at h
  exact h
/-! runs -/
theorem runs_read0 (x : Int) : readM runsM 0 [none, none] (0, x) = (0, [some x, some x], []) := by
  have e := read_one 2 [⟨.emp 0, [-1, -1], [], 0⟩, ⟨.less 1 (-1), [0, -1], [], 0⟩, ⟨.tru, [-1, -1], [(0, 0)], 0⟩] [none, none] x
  have h1 : holdC x [none, none] ⟨.emp 0, [-1, -1], [], 0⟩ = true := by unfold holdC hold; rfl
  rw [find3, if_pos h1] at e
  exact e
theorem runs_read (f p x : Int) : readM runsM 0 [some f, some p] (0, x) = if p < x then (0, [some f, some x], []) else (0, [some x, some x], [(0, some f)]) := by
  have e := read_one 2 [⟨.emp 0, [-1, -1], [], 0⟩, ⟨.less 1 (-1), [0, -1], [], 0⟩, ⟨.tru, [-1, -1], [(0, 0)], 0⟩] [some f, some p] x
  have h1 : holdC x [some f, some p] ⟨.emp 0, [-1, -1], [], 0⟩ = false := by unfold holdC hold; rfl
  have h2 : holdC x [some f, some p] ⟨.less 1 (-1), [0, -1], [], 0⟩ = decide (p < x) := by unfold holdC hold; rfl
  have h3 : holdC x [some f, some p] ⟨.tru, [-1, -1], [(0, 0)], 0⟩ = true := by unfold holdC hold; rfl
  rw [find3, h1, h2, h3, if_neg Bool.false_ne_true] at e
  by_cases c : p < x
  · rw [if_pos c]
    rw [decide_eq_true c, if_pos rfl] at e
    exact e
  · rw [if_neg c]
    rw [decide_eq_false c, if_neg Bool.false_ne_true, if_pos rfl] at e
    exact e
def firstI (xs : List Int) : Nat → Nat
  | 0 => 0
  | k + 1 => if 0 < k ∧ xs.getD k 0 ≤ xs.getD (k - 1) 0 then k else firstI xs k
def runsRow (xs : List Int) (k : Nat) : List (Int × Option Int) := if 0 < k ∧ xs.getD k 0 ≤ xs.getD (k - 1) 0 then [(0, some (xs.getD (firstI xs k) 0))] else []
def runsDue (xs : List Int) : List (List (Int × Option Int)) := (List.range xs.length).map (runsRow xs)
def runsO (xs : List Int) : Nat → List (Option Int)
  | 0 => [none, none]
  | k + 1 => [some (xs.getD (firstI xs (k + 1)) 0), some (xs.getD k 0)]
theorem firstI_lt (xs : List Int) : ∀ k, firstI xs k ≤ k
  | 0 => Nat.le_refl _
  | k + 1 => by
    unfold firstI
    have := firstI_lt xs k
    split <;> omega
theorem runs_due (xs : List Int) : answersM runsM (0, [none, none]) (asLog xs) = runsDue xs := by
  have h := answersM_rows runsM (asLog xs) (fun k => (0, runsO xs k)) (runsRow xs) fun k e he => by
    obtain ⟨rfl, hk⟩ := asLog_get he
    match k with
    | 0 => exact runs_read0 _
    | k + 1 =>
      show readM runsM 0 [some (xs.getD (firstI xs (k + 1)) 0), some (xs.getD k 0)] (0, xs.getD (k + 1) 0) = (0, [some (xs.getD (firstI xs (k + 2)) 0), some (xs.getD (k + 1) 0)], runsRow xs (k + 1))
      rw [runs_read]
      unfold runsRow
      have ef : firstI xs (k + 2) = if 0 < k + 1 ∧ xs.getD (k + 1) 0 ≤ xs.getD k 0 then k + 1 else firstI xs (k + 1) := rfl
      rw [ef]
      show _ = (0, _, if 0 < k + 1 ∧ xs.getD (k + 1) 0 ≤ xs.getD k 0 then [(0, some (xs.getD (firstI xs (k + 1)) 0))] else [])
      by_cases c : xs.getD k 0 < xs.getD (k + 1) 0
      · rw [if_pos c, if_neg (by omega), if_neg (by omega)]
      · rw [if_neg c, if_pos (by omega), if_pos (by omega)]
  rw [asLog_len] at h
  exact h
end Dv

/-! Tuples cut and joined; machines as data to any depth. -/
namespace Dv
open PySem PySem.Spec PyProof.Rows L2 GxR Gx
/-- how many cases there are at a place, at most -/
def wid (w : Nat) (m : M) : Prop := ∀ s ∈ m.steps, ∀ cs ∈ s, cs.length ≤ w
section
variable {K : PySem.W.Frag} {H : Hp} {T : List Addr} {Q : VK}
theorem slT_take {a : Addr} {xs : List V} {av : Int} (sq : SqT K H a xs) (h0 : 0 ≤ av) (h1 : av ≤ xs.length) (q : ∀ p H', SqT K H' p (xs.take av.toNat) → Ex T [] H H' → Q (.ref p) H') : rSlA K (.ref a) none (some av) H Q := by
  obtain ⟨k, rfl⟩ := Int.eq_ofNat_of_zero_le h0
  have hk : k ≤ xs.length := by omega
  refine ⟨a, xs, rfl, sq, fun hw => q a H ?_ Ex.refl, fun _ p np => q p _ (SqT.of ?_) (Ex.new np)⟩
  · have e : k = xs.length := by
      have := hw.2
      rw [HT.sIx_nat] at this
      omega
    rw [Int.toNat_natCast, e, List.take_length]
    exact sq
  · rw [upd_same]
    unfold cutV
    rw [HT.sIx_nat, HT.sIx_none, Int.toNat_natCast, List.drop_zero, Nat.min_eq_left hk]
    rfl
theorem catT_at {x y : V} {ds es : List D} (hx : At K H x (.tup ds)) (hy : At K H y (.tup es)) (hl : ds.length + es.length ≤ 1000000) (q : ∀ v H', At K H' v (.tup (ds ++ es)) → Ex T [] H H' → Q v H') : rCatA K x y H Q := by
  have hl' : ds.length + es.length ≤ sizeLine := Nat.le_trans hl (by decide)
  obtain ⟨a, xs, rfl, sa, ta⟩ := at_tup.mp hx
  obtain ⟨b, ys, rfl, sb, tb⟩ := at_tup.mp hy
  refine ⟨a, b, xs, ys, rfl, rfl, sa, sb, by rw [ta.length, tb.length]; exact hl', fun e => q _ _ ?_ Ex.refl, fun _ e => q _ _ ?_ Ex.refl, fun _ _ p np => q _ _ (At.laid np (ta.append tb)) (Ex.new np)⟩
  · subst e
    have := ta.length
    cases ds with
    | nil => exact hy
    | cons => simp at this
  · subst e
    have := tb.length
    cases es with
    | nil => rw [List.append_nil]; exact hx
    | cons => simp at this
theorem Ats.takeD : ∀ {xs : List V} {ds : List D} (k : Nat), Ats K H xs ds → Ats K H (xs.take k) (ds.take k)
  | xs, ds, 0, _ => by rw [List.take_zero, List.take_zero]; exact Ats.mk_nil
  | xs, [], k + 1, h => by rw [ats_nil.mp h, List.take_nil, List.take_nil]; exact Ats.mk_nil
  | xs, d :: ds, k + 1, h => by
    obtain ⟨x, r, rfl, q, t⟩ := ats_cons.mp h
    exact Ats.mk q (Ats.takeD k t)
theorem Ats.dropD : ∀ {xs : List V} {ds : List D} (k : Nat), Ats K H xs ds → Ats K H (xs.drop k) (ds.drop k)
  | xs, ds, 0, h => h
  | xs, [], k + 1, h => by rw [ats_nil.mp h, List.drop_nil, List.drop_nil]; exact Ats.mk_nil
  | xs, d :: ds, k + 1, h => by
    obtain ⟨x, r, rfl, q, t⟩ := ats_cons.mp h
    exact Ats.dropD k t
/-- t[k:], as data -/
theorem dropT_at {a : Addr} {ds : List D} {av : Int} (h : At K H (.ref a) (.tup ds)) (h0 : 0 ≤ av) (h1 : av ≤ ds.length) (q : ∀ v H', At K H' v (.tup (ds.drop av.toNat)) → Ex T [] H H' → Q v H') : rSlA K (.ref a) (some av) none H Q := by
  obtain ⟨_, xs, e, sq, ats⟩ := at_tup.mp h
  cases e
  exact slA_drop (T := T) sq h0 (by rw [ats.length]; exact h1) fun p H' sq' ex => q _ _ (at_tup.mpr ⟨p, _, rfl, sq', (ats.ext ex).dropD _⟩) ex
theorem takeT_at {a : Addr} {ds : List D} {av : Int} (h : At K H (.ref a) (.tup ds)) (h0 : 0 ≤ av) (h1 : av ≤ ds.length) (q : ∀ v H', At K H' v (.tup (ds.take av.toNat)) → Ex T [] H H' → Q v H') : rSlA K (.ref a) none (some av) H Q := by
  obtain ⟨_, xs, e, sq, ats⟩ := at_tup.mp h
  cases e
  exact slT_take (T := T) sq h0 (by rw [ats.length]; exact h1) fun p H' sq' ex => q _ _ (at_tup.mpr ⟨p, _, rfl, sq', (ats.ext ex).takeD _⟩) ex
end
theorem okCs_of {r n : Nat} : ∀ {cs : List C}, (∀ c ∈ cs, okC r n c) → okCs r n cs
  | [], _ => by unfold okCs; trivial
  | c :: cs, h => by unfold okCs; exact ⟨h c (by simp), okCs_of fun d hd => h d (by simp [hd])⟩
theorem okDi {n : Nat} {i : Int} : okD n (.int i) := by cases n <;> (unfold okD; trivial)
theorem okDst {n : Nat} {s : Str} : okD n (.str s) := by cases n <;> (unfold okD; trivial)
theorem okDm {α : Type} {f : α → D} {n : Nat} : ∀ {l : List α}, (∀ a ∈ l, okD n (f a)) → okDs n (l.map f)
  | [], _ => by rw [List.map_nil]; unfold okDs; trivial
  | a :: l, h => by
    rw [List.map_cons]
    unfold okDs
    exact ⟨h a (by simp), okDm fun b hb => h b (by simp [hb])⟩
theorem okDt {n : Nat} {ds : List D} (hl : ds.length ≤ 100000) (h : okDs n ds) : okD (n + 1) (.tup ds) := by unfold okD; exact ⟨hl, h⟩
theorem okDc {n : Nat} {d : D} {ds : List D} (h : okD n d) (t : okDs n ds) : okDs n (d :: ds) := by unfold okDs; exact ⟨h, t⟩
theorem okDn {n : Nat} : okDs n [] := by unfold okDs; trivial
mutual
theorem okD_succ' : ∀ {n : Nat} {d : D}, okD n d → okD (n + 1) d
  | n, .non, _ => by cases n <;> (unfold okD; trivial)
  | n, .bl _, _ => by cases n <;> (unfold okD; trivial)
  | n, .int _, _ => okDi
  | n, .str _, _ => okDst
  | 0, .tup ds, h => by unfold okD at h; exact h.elim
  | n + 1, .tup ds, h => by unfold okD at h; exact okDt h.1 (okDs_succ' h.2)
theorem okDs_succ' : ∀ {n : Nat} {ds : List D}, okDs n ds → okDs (n + 1) ds
  | n, [], _ => okDn
  | n, d :: ds, h => by unfold okDs at h; exact okDc (okD_succ' h.1) (okDs_succ' h.2)
end
mutual
theorem okD_encC {r : Nat} : ∀ {n : Nat} {c : C}, okC r n c → okD (2 * n + 2) (encC c)
  | n, .tru, _ => by unfold encC; exact okDt (by simp) (okDc okDst okDn)
  | n, .fls, _ => by unfold encC; exact okDt (by simp) (okDc okDst okDn)
  | n, .less a b, _ => by unfold encC; exact okDt (by simp) (okDc okDst (okDc okDi (okDc okDi okDn)))
  | n, .same a b, _ => by unfold encC; exact okDt (by simp) (okDc okDst (okDc okDi (okDc okDi okDn)))
  | n, .emp a, _ => by unfold encC; exact okDt (by simp) (okDc okDst (okDc okDi okDn))
  | 0, .nt c, h => by unfold okC at h; exact h.elim
  | n + 1, .nt c, h => by
    unfold okC at h
    unfold encC
    have : okD (2 * n + 2 + 1) (encC c) := okD_succ' (okD_encC h)
    exact okDt (by simp) (okDc okDst (okDc this okDn))
  | 0, .all cs, h => by unfold okC at h; exact h.elim
  | n + 1, .all cs, h => by
    unfold okC at h
    unfold encC
    exact okDt (by simp) (okDc okDst (okDc (okDt (by rw [encCs_length]; exact h.1) (okDs_encCs h.2)) okDn))
  | 0, .any cs, h => by unfold okC at h; exact h.elim
  | n + 1, .any cs, h => by
    unfold okC at h
    unfold encC
    exact okDt (by simp) (okDc okDst (okDc (okDt (by rw [encCs_length]; exact h.1) (okDs_encCs h.2)) okDn))
theorem okDs_encCs {r : Nat} : ∀ {n : Nat} {cs : List C}, okCs r n cs → okDs (2 * n + 2) (encCs cs)
  | n, [], _ => by unfold encCs; exact okDn
  | n, c :: cs, h => by
    unfold okCs at h
    unfold encCs
    exact okDc (okD_encC h.1) (okDs_encCs h.2)
end
theorem okD_encCase {r S n : Nat} {c : Case} (h : okCase r S n c) (hr : r ≤ 1000) : okD (2 * n + 3) (encCase c) := by
  refine okDt (by simp) (okDc (okD_encC h.cond) (okDc ?_ (okDc ?_ (okDc okDi okDn))))
  · exact okDt (by rw [List.length_map, h.mlen]; omega) (okDm fun _ _ => okDi)
  · refine okDt (by rw [List.length_map]; have := h.slen; omega) (okDm fun p _ => ?_)
    have : okD (2 * n + 1) (encSay p) := okDt (by simp) (okDc okDi (okDc okDi okDn))
    exact this
theorem okD_encM {n : Nat} {m : M} (h : okM n m) : okD (2 * n + 7) (Dv.encM m) := by
  have r := h.rmax
  refine okDt (by simp) (okDc okDi (okDc okDi (okDc ?_ okDn)))
  refine okDt (by rw [List.length_map]; have := h.smax; omega) (okDm fun s hs => ?_)
  refine okDt (by rw [List.length_map, h.all s hs]; have := h.tmax; omega) (okDm fun cs hcs => ?_)
  have hc := h.cases s hs cs hcs
  exact okDt (by rw [List.length_map]; omega) (okDm fun c hc' => okD_encCase (hc.2 c hc') r)
theorem okM_mono {n n' : Nat} {m : M} (h : okM n m) (l : n ≤ n') : okM n' m :=
  ⟨h.tags, h.tmax, h.rmax, h.some, h.smax, h.all, fun s hs cs hcs => ⟨(h.cases s hs cs hcs).1, fun c hc => let k := (h.cases s hs cs hcs).2 c hc; ⟨okC_mono k.cond l, k.mlen, k.mv, k.say, k.slen, k.nxt⟩⟩⟩
theorem turnM_turn (m : M) : turnM (turnM m) = m := by
  have e : (List.map (List.map turnCase)) ∘ (List.map (List.map turnCase)) = id := funext fun s => by
    show List.map (List.map turnCase) (List.map (List.map turnCase) s) = s
    rw [List.map_map]
    have e2 : (List.map turnCase) ∘ (List.map turnCase) = id := funext fun cs => by
      show List.map turnCase (List.map turnCase cs) = cs
      rw [List.map_map]
      have e3 : turnCase ∘ turnCase = id := funext fun c => by
        show ({ c with cond := turnC (turnC c.cond) } : Case) = c
        rw [turnC_turn]
      rw [e3, List.map_id]
    rw [e2, List.map_id]
  show ({ m with steps := (m.steps.map (List.map (List.map turnCase))).map (List.map (List.map turnCase)) } : M) = m
  rw [List.map_map, e, List.map_id]
end Dv

/-! Cases that are parted, and cases that never come. -/
namespace Dv
open PySem PySem.Spec PyProof.Rows L2 GxR Gx
abbrev Rest := List Int × List (Int × Int) × Nat
def restC (c : Case) : Rest := (c.moves, c.says, c.nxt)
def outC (v : Int) (h : List (Option Int)) (cs : List Case) : Option Rest := (cs.find? (holdC v h)).map restC
theorem outC_append (v : Int) (h : List (Option Int)) (a b : List Case) : outC v h (a ++ b) = (outC v h a).or (outC v h b) := by
  unfold outC
  rw [List.find?_append]
  cases a.find? (holdC v h) <;> rfl
theorem readM_out {m m' : M} {st : Nat} {h : List (Option Int)} {e : Nat × Int} (q : outC e.2 h (m.cases st e.1) = outC e.2 h (m'.cases st e.1)) : readM m st h e = readM m' st h e := by
  unfold outC at q
  unfold readM
  cases h1 : (m.cases st e.1).find? (holdC e.2 h) with
  | none =>
    rw [h1] at q
    cases h2 : (m'.cases st e.1).find? (holdC e.2 h) with
    | none => rfl
    | some d => rw [h2] at q; cases q
  | some c =>
    rw [h1] at q
    cases h2 : (m'.cases st e.1).find? (holdC e.2 h) with
    | none => rw [h2] at q; cases q
    | some d =>
      rw [h2] at q
      have r : restC c = restC d := Option.some.inj q
      obtain ⟨c1, c2, c3, c4⟩ := c
      obtain ⟨d1, d2, d3, d4⟩ := d
      unfold restC at r
      simp only [Prod.mk.injEq] at r
      obtain ⟨rfl, rfl, rfl⟩ := r
      rfl
/-- two machines with the same answers everywhere -/
structure SameM (m m' : M) : Prop where
  tags : m'.tags = m.tags
  regs : m'.regs = m.regs
  len : m'.steps.length = m.steps.length
  out : ∀ st t v h, outC v h (m'.cases st t) = outC v h (m.cases st t)
theorem SameM.read {m m' : M} (s : SameM m m') (st : Nat) (h : List (Option Int)) (e : Nat × Int) : readM m' st h e = readM m st h e := readM_out (s.out _ _ _ _)
theorem SameM.refl (m : M) : SameM m m := ⟨rfl, rfl, rfl, fun _ _ _ _ => rfl⟩
theorem SameM.trans {m m' m'' : M} (a : SameM m m') (b : SameM m' m'') : SameM m m'' := ⟨b.tags.trans a.tags, b.regs.trans a.regs, b.len.trans a.len, fun st t v h => (b.out st t v h).trans (a.out st t v h)⟩
theorem SameM.answers {m m' : M} (s : SameM m m') : ∀ (c : Ct) (es : List (Nat × Int)), answersM m' c es = answersM m c es
  | c, [] => rfl
  | c, e :: es => by
    show (readM m' c.1 c.2 e).2.2 :: answersM m' (stepM m' c e) es = (readM m c.1 c.2 e).2.2 :: answersM m (stepM m c e) es
    have e1 : stepM m' c e = stepM m c e := by unfold stepM; rw [s.read]
    rw [s.read, e1, s.answers _ es]
theorem SameM.okCt {m m' : M} (s : SameM m m') {c : Ct} (h : okCt m c) : okCt m' c := ⟨by rw [s.len]; exact h.st, by rw [s.regs]; exact h.len⟩
theorem hold_less (v : Int) (h : List (Option Int)) (a b : Int) : hold v h (.less a b) = ltO (worth v h a) (worth v h b) := by unfold hold; rfl
theorem hold_same (v : Int) (h : List (Option Int)) (a b : Int) : hold v h (.same a b) = eqO (worth v h a) (worth v h b) := by unfold hold; rfl
theorem hold_emp (v : Int) (h : List (Option Int)) (a : Int) : hold v h (.emp a) = (worth v h a).isNone := by unfold hold; rfl
theorem hold_nt (v : Int) (h : List (Option Int)) (c : C) : hold v h (.nt c) = !hold v h c := by conv => lhs; unfold hold
theorem hold_all (v : Int) (h : List (Option Int)) (cs : List C) : hold v h (.all cs) = holdA v h cs := by conv => lhs; unfold hold
theorem hold_any (v : Int) (h : List (Option Int)) (cs : List C) : hold v h (.any cs) = holdE v h cs := by conv => lhs; unfold hold
theorem holdA_nil (v : Int) (h : List (Option Int)) : holdA v h [] = true := by unfold holdA; rfl
theorem holdE_nil (v : Int) (h : List (Option Int)) : holdE v h [] = false := by unfold holdE; rfl
/-! the four parts -/
def partsC (a b : Int) : List C := [.less a b, .same a b, .less b a, .any [.emp a, .emp b]]
theorem parts_some (a b v : Int) (h : List (Option Int)) : ∃ p ∈ partsC a b, hold v h p = true := by
  unfold partsC
  cases ha : worth v h a with
  | none => exact ⟨.any [.emp a, .emp b], by simp, by rw [hold_any, holdE_cons, hold_emp, ha]; rfl⟩
  | some x =>
    cases hb : worth v h b with
    | none => exact ⟨.any [.emp a, .emp b], by simp, by rw [hold_any, holdE_cons, holdE_cons, hold_emp, hold_emp, hb]; simp⟩
    | some y =>
      rcases Int.lt_trichotomy x y with c | c | c
      · exact ⟨.less a b, by simp, by rw [hold_less, ha, hb]; exact decide_eq_true c⟩
      · exact ⟨.same a b, by simp, by rw [hold_same, ha, hb]; exact decide_eq_true c⟩
      · exact ⟨.less b a, by simp, by rw [hold_less, ha, hb]; exact decide_eq_true c⟩
def partCase (c : Case) (p : C) : Case := { c with cond := .all [c.cond, p] }
theorem hold_part (v : Int) (h : List (Option Int)) (c : Case) (p : C) : holdC v h (partCase c p) = (holdC v h c && hold v h p) := by
  show hold v h (.all [c.cond, p]) = (hold v h c.cond && hold v h p)
  rw [hold_all, holdA_cons, holdA_cons, holdA_nil, Bool.and_true]
theorem out_parted {c : Case} {a b : Int} {fs : List Case} (h1 : ∀ f ∈ fs, ∃ p, f = partCase c p) (h2 : ∀ p ∈ partsC a b, partCase c p ∈ fs) (v : Int) (h : List (Option Int)) : outC v h fs = outC v h [c] := by
  unfold outC
  cases hc : holdC v h c with
  | false =>
    rw [List.find?_eq_none.mpr fun f hf => ?_, List.find?_eq_none.mpr fun f hf => ?_]
    · obtain rfl := List.mem_singleton.mp hf
      rw [hc]
      exact Bool.false_ne_true
    · obtain ⟨p, rfl⟩ := h1 f hf
      rw [hold_part, hc]
      exact Bool.false_ne_true
  | true =>
    have e2 : ([c] : List Case).find? (holdC v h) = some c := List.find?_cons_of_pos hc
    rw [e2]
    obtain ⟨p, hp, hv⟩ := parts_some a b v h
    have hm := h2 p hp
    cases hf : fs.find? (holdC v h) with
    | none =>
      have := List.find?_eq_none.mp hf _ hm
      rw [hold_part, hc, hv] at this
      exact absurd rfl this
    | some f =>
      obtain ⟨p', rfl⟩ := h1 f (List.mem_of_find?_eq_some hf)
      rfl
/-! cases that never come -/
def neverC (a b : Int) : List C := [.all [.less a b, .less b a], .less a a, .all [.less a (-1), .less (-1) b, .nt (.less a b)], .all [.same a b, .less a b]]
theorem ltO_irr (x : Option Int) : ltO x x = false := by
  cases x with
  | none => rfl
  | some z => show decide (z < z) = false; exact decide_eq_false (by omega)
theorem never_none (a b v : Int) (h : List (Option Int)) : ∀ p ∈ neverC a b, hold v h p = false := by
  intro p hp
  unfold neverC at hp
  simp only [List.mem_cons, List.not_mem_nil, or_false] at hp
  rcases hp with rfl | rfl | rfl | rfl
  · rw [hold_all, holdA_cons, holdA_cons, holdA_nil, hold_less, hold_less]
    cases worth v h a with
    | none => rfl
    | some x =>
      cases worth v h b with
      | none => rfl
      | some y =>
        show (decide (x < y) && (decide (y < x) && true)) = false
        by_cases c : x < y
        · rw [decide_eq_false (by omega : ¬ y < x)]; simp
        · rw [decide_eq_false c]; rfl
  · rw [hold_less]
    exact ltO_irr _
  · rw [hold_all, holdA_cons, holdA_cons, holdA_cons, holdA_nil, hold_less, hold_less, hold_nt, hold_less, worth_new]
    cases worth v h a with
    | none => rfl
    | some x =>
      cases worth v h b with
      | none => show (decide (x < v) && (false && _)) = false; rw [Bool.false_and, Bool.and_false]
      | some y =>
        show (decide (x < v) && (decide (v < y) && ((!decide (x < y)) && true))) = false
        by_cases c : x < v
        · by_cases d : v < y
          · rw [decide_eq_true (by omega : x < y)]; simp
          · rw [decide_eq_false d]; simp
        · rw [decide_eq_false c]; rfl
  · rw [hold_all, holdA_cons, holdA_cons, holdA_nil, hold_same, hold_less]
    cases worth v h a with
    | none => rfl
    | some x =>
      cases worth v h b with
      | none => rfl
      | some y =>
        show (decide (x = y) && (decide (x < y) && true)) = false
        by_cases c : x = y
        · rw [decide_eq_false (by omega : ¬ x < y)]; simp
        · rw [decide_eq_false c]; rfl
theorem out_never {c : Case} {a b : Int} (hc : c.cond ∈ neverC a b) (v : Int) (h : List (Option Int)) : outC v h [c] = none := by
  unfold outC
  rw [List.find?_cons_of_neg (by unfold holdC; rw [never_none a b v h _ hc]; exact Bool.false_ne_true)]
  rfl
/-! a machine with other cases at one place -/
def putCs (m : M) (st t : Nat) (cs : List Case) : M := { m with steps := m.steps.set st ((m.steps.getD st []).set t cs) }
theorem putCs_cases (m : M) (st t : Nat) (cs : List Case) (hs : st < m.steps.length) (ht : t < (m.steps.getD st []).length) (st' t' : Nat) : (putCs m st t cs).cases st' t' = if st' = st ∧ t' = t then cs else m.cases st' t' := by
  unfold M.cases
  show ((m.steps.set st ((m.steps.getD st []).set t cs)).getD st' []).getD t' [] = _
  rw [List.getD_eq_getElem?_getD (l := m.steps.set _ _), List.getElem?_set]
  by_cases e : st = st'
  · subst e
    rw [if_pos rfl, if_pos hs]
    show (((m.steps.getD st []).set t cs)).getD t' [] = _
    rw [List.getD_eq_getElem?_getD (l := List.set _ _ _), List.getElem?_set]
    by_cases e2 : t = t'
    · subst e2
      rw [if_pos rfl, if_pos ht, if_pos ⟨rfl, rfl⟩]
      rfl
    · rw [if_neg e2, if_neg (fun z => e2 z.2.symm), ← List.getD_eq_getElem?_getD]
  · rw [if_neg e, if_neg (fun z => e z.1.symm), ← List.getD_eq_getElem?_getD]
theorem putCs_same {m : M} {st t : Nat} {cs : List Case} (hs : st < m.steps.length) (ht : t < (m.steps.getD st []).length) (h : ∀ v hh, outC v hh cs = outC v hh (m.cases st t)) : SameM m (putCs m st t cs) :=
  ⟨rfl, rfl, by unfold putCs; rw [List.length_set], fun st' t' v hh => by
    rw [putCs_cases m st t cs hs ht]
    split
    · rename_i z
      rw [z.1, z.2]
      exact h v hh
    · rfl⟩
theorem putCs_ok {m : M} {n st t : Nat} {cs : List Case} (ok : okM n m) (hs : st < m.steps.length) (hl : cs.length ≤ 1000) (hc : ∀ c ∈ cs, okCase m.regs m.steps.length (n + 1) c) : okM (n + 1) (putCs m st t cs) := by
  have ok' := okM_mono ok (n' := n + 1) (by omega)
  have es : m.steps.getD st [] = m.steps[st] := by rw [List.getD_eq_getElem?_getD, List.getElem?_eq_getElem hs]; rfl
  refine ⟨ok.tags, ok.tmax, ok.rmax, by unfold putCs; rw [List.length_set]; exact ok.some, by unfold putCs; rw [List.length_set]; exact ok.smax, fun s hs' => ?_, fun s hs' ds hds => ?_⟩
  · rcases List.mem_or_eq_of_mem_set hs' with h | rfl
    · exact ok.all s h
    · rw [List.length_set, es]
      exact ok.all _ (List.getElem_mem hs)
  · show ds.length ≤ 1000 ∧ ∀ c ∈ ds, okCase m.regs (m.steps.set st _).length (n + 1) c
    rw [List.length_set]
    rcases List.mem_or_eq_of_mem_set hs' with h | rfl
    · exact ok'.cases s h ds hds
    · rcases List.mem_or_eq_of_mem_set hds with h | rfl
      · rw [es] at h
        exact ok'.cases _ (List.getElem_mem hs) ds h
      · exact ⟨hl, hc⟩
theorem putCs_wid {m : M} {w st t : Nat} {cs : List Case} (hw : wid w m) (hs : st < m.steps.length) {w' : Nat} (hl : cs.length ≤ w') (l : w ≤ w') : wid w' (putCs m st t cs) := by
  have es : m.steps.getD st [] = m.steps[st] := by rw [List.getD_eq_getElem?_getD, List.getElem?_eq_getElem hs]; rfl
  intro s hs' ds hds
  rcases List.mem_or_eq_of_mem_set hs' with h | rfl
  · exact Nat.le_trans (hw s h ds hds) l
  · rcases List.mem_or_eq_of_mem_set hds with h | rfl
    · rw [es] at h
      exact Nat.le_trans (hw _ (List.getElem_mem hs) ds h) l
    · exact hl
theorem set_split {α : Type} (l : List α) (i : Nat) (a : α) (h : i < l.length) : l.set i a = l.take i ++ [a] ++ l.drop (i + 1) := by
  rw [List.set_eq_take_append_cons_drop, if_pos h, List.append_assoc]
  rfl
end Dv

/-! Set comprehensions of ints. -/
namespace Dv
open PySem PySem.Spec PyProof.Rows L2 GxR Gx
def tScI (w : World) (wi : TI) (g : TG) (tt : TT) (te : TE) (own : List Nat) : TE := fun σ H Q =>
  wi σ H fun J Ha => ∀ Z, Ha Z = none →
    ∃ W : Nat → Nat → Hp → Prop, (∃ m, W 0 m (upd Ha Z (SetO w Z (fun _ => false) 0))) ∧
      ∀ i m Hb, W i m Hb → (J.stop i Hb ∧ Q (.ref Z) Hb) ∨
        (J.go i Hb ∧ ∃ R : Hp → Prop, (∀ Hc, R Hc → ∃ m', m' < m ∧ W (i + 1) m' Hc) ∧
          ∀ x Hc, J.yld i Hb x Hc → g x (wipe σ own) Hc fun σ2 Hd => wipe σ2 own = wipe σ own ∧ tt σ2 Hd fun b He =>
            if b = true then te σ2 He fun y Hf => ∃ (k : Int) (S : Int → Bool) (n : Nat), y = .int k ∧ Hf Z = some (SetO w Z S n) ∧ n + 1 < scanBound ∧
              R (upd Hf Z (SetO w Z (fun j => S j || decide (j = k)) (if S k = true then n else n + 1)))
            else R He)
section
variable {X : Cx}
theorem addI_goes {pins : List (Addr × Obj)} {σ : L2.St} {H : Hp} {s : Shared} {E : Value → Shared → Prop} {Z : Addr} {S : Int → Bool} {n : Nat} {k : Int} {tk : Tok} {F : Value → Shared → Prop}
    (inv : Inv X pins σ H s) (at_ : H Z = some (SetO X.w Z S n)) (few : n + 1 < scanBound)
    (go : ∀ s', Inv X pins σ (upd H Z (SetO X.w Z (fun j => S j || decide (j = k)) (if S k = true then n else n + 1))) s' → F .none s') :
    wpAny (model X.prog X.w) X.A (call (.builtin "set.add") [.ref Z, .int k tk]) F E s :=
  setR_add (setO_get inv at_) few fun hp same made =>
    go _ (inv.write (e := Z) (t' := s.toks + 1) (by rw [at_]; trivial) (.inl rfl) (fun b u nb hu => (same.2 b nb).trans hu) (let ⟨o, _, _, _, ho, _⟩ := made; ⟨o, ho⟩) (setO_new made))
/-- a set comprehension whose members are ints, in a def -/
theorem pe_scI {elt tg iter : Expr} {ifs : List Expr} {scope : Scope} {own : List (PySem.Str × Nat)} {pos : Pos} {wi : TI} {g : TG} {tt : TT} {te : TE}
    (calm : X.calm = true) (nodup : X.N.Nodup) (pi : PI X tg iter wi) (blk : BlkOk X.N X.env.scope scope own)
    (pgs : ∀ (s : Shared) (H : Hp) (C : Addr) (cl : List (PySem.Str × Addr)) (fp : List Addr), PG (X.blk s H scope (compEnvC scope cl C X.env) fp) tg g)
    (ptt : ∀ (s : Shared) (H : Hp) (C : Addr) (cl : List (PySem.Str × Addr)) (fp : List Addr), PTs (X.blk s H scope (compEnvC scope cl C X.env) fp) ifs tt)
    (pel : ∀ (s : Shared) (H : Hp) (C : Addr) (cl : List (PySem.Str × Addr)) (fp : List Addr), PE (X.blk s H scope (compEnvC scope cl C X.env) fp) elt te)
    (fold : ∀ x, foldedSetIterable iter X.env x = pure x := by intro _; rfl) :
    PE X (.SetComp elt [⟨tg, iter, ifs, 0⟩] scope pos) (tScI X.w wi g tt te (own.map (·.2))) := by
  refine ⟨fun pins s σ H Q inv h => ?_⟩
  rw [PpSet.eval_SetComp]
  have captured : ∀ y ∈ scope.names, y.2 = .free → ∃ c, X.env.cells.lookup y.1 = some c := fun y ym ye =>
    (blk.free y ym ye).elim (fun z => inv.ok.has _ (.inl z)) (fun z => inv.ok.has _ (.inr z))
  refine wpAny_comprehension_free (use := none) rfl fold (closure_ok captured) blk.kind (fun y ym ye => by rw [blk.uniq y ym, ye])
    (thn (pi.run pins s σ H _ inv h) fun iv sa ha => thn ha fun jv sb hb => ?_)
  obtain ⟨ita, fp, tn, J, Hb, ej, invb, TT, stb, fpb, plan⟩ := hb
  subst ej
  refine PpSet.newSet_ok (newEnv_comp ?_)
  generalize eZ : sb.heap.objs.size = Z
  have free : Hb Z = none := invb.hok.fresh (Nat.le_of_eq eZ)
  obtain ⟨W, ⟨m0, w0⟩, turn⟩ := plan Z free
  generalize esc : ({ sb with heap := sb.heap.push { cls := .type "set", dict := none, data := .set #[] 0 (.fresh 0 0 (!X.w.params.followText "set-order")) } } : Shared) = sc
  have invc : Inv X pins σ (upd Hb Z (SetO X.w Z (fun _ => false) 0)) sc := by
    rw [← esc]
    exact invb.laid (t' := sb.toks) (fun b o e => Heap.get?_push_of_some _ e) (Nat.le_of_eq eZ) (by rw [← eZ]; exact setO_new (setR_fresh X.w))
  have hc : sc.heap = sb.heap.push { cls := .type "set", dict := none, data := .set #[] 0 (.fresh 0 0 (!X.w.params.followText "set-order")) } := by rw [← esc]
  have below : ∀ b ∈ fp, b < sb.heap.objs.size := fun b bm => let ⟨_, eo, _⟩ := TT.obj _ _ stb b bm; Heap.lt_size eo
  have fpc : ∀ b ∈ fp, FpOk X pins (upd Hb Z (SetO X.w Z (fun _ => false) 0)) b ∧ b < sc.heap.objs.size := fun b bm => by
    have lt := below b bm
    refine ⟨⟨(upd_ne (by rw [← eZ]; exact Nat.ne_of_lt lt)).trans (fpb b bm).1, (fpb b bm).2⟩, ?_⟩
    rw [hc, Heap.size_push]
    exact Nat.lt_succ_of_lt lt
  have stc : tn 0 sc.heap := TT.keep _ _ _ stb fun b _ o e => by rw [hc]; exact Heap.get?_push_of_some _ e
  have invd := block_start invc blk nodup fpc
  have pgr := pgs sc (upd Hb Z (SetO X.w Z (fun _ => false) 0)) sc.heap.objs.size (cellsFrom (sc.heap.objs.size + 1) scope.names (cloFrom X.env.cells scope.names [])) fp
  have ptr := ptt sc (upd Hb Z (SetO X.w Z (fun _ => false) 0)) sc.heap.objs.size (cellsFrom (sc.heap.objs.size + 1) scope.names (cloFrom X.env.cells scope.names [])) fp
  have per := pel sc (upd Hb Z (SetO X.w Z (fun _ => false) 0)) sc.heap.objs.size (cellsFrom (sc.heap.objs.size + 1) scope.names (cloFrom X.env.cells scope.names [])) fp
  have none_ : ∀ b ∈ fp, (upd Hb Z (SetO X.w Z (fun _ => false) 0)) b = none := fun b bm => (fpc b bm).1.1
  show codeAny _ _ (.compStart (.SetComp elt [⟨tg, iter, ifs, 0⟩] scope pos) 0 (.ref ita) (.ref Z) (compEnvC scope (cellsFrom (sc.heap.objs.size + 1) scope.names (cloFrom X.env.cells scope.names [])) sc.heap.objs.size X.env)) (compPost (model X.prog X.w) X.A X.xe none (EP X pins σ Q) (.ref Z) sc.heap.objs.size) { sc with heap := pushCells (sc.heap.push { cls := .type "dict", data := .dict #[] }) scope.names }
  generalize eE : compEnvC scope (cellsFrom (sc.heap.objs.size + 1) scope.names (cloFrom X.env.cells scope.names [])) sc.heap.objs.size X.env = en at invd pgr ptr per ⊢
  have enl : en.locals = sc.heap.objs.size := by rw [← eE]; rfl
  generalize eH : upd Hb Z (SetO X.w Z (fun _ => false) 0) = Hc at invc invd pgr ptr per w0 none_ fpc
  generalize esd : ({ sc with heap := pushCells (sc.heap.push { cls := .type "dict", data := .dict #[] }) scope.names } : Shared) = sd at invd ⊢
  have std : tn 0 sd.heap := TT.keep _ _ _ stc fun b _ o e => by rw [← esd]; exact pushCells_keeps _ _ _ _ (Heap.get?_push_of_some _ e)
  have stays : ∀ {σ' : L2.St} {H' : Hp} {s' : Shared}, Inv (X.blk sc Hc scope en fp) [] σ' H' s' → (∀ b ∈ fp, H' b = none) → ∀ b ∈ fp, FpOk (X.blk sc Hc scope en fp) [] H' b :=
    fun {σ' H' s'} iv nn b bm => ⟨nn b bm, (iv.ok.exf b bm).1, iv.ok.exfs b bm, .inl bm, fun x c ec => (iv.ok.exf b bm).2 x c ec, fun p pm => absurd (show p ∈ ([] : List (Addr × Obj)) ++ [] from pm) (by simp)⟩
  have whole : codeAny (model X.prog X.w) X.A (.compLoop (.SetComp elt [⟨tg, iter, ifs, 0⟩] scope pos) 0 (.ref ita) (.ref Z) en) (compPost (model X.prog X.w) X.A X.xe none (EP X pins σ Q) (.ref Z) sc.heap.objs.size) sd := by
    refine PpSet.compLoopS_any (fun n s' => ∃ i H', Inv (X.blk sc Hc scope en fp) [] (wipe σ (own.map (·.2))) H' s' ∧ tn i s'.heap ∧ (∀ b ∈ fp, H' b = none) ∧ W i n H') ?_ m0 ⟨0, Hc, invd, std, none_, w0⟩
    rintro n se ⟨i, He, inve, ste, nonee, we⟩
    rcases turn i n He we with ⟨halt, done⟩ | ⟨going, R, back, step⟩
    · refine thnF (TT.done (X.blk sc Hc scope en fp) rfl rfl rfl calm i [] se _ He (fun _ _ => False) inve (stays inve nonee) ste halt) fun r sf ⟨er, invf⟩ => ?_
      subst er
      have invg : Inv X pins σ He sf := invc.call' (ch := fp) invf.os invf.base invf.hok invf.bare fun b bm => ⟨(fpc b bm).1.2.2.2.1, (fpc b bm).1.2.1, (fpc b bm).1.2.2.2.2.1, (fpc b bm).1.2.2.2.2.2⟩
      have gone : He sc.heap.objs.size = none := by rw [← enl]; exact invf.free
      obtain ⟨mm, ns, _⟩ := invf.loc
      have ns' : sf.heap.Ns en.locals mm := ns
      rw [enl] at ns'
      refine ⟨mm, ns', fun hh sm => ?_⟩
      obtain ⟨g0, g1, g2, g3, g4, g5⟩ := invc.fpOk (Nat.le_refl _) gone
      exact ⟨.ref Z, He, invg.turned (t' := sf.toks) (fun b o hb e => (sm.2 b hb).trans e) g0 g1 g3 g4 g5, rfl, done⟩
    · refine thnF (TT.item (X.blk sc Hc scope en fp) rfl rfl rfl calm i [] se _ He (fun _ _ => False) inve (stays inve nonee) ste going) fun r sf ⟨u, er, hf⟩ => ?_
      subst er
      refine thnF hf fun _ sg ⟨x, Hg, invg, rg, yg, stg, noneg⟩ => ?_
      refine thnF (pgr.run _ sg _ Hg x u _ (invg.pinned (stays invg noneg) (TT.obj _ _ stg)) rg (step x Hg yg)) fun _ sh ⟨σh, Hh, invh, wh, qh⟩ => ?_
      refine thnF (ptr.run _ sh σh Hh _ invh qh) fun b si ⟨Hi, invi, qi⟩ => ?_
      have over : ∀ {s' : Shared} {H' : Hp}, Inv (X.blk sc Hc scope en fp) ([] ++ pinsAt fp sg.heap) σh H' s' → R H' →
          ∃ m, m < n ∧ ∃ i H', Inv (X.blk sc Hc scope en fp) [] (wipe σ (own.map (·.2))) H' s' ∧ tn i s'.heap ∧ (∀ b ∈ fp, H' b = none) ∧ W i m H' := fun {s' H'} iv rr => by
        obtain ⟨m', less, w'⟩ := back H' rr
        have pinned : ∀ b ∈ fp, ∀ o, sg.heap.get? b = some o → s'.heap.get? b = some o ∧ H' b = none := fun b bm o eo =>
          ⟨(iv.pin (b, o) (List.mem_append_right _ (List.mem_append_right _ (mem_pinsAt bm eo)))).1, (iv.pin (b, o) (List.mem_append_right _ (List.mem_append_right _ (mem_pinsAt bm eo)))).2.1⟩
        have ll : (wipe σ (own.map (·.2))).length = σh.length := (congrArg List.length wh.symm).trans (wipe_length _ _)
        refine ⟨m', less, i + 1, H', (iv.unpinned (pins := [])).weak ll (fun j v ev => ?_), TT.keep _ _ _ stg fun b bm o eo => (pinned b bm o eo).1, fun b bm => ?_, w'⟩
        · rw [← wh] at ev
          exact (wipe_some ev).1
        · obtain ⟨o, eo, _⟩ := TT.obj _ _ stg b bm
          exact (pinned b bm o eo).2
      cases b with
      | false =>
        rw [if_neg Bool.false_ne_true] at qi ⊢
        exact over invi qi
      | true =>
        rw [if_pos rfl] at qi ⊢
        refine thnF (per.run _ si σh Hi _ invi qi) fun z sj ⟨yv, Hj, invj, rj, kk, SS, nn, ey, atZ, few, rr⟩ => ?_
        subst ey
        obtain ⟨tk, rfl⟩ := (show ∃ tk, z = Value.int kk tk from rj)
        exact addI_goes (X := X.blk sc Hc scope en fp) invj atZ few fun sk invk => over invk rr
  exact PpSet.codeAny_compStart_set whole (TT.self X.A 0 _ _ _ std whole)
end
end Dv

/-! set(xs) of a list of hit. -/
namespace Dv
open PySem PySem.Spec PyProof.Rows L2 GxR Gx
section
variable {P : Program} {w : World} {A : Around} {E : Value → Shared → Prop} {s : Shared}
/-- the object of a new set -/
abbrev setObj (w : World) : Obj := { cls := .type "set", dict := none, data := .set #[] 0 (.fresh 0 0 (!w.params.followText "set-order")) }
set_option maxHeartbeats 8000000 in
theorem set_of_list {l : Addr} {items : Array Value} (ns : List Int) {Q : Value → Shared → Prop} (calm : A.handled = none) (isl : s.heap.IsList l items) (hit : IntsAre items.toList ns) (few : ns.length + 1 < scanBound)
    (k : ∀ (h' : Heap) (tk c : Nat), SetR w h' s.heap.objs.size (fun j => decide (j ∈ ns)) c → c ≤ ns.length → (∀ b o, s.heap.get? b = some o → h'.get? b = some o) →
      Q (.ref s.heap.objs.size) { s with heap := h', toks := tk }) : wpAny (model P w) A (call (.type "set") [.ref l]) Q E s := by
  have len : items.size = ns.length := by
    have z := IntsAre.length hit
    rwa [Array.length_toList] at z
  obtain ⟨cc, tl, mro⟩ := F.called_set.mro
  have made := F.called_set.made
  have subt := F.called_set.sub
  refine wpAny_call (codeAny_of_tree (show wpAny _ _ (callAny (.type "set") _) _ _ _ from wpAny_pure ⟨Code.quiet_builtin _ (by decide +kernel), codeAny_builtin F.entry_type_call ?_⟩))
  rw [Around.under_plain (weight_type_call_type "set" [.ref l] []) rfl]
  have nt := F.called_set.notType
  have cr := F.called_set.canCreate
  have tc := F.typeCall_set_1 (.ref l)
  repeat (any_goals (first | assumption | wp_step))
  refine codeAny_mono (code_set_led1 (.ref l) (E := E) (Q₁ := fun obj sa => obj = .ref s.heap.objs.size ∧ sa = { s with heap := s.heap.push (setObj w) }) ⟨rfl, rfl⟩) fun r sb hb => ?_
  rcases r with e | fl
  · exact hb
  · cases fl with
    | ret obj =>
      obtain ⟨rfl, rfl⟩ := hb
      have atS : (s.heap.push (setObj w)).get? s.heap.objs.size = some (setObj w) := Heap.get?_push_size _ rfl
      have isS : Shared.TypeIs { s with heap := s.heap.push (setObj w) } (.ref s.heap.objs.size) "set" := ⟨_, atS, rfl⟩
      have look := F.called_set.init.lookup
      have bnd := F.called_set.init.bind (.ref s.heap.objs.size)
      repeat (any_goals (first | assumption | wp_step))
      refine codeAny_mono (codeAny_call_builtin (R := wants (fun r sc => r = .none ∧ ∃ h' tk c, sc = { s with heap := h', toks := tk } ∧ SetR w h' s.heap.objs.size (fun j => decide (j ∈ ns)) c ∧ c ≤ ns.length ∧ (∀ b o, s.heap.get? b = some o → h'.get? b = some o)) E)
        F.called_set.init.plain F.entry_set_init (check_set_init_1 isS ?_)) fun rb sc hc => ?_
      · obtain ⟨⟨ocls, odict, odata, oslots⟩, ol, oc, nl, od⟩ := isl
        simp only at oc od
        subst oc
        subst od
        have ol' : (s.heap.push (setObj w)).get? l = some { cls := .type "list", dict := odict, data := .seq items nl, slots := oslots } := Heap.get?_push_of_some _ ol
        have s1 := F.sub_list_set
        have s2 := F.sub_list_frozenset
        have nd : (Value.type "list" == Value.type "dict") = false := by decide
        have isl1 : (s.heap.push (setObj w)).IsList l items := ⟨_, ol', rfl, nl, rfl⟩
        unfold Builtin.«set.__init__» noKeywords Builtin.Frozenset.updateFrom
        generalize hPI : pyIter = PI
        wp_walk
        subst hPI
        refine wpAny_pyIter_list isl1 (wpAny_bind (wpAny_runValue ?_))
        have lt : l < s.heap.objs.size := Heap.lt_size ol
        have sz : (s.heap.push (setObj w)).objs.size = s.heap.objs.size + 1 := Heap.size_push ..
        have neI : l ≠ (s.heap.push (setObj w)).objs.size := by rw [sz]; exact Nat.ne_of_lt (Nat.lt_succ_of_lt lt)
        have notin : s.heap.objs.size ∉ [(s.heap.push (setObj w)).objs.size, l] := by
          intro z
          rcases List.mem_cons.mp z with e1 | e1
          · rw [sz] at e1; exact absurd e1 (by omega)
          · rw [← List.mem_singleton.mp e1] at lt; exact Nat.lt_irrefl _ lt
        have vals : ∀ (i : Nat) (v : Value), items[i]? = some v → ∃ k t, ns[i]? = some k ∧ v = .int k t := fun i v hv => by
          have hi : i < ns.length := len ▸ (Array.getElem?_eq_some_iff.mp hv).1
          obtain ⟨t, ev⟩ := PyProof.Rows.IntsAre.int_at hit i v (by rw [Array.getElem?_toList]; exact hv)
          exact ⟨ns[i], t, List.getElem?_eq_getElem hi, by rw [ev, List.getD_eq_getElem?_getD, List.getElem?_eq_getElem hi] <;> rfl⟩
        refine set_update_ints ((Walks.list (by simp [calm]) _ l neI items).toS) s.heap.objs.size notin ns len few vals (items.size - 0) 0 _ (by omega) (Nat.zero_le _) ⟨⟨_, Heap.get?_push_size _ rfl, rfl, rfl⟩, (isl1.push _)⟩ ?start ?stop
        case start => exact ⟨0, Nat.le_refl 0, setR_new_at (Heap.get?_push_of_some _ atS)⟩
        case stop =>
          rintro ⟨h', g2, d', tk', os'⟩ c' moved lc made'
          have eg : g2 = s.gens := moved.gens
          have ed : d' = s.drawn := moved.drawn
          have eo : os' = s.os := moved.os
          subst eg; subst ed; subst eo
          refine wpAny_pure (show wpAny _ _ (ret Value.none) _ _ _ from wpAny_pure ⟨rfl, h', tk', c', rfl, made', len ▸ lc, fun b o e => ?_⟩)
          have b0 : b < s.heap.objs.size := Heap.lt_size e
          refine moved.heap b o (fun z => ?_) (Heap.get?_push_of_some _ (Heap.get?_push_of_some _ e))
          rcases List.mem_cons.mp z with e1 | e1
          · rw [e1] at b0; exact Nat.lt_irrefl _ b0
          · rw [List.mem_singleton.mp e1, sz] at b0; exact Nat.lt_irrefl _ (Nat.lt_of_succ_lt b0)
      · rcases rb with e | fl2
        · exact hc
        · cases fl2 with
          | ret r =>
            obtain ⟨rfl, h', tk, c', rfl, hs', hl', hk'⟩ := hc
            repeat (any_goals (first | assumption | wp_step))
            exact k _ _ _ hs' hl' hk'
          | _ => exact hc.elim
    | _ => exact hb.elim
end
section
variable {X : Cx}
def rSetI (K : PySem.W.Frag) (w : World) : List V → Hp → VK → Prop := fun xs H Q => ∃ (l : Addr) (ns : List Int), xs = [V.ref l] ∧ SqL K H l (ns.map V.int) ∧ ns.length ≤ 3000 ∧
  ∀ p c, H p = none → c ≤ ns.length → Q (.ref p) (upd H p (SetO w p (fun j => decide (j ∈ ns)) c))
theorem cr_setI (calm : X.calm = true := by rfl) : CallR X (.type "set") (rSetI X.K X.w) := by
  intro pins s σ H xs us Q inv r h
  obtain ⟨l, ns, rfl, sq, few, q⟩ := h
  rw [Vals.ref1 r]
  obtain ⟨its, rv, isl, _⟩ := inv.list sq
  refine set_of_list ns (inv.ok.hd calm) isl.isList (by simpa using ints_of_vals rv) (by unfold scanBound; omega) fun h' tk c made lc keep => ?_
  exact ⟨.ref s.heap.objs.size, upd H s.heap.objs.size (SetO X.w s.heap.objs.size (fun j => decide (j ∈ ns)) c), inv.laid (t' := tk) keep (Nat.le_refl _) (setO_new made), rfl, q _ c (inv.hok.fresh (Nat.le_refl _)) lc⟩
end
end Dv

/-! Values at one spot. -/
namespace Dv
open PySem PySem.Spec PyProof.Rows L2 GxR Gx
/-- g keeps the order of the values that P tells -/
def Emb (P : Int → Prop) (g : Int → Int) : Prop := ∀ x y, P x → P y → (g x < g y ↔ x < y) ∧ (g x = g y ↔ x = y)
section
variable {P : Int → Prop} {g : Int → Int}
theorem ltO_on (e : Emb P g) {a b : Option Int} (ha : ∀ x, a = some x → P x) (hb : ∀ x, b = some x → P x) : ltO (a.map g) (b.map g) = ltO a b := by
  cases a with
  | none => rfl
  | some x =>
    cases b with
    | none => rfl
    | some y =>
      show decide (g x < g y) = decide (x < y)
      rw [decide_eq_decide]
      exact (e x y (ha x rfl) (hb y rfl)).1
theorem eqO_on (e : Emb P g) {a b : Option Int} (ha : ∀ x, a = some x → P x) (hb : ∀ x, b = some x → P x) : eqO (a.map g) (b.map g) = eqO a b := by
  cases a with
  | none => rfl
  | some x =>
    cases b with
    | none => rfl
    | some y =>
      show decide (g x = g y) = decide (x = y)
      rw [decide_eq_decide]
      exact (e x y (ha x rfl) (hb y rfl)).2
variable {v : Int} {h : List (Option Int)}
mutual
theorem hold_on (e : Emb P g) (hh : PH P h) (hv : P v) : ∀ c : C, hold (g v) (mapH g h) c = hold v h c
  | .tru => by unfold hold; rfl
  | .fls => by unfold hold; rfl
  | .less a b => by rw [hold_less, hold_less, worth_map, worth_map]; exact ltO_on e (fun x ex => worth_P hh hv ex) (fun x ex => worth_P hh hv ex)
  | .same a b => by rw [hold_same, hold_same, worth_map, worth_map]; exact eqO_on e (fun x ex => worth_P hh hv ex) (fun x ex => worth_P hh hv ex)
  | .emp a => by rw [hold_emp, hold_emp, worth_map]; cases worth v h a <;> rfl
  | .nt c => by rw [hold_nt, hold_nt, hold_on e hh hv c]
  | .all cs => by rw [hold_all, hold_all]; exact holdA_on e hh hv cs
  | .any cs => by rw [hold_any, hold_any]; exact holdE_on e hh hv cs
theorem holdA_on (e : Emb P g) (hh : PH P h) (hv : P v) : ∀ cs : List C, holdA (g v) (mapH g h) cs = holdA v h cs
  | [] => by rw [holdA_nil, holdA_nil]
  | c :: cs => by rw [holdA_cons, holdA_cons, hold_on e hh hv c, holdA_on e hh hv cs]
theorem holdE_on (e : Emb P g) (hh : PH P h) (hv : P v) : ∀ cs : List C, holdE (g v) (mapH g h) cs = holdE v h cs
  | [] => by rw [holdE_nil, holdE_nil]
  | c :: cs => by rw [holdE_cons, holdE_cons, hold_on e hh hv c, holdE_on e hh hv cs]
end
theorem readM_on (e : Emb P g) (hh : PH P h) (m : M) (st t : Nat) (hv : P v) :
    readM m st (mapH g h) (t, g v) = ((readM m st h (t, v)).1, mapH g (readM m st h (t, v)).2.1, (readM m st h (t, v)).2.2.map (chE g)) := by
  have ef : holdC (g v) (mapH g h) = holdC v h := funext fun c => hold_on e hh hv c.cond
  have e1 : readM m st (mapH g h) (t, g v) = (match (m.cases st t).find? (holdC (g v) (mapH g h)) with | none => (st, mapH g h, []) | some c => (c.nxt, keptC (g v) (mapH g h) c, saidC (g v) (mapH g h) c)) := rfl
  have e2 : readM m st h (t, v) = (match (m.cases st t).find? (holdC v h) with | none => (st, h, []) | some c => (c.nxt, keptC v h c, saidC v h c)) := rfl
  rw [e1, e2, ef]
  cases (m.cases st t).find? (holdC v h) with
  | none => rfl
  | some c =>
    show (c.nxt, keptC (g v) (mapH g h) c, saidC (g v) (mapH g h) c) = _
    rw [saidC_map, keptC_map]
end
/-- v1 and v2 stand alike to what is held -/
def SpotOf (h : List (Option Int)) (a b : Int) : Prop := ∀ y, some y ∈ h → y ≠ a ∧ y ≠ b ∧ (y < a ↔ y < b)
def swapV (a b : Int) : Int → Int := fun x => if x = a then b else x
theorem swap_at (a b : Int) : swapV a b a = b := if_pos rfl
theorem swap_emb {h : List (Option Int)} {a b : Int} (s : SpotOf h a b) : Emb (fun x => some x ∈ h ∨ x = a) (swapV a b) := by
  have out : ∀ x, some x ∈ h → swapV a b x = x := fun x hx => if_neg (s x hx).1
  rintro x y (hx | rfl) (hy | rfl)
  · rw [out x hx, out y hy]; exact ⟨Iff.rfl, Iff.rfl⟩
  · rw [out x hx, swap_at]
    have k := s x hx
    exact ⟨⟨fun z => k.2.2.mpr z, fun z => k.2.2.mp z⟩, ⟨fun z => absurd z k.2.1, fun z => absurd z k.1⟩⟩
  · rw [out y hy, swap_at]
    have k := s y hy
    refine ⟨⟨fun z => ?_, fun z => ?_⟩, ⟨fun z => absurd z.symm k.2.1, fun z => absurd z.symm k.1⟩⟩
    · have := k.2.2; have := k.1; omega
    · have := k.2.2; have := k.2.1; omega
  · exact ⟨by omega, by simp⟩
theorem swap_held {h : List (Option Int)} {a b : Int} (s : SpotOf h a b) : mapH (swapV a b) h = h := by
  unfold mapH
  conv => rhs; rw [← List.map_id h]
  refine List.map_congr_left fun o ho => ?_
  cases o with
  | none => rfl
  | some y => show some (swapV a b y) = some y; unfold swapV; rw [if_neg (s y ho).1]
theorem read_spot {h : List (Option Int)} {a b : Int} (s : SpotOf h a b) (m : M) (st t : Nat) : readM m st h (t, b) = ((readM m st h (t, a)).1, mapH (swapV a b) (readM m st h (t, a)).2.1, (readM m st h (t, a)).2.2.map (chE (swapV a b))) := by
  have e := readM_on (v := a) (swap_emb s) (fun x hx => .inl hx) m st t (.inr rfl)
  rw [swap_held s, swap_at] at e
  exact e
end Dv

/-! Ranks of held values. -/
namespace Dv
open PySem PySem.Spec PyProof.Rows L2 GxR Gx
def ins (x : Int) : List Int → List Int
  | [] => [x]
  | y :: l => if x < y then x :: y :: l else if x = y then y :: l else y :: ins x l
theorem mem_ins {x z : Int} : ∀ {l : List Int}, z ∈ ins x l ↔ z = x ∨ z ∈ l
  | [] => by simp [ins]
  | y :: l => by
    unfold ins
    split
    · simp
    · split
      · next h => simp [h]
      · rw [List.mem_cons, mem_ins, List.mem_cons]
        constructor
        · rintro (h | h | h)
          · exact .inr (.inl h)
          · exact .inl h
          · exact .inr (.inr h)
        · rintro (h | h | h)
          · exact .inr (.inl h)
          · exact .inl h
          · exact .inr (.inr h)
theorem ins_sorted {x : Int} : ∀ {l : List Int}, l.Pairwise (· < ·) → (ins x l).Pairwise (· < ·)
  | [], _ => by simp [ins]
  | y :: l, h => by
    have h' := List.pairwise_cons.mp h
    unfold ins
    split
    · next c =>
      refine List.pairwise_cons.mpr ⟨fun z hz => ?_, h⟩
      rcases List.mem_cons.mp hz with e | e
      · omega
      · have := h'.1 z e
        omega
    · split
      · exact h
      · refine List.pairwise_cons.mpr ⟨fun z hz => ?_, ins_sorted h'.2⟩
        rcases mem_ins.mp hz with e | e
        · omega
        · exact h'.1 z e
theorem insN_len {x : Int} : ∀ {l : List Int}, l.Pairwise (· < ·) → (ins x l).length = if x ∈ l then l.length else l.length + 1
  | [], _ => by simp [ins]
  | y :: l, h => by
    have h' := List.pairwise_cons.mp h
    unfold ins
    split
    · next c =>
      rw [if_neg]
      · rfl
      · intro m
        rcases List.mem_cons.mp m with e | e
        · omega
        · have := h'.1 x e
          omega
    · split
      · next c => rw [if_pos (by simp [c])]
      · next c1 c2 =>
        rw [List.length_cons, insN_len h'.2]
        by_cases m : x ∈ l
        · rw [if_pos m, if_pos (by simp [m])]
          rfl
        · rw [if_neg m, if_neg (by simp [m, c2])]
          rfl
def srt (l : List Int) : List Int := l.foldl (fun a x => ins x a) []
theorem srt_snoc {l : List Int} {x : Int} : srt (l ++ [x]) = ins x (srt l) := by unfold srt; rw [List.foldl_append]; rfl
theorem srt_both (l : List Int) : ∀ n, (srt (l.take n)).Pairwise (· < ·) ∧ ∀ z, z ∈ srt (l.take n) ↔ z ∈ l.take n
  | 0 => by simp [srt]
  | n + 1 => by
    have ih := srt_both l n
    rw [List.take_add_one]
    cases e : l[n]? with
    | none => simpa using ih
    | some x =>
      show (srt (l.take n ++ [x])).Pairwise (· < ·) ∧ ∀ z, z ∈ srt (l.take n ++ [x]) ↔ z ∈ l.take n ++ [x]
      rw [srt_snoc]
      refine ⟨ins_sorted ih.1, fun z => ?_⟩
      rw [mem_ins, ih.2, List.mem_append, List.mem_singleton]
      exact or_comm
theorem srt_sorted (l : List Int) : (srt l).Pairwise (· < ·) := by have := (srt_both l l.length).1; rwa [List.take_length] at this
theorem mem_srt {l : List Int} {z : Int} : z ∈ srt l ↔ z ∈ l := by have := (srt_both l l.length).2 z; rwa [List.take_length] at this
theorem srt_unique : ∀ {a b : List Int}, a.Pairwise (· < ·) → b.Pairwise (· < ·) → (∀ y, y ∈ a ↔ y ∈ b) → a = b
  | [], [], _, _, _ => rfl
  | [], y :: b, _, _, h => by have := (h y).mpr (by simp); cases this
  | y :: a, [], _, _, h => by have := (h y).mp (by simp); cases this
  | x :: a, y :: b, ha, hb, h => by
    have ha' := List.pairwise_cons.mp ha
    have hb' := List.pairwise_cons.mp hb
    have e : x = y := by
      rcases List.mem_cons.mp ((h x).mp (by simp)) with e | e
      · exact e
      · rcases List.mem_cons.mp ((h y).mpr (by simp)) with e2 | e2
        · exact e2.symm
        · have := ha'.1 y e2
          have := hb'.1 x e
          omega
    subst e
    rw [srt_unique ha'.2 hb'.2 fun z => ?_]
    constructor
    · intro hz
      rcases List.mem_cons.mp ((h z).mp (by simp [hz])) with e | e
      · have := ha'.1 z hz
        omega
      · exact e
    · intro hz
      rcases List.mem_cons.mp ((h z).mpr (by simp [hz])) with e | e
      · have := hb'.1 z hz
        omega
      · exact e
theorem srt_eq {l ks : List Int} (h : ks.Pairwise (· < ·)) (m : ∀ y, y ∈ ks ↔ y ∈ l) : ks = srt l := srt_unique h (srt_sorted l) fun y => by rw [m, mem_srt]
theorem srt_filter (l : List Int) (p : Int → Bool) : srt (l.filter p) = (srt l).filter p := (srt_eq ((srt_sorted l).filter _) fun y => by rw [List.mem_filter, List.mem_filter, mem_srt]).symm
theorem srt_map (l : List Int) {g : Int → Int} (h : ∀ x ∈ l, ∀ y ∈ l, x < y → g x < g y) : srt (l.map g) = (srt l).map g := by
  refine (srt_eq (List.pairwise_map.mpr ((srt_sorted l).imp_of_mem fun ha hb c => h _ (mem_srt.mp ha) _ (mem_srt.mp hb) c)) fun y => ?_).symm
  rw [List.mem_map, List.mem_map]
  simp only [mem_srt]
/-- how many are less -/
def cnt (ks : List Int) (v : Int) : Nat := (ks.filter fun y => decide (y < v)).length
theorem cnt_at : ∀ {ks : List Int} {i : Nat}, ks.Pairwise (· < ·) → (hi : i < ks.length) → cnt ks ks[i] = i
  | x :: ks, 0, h, _ => by
    have h' := List.pairwise_cons.mp h
    show (List.filter (fun y => decide (y < x)) (x :: ks)).length = 0
    rw [List.length_eq_zero_iff, List.filter_eq_nil_iff]
    intro y hy
    rw [decide_eq_true_iff]
    rcases List.mem_cons.mp hy with e | e
    · omega
    · have := h'.1 y e
      omega
  | x :: ks, i + 1, h, hi => by
    have h' := List.pairwise_cons.mp h
    have hi' : i < ks.length := Nat.lt_of_succ_lt_succ hi
    show (List.filter (fun y => decide (y < ks[i])) (x :: ks)).length = i + 1
    rw [List.filter_cons_of_pos (by rw [decide_eq_true_iff]; exact h'.1 _ (List.getElem_mem _)), List.length_cons]
    exact congrArg (· + 1) (cnt_at h'.2 hi')
theorem cnt_of {ks : List Int} {v : Int} (h : ks.Pairwise (· < ·)) (m : v ∈ ks) : ∃ i, ∃ hi : i < ks.length, ks[i] = v ∧ cnt ks v = i := by
  obtain ⟨i, hi, rfl⟩ := List.getElem_of_mem m
  exact ⟨i, hi, rfl, cnt_at h hi⟩
theorem at_lt {ks : List Int} {i j : Nat} (h : ks.Pairwise (· < ·)) (hi : i < ks.length) (hj : j < ks.length) : ks[i] < ks[j] ↔ i < j := by
  have w := List.pairwise_iff_getElem.mp h
  constructor
  · intro c
    rcases Nat.lt_trichotomy i j with a | a | a
    · exact a
    · subst a
      omega
    · have := w j i hj hi a
      omega
  · exact w i j hi hj
theorem cnt_lt {ks : List Int} {x y : Int} (h : ks.Pairwise (· < ·)) (hx : x ∈ ks) (hy : y ∈ ks) : cnt ks x < cnt ks y ↔ x < y := by
  obtain ⟨i, hi, rfl, e1⟩ := cnt_of h hx
  obtain ⟨j, hj, rfl, e2⟩ := cnt_of h hy
  rw [e1, e2, at_lt h hi hj]
theorem cnt_le (ks : List Int) (v : Int) : cnt ks v ≤ ks.length := List.length_filter_le ..
/-- the held values -/
def kn (h : List (Option Int)) : List Int := srt (h.filterMap id)
theorem kn_sorted (h : List (Option Int)) : (kn h).Pairwise (· < ·) := srt_sorted _
theorem mem_kn {h : List (Option Int)} {v : Int} : v ∈ kn h ↔ some v ∈ h := by unfold kn; rw [mem_srt, List.mem_filterMap]; simp
theorem srt_len (l : List Int) : ∀ n, (srt (l.take n)).length ≤ n
  | 0 => by simp [srt]
  | n + 1 => by
    have ih := srt_len l n
    rw [List.take_add_one]
    cases e : l[n]? with
    | none => simp; omega
    | some x =>
      show (srt (l.take n ++ [x])).length ≤ n + 1
      rw [srt_snoc, insN_len (srt_sorted _)]
      split <;> omega
theorem kn_len (h : List (Option Int)) : (kn h).length ≤ h.length := by
  have := srt_len (h.filterMap id) (h.filterMap id).length
  rw [List.take_length] at this
  exact Nat.le_trans this (List.length_filterMap_le _ _)
def rkF (h : List (Option Int)) : Int → Int := fun v => (cnt (kn h) v : Nat)
def ranksH (h : List (Option Int)) : List (Option Int) := mapH (rkF h) h
theorem fm_map (g : Int → Int) (h : List (Option Int)) : (mapH g h).filterMap id = (h.filterMap id).map g := by
  unfold mapH
  rw [List.filterMap_map, List.map_filterMap]
  rfl
theorem kn_map {g : Int → Int} {h : List (Option Int)} (r : ∀ x y, some x ∈ h → some y ∈ h → x < y → g x < g y) : kn (mapH g h) = (kn h).map g := by
  unfold kn
  rw [fm_map]
  refine srt_map _ fun x hx y hy c => r x y ?_ ?_ c
  · simpa using hx
  · simpa using hy
theorem cnt_map {ks : List Int} {g : Int → Int} {v : Int} (r : ∀ x ∈ ks, (g x < g v ↔ x < v)) : cnt (ks.map g) (g v) = cnt ks v := by
  unfold cnt
  rw [List.filter_map, List.length_map]
  congr 1
  refine List.filter_congr fun x hx => ?_
  show decide (g x < g v) = decide (x < v)
  rw [decide_eq_decide]
  exact r x hx
theorem lt_iff {h : List (Option Int)} {g : Int → Int} (r : ∀ x y, some x ∈ h → some y ∈ h → x < y → g x < g y) {x y : Int} (hx : some x ∈ h) (hy : some y ∈ h) : g x < g y ↔ x < y := by
  constructor
  · intro c
    rcases Int.lt_trichotomy x y with a | a | a
    · exact a
    · subst a
      omega
    · have := r y x hy hx a
      omega
  · exact r x y hx hy
theorem ranks_map {g : Int → Int} {h : List (Option Int)} (r : ∀ x y, some x ∈ h → some y ∈ h → x < y → g x < g y) : ranksH (mapH g h) = ranksH h := by
  unfold ranksH rkF
  rw [kn_map r]
  unfold mapH
  rw [List.map_map]
  refine List.map_congr_left fun o ho => ?_
  cases o with
  | none => rfl
  | some v =>
    show some (((cnt ((kn h).map g) (g v) : Nat) : Int)) = some ((cnt (kn h) v : Nat) : Int)
    rw [cnt_map fun x hx => lt_iff r (mem_kn.mp hx) ho]
theorem rk_mono {h : List (Option Int)} : ∀ x y, some x ∈ h → some y ∈ h → x < y → rkF h x < rkF h y := fun x y hx hy c => by
  have := (cnt_lt (kn_sorted h) (mem_kn.mpr hx) (mem_kn.mpr hy)).mpr c
  unfold rkF
  omega
theorem ranks_ranks (h : List (Option Int)) : ranksH (ranksH h) = ranksH h := ranks_map rk_mono
theorem kn_ranks (h : List (Option Int)) : kn (ranksH h) = (List.range (kn h).length).map fun (i : Nat) => (i : Int) := by
  unfold ranksH
  rw [kn_map rk_mono]
  refine List.ext_getElem (by simp) fun i h1 h2 => ?_
  rw [List.getElem_map, List.getElem_map, List.getElem_range]
  rw [List.length_map] at h1
  unfold rkF
  rw [cnt_at (kn_sorted h) h1]
theorem ranks_top {h : List (Option Int)} {M : Int} (g : ∀ x, some x ∈ h → x < M) : ranksH (h ++ [some M]) = ranksH h ++ [some (((kn h).length : Nat) : Int)] := by
  have e : kn (h ++ [some M]) = kn h ++ [M] := by
    refine (srt_eq (List.pairwise_append.mpr ⟨kn_sorted h, by simp, fun x hx y hy => ?_⟩) fun y => ?_).symm
    · obtain rfl := List.mem_singleton.mp hy
      exact g x (mem_kn.mp hx)
    · rw [List.mem_append, List.mem_singleton, mem_kn]
      simp
  unfold ranksH rkF mapH
  rw [List.map_append, e]
  congr 1
  · refine List.map_congr_left fun o ho => ?_
    cases o with
    | none => rfl
    | some v =>
      have c := g v ho
      show some (((cnt (kn h ++ [M]) v : Nat) : Int)) = some ((cnt (kn h) v : Nat) : Int)
      unfold cnt
      rw [List.filter_append, List.filter_cons_of_neg (by rw [decide_eq_true_iff]; omega), List.filter_nil, List.append_nil]
  · show [some (((cnt (kn h ++ [M]) M : Nat) : Int))] = _
    congr 3
    unfold cnt
    rw [List.filter_append, List.filter_cons_of_neg (by rw [decide_eq_true_iff]; omega), List.filter_nil, List.append_nil, List.filter_eq_self.mpr]
    intro x hx
    rw [decide_eq_true_iff]
    exact g x (mem_kn.mp hx)
theorem ranks_low {h : List (Option Int)} {m : Int} (g : ∀ x, some x ∈ h → m < x) : ranksH (some m :: h) = some 0 :: mapH (· + 1) (ranksH h) := by
  have e : kn (some m :: h) = m :: kn h := by
    refine (srt_eq (List.pairwise_cons.mpr ⟨fun x hx => g x (mem_kn.mp hx), kn_sorted h⟩) fun y => ?_).symm
    rw [List.mem_cons, mem_kn]
    simp
  unfold ranksH rkF mapH
  rw [List.map_cons, e, List.map_map]
  congr 1
  · show some (((cnt (m :: kn h) m : Nat) : Int)) = some 0
    have : cnt (m :: kn h) m = 0 := by
      unfold cnt
      rw [List.length_eq_zero_iff, List.filter_eq_nil_iff]
      intro y hy
      rw [decide_eq_true_iff]
      rcases List.mem_cons.mp hy with e | e
      · omega
      · have := g y (mem_kn.mp e)
        omega
    rw [this]
    rfl
  · refine List.map_congr_left fun o ho => ?_
    cases o with
    | none => rfl
    | some v =>
      have c := g v ho
      show some (((cnt (m :: kn h) v : Nat) : Int)) = some (((cnt (kn h) v : Nat) : Int) + 1)
      unfold cnt
      rw [List.filter_cons_of_pos (by rw [decide_eq_true_iff]; exact c), List.length_cons]
      rfl
theorem firstMet_srt (val : Nat → Int) : ∀ i, (firstMet val i).length = (srt ((List.range i).map val)).length
  | 0 => rfl
  | i + 1 => by
    rw [firstMet_succ, List.range_succ, List.map_append, List.map_singleton, srt_snoc, insN_len (srt_sorted _)]
    have a := firstMet_any val i (val i)
    have ih := firstMet_srt val i
    unfold step_dedup
    by_cases c : val i ∈ (List.range i).map val
    · rw [if_pos (mem_srt.mpr c), if_pos, ih]
      rw [a, List.any_eq_true]
      exact ⟨_, c, by simp⟩
    · rw [if_neg (fun z => c (mem_srt.mp z)), if_neg]
      · rw [List.length_append, ih]; rfl
      · rw [a, List.any_eq_true]
        rintro ⟨z, hz, e⟩
        exact c (by have : z = val i := by simpa using e
                    rwa [← this])
theorem Ex.dk {T ms : List Addr} {H H1 : Hp} (a : Ex T ms H H1) {p : Addr} {kvs : List (Key × V)} (n : p ∉ ms) (h : H p = some (.dK kvs)) : H1 p = some (.dK kvs) := a.keep p _ n h fun ps e => by cases e
theorem take_srt (ns : List Int) : (List.range ns.length).map (fun i => ns.getD i 0) = ns := by
  refine List.ext_getElem (by simp) fun i h1 h2 => ?_
  rw [List.getElem_map, List.getElem_range, List.getD_eq_getElem?_getD, List.getElem?_eq_getElem h2]
  rfl
open PySem.W in
def tLenSetD (K : PySem.W.Frag) (ta : TE) : TE := fun σ H Q => ta σ H fun x H1 => ∃ (l : Addr) (ns : List Int), x = .ref l ∧ SqL K H1 l (ns.map V.int) ∧ ns.length ≤ 4000 ∧ Q (.int ((srt ns).length : Nat)) H1
theorem pe_lenSetD {X : Cx} {a : Expr} {ta : TE} {p p2 q pos : Pos} (hg : Gl X "len") (hm : X.mg "len" = none) (hg2 : Gl X "set") (hm2 : X.mg "set" = none) (ha : PE X a ta) (hc : X.calm = true := by rfl)
    (na : starEach [a] X.env = (false, eval a X.env) :: starEach [] X.env := by rfl) : PE X (.Call (.Name "len" p) [.Call (.Name "set" p2) [a] [] q] [] pos) (tLenSetD X.K ta) := by
  refine ⟨fun pins s σ H Q I h => ?_⟩
  refine Call_ (ld_blt I hg hm boot_len ?_)
  refine PyProof.Rows.callWith_builtin1 (PyProof.Rows.args_cons ?_ rfl) rfl rfl
  refine Call_ (ld_blt I hg2 hm2 boot_set ?_)
  refine PyProof.Rows.callWith_type1 (PyProof.Rows.args_cons (thn (ha.run pins s σ H _ I h) fun v s1 ⟨x, H1, I1, r1, q1⟩ => PyProof.Rows.args_nil ?_) na) na rfl
  obtain ⟨l, ns, rfl, hq, hl, q1⟩ := q1
  cases r1
  obtain ⟨its, r, pl, hz⟩ := I1.list hq
  have hlen : its.toArray.size = ns.length := by rw [List.size_toArray, ← r.length, List.length_map]
  refine call_set_list (I1.ok.hd hc) pl.isList (by simpa using ints_of_vals r) (by rw [hlen]; unfold scanBound; omega) fun h' tk hS hk => ?_
  refine PyProof.Rows.args_nil ?_
  have le := firstMet_length_le (fun i => ns.getD i 0) ns.length
  rw [hlen] at hS
  have en := firstMet_srt (fun i => ns.getD i 0) ns.length
  rw [take_srt] at en
  rw [en] at hS le
  obtain ⟨o, es, ep, t, ho, hex, hd, _, _, _, hf, hn⟩ := hS
  have I2 : Inv X pins σ H1 { s1 with heap := h', toks := tk } := I1.kept fun b o e => hk b o (Heap.lt_size e) e
  exact call_len_set ho hex hd hf (by rw [hn] <;> omega) ⟨.int (srt ns).length, H1, I2.tok _, ⟨_, by rw [hn]⟩, q1⟩
theorem eqD_lists {K : PySem.W.Frag} {H : Hp} {a b : Addr} {xs ys : List V} {ds : List D} {n : Nat} {Q : VK} (h1 : SqL K H a xs) (hx : Ats K H xs ds) (h2 : SqL K H b ys) (hy : Ats K H ys ds) (h : plDs n ds) (hn : n ≤ 63) (q : Q (.bl true) H) : rEqD K (.ref a) (.ref b) H Q := by
  have z := plDs_lay h
  have s : SeqAt.shaped (.list (toPys ds)) = true := by
    unfold SeqAt.shaped
    have e1 : (PyData.list (toPys ds)).canLay0 = true := by unfold PyData.canLay0; exact z.1
    have e2 : (PyData.list (toPys ds)).depth ≤ 64 := by unfold PyData.depth; omega
    rw [e1, decide_eq_true e2]
    rfl
  refine ⟨.list (toPys ds), .list (toPys ds), .lst h1 hx.dp, .lst h2 hy.dp, s, s, ?_⟩
  rw [SeqAt.eqv_refl _ (SeqAt.canLay_of_shaped s)]
  exact q
end Dv

/-! Tight logs. -/
namespace Dv
open PySem PySem.Spec PyProof.Rows L2 GxR Gx
def vals (es : List (Nat × Int)) : List Int := es.map (·.2)
def tgF (es : List (Nat × Int)) : Int → Int := fun v => (cnt (srt (vals es)) v : Nat)
def tightL (es : List (Nat × Int)) : List (Nat × Int) := es.map (chL (tgF es))
theorem tightL_len (es : List (Nat × Int)) : (tightL es).length = es.length := List.length_map ..
theorem vals_map (g : Int → Int) (es : List (Nat × Int)) : vals (es.map (chL g)) = (vals es).map g := by
  unfold vals
  rw [List.map_map, List.map_map]
  rfl
theorem tight_map {g : Int → Int} {es : List (Nat × Int)} (r : ∀ x ∈ vals es, ∀ y ∈ vals es, x < y → g x < g y) : tightL (es.map (chL g)) = tightL es := by
  unfold tightL tgF
  rw [vals_map, srt_map _ r, List.map_map]
  refine List.map_congr_left fun e he => ?_
  have me : e.2 ∈ vals es := List.mem_map.mpr ⟨e, he, rfl⟩
  show (e.1, ((cnt ((srt (vals es)).map g) (g e.2) : Nat) : Int)) = (e.1, ((cnt (srt (vals es)) e.2 : Nat) : Int))
  rw [cnt_map fun x hx => ?_]
  constructor
  · intro c
    rcases Int.lt_trichotomy x e.2 with a | a | a
    · exact a
    · rw [a] at c
      omega
    · have := r _ me _ (mem_srt.mp hx) a
      omega
  · exact r _ (mem_srt.mp hx) _ me
theorem tg_lt {es : List (Nat × Int)} {x y : Int} (hx : x ∈ vals es) (hy : y ∈ vals es) : tgF es x < tgF es y ↔ x < y := by
  have := cnt_lt (srt_sorted (vals es)) (mem_srt.mpr hx) (mem_srt.mpr hy)
  unfold tgF
  rw [← this]
  omega
theorem tight_tight (es : List (Nat × Int)) : tightL (tightL es) = tightL es := tight_map fun x hx y hy c => (tg_lt hx hy).mpr c
theorem srt_le {l P : List Int} (h : ∀ x ∈ l, x ∈ P) : (srt l).length ≤ P.length := by
  have e : srt l = srt (P.filter fun x => decide (x ∈ l)) := srt_unique (srt_sorted _) (srt_sorted _) fun y => by
    rw [mem_srt, mem_srt, List.mem_filter, decide_eq_true_iff]
    exact ⟨fun z => ⟨h y z, z⟩, fun z => z.2⟩
  rw [e]
  have := srt_len (P.filter fun x => decide (x ∈ l)) (P.filter fun x => decide (x ∈ l)).length
  rw [List.take_length] at this
  exact Nat.le_trans this (List.length_filter_le _ _)
def pool (b : Int) : List Int := [b + 1000, b - 1000, 0, -b, b, b + 1, b + 2, b + 3, b + 4, b + 5, b + 6, b + 7, b + 8]
theorem pool_abs {b x : Int} (h : x ∈ pool b) : x.natAbs ≤ b.natAbs + 1009 := by
  unfold pool at h
  simp only [List.mem_cons, List.not_mem_nil, or_false] at h
  omega
theorem pool_near {b t : Int} (h0 : 0 ≤ t) (h1 : t < 9) : b + t ∈ pool b := by
  unfold pool
  simp only [List.mem_cons, List.not_mem_nil, or_false]
  omega
/-- alike at a place -/
def likeB (as bs : List (Nat × Int)) (n k : Nat) : Bool := decide ((vals as).getD k 0 < (vals as).getD n 0) == decide ((vals bs).getD k 0 < (vals bs).getD n 0) && decide ((vals as).getD n 0 < (vals as).getD k 0) == decide ((vals bs).getD n 0 < (vals bs).getD k 0)
theorem vals_len (es : List (Nat × Int)) : (vals es).length = es.length := List.length_map ..
theorem tight_vals (es : List (Nat × Int)) : vals (tightL es) = (vals es).map (tgF es) := vals_map _ _
theorem like_of_tight {as bs : List (Nat × Int)} {n k : Nat} (e : tightL as = tightL bs) (hn : n < as.length) (hk : k < as.length) : likeB as bs n k = true := by
  have l : as.length = bs.length := by rw [← tightL_len as, e, tightL_len]
  have v : (vals as).map (tgF as) = (vals bs).map (tgF bs) := by rw [← tight_vals, e, tight_vals]
  have at' : ∀ {i : Nat} (hi : i < as.length), tgF as ((vals as).getD i 0) = tgF bs ((vals bs).getD i 0) := fun {i} hi => by
    have h1 : i < (vals as).length := by rw [vals_len]; exact hi
    have h2 : i < (vals bs).length := by rw [vals_len]; omega
    have := congrArg (fun z => z[i]?) v
    simp only [List.getElem?_map, List.getElem?_eq_getElem h1, List.getElem?_eq_getElem h2, Option.map_some] at this
    rw [List.getD_eq_getElem?_getD, List.getD_eq_getElem?_getD, List.getElem?_eq_getElem h1, List.getElem?_eq_getElem h2]
    exact Option.some.inj this
  have mem : ∀ {es : List (Nat × Int)} {i : Nat}, i < es.length → (vals es).getD i 0 ∈ vals es := fun {es i} hi => by
    have h1 : i < (vals es).length := by rw [vals_len]; exact hi
    rw [List.getD_eq_getElem?_getD, List.getElem?_eq_getElem h1]
    exact List.getElem_mem _
  unfold likeB
  rw [Bool.and_eq_true, beq_iff_eq, beq_iff_eq, decide_eq_decide, decide_eq_decide, ← tg_lt (mem hk) (mem hn), ← tg_lt (mem hn) (mem hk), at' hk, at' hn, tg_lt (mem (by omega)) (mem (by omega)), tg_lt (mem (by omega)) (mem (by omega))]
  exact ⟨Iff.rfl, Iff.rfl⟩
theorem tight_of_like {es : List (Nat × Int)} {n : Nat} {v : Int} (hn : n < es.length) (h : ∀ k < es.length, likeB (es.set n ((es[n]).1, v)) es n k = true) : tightL (es.set n ((es[n]).1, v)) = tightL es := by
  have hn' : n < (vals es).length := by rw [vals_len]; exact hn
  have vs : vals (es.set n ((es[n]).1, v)) = (vals es).set n v := by unfold vals; rw [List.map_set]
  have g0 : ∀ k, (hk : k < (vals es).length) → (vals es).getD k 0 = (vals es)[k] := fun k hk => by rw [List.getD_eq_getElem?_getD, List.getElem?_eq_getElem hk]; rfl
  have gn : ((vals es).set n v).getD n 0 = v := by rw [List.getD_eq_getElem?_getD, List.getElem?_set_self hn']; rfl
  have gk : ∀ k, (hk : k < (vals es).length) → k ≠ n → ((vals es).set n v).getD k 0 = (vals es)[k] := fun k hk ne => by rw [List.getD_eq_getElem?_getD, List.getElem?_set_ne (Ne.symm ne), List.getElem?_eq_getElem hk]; rfl
  have key : ∀ k, (hk : k < (vals es).length) → k ≠ n → ((vals es)[k] < v ↔ (vals es)[k] < (vals es)[n]) ∧ (v < (vals es)[k] ↔ (vals es)[n] < (vals es)[k]) := fun k hk ne => by
    have := h k (by rw [← vals_len]; exact hk)
    unfold likeB at this
    rw [vs, Bool.and_eq_true, beq_iff_eq, beq_iff_eq, decide_eq_decide, decide_eq_decide, gn, gk k hk ne, g0 k hk, g0 n hn'] at this
    exact this
  have e : es.set n ((es[n]).1, v) = es.map (chL fun x => if x = (vals es)[n] then v else x) := by
    refine List.ext_getElem (by simp) fun i h1 h2 => ?_
    rw [List.length_set] at h1
    rw [List.getElem_map, List.getElem_set]
    have ve : ∀ j, (hj : j < es.length) → (vals es)[j]'(by rw [vals_len]; exact hj) = (es[j]).2 := fun j hj => by unfold vals; rw [List.getElem_map]
    split
    · next c =>
      subst c
      show _ = ((es[n]).1, if (es[n]).2 = (vals es)[n] then v else (es[n]).2)
      rw [if_pos (ve n hn).symm]
    · next c =>
      show es[i] = ((es[i]).1, if (es[i]).2 = (vals es)[n] then v else (es[i]).2)
      by_cases z : (es[i]).2 = (vals es)[n]
      · rw [if_pos z]
        have kk := key i (by rw [vals_len]; exact h1) (fun w => c w.symm)
        rw [ve i h1] at kk
        have : (es[i]).2 = v := by
          rcases Int.lt_trichotomy (es[i]).2 v with a | a | a
          · have := kk.1.mp a
            omega
          · exact a
          · have := kk.2.mp a
            omega
        rw [← this]
      · rw [if_neg z]
  rw [e]
  refine tight_map fun x hx y hy c => ?_
  obtain ⟨i, hi, rfl⟩ := List.getElem_of_mem hx
  obtain ⟨j, hj, rfl⟩ := List.getElem_of_mem hy
  by_cases a : (vals es)[i] = (vals es)[n]
  · have b : ¬ (vals es)[j] = (vals es)[n] := by omega
    show (if (vals es)[i] = (vals es)[n] then v else (vals es)[i]) < (if (vals es)[j] = (vals es)[n] then v else (vals es)[j])
    rw [if_pos a, if_neg b]
    exact (key j hj (fun w => b (by subst w; rfl))).2.mpr (by omega)
  · by_cases b : (vals es)[j] = (vals es)[n]
    · show (if (vals es)[i] = (vals es)[n] then v else (vals es)[i]) < (if (vals es)[j] = (vals es)[n] then v else (vals es)[j])
      rw [if_neg a, if_pos b]
      exact (key i hi (fun w => a (by subst w; rfl))).1.mpr (by omega)
    · show (if (vals es)[i] = (vals es)[n] then v else (vals es)[i]) < (if (vals es)[j] = (vals es)[n] then v else (vals es)[j])
      rw [if_neg a, if_neg b]
      exact c
theorem eqvAll_logs : ∀ as bs : List (Nat × Int), PyData.eqvAll (toPys (as.map encE)) (toPys (bs.map encE)) = decide (as = bs)
  | [], [] => by unfold toPys PyData.eqvAll; rfl
  | [], y :: ys => by rw [List.map_nil, List.map_cons]; unfold toPys PyData.eqvAll; rw [decide_eq_false (by simp)]
  | x :: xs, [] => by rw [List.map_nil, List.map_cons]; unfold toPys PyData.eqvAll; rw [decide_eq_false (by simp)]
  | (t, v) :: xs, (u, z) :: ys => by
    rw [List.map_cons, List.map_cons]
    unfold toPys PyData.eqvAll
    rw [eqvAll_logs xs ys]
    have e : PyData.eqv (toPy (encE (t, v))) (toPy (encE (u, z))) = decide ((t, v) = (u, z)) := by
      show PyData.eqv (toPy (.tup [.int t, .int v])) (toPy (.tup [.int u, .int z])) = _
      unfold toPy PyData.eqv
      unfold toPys toPys toPys toPy PyData.eqvAll PyData.eqvAll PyData.eqvAll PyData.eqv
      rw [Bool.eq_iff_iff]
      simp
      omega
    rw [e, Bool.eq_iff_iff]
    simp
theorem eqD_logs {K : PySem.W.Frag} {H : Hp} {x y : V} {as bs : List (Nat × Int)} {Q : VK} (hx : At K H x (.tup (as.map encE))) (hy : At K H y (.tup (bs.map encE))) (q : Q (.bl (decide (as = bs))) H) : rEqD K x y H Q := by
  have s : ∀ zs : List (Nat × Int), SeqAt.shaped (toPy (.tup (zs.map encE))) = true := fun zs => plD_shaped (n := 2) plD_log (by decide)
  refine ⟨_, _, hx.dp, hy.dp, s as, s bs, ?_⟩
  have : PyData.eqv (toPy (.tup (as.map encE))) (toPy (.tup (bs.map encE))) = decide (as = bs) := by
    unfold toPy PyData.eqv
    exact eqvAll_logs as bs
  rw [this]
  exact q
theorem neD_logs {K : PySem.W.Frag} {H : Hp} {x y : V} {as bs : List (Nat × Int)} {Q : VK} (hx : At K H x (.tup (as.map encE))) (hy : At K H y (.tup (bs.map encE))) (q : Q (.bl (!decide (as = bs))) H) : rNeD K x y H Q := by
  have s : ∀ zs : List (Nat × Int), SeqAt.shaped (toPy (.tup (zs.map encE))) = true := fun zs => plD_shaped (n := 2) plD_log (by decide)
  refine ⟨_, _, hx.dp, hy.dp, s as, s bs, ?_⟩
  have : PyData.eqv (toPy (.tup (as.map encE))) (toPy (.tup (bs.map encE))) = decide (as = bs) := by
    unfold toPy PyData.eqv
    exact eqvAll_logs as bs
  rw [this]
  exact q
theorem srt_nodup {l : List Int} (h : l.Nodup) : ∀ n ≤ l.length, (srt (l.take n)).length = n
  | 0, _ => by simp [srt]
  | n + 1, hn => by
    have ih := srt_nodup h n (by omega)
    have hl : n < l.length := by omega
    rw [List.take_add_one, List.getElem?_eq_getElem hl]
    show (srt (l.take n ++ [l[n]])).length = n + 1
    rw [srt_snoc, insN_len (srt_sorted _), if_neg, ih]
    intro m
    obtain ⟨i, hi, e⟩ := List.getElem_of_mem (mem_srt.mp m)
    rw [List.length_take] at hi
    rw [List.getElem_take] at e
    exact List.pairwise_iff_getElem.mp h i n (by omega) hl (by omega) e
theorem setR_len {w : World} {h : Heap} {a : Addr} {ns : List Int} {n : Nat} (R : SetR w h a (fun j => decide (j ∈ ns)) n) : n = (srt ns).length := by
  obtain ⟨o, es, ep, t, _, _, _, _, nd, mem, _, _, hn, _⟩ := R
  have e : srt ns = srt (es.toList.map keyOf) := srt_unique (srt_sorted _) (srt_sorted _) fun y => by rw [mem_srt, mem_srt, ← mem y, decide_eq_true_iff]
  have := srt_nodup nd _ (Nat.le_refl _)
  rw [List.take_length] at this
  rw [e, this, List.length_map, Array.length_toList, hn]
def rSetN (K : PySem.W.Frag) (w : World) : List V → Hp → VK → Prop := fun xs H Q => ∃ (l : Addr) (ns : List Int), xs = [V.ref l] ∧ SqL K H l (ns.map V.int) ∧ ns.length ≤ 3000 ∧
  ∀ p, H p = none → Q (.ref p) (upd H p (SetO w p (fun j => decide (j ∈ ns)) (srt ns).length))
theorem cr_setN {X : Cx} (calm : X.calm = true := by rfl) : CallR X (.type "set") (rSetN X.K X.w) := by
  intro pins s σ H xs us Q inv r h
  obtain ⟨l, ns, rfl, sq, few, q⟩ := h
  rw [Vals.ref1 r]
  obtain ⟨its, rv, isl, _⟩ := inv.list sq
  refine set_of_list ns (inv.ok.hd calm) isl.isList (by simpa using ints_of_vals rv) (by unfold scanBound; omega) fun h' tk c made lc keep => ?_
  obtain rfl := setR_len made
  exact ⟨.ref s.heap.objs.size, upd H s.heap.objs.size (SetO X.w s.heap.objs.size (fun j => decide (j ∈ ns)) (srt ns).length), inv.laid (t' := tk) keep (Nat.le_refl _) (setO_new made), rfl, q _ (inv.hok.fresh (Nat.le_refl _))⟩
end Dv

/-! tuple(enumerate(xs)). -/
namespace PySem
open Sem (wp)
namespace F
theorem enm_no_len : typeLookup (.type "enumerate") "__len__" = pure none := by rw [typeLookup_type, builtinLookup_eq_fast]; kernel_rfl
theorem enm_no_hint : typeLookup (.type "enumerate") "__length_hint__" = pure none := by rw [typeLookup_type, builtinLookup_eq_fast]; kernel_rfl
end F
/-- an enumerate object that has told i items -/
def EnSt (h : Heap) (e it l : Addr) (items : Array Value) (i : Nat) : Prop :=
  h.IsListIter it l i ∧ h.IsList l items ∧ ((∃ old, IsEnum h e it i old) ∨ ∃ old T f oT, IsEnumHeld h e it i old T f ∧ h.get? T = some oT ∧ T ≠ e ∧ T ≠ it)
/-- the told pairs -/
def EnAcc (h : Heap) (base : Addr) (items : Array Value) (acc : Array Value) (i : Nat) : Prop :=
  acc.size = i ∧ ∀ j, j < i → ∃ T x t, acc[j]? = some (.ref T) ∧ items[j]? = some x ∧ base ≤ T ∧ h.get? T = some { cls := .type "tuple", data := .seq #[.int (j : Int) t, x] }
theorem EnSt.keep {h h' : Heap} {e it l : Addr} {items : Array Value} {i : Nat} {S : Addr} (x : EnSt h e it l items i) (hk : ∀ b o, b ≠ S → h.get? b = some o → h'.get? b = some o) (he : e ≠ S) (hi : it ≠ S) (hl : l ≠ S)
    (hT : ∀ T oT, h.get? T = some oT → h'.get? T ≠ none) : EnSt h' e it l items i := by
  obtain ⟨a, b, c⟩ := x
  refine ⟨a.at fun o z => hk it o hi z, b.at fun o z => hk l o hl z, ?_⟩
  rcases c with ⟨old, c⟩ | ⟨old, T, f, oT, c, d, n1, n2⟩
  · exact .inl ⟨old, hk e _ he c⟩
  · cases q : h'.get? T with
    | none => exact absurd q (hT T oT d)
    | some o' => exact .inr ⟨old, T, f, o', hk e _ he c, q, n1, n2⟩
section
variable {prog : Program} {w : World} {A : Around} {E : Value → Shared → Prop} {s : Shared} {R : Result → Shared → Prop}
theorem enm_next {e it l : Addr} {items : Array Value} {i : Nat} {x : Value} {Q : Option Value → Shared → Prop} (hei : e ≠ it) (hle : l ≠ e) (hli : l ≠ it) (hst : EnSt s.heap e it l items i) (hx : items[i]? = some x)
    (hQ : ∀ h', EnSt h' e it l items (i + 1) → h'.get? s.heap.objs.size = some { cls := .type "tuple", data := .seq #[.int i s.toks, x] } → h'.objs.size = s.heap.objs.size + 1 →
      (∀ b o, b ≠ e → b ≠ it → s.heap.get? b = some o → h'.get? b = some o) → Q (some (.ref s.heap.objs.size)) { s with heap := h', toks := s.toks + 1 }) : wpAny (model prog w) A (pyNext (.ref e)) Q E s := by
  obtain ⟨hit, hl, hst⟩ := hst
  have ei : ((i + 1 : Nat) : Int) = (i : Int) + 1 := by omega
  have ilt : it < s.heap.objs.size := by obtain ⟨o, ho, _⟩ := hit; exact Heap.lt_size ho
  rcases hst with ⟨old, he⟩ | ⟨old, T, f, oT, he, hT, n1, n2⟩
  · have elt : e < s.heap.objs.size := Heap.lt_size he
    refine wpAny_pyNext_enum_item he hit hl hx hei fun h' a b c d k => hQ h' ⟨b, hl.at fun o z => k l o hle hli z, .inr ⟨x, s.heap.objs.size, false, _, ?_, c, Nat.ne_of_gt elt, Nat.ne_of_gt ilt⟩⟩ c d k
    rw [ei]
    exact a
  · refine wpAny_pyNext_enum_item_held he hT n1 n2 hit hl hx hei fun h' a b c d k => hQ h' ⟨b, hl.at fun o z => k l o hle hli z, .inr ⟨old, T, true, oT, ?_, k T _ n1 n2 hT, n1, n2⟩⟩ c d k
    rw [ei]
    exact a
theorem enm_end {e it l : Addr} {items : Array Value} {Q : Option Value → Shared → Prop} (hh : A.handled = none) (hst : EnSt s.heap e it l items items.size) (hQ : ∀ h', Heap.ExtBut it s.heap h' → Q none { s with heap := h' }) : wpAny (model prog w) A (pyNext (.ref e)) Q E s := by
  obtain ⟨hit, hl, hst⟩ := hst
  have hx : items[items.size]? = none := Array.getElem?_eq_none (Nat.le_refl _)
  rcases hst with ⟨old, he⟩ | ⟨old, T, f, oT, he, hT, n1, n2⟩
  · exact wpAny_pyNext_enum_end hh he hit hl hx hQ
  · exact wpAny_pyNext_enum_end_held hh he hit hl hx hQ
theorem enm_loop {S e it l base : Addr} {items : Array Value} (hh : A.in1.handled = none) (hei : e ≠ it) (hle : l ≠ e) (hli : l ≠ it) (eS : e ≠ S) (iS : it ≠ S) (lS : l ≠ S) (eb : e < base) (ib : it < base) (Sb : S < base) (hn : items.size ≤ sizeLine) (res : Value) :
    ∀ (k i : Nat) (s : Shared) (acc : Array Value) (c : Nat), items.size - i = k → i ≤ items.size → base ≤ s.heap.objs.size → EnSt s.heap e it l items i → s.heap.get? S = some { cls := .type "list", dict := none, data := .seq acc c, slots := #[] } → EnAcc s.heap base items acc i →
    (∀ h' tk acc' c', (∀ b o, b ≠ S → b ≠ e → b ≠ it → s.heap.get? b = some o → h'.get? b = some o) → h'.get? S = some { cls := .type "list", dict := none, data := .seq acc' c', slots := #[] } → EnAcc h' base items acc' items.size → R (.ok (.ret res)) { s with heap := h', toks := tk }) →
    codeAny (model prog w) A (.builtin "list.extend.loop" ⟨[.ref S, .ref e, res], []⟩) R s := by
  intro k
  induction k with
  | zero =>
    intro i s acc c hk hi hb hst hS hacc hR
    have hin : i = items.size := by omega
    subst hin
    refine codeAny_builtin F.entry_extend_loop ?_
    rw [Around.under_plainId F.plain_extend_loop _]
    show wpAny _ A.in1 (pyNext (.ref e) >>= _) _ _ s
    refine wpAny_bind (enm_end hh hst fun h' x => wpAny_pure (hR h' s.toks acc c (fun b o _ _ n z => x b o n z) (x S _ (Ne.symm iS) hS) ⟨hacc.1, fun j hj => ?_⟩))
    obtain ⟨T, x', t, q1, q2, q3, q4⟩ := hacc.2 j hj
    exact ⟨T, x', t, q1, q2, q3, x T _ (Nat.ne_of_gt (Nat.lt_of_lt_of_le ib q3)) q4⟩
  | succ k ih =>
    intro i s acc c hk hi hb hst hS hacc hR
    have hlt : i < items.size := by omega
    have hx : items[i]? = some items[i] := Array.getElem?_eq_getElem hlt
    refine codeAny_builtin F.entry_extend_loop ?_
    rw [Around.under_plainId F.plain_extend_loop _]
    show wpAny _ A.in1 (pyNext (.ref e) >>= _) _ _ s
    refine wpAny_bind (enm_next hei hle hli hst hx fun h' st' ht hz keep => ?_)
    have hS' := keep S _ (Ne.symm eS) (Ne.symm iS) hS
    show wpAny _ A.in1 (updateSeq S (·.push (Value.ref s.heap.objs.size)) >>= _) _ _ _
    refine wpAny_bind ?_
    have TS : s.heap.objs.size ≠ S := Nat.ne_of_gt (Nat.lt_of_lt_of_le Sb hb)
    refine wpAny_updateSeq hS' rfl (wpAny_pure ⟨plainId_quiet F.plain_extend_loop _, ih (i + 1) _ (acc.push (.ref s.heap.objs.size)) _ (by omega) hlt ?_ (st'.keep (S := S) (fun b o n z => (Heap.get?_update_other _ _ (Ne.symm n)).trans z) eS iS lS fun T oT z => ?_) (Heap.get?_update_self _ hS' rfl) ⟨by rw [Array.size_push, hacc.1], fun j hj => ?_⟩ fun h'' tk acc' c' k2 hS'' hacc' => ?_⟩)
      (by rw [hacc.1]; omega) (by show (acc.push _).size ≤ sizeLine + 1; rw [Array.size_push, hacc.1]; omega)
    · show base ≤ (h'.update S _).objs.size
      rw [Heap.size_update, hz]
      exact Nat.le_succ_of_le hb
    · by_cases q : T = S
      · subst q
        rw [Heap.get?_update_self _ hS' rfl]
        exact fun z => by cases z
      · rw [Heap.get?_update_other _ _ (Ne.symm q), z]
        exact fun z => by cases z
    · rw [Array.getElem?_push]
      by_cases q : j = i
      · subst q
        rw [if_pos hacc.1.symm]
        exact ⟨_, _, _, rfl, hx, hb, (Heap.get?_update_other _ _ (Ne.symm TS)).trans ht⟩
      · have hj' : j < i := by omega
        rw [if_neg (by rw [hacc.1]; exact q)]
        obtain ⟨T, x', t, q1, q2, q3, q4⟩ := hacc.2 j hj'
        have nS : S ≠ T := Nat.ne_of_lt (Nat.lt_of_lt_of_le Sb q3)
        exact ⟨T, x', t, q1, q2, q3, (Heap.get?_update_other _ _ nS).trans (keep T _ (Nat.ne_of_gt (Nat.lt_of_lt_of_le eb q3)) (Nat.ne_of_gt (Nat.lt_of_lt_of_le ib q3)) q4)⟩
    · exact hR h'' tk acc' c' (fun b o n1 n2 n3 z => k2 b o n1 n2 n3 ((Heap.get?_update_other _ _ (Ne.symm n1)).trans (keep b o n2 n3 z))) hS'' hacc'
theorem enm_collect {e it l : Addr} {items : Array Value} {old : Value} {Q : List Value → Shared → Prop} (hh : A.in1.handled = none) (hei : e ≠ it) (hle : l ≠ e) (hli : l ≠ it) (hit : s.heap.IsListIter it l 0) (hl : s.heap.IsList l items) (he0 : IsEnum s.heap e it 0 old) (le : e < s.heap.objs.size) (li : it < s.heap.objs.size) (ll : l < s.heap.objs.size) (hn : items.size ≤ sizeLine)
    (hQ : ∀ h' tk acc, s.heap.objs.size < h'.objs.size → (∀ b o, b < s.heap.objs.size → b ≠ e → b ≠ it → s.heap.get? b = some o → h'.get? b = some o) → EnAcc h' s.heap.objs.size items acc items.size → Q acc.toList { s with heap := h', toks := tk }) : wpAny (model prog w) A (collect (.ref e)) Q E s := by
  have hSI : s.heap.objs.size ≠ e := Nat.ne_of_gt le
  have hst : EnSt s.heap e it l items 0 := ⟨hit, hl, .inl ⟨old, he0⟩⟩
  have T0 : ∀ {h : Heap}, EnSt h e it l items 0 → ({ s with heap := h } : Shared).TypeIs (.ref e) "enumerate" := fun {h} x => by
    rcases x.2.2 with ⟨old, he⟩ | ⟨old, T, f, oT, he, _⟩
    · exact ⟨_, he, rfl⟩
    · exact ⟨_, he, rfl⟩
  unfold collect
  refine wpAny_bind (wpAny_runValue (codeAny_builtin F.entry_proto_collect ?_))
  rw [Around.under_plainId F.plain_proto_collect _]
  show wpAny _ A.in1 (newList [] >>= fun l => again (.builtin "list.__iadd__" ⟨[l, .ref e], []⟩)) _ _ s
  refine wpAny_bind (wpAny_newObj_type ?_)
  refine wpAny_pure ⟨plainId_quiet F.plain_list_iadd _, codeAny_builtin F.entry_list_iadd ?_⟩
  rw [Around.under_plainId F.plain_list_iadd _]
  have keep1 : ∀ b o, s.heap.get? b = some o → (s.heap.push { cls := .type "list", data := .seq ([] : List Value).toArray }).get? b = some o := fun b o z => Heap.get?_push_of_some _ z
  have hst₁ : EnSt (s.heap.push { cls := .type "list", data := .seq ([] : List Value).toArray }) e it l items 0 := hst.keep (S := s.heap.objs.size) (fun b o _ z => keep1 b o z) (Nat.ne_of_lt le) (Nat.ne_of_lt li) (Nat.ne_of_lt ll) fun T oT z => by rw [keep1 T oT z]; exact fun z => by cases z
  show wpAny _ A.in1 (Builtin.List.listExtendWith (.ref s.heap.objs.size) (.ref e) (.ref s.heap.objs.size)) _ _ _
  unfold Builtin.List.listExtendWith
  refine wpAny_bind (wpAny_typeOf (T0 hst₁) ?_)
  have h1 : Builtin.List.listSameRef (.ref s.heap.objs.size) (.ref e) = false := by simp [Builtin.List.listSameRef, hSI]
  have h2 : (Value.type "enumerate" == Value.type "list") = false := by decide
  have h3 : (Value.type "enumerate" == Value.type "tuple") = false := by decide
  simp only [h1, h2, h3, Bool.or_false, Bool.false_eq_true, if_false]
  have self : ∀ {Q' : Value → Shared → Prop} {E' : Value → Shared → Prop} (s' : Shared), s'.heap = s.heap.push { cls := .type "list", data := .seq ([] : List Value).toArray } → Q' (.ref e) s' → wpAny (model prog w) A.in1 (pyIter (.ref e)) Q' E' s' := fun s' es q => by
    exact wpAny_pyIter_enum (by rw [es]; exact keep1 e _ he0) q
  refine wpAny_bind (self _ rfl ?_)
  refine wpAny_bind (wpAny_holding ?_)
  unfold Builtin.List.listLengthHint
  refine wpAny_bind (wpAny_specialOf (T0 hst₁) F.enm_no_len ?_)
  show wpAny _ A.in1 (specialOf (Value.ref e) (Str.ofString "__length_hint__") >>= _) _ _ _
  refine wpAny_bind (wpAny_specialOf (T0 hst₁) F.enm_no_hint ?_)
  refine wpAny_pure ?_
  show wpAny _ A.in1 (rule "list.extend.makes-room" >>= fun _ => Builtin.List.listTouch (.ref s.heap.objs.size) >>= fun _ =>
    again (.builtin "list.extend.loop" ⟨[.ref s.heap.objs.size, .ref e, .ref s.heap.objs.size], []⟩)) _ _ _
  refine wpAny_bind (wpAny_rule ?_)
  have hS₁ : (s.heap.push { cls := .type "list", data := .seq ([] : List Value).toArray }).get? s.heap.objs.size = some { cls := .type "list", data := .seq ([] : List Value).toArray } := Heap.get?_push_size _ rfl
  refine wpAny_bind ?_
  show wpAny _ A.in1 (updateSeq s.heap.objs.size (·.push .none) >>= fun _ => updateSeq s.heap.objs.size (·.pop)) _ _ _
  refine wpAny_bind (wpAny_updateSeq hS₁ rfl ?_)
  have hS₂ := Heap.get?_update_self (Obj.mapSeq (·.push Value.none)) hS₁ rfl
  refine wpAny_updateSeq hS₂ rfl ?_
  have hS₃ := Heap.get?_update_self (Obj.mapSeq (·.pop)) hS₂ rfl
  have oth : ∀ b o, b ≠ s.heap.objs.size → (s.heap.push { cls := .type "list", data := .seq ([] : List Value).toArray }).get? b = some o →
      (((s.heap.push { cls := .type "list", data := .seq ([] : List Value).toArray }).update s.heap.objs.size (Obj.mapSeq (·.push Value.none))).update s.heap.objs.size (Obj.mapSeq (·.pop))).get? b = some o :=
    fun b o hb e => (Heap.get?_update_other _ _ (Ne.symm hb)).trans ((Heap.get?_update_other _ _ (Ne.symm hb)).trans e)
  have hst₃ := hst₁.keep (h' := (((s.heap.push { cls := .type "list", data := .seq ([] : List Value).toArray }).update s.heap.objs.size (Obj.mapSeq (·.push Value.none))).update s.heap.objs.size (Obj.mapSeq (·.pop)))) (S := s.heap.objs.size) (fun b o n z => oth b o n z) (Nat.ne_of_lt le) (Nat.ne_of_lt li) (Nat.ne_of_lt ll) fun T oT z => by
    by_cases q : T = s.heap.objs.size
    · rw [q, hS₃]
      exact fun z => by cases z
    · rw [oth T oT q z]
      exact fun z => by cases z
  refine wpAny_pure ⟨plainId_quiet F.plain_extend_loop _, enm_loop (base := s.heap.objs.size + 1) hh hei hle hli (Nat.ne_of_lt le) (Nat.ne_of_lt li) (Nat.ne_of_lt ll) (Nat.lt_succ_of_lt le) (Nat.lt_succ_of_lt li) (Nat.lt_succ_self _) hn _ items.size 0 _ _ _ rfl (Nat.zero_le _) ?_ hst₃ hS₃ ⟨rfl, fun j hj => absurd hj (Nat.not_lt_zero _)⟩ fun h' tk acc' c' k2 hS' hacc => ?_⟩
  · show s.heap.objs.size + 1 ≤ (((s.heap.push _).update s.heap.objs.size _).update s.heap.objs.size _).objs.size
    rw [Heap.size_update, Heap.size_update, Heap.size_push]
    exact Nat.le_refl _
  show wpAny _ A (load s.heap.objs.size >>= _) _ _ { s with heap := h', toks := tk }
  refine wpAny_bind (wpAny_load hS' ?_)
  refine wpAny_pure (hQ h' tk acc' (Heap.lt_size hS') (fun b o lb n1 n2 z => k2 b o (Nat.ne_of_lt lb) n1 n2 (oth b o (Nat.ne_of_lt lb) (keep1 b o z))) ⟨hacc.1, fun j hj => ?_⟩)
  obtain ⟨T, x', t, q1, q2, q3, q4⟩ := hacc.2 j hj
  exact ⟨T, x', t, q1, q2, Nat.le_of_succ_le q3, q4⟩
theorem code_tuple_new_enm {e it l : Addr} {items : Array Value} {old : Value} {Q₁ : Value → Shared → Prop} (hh : A.handled = none) (hei : e ≠ it) (hle : l ≠ e) (hli : l ≠ it) (hit : s.heap.IsListIter it l 0) (hl : s.heap.IsList l items) (he0 : IsEnum s.heap e it 0 old) (le : e < s.heap.objs.size) (li : it < s.heap.objs.size) (ll : l < s.heap.objs.size) (hn : items.size ≤ sizeLine)
    (h : ∀ h' tk acc, s.heap.objs.size < h'.objs.size → (∀ b o, b < s.heap.objs.size → b ≠ e → b ≠ it → s.heap.get? b = some o → h'.get? b = some o) → EnAcc h' s.heap.objs.size items acc items.size → Q₁ (.ref h'.objs.size) { s with heap := h'.push { cls := .type "tuple", data := .seq acc }, toks := tk }) :
    codeAny (model prog w) A (.call (.builtin "tuple.__new__") ⟨[.type "tuple", .ref e], []⟩) (wants Q₁ E) s := by
  refine codeAny_of_tree ?_
  show wpAny _ A.in1 (do checkBuiltinCall "tuple.__new__" ⟨[.type "tuple", .ref e], []⟩; again (.builtin "tuple.__new__" ⟨[.type "tuple", .ref e], []⟩)) _ _ s
  refine wpAny_bind (wpAny_of_eq (F.newCall_tuple_1 _) (wpAny_pure ⟨plainId_quiet F.plain_tuple_new _, codeAny_builtin F.entry_tuple_new ?_⟩))
  rw [Around.under_plainId F.plain_tuple_new _]
  have hsub := sub_tuple_self
  have hinit := init_tuple_lookup
  have hmh := madeHere_tuple
  have hTI : s.TypeIs (.ref e) "enumerate" := ⟨_, he0, rfl⟩
  wp_walk using wpAny_typeOf hTI, enm_collect (by simp [hh]) hei hle hli hit hl he0 le li ll hn
  intro h' tk acc hz hk hacc
  show wpAny _ _ (Builtin.Tuple.tupleExact acc.toList.toArray >>= fun v => ret v) _ _ _
  unfold Builtin.Tuple.tupleExact
  refine wpAny_bind (wpAny_newObj_type ?_ (by show acc.toList.toArray.size ≤ sizeLine; simp only [Array.toArray_toList]; rw [hacc.1]; exact hn))
  refine wpAny_pure ?_
  have e' : acc.toList.toArray = acc := by simp
  rw [e']
  exact h h' tk acc hz hk hacc
theorem call_tuple_enm {e it l : Addr} {items : Array Value} {old : Value} {Q : Value → Shared → Prop} (hh : A.handled = none) (hei : e ≠ it) (hle : l ≠ e) (hli : l ≠ it) (hit : s.heap.IsListIter it l 0) (hl : s.heap.IsList l items) (he0 : IsEnum s.heap e it 0 old) (le : e < s.heap.objs.size) (li : it < s.heap.objs.size) (ll : l < s.heap.objs.size) (hn : items.size ≤ sizeLine)
    (h : ∀ h' tk acc, s.heap.objs.size < h'.objs.size → (∀ b o, b < s.heap.objs.size → b ≠ e → b ≠ it → s.heap.get? b = some o → h'.get? b = some o) → EnAcc h' s.heap.objs.size items acc items.size → Q (.ref h'.objs.size) { s with heap := h'.push { cls := .type "tuple", data := .seq acc }, toks := tk }) :
    wpAny (model prog w) A (call (.type "tuple") [.ref e]) Q E s := by
  refine callType_codes (Q₁ := fun obj s₁ => s₁.TypeIs obj "tuple" ∧ Q obj s₁) F.called_tuple (F.typeCall_tuple_1 _) F.entry_object_init
    (code_tuple_new_enm (by simp [hh]) hei hle hli hit hl he0 le li ll hn fun h' tk acc hz hk hacc => ⟨⟨_, Heap.get?_push_size _ rfl, rfl⟩, h h' tk acc hz hk hacc⟩) fun obj s₁ h₁ => ?_
  exact ⟨h₁.1, F.args_object_init_2 obj _, object_init_meets F.called_tuple.init.lookup F.called_tuple.made (by decide) prog w A.in1 _ s₁ ⟨h₁.1, rfl, h₁.2⟩⟩
end
end PySem

/-! tuple(enumerate(xs)) in the hand layer. -/
namespace Dv
open PySem PySem.Spec PyProof.Rows L2 GxR Gx LiI
/-- the pairs of places and items -/
def enK : Nat → List V → List (Key × V)
  | _, [] => []
  | j, x :: xs => (Sum.inl (j : Int), x) :: enK (j + 1) xs
theorem enK_len : ∀ (xs : List V) (j : Nat), (enK j xs).length = xs.length
  | [], _ => rfl
  | _ :: xs, j => congrArg (· + 1) (enK_len xs (j + 1))
theorem enK_at : ∀ (xs : List V) (j i : Nat), (enK j xs)[i]? = (xs[i]?).map fun x => (Sum.inl ((j + i : Nat) : Int), x)
  | [], _, _ => rfl
  | x :: xs, j, 0 => rfl
  | x :: xs, j, i + 1 => by
    show (enK (j + 1) xs)[i]? = _
    rw [enK_at xs (j + 1) i, show j + 1 + i = j + (i + 1) by omega]
    rfl
def unR : Value → Addr
  | .ref a => a
  | _ => 0
section
variable {X : Cx}
theorem en_laid {pins : List (Addr × Obj)} {σ : L2.St} {H : Hp} {s : Shared} {h' : Heap} {tk : Nat} {xs : List V} {items acc : Array Value} (I : Inv X pins σ H s) (hz : xs.length ≤ sizeLine) (rv : Vals xs items.toList)
    (hk : ∀ b o, s.heap.get? b = some o → h'.get? b = some o) (hb : s.heap.objs.size ≤ h'.objs.size) (ac : EnAcc h' s.heap.objs.size items acc items.size) :
    ∃ (H' : Hp) (as : List Addr), (∀ b o, H b = some o → H' b = some o) ∧ H h'.objs.size = none ∧ (∀ t ∈ as, H t = none) ∧ h'.objs.size ∉ as ∧ H' h'.objs.size = some (.tup (as.map V.ref)) ∧ Paired (fun (t : Addr) (q : Key × V) => H' t = some (.tup [kV q.1, q.2])) as (enK 0 xs) ∧
      Inv X pins σ H' { s with heap := h'.push { cls := .type "tuple", data := .seq acc }, toks := tk } := by
  have lx : xs.length = items.size := by rw [← Array.length_toList]; exact rv.length
  obtain ⟨asz, acp⟩ := ac
  generalize eas : acc.toList.map unR = as
  have la : as.length = items.size := by rw [← eas, List.length_map, Array.length_toList, asz]
  have get : ∀ j (hj : j < as.length), ∃ x t, acc[j]? = some (.ref as[j]) ∧ items[j]? = some x ∧ s.heap.objs.size ≤ as[j] ∧ h'.get? as[j] = some { cls := .type "tuple", data := .seq #[.int (j : Int) t, x] } := fun j hj => by
    obtain ⟨T, x, t, q1, q2, q3, q4⟩ := acp j (by omega)
    have : as[j] = T := by
      subst eas
      rw [List.getElem_map, Array.getElem_toList]
      rw [(Array.getElem?_eq_some_iff.mp q1).2]
      rfl
    rw [this]
    exact ⟨x, t, q1, q2, q3, q4⟩
  have hacc : acc.toList = as.map Value.ref := by
    refine List.ext_getElem (by rw [Array.length_toList, List.length_map, la, asz]) fun i h1 h2 => ?_
    rw [List.length_map] at h2
    obtain ⟨x, t, q1, _⟩ := get i h2
    rw [List.getElem_map, Array.getElem_toList]
    exact (Array.getElem?_eq_some_iff.mp q1).2
  have nd : as.Nodup := by
    refine List.pairwise_iff_getElem.mpr fun i j hi hj lt e => ?_
    obtain ⟨x, t, _, _, _, q4⟩ := get i hi
    obtain ⟨y, u, _, _, _, r4⟩ := get j hj
    rw [← e, q4] at r4
    have := Option.some.inj r4
    injection this with _ _ d _
    injection d with d
    have z := congrArg (fun (a : Array Value) => a[0]?) d
    simp at z
    omega
  have above : ∀ t ∈ as, s.heap.objs.size ≤ t ∧ t < h'.objs.size := fun t ht => by
    obtain ⟨j, hj, rfl⟩ := List.getElem_of_mem ht
    obtain ⟨_, _, _, _, q3, q4⟩ := get j hj
    exact ⟨q3, Heap.lt_size q4⟩
  have hSn : h'.objs.size ∉ as := fun z => Nat.lt_irrefl _ (above _ z).2
  have new : ∀ t ∈ as, H t = none := fun t ht => I.hok.fresh (above t ht).1
  have newS : H h'.objs.size = none := I.hok.fresh hb
  have hk2 : ∀ b o, s.heap.get? b = some o → (h'.push { cls := .type "tuple", data := .seq acc }).get? b = some o := fun b o q => Heap.get?_push_of_some _ (hk b o q)
  have lk : as.length = (enK 0 xs).length := by rw [enK_len]; omega
  have atP := putT_at as (enK 0 xs) (upd H h'.objs.size (.tup (as.map V.ref))) lk nd
  have off : ∀ b, b ∉ as → b ≠ h'.objs.size → putT (upd H h'.objs.size (.tup (as.map V.ref))) as (enK 0 xs) b = H b := fun b h1 h2 => by rw [putT_off as (enK 0 xs) _ h1, upd_ne h2]
  have low : ∀ b o, s.heap.get? b = some o → b ∉ as ∧ b ≠ h'.objs.size := fun b o e => ⟨fun z => absurd (Heap.lt_size e) (Nat.not_lt.mpr (above b z).1), Nat.ne_of_lt (Nat.lt_of_lt_of_le (Heap.lt_size e) hb)⟩
  have kp : ∀ b u, H b = some u → (putT (upd H h'.objs.size (.tup (as.map V.ref))) as (enK 0 xs)) b = some u := fun b u e => by
    rw [off b (fun z => by rw [new b z] at e; cases e) (fun z => by rw [z, newS] at e; cases e)]
    exact e
  have eS : putT (upd H h'.objs.size (.tup (as.map V.ref))) as (enK 0 xs) h'.objs.size = some (.tup (as.map V.ref)) := by rw [putT_off as (enK 0 xs) _ hSn, upd_same]
  refine ⟨putT (upd H h'.objs.size (.tup (as.map V.ref))) as (enK 0 xs), as, kp, newS, new, hSn, eS, atP, ?_⟩
  refine I.call' (ch := []) rfl ⟨fun b o q _ _ _ => hk2 b o q, fun b o q _ _ _ => ⟨o.slots, hk2 b o q⟩, fun b o q n _ => ?_, fun b o q _ => ⟨o, hk2 b o q⟩, fun b xs q => kp b _ q, fun b o u q => kp b _ q, fun b ps q => ⟨#[], by rw [kp b _ q]; simp⟩⟩ (fun b u q => ?_) I.bare fun b z => by simp at z
  · obtain ⟨z1, z2⟩ := low b o q
    rw [off b z1 z2]
    exact n
  · by_cases hb : b ∈ as
    · obtain ⟨j, pk, e1, e2, e3⟩ := paired_ix atP hb
      rw [e3] at q
      cases q
      have hj : j < as.length := (List.getElem?_eq_some_iff.mp e1).1
      have ej : as[j] = b := (List.getElem?_eq_some_iff.mp e1).2
      obtain ⟨x, t, _, q2, _, q4⟩ := get j hj
      rw [ej] at q4
      rw [enK_at, Nat.zero_add] at e2
      obtain ⟨v, hv, ev⟩ := Option.map_eq_some_iff.mp e2
      subst ev
      obtain ⟨y, g1, g2⟩ := LiI.paired_get rv hv
      rw [Array.getElem?_toList, q2] at g1
      cases g1
      exact ⟨by show 2 ≤ sizeLine; decide, [.int j t, x], .cons ⟨_, rfl⟩ (.cons g2 .nil), ⟨_, Heap.get?_push_of_some _ q4, rfl, _, rfl⟩⟩
    · by_cases hb2 : b = h'.objs.size
      · rw [hb2] at q ⊢
        rw [eS] at q
        cases q
        refine ⟨by rw [List.length_map]; omega, acc.toList, by rw [hacc]; exact LiI.vals_refs as, ?_⟩
        rw [Array.toArray_toList]
        exact ⟨_, Heap.get?_push_size _ rfl, rfl, _, rfl⟩
      · rw [off b hb hb2] at q
        exact (I.hok b u q).stay (fun d v _ y => hk2 d v y) (fun d y => kp d _ y) fun d xs y => kp d _ y
def tTupEnum (K : PySem.W.Frag) (ta : TE) : TE := fun σ H Q => ta σ H fun x H1 => ∃ (l : Addr) (xs : List V), x = .ref l ∧ SqL K H1 l xs ∧ xs.length ≤ 100000 ∧
  ∀ (H' : Hp) (p : Addr) (ts : List Addr), (∀ b o, H1 b = some o → H' b = some o) → H1 p = none → (∀ t ∈ ts, H1 t = none) → p ∉ ts → H' p = some (.tup (ts.map V.ref)) → Paired (fun (t : Addr) (q : Key × V) => H' t = some (.tup [kV q.1, q.2])) ts (enK 0 xs) → Q (.ref p) H'
theorem pe_tupEnum {a : Expr} {ta : TE} {p p2 q pos : Pos} (hg : Gl X "tuple") (hm : X.mg "tuple" = none) (hg2 : Gl X "enumerate") (hm2 : X.mg "enumerate" = none) (ha : PE X a ta) (hc : X.calm = true := by rfl)
    (na : starEach [a] X.env = (false, eval a X.env) :: starEach [] X.env := by rfl) : PE X (.Call (.Name "tuple" p) [.Call (.Name "enumerate" p2) [a] [] q] [] pos) (tTupEnum X.K ta) := by
  refine ⟨fun pins s σ H Q I h => ?_⟩
  refine Call_ (ld_blt I hg hm (u := .type "tuple") (by decide +kernel) ?_)
  refine PyProof.Rows.callWith_type1 (PyProof.Rows.args_cons ?_ rfl) rfl rfl
  refine Call_ (ld_blt I hg2 hm2 boot_enumerate ?_)
  refine PyProof.Rows.callWith_type1 (PyProof.Rows.args_cons (thn (ha.run pins s σ H _ I h) fun v s1 ⟨x, H1, I1, r1, q1⟩ => PyProof.Rows.args_nil ?_) na) na rfl
  obtain ⟨l, xs, rfl, hq, hl, q1⟩ := q1
  cases r1
  obtain ⟨its, rv, pl, hz⟩ := I1.list hq
  refine call_enumerate_list pl.isList fun h' he hit hsz hk => ?_
  refine PyProof.Rows.args_nil ?_
  have ll : l < s1.heap.objs.size := by obtain ⟨o, ho, _⟩ := pl.isList; exact Heap.lt_size ho
  have li : its.toArray.size = xs.length := by rw [List.size_toArray, ← rv.length]
  refine call_tuple_enm (s := { s1 with heap := h' }) (e := s1.heap.objs.size + 1) (it := s1.heap.objs.size) (l := l) (I1.ok.hd hc) (Nat.succ_ne_self _) (Nat.ne_of_lt (Nat.lt_succ_of_lt ll)) (Nat.ne_of_lt ll) hit (pl.isList.at fun o z => hk l o z) he (by show _ < h'.objs.size; rw [hsz]; exact Nat.lt_succ_self _) (by show _ < h'.objs.size; rw [hsz]; omega) (by show _ < h'.objs.size; rw [hsz]; exact Nat.lt_of_lt_of_le ll (by omega)) (by rw [li]; unfold sizeLine; omega) fun h'' tk acc sz hk2 ac => ?_
  have sz' : s1.heap.objs.size + 2 < h''.objs.size := by rw [← hsz]; exact sz
  obtain ⟨H', as, k1, k2, k3, k4, k5, k6, J⟩ := en_laid (tk := tk) (h' := h'') (items := its.toArray) I1 (by unfold sizeLine; omega) rv (fun b o z => hk2 b o (by
      have := Heap.lt_size z
      show b < h'.objs.size
      rw [hsz]
      exact Nat.lt_of_lt_of_le this (by omega)) (Nat.ne_of_lt (Nat.lt_succ_of_lt (Heap.lt_size z))) (Nat.ne_of_lt (Heap.lt_size z)) (hk b o z)) (by omega) ⟨ac.1, fun j hj => by
      obtain ⟨T, x, t, z1, z2, z3, z4⟩ := ac.2 j hj
      refine ⟨T, x, t, z1, z2, Nat.le_trans ?_ z3, z4⟩
      show s1.heap.objs.size ≤ h'.objs.size
      rw [hsz]
      omega⟩
  exact ⟨.ref _, H', J, rfl, q1 H' _ as k1 k2 k3 k4 k5 k6⟩
end
end Dv

/-! Top lists: the machine and what it does. -/
namespace Dv
open PySem PySem.Spec PyProof.Rows L2 GxR Gx
def srcK (k held at' : Nat) : List Int := (((List.range at').map fun (j : Nat) => (j : Int)) ++ [-1] ++ (List.range' at' (held - at')).map fun (j : Nat) => (j : Int)).take k
def movK (k held at' : Nat) : List Int := srcK k held at' ++ (List.range' (srcK k held at').length (k - (srcK k held at').length)).map fun (j : Nat) => (j : Int)
def enP (l : List Int) : List (Int × Int) := l.zipIdx.map fun p => ((p.2 : Int), p.1)
def putK' (k held at' : Nat) (c : C) : Case := ⟨if at' < held then .all [c, .less at' (-1)] else c, movK k held at', enP (srcK k held at'), 0⟩
def grpK (k held : Nat) (c : C) : List Case := (List.range (held + 1)).map fun at' => putK' k held at' c
def topC (k : Nat) : List Case := (List.range k).flatMap (fun held => grpK k held (.emp held)) ++ grpK k k .tru
def topM (k : Nat) : M := ⟨1, k, [[topC k]]⟩
/-- the place of x in a falling list -/
def posD (x : Int) : List Int → Nat
  | [] => 0
  | y :: l => if y < x then 0 else posD x l + 1
theorem posD_le (x : Int) : ∀ l : List Int, posD x l ≤ l.length
  | [] => Nat.le_refl _
  | y :: l => by
    unfold posD
    split
    · exact Nat.zero_le _
    · exact Nat.succ_le_succ (posD_le x l)
theorem posD_before (x : Int) : ∀ {l : List Int} {j : Nat}, j < posD x l → ∀ y, l[j]? = some y → ¬ y < x
  | [], j, h, y, e => by cases e
  | z :: l, j, h, y, e => by
    unfold posD at h
    split at h
    · exact absurd h (Nat.not_lt_zero _)
    · next c =>
      cases j with
      | zero => cases e; exact c
      | succ j => exact posD_before x (Nat.lt_of_succ_lt_succ h) y e
theorem posD_here (x : Int) : ∀ {l : List Int} (y : Int), l[posD x l]? = some y → y < x
  | [], y, e => by cases e
  | z :: l, y, e => by
    unfold posD at e
    split at e
    · next c => cases e; exact c
    · exact posD_here x y e
def insD (x : Int) (l : List Int) : List Int := l.take (posD x l) ++ [x] ++ l.drop (posD x l)
def regK (k : Nat) (d : List Int) : List (Option Int) := d.map some ++ List.replicate (k - d.length) none
theorem regK_at {k : Nat} {d : List Int} {j : Nat} (hd : d.length ≤ k) : (regK k d)[j]?.getD none = d[j]? := by
  unfold regK
  by_cases h : j < d.length
  · rw [List.getElem?_append_left (by rw [List.length_map]; exact h), List.getElem?_map, List.getElem?_eq_getElem h]
    rfl
  · rw [List.getElem?_append_right (by rw [List.length_map]; omega), List.getElem?_eq_none (by omega : d.length ≤ j), List.getElem?_replicate]
    split <;> rfl
theorem worthN {v : Int} {h : List (Option Int)} : worth v h (-1) = some v := rfl
theorem worth_reg {v : Int} {k : Nat} {d : List Int} {j : Nat} (hd : d.length ≤ k) : worth v (regK k d) (j : Int) = d[j]? := by
  unfold worth
  rw [if_neg (by omega), if_neg (by omega), Int.toNat_natCast, regK_at hd]
/-- the case of a group that is carried out -/
theorem grp_find {k held : Nat} {c : C} {x : Int} {d : List Int} (hd : d.length ≤ k) (hc : hold x (regK k d) c = true) (hl : d.length = held) :
    (grpK k held c).find? (holdC x (regK k d)) = some (putK' k held (posD x d) c) := by
  have le := posD_le x d
  have hw : ∀ at', holdC x (regK k d) (putK' k held at' c) = if at' < held then ltO d[at']? (some x) else true := fun at' => by
    show hold x (regK k d) (if at' < held then .all [c, .less at' (-1)] else c) = _
    by_cases h : at' < held
    · rw [if_pos h, if_pos h]
      have e : hold x (regK k d) (.all [c, .less at' (-1)]) = (hold x (regK k d) c && (ltO (worth x (regK k d) at') (worth x (regK k d) (-1)) && true)) := by simp only [hold, holdA]
      rw [e, hc, worth_reg hd, worthN]
      simp
    · rw [if_neg h, if_neg h, hc]
  unfold grpK
  rw [List.find?_eq_some_iff_append]
  refine ⟨?_, (List.range (posD x d)).map (fun at' => putK' k held at' c), (List.range' (posD x d + 1) (held - posD x d)).map (fun at' => putK' k held at' c), ?_, fun a ha => ?_⟩
  · rw [hw]
    split
    · next h =>
      have e : d[posD x d]? = some d[posD x d] := List.getElem?_eq_getElem (by omega)
      rw [e]
      exact decide_eq_true (posD_here x _ e)
    · rfl
  · have : List.range (held + 1) = List.range (posD x d) ++ posD x d :: List.range' (posD x d + 1) (held - posD x d) := by
      rw [List.range_eq_range', List.range_eq_range', show held + 1 = posD x d + (held - posD x d + 1) by omega, ← List.range'_append_1, Nat.zero_add, List.range'_succ]
    rw [this, List.map_append, List.map_cons]
  · obtain ⟨j, hj, rfl⟩ := List.mem_map.mp ha
    rw [List.mem_range] at hj
    rw [hw, if_pos (by omega), List.getElem?_eq_getElem (show j < d.length by omega)]
    show (!decide (d[j] < x)) = true
    rw [decide_eq_false (posD_before x hj _ (List.getElem?_eq_getElem (by omega)))]
    rfl
theorem grp_none {k held : Nat} {x : Int} {d : List Int} (hd : d.length ≤ k) (hl : held < d.length) : (grpK k held (.emp held)).find? (holdC x (regK k d)) = none := by
  rw [List.find?_eq_none]
  intro a ha
  obtain ⟨at', _, rfl⟩ := List.mem_map.mp ha
  have e : hold x (regK k d) (.emp held) = false := by
    unfold hold
    rw [worth_reg hd, List.getElem?_eq_getElem hl]
    rfl
  show ¬ hold x (regK k d) (if at' < held then .all [.emp held, .less at' (-1)] else .emp held) = true
  split
  · unfold hold holdA
    rw [e]
    simp
  · rw [e]
    simp
theorem top_find {k : Nat} {x : Int} {d : List Int} (hd : d.length ≤ k) : ∃ c, (topC k).find? (holdC x (regK k d)) = some (putK' k d.length (posD x d) c) := by
  unfold topC
  rw [List.find?_append, List.find?_flatMap]
  have low : ∀ n ≤ d.length, (List.range n).findSome? (fun held => (grpK k held (.emp held)).find? (holdC x (regK k d))) = none := fun n hn => by
    rw [List.findSome?_eq_none_iff]
    intro held hh
    rw [List.mem_range] at hh
    exact grp_none hd (by omega)
  by_cases h : d.length = k
  · rw [low k (by omega)]
    exact ⟨.tru, by rw [Option.none_or]; rw [← h] at hd ⊢; exact grp_find (k := d.length) (by omega) rfl rfl⟩
  · refine ⟨.emp d.length, ?_⟩
    have : List.range k = List.range d.length ++ d.length :: List.range' (d.length + 1) (k - d.length - 1) := by
      rw [List.range_eq_range', List.range_eq_range', show k = d.length + (k - d.length - 1 + 1) by omega, ← List.range'_append_1, Nat.zero_add, List.range'_succ]
      congr 3
      omega
    rw [this, List.findSome?_append, low _ (Nat.le_refl _), List.findSome?_cons, grp_find hd _ rfl]
    · rfl
    · unfold hold
      rw [worth_reg hd, List.getElem?_eq_none (Nat.le_refl _)]
      rfl
theorem insD_len (x : Int) (l : List Int) : (insD x l).length = l.length + 1 := by
  have := posD_le x l
  unfold insD
  rw [List.length_append, List.length_append, List.length_take, List.length_drop]
  show min _ _ + 1 + _ = _
  omega
theorem src_worth {k : Nat} {x : Int} {d : List Int} (hd : d.length ≤ k) : (srcK k d.length (posD x d)).map (worth x (regK k d)) = ((insD x d).take k).map some := by
  have le := posD_le x d
  unfold srcK insD
  rw [List.map_take, List.map_take]
  congr 1
  rw [List.map_append, List.map_append, List.map_append, List.map_append, List.map_map, List.map_map]
  congr 1
  · congr 1
    refine List.ext_getElem (by simp; omega) fun i h1 h2 => ?_
    rw [List.length_map, List.length_range] at h1
    rw [List.getElem_map, List.getElem_map, List.getElem_range, List.getElem_take]
    show worth x (regK k d) (i : Int) = _
    rw [worth_reg hd, List.getElem?_eq_getElem (by omega)]
  · refine List.ext_getElem (by simp) fun i h1 h2 => ?_
    rw [List.length_map, List.length_range'] at h1
    rw [List.getElem_map, List.getElem_map, List.getElem_range', List.getElem_drop]
    show worth x (regK k d) ((posD x d + 1 * i : Nat) : Int) = _
    rw [worth_reg hd, Nat.one_mul, List.getElem?_eq_getElem (by omega)]
theorem src_len {k : Nat} {x : Int} {d : List Int} (hd : d.length ≤ k) : (srcK k d.length (posD x d)).length = ((insD x d).take k).length := by
  have := congrArg List.length (src_worth (x := x) hd)
  rwa [List.length_map, List.length_map] at this
def enA (d : List Int) : List (Int × Option Int) := d.zipIdx.map fun p => ((p.2 : Int), some p.1)
theorem top_read {k : Nat} {x : Int} {d : List Int} (hd : d.length ≤ k) : readM (topM k) 0 (regK k d) (0, x) = (0, regK k ((insD x d).take k), enA ((insD x d).take k)) := by
  obtain ⟨c, hc⟩ := top_find (k := k) (x := x) hd
  have e : M.cases (topM k) 0 0 = topC k := rfl
  have e1 : readM (topM k) 0 (regK k d) (0, x) = (match (M.cases (topM k) 0 0).find? (holdC x (regK k d)) with | none => (0, regK k d, []) | some c => (c.nxt, keptC x (regK k d) c, saidC x (regK k d) c)) := rfl
  rw [e1, e, hc]
  have sw := src_worth (x := x) hd
  have sl := src_len (x := x) hd
  show (0, (movK k d.length (posD x d)).map (worth x (regK k d)), (enP (srcK k d.length (posD x d))).map (fun p => (p.1, worth x (regK k d) p.2))) = _
  congr 1
  congr 1
  · unfold movK
    rw [List.map_append, sw]
    show _ = ((insD x d).take k).map some ++ List.replicate (k - ((insD x d).take k).length) none
    congr 1
    rw [sl]
    refine List.ext_getElem (by simp) fun i h1 h2 => ?_
    rw [List.length_replicate] at h2
    rw [List.getElem_replicate, List.getElem_map, List.getElem_map, List.getElem_range', worth_reg hd]
    rw [List.length_take, insD_len] at h2
    refine List.getElem?_eq_none ?_
    rw [List.length_take, insD_len]
    omega
  · unfold enP enA
    rw [List.map_map]
    refine List.ext_getElem (by simp [sl]) fun i h1 h2 => ?_
    rw [List.length_map, List.length_zipIdx] at h1 h2
    rw [List.getElem_map, List.getElem_map, List.getElem_zipIdx, List.getElem_zipIdx]
    show (((0 + i : Nat) : Int), worth x (regK k d) (srcK k d.length (posD x d))[i]) = (((0 + i : Nat) : Int), some ((insD x d).take k)[i])
    have g := congrArg (fun z => z[i]?) sw
    simp only [List.getElem?_map, List.getElem?_eq_getElem h1, List.getElem?_eq_getElem h2, Option.map_some] at g
    rw [Option.some.inj g]
/-- the values so far, falling -/
def fallD (xs : List Int) : List Int := xs.foldl (fun l x => insD x l) []
theorem fallD_snoc (xs : List Int) (x : Int) : fallD (xs ++ [x]) = insD x (fallD xs) := by unfold fallD; rw [List.foldl_append]; rfl
theorem posD_take (x : Int) : ∀ (l : List Int) (k : Nat), posD x (l.take k) = min (posD x l) k
  | [], k => by simp [posD]
  | y :: l, 0 => by simp [posD]
  | y :: l, k + 1 => by
    rw [List.take_succ_cons]
    unfold posD
    split
    · simp
    · rw [posD_take x l k]
      omega
theorem ins_take (x : Int) (l : List Int) (k : Nat) : (insD x (l.take k)).take k = (insD x l).take k := by
  have le := posD_le x l
  unfold insD
  rw [posD_take]
  rcases Nat.lt_or_ge (posD x l) k with h | h
  · have cut : ∀ (A B : List Int) (n : Nat), k - A.length ≤ n → (A ++ B.take n).take k = (A ++ B).take k := fun A B n hn => by rw [List.take_append, List.take_append, List.take_take, Nat.min_eq_left hn]
    rw [Nat.min_eq_left (by omega), List.take_take, Nat.min_eq_left (by omega), List.drop_take, cut]
    rw [List.length_append, List.length_take]
    show k - (min _ _ + 1) ≤ _
    omega
  · rw [Nat.min_eq_right h]
    rw [List.take_take, Nat.min_self]
    have a1 : (l.take k).length = k := by rw [List.length_take]; omega
    have a2 : k ≤ (l.take (posD x l)).length := by rw [List.length_take]; omega
    rw [List.append_assoc, List.append_assoc, List.take_append_of_le_length (by omega), List.take_take, Nat.min_self, List.take_append_of_le_length a2, List.take_take, Nat.min_eq_left h]
def topDue (k : Nat) (xs : List Int) : List (List (Int × Option Int)) := (List.range xs.length).map fun i => enA ((fallD (xs.take (i + 1))).take k)
theorem top_due (k : Nat) (xs : List Int) : answersM (topM k) (0, List.replicate k none) (asLog xs) = topDue k xs := by
  have h := answersM_rows (topM k) (asLog xs) (fun i => (0, regK k ((fallD (xs.take i)).take k))) (fun i => enA ((fallD (xs.take (i + 1))).take k)) fun i e he => by
    obtain ⟨rfl, hi⟩ := asLog_get he
    show readM (topM k) 0 (regK k ((fallD (xs.take i)).take k)) (0, xs.getD i 0) = (0, regK k ((fallD (xs.take (i + 1))).take k), enA ((fallD (xs.take (i + 1))).take k))
    rw [top_read (by rw [List.length_take]; exact Nat.min_le_left _ _), ins_take]
    have : xs.take (i + 1) = xs.take i ++ [xs.getD i 0] := by rw [List.take_add_one, List.getD_eq_getElem?_getD, List.getElem?_eq_getElem hi]; rfl
    rw [this, fallD_snoc]
  have e : regK k ((fallD (xs.take 0)).take k) = List.replicate k none := by
    show regK k (([] : List Int).take k) = _
    rw [List.take_nil]
    rfl
  rw [e] at h
  rw [h, asLog_len]
  rfl
end Dv

/-! Top lists: falling lists, right machines, pairs as data. -/
namespace Dv
open PySem PySem.Spec PyProof.Rows L2 GxR Gx
theorem insD_perm (x : Int) (l : List Int) : (insD x l).Perm (x :: l) := by
  unfold insD
  rw [List.append_assoc]
  have h : (l.take (posD x l) ++ ([x] ++ l.drop (posD x l))).Perm (x :: (l.take (posD x l) ++ l.drop (posD x l))) := List.perm_middle
  rwa [List.take_append_drop] at h
theorem insD_fall {x : Int} {l : List Int} (h : l.Pairwise (fun a b => b ≤ a)) : (insD x l).Pairwise (fun a b => b ≤ a) := by
  have le := posD_le x l
  have w := List.pairwise_iff_getElem.mp h
  have bef : ∀ y ∈ l.take (posD x l), x ≤ y := fun y hy => by
    obtain ⟨j, hj, rfl⟩ := List.getElem_of_mem hy
    rw [List.length_take] at hj
    rw [List.getElem_take]
    have := posD_before x (l := l) (j := j) (by omega) _ (List.getElem?_eq_getElem (by omega))
    omega
  have aft : ∀ y ∈ l.drop (posD x l), y ≤ x := fun y hy => by
    obtain ⟨j, hj, rfl⟩ := List.getElem_of_mem hy
    rw [List.length_drop] at hj
    rw [List.getElem_drop]
    have hp : posD x l < l.length := by omega
    have := posD_here x (l := l) _ (List.getElem?_eq_getElem hp)
    by_cases z : j = 0
    · subst z
      simp only [Nat.add_zero]
      omega
    · have := w (posD x l) (posD x l + j) hp (by omega) (by omega)
      omega
  unfold insD
  refine List.pairwise_append.mpr ⟨List.pairwise_append.mpr ⟨h.sublist (List.take_sublist _ _), List.pairwise_singleton _ _, fun a ha b hb => ?_⟩, h.sublist (List.drop_sublist _ _), fun a ha b hb => ?_⟩
  · obtain rfl := List.mem_singleton.mp hb
    exact bef a ha
  · rcases List.mem_append.mp ha with q | q
    · have := bef a q
      have := aft b hb
      omega
    · obtain rfl := List.mem_singleton.mp q
      exact aft b hb
theorem fallD_both (xs : List Int) : ∀ n, (fallD (xs.take n)).Pairwise (fun a b => b ≤ a) ∧ (fallD (xs.take n)).Perm (xs.take n)
  | 0 => ⟨List.Pairwise.nil, List.Perm.nil⟩
  | n + 1 => by
    have ih := fallD_both xs n
    rw [List.take_add_one]
    cases e : xs[n]? with
    | none => simpa using ih
    | some x =>
      show (fallD (xs.take n ++ [x])).Pairwise _ ∧ (fallD (xs.take n ++ [x])).Perm (xs.take n ++ [x])
      rw [fallD_snoc]
      refine ⟨insD_fall ih.1, (insD_perm x _).trans ?_⟩
      exact ((List.Perm.cons x ih.2).trans (List.perm_append_comm (l₁ := [x]) (l₂ := xs.take n)))
theorem fall_of_sorted {xs ys : List Int} (s : ys.Pairwise (· ≤ ·)) (p : ys.Perm xs) : ys.reverse = fallD xs := by
  have f := fallD_both xs xs.length
  rw [List.take_length] at f
  refine List.Perm.eq_of_pairwise (le := fun a b => b ≤ a) (fun a b _ _ h1 h2 => Int.le_antisymm h2 h1) (List.pairwise_reverse.mpr s) f.1 ?_
  exact (List.reverse_perm ys).trans (p.trans f.2.symm)
theorem src_mem {k held a : Nat} (ha : a ≤ held) {z : Int} (h : z ∈ srcK k held a) : z = -1 ∨ ∃ j : Nat, j < held ∧ z = j := by
  unfold srcK at h
  have h := List.mem_of_mem_take h
  rw [List.mem_append, List.mem_append, List.mem_singleton, List.mem_map, List.mem_map] at h
  rcases h with (⟨j, hj, e⟩ | e) | ⟨j, hj, e⟩
  · rw [List.mem_range] at hj
    exact .inr ⟨j, by omega, e.symm⟩
  · exact .inl e
  · rw [List.mem_range'_1] at hj
    exact .inr ⟨j, by omega, e.symm⟩
theorem src_le (k held a : Nat) : (srcK k held a).length ≤ k := by unfold srcK; rw [List.length_take]; exact Nat.min_le_left _ _
theorem put_ok {k held a : Nat} {c : C} (hk : 1 ≤ k) (hk2 : k ≤ 6) (hh : held ≤ k) (ha : a ≤ held) (hc : okC k 2 c) (hc3 : okC k 3 c) : okCase k 1 3 (putK' k held a c) := by
  have sl := src_le k held a
  have sm : ∀ z ∈ srcK k held a, -2 ≤ z ∧ z < (k : Int) := fun z hz => by
    rcases src_mem ha hz with e | ⟨j, hj, e⟩ <;> omega
  refine ⟨?_, ?_, fun z hz => ?_, fun p hp => ?_, ?_, by show 0 < 1; decide⟩
  · show okC k 3 (if a < held then .all [c, .less a (-1)] else c)
    split
    · unfold okC okCs okCs okCs
      refine ⟨by show 2 ≤ 100000; decide, hc, ?_, trivial⟩
      unfold okC plOk
      omega
    · exact hc3
  · show (movK k held a).length = k
    unfold movK
    rw [List.length_append, List.length_map, List.length_range']
    omega
  · unfold putK' movK at hz
    rcases List.mem_append.mp hz with q | q
    · exact sm z q
    · obtain ⟨j, hj, rfl⟩ := List.mem_map.mp q
      rw [List.mem_range'_1] at hj
      omega
  · unfold putK' enP at hp
    obtain ⟨q, hq, rfl⟩ := List.mem_map.mp hp
    have := List.mem_zipIdx hq
    refine ⟨by show (0 : Int) ≤ (q.2 : Nat); omega, ?_⟩
    exact sm _ (by rw [this.2.2]; exact List.getElem_mem _)
  · show (enP (srcK k held a)).length ≤ 1000
    unfold enP
    rw [List.length_map, List.length_zipIdx]
    omega
theorem top_ok {k : Nat} (hk : 1 ≤ k) (hk2 : k ≤ 6) : okM 3 (topM k) := by
  have len : (topC k).length ≤ 1000 := by
    rcases (by omega : k = 1 ∨ k = 2 ∨ k = 3 ∨ k = 4 ∨ k = 5 ∨ k = 6) with rfl | rfl | rfl | rfl | rfl | rfl <;> decide
  refine ⟨by show 1 ≤ 1; decide, by show 1 ≤ 1000; decide, by show k ≤ 1000; omega, by show 0 < 1; decide, by show 1 ≤ 1000; decide, fun s hs => ?_, fun s hs cs hcs => ?_⟩
  · obtain rfl := List.mem_singleton.mp hs
    rfl
  · obtain rfl := List.mem_singleton.mp hs
    obtain rfl := List.mem_singleton.mp hcs
    refine ⟨len, fun c hc => ?_⟩
    unfold topC at hc
    rcases List.mem_append.mp hc with q | q
    · obtain ⟨held, hh, q⟩ := List.mem_flatMap.mp q
      rw [List.mem_range] at hh
      obtain ⟨a, ha, rfl⟩ := List.mem_map.mp q
      rw [List.mem_range] at ha
      show okCase k 1 3 (putK' k held a (.emp held))
      refine put_ok hk hk2 (by omega) (by omega) ?_ ?_ <;> (unfold okC plOk; omega)
    · obtain ⟨a, ha, rfl⟩ := List.mem_map.mp q
      rw [List.mem_range] at ha
      show okCase k 1 3 (putK' k k a .tru)
      refine put_ok hk hk2 (by omega) (by omega) ?_ ?_ <;> (unfold okC; trivial)
end Dv

/-! tuple(enumerate(xs)) as data. -/
namespace Dv
open PySem PySem.Spec PyProof.Rows L2 GxR Gx
variable {K : PySem.W.Frag} {T : List Addr} {H H' : Hp}
theorem Ex.of_ext (kp : ∀ b o, H b = some o → H' b = some o) : Ex T [] H H' :=
  ⟨fun b o _ h _ => kp b o h, fun b xs h => h.imp (kp b _) (fun ⟨o, h⟩ => ⟨o, kp b _ h⟩), fun h P hP => let ⟨ps, e, t⟩ := h P hP; ⟨ps, kp P _ e, t⟩, fun b o h => ⟨o, kp b o h⟩⟩
theorem enum_ats : ∀ (src : List Int) (j : Nat) (ts : List Addr), Paired (fun (t : Addr) (q : Key × V) => H' t = some (.tup [kV q.1, q.2])) ts (enK j (src.map V.int)) →
    Ats K H' (ts.map V.ref) ((src.zipIdx j).map fun p => encSay ((p.2 : Int), p.1))
  | [], _, [], _ => Ats.mk_nil
  | [], _, t :: ts, h => by cases h
  | x :: src, _, [], h => by cases h
  | x :: src, j, t :: ts, h => by
    cases h with
    | cons a b => exact Ats.mk (at_tup.mpr ⟨t, _, rfl, SqT.of a, Ats.mk (at_int.mpr rfl) (Ats.mk (at_int.mpr rfl) Ats.mk_nil)⟩) (enum_ats src (j + 1) ts b)
theorem enum_at {p : Addr} {ts : List Addr} {src : List Int} (hp : H' p = some (.tup (ts.map V.ref))) (h : Paired (fun (t : Addr) (q : Key × V) => H' t = some (.tup [kV q.1, q.2])) ts (enK 0 (src.map V.int))) :
    At K H' (.ref p) (.tup ((enP src).map encSay)) := by
  refine at_tup.mpr ⟨p, _, rfl, SqT.of hp, ?_⟩
  have := enum_ats (K := K) src 0 ts h
  unfold enP
  rw [List.map_map]
  exact this
theorem Col.puts {ms : List Addr} {D0 : Addr} {H0 H1 H2 : Hp} {ds es : List D} {zs : List V} (c : Col K T ms D0 H0 H1 ds) (free : H0 D0 = none) (nD : D0 ∉ ms) (wd : Wd T H0) (e : Ex T ms H1 H2) (hz : Ats K H2 zs es) :
    ∃ acc, H2 D0 = some (.lst acc) ∧ acc.length = ds.length ∧ Col K T ms D0 H0 (upd H2 D0 (.lst (acc ++ zs))) (ds ++ es) := by
  obtain ⟨ex, xs, hD, ats⟩ := c
  have hD2 : H2 D0 = some (.lst xs) := e.lst nD hD
  have exw : Ex T [D0] H2 (upd H2 D0 (.lst (xs ++ zs))) := Ex.write (by simp) hD2
  exact ⟨xs, hD2, ats.length, (ex.trans e).put free wd, xs ++ zs, upd_same, ((ats.ext e).append hz).ext exw⟩
theorem grp_take {k held : Nat} {c : C} {j : Nat} : ((List.range j).map fun a => putK' k held a c) ++ [putK' k held j c] = (List.range (j + 1)).map fun a => putK' k held a c := by
  rw [List.range_succ, List.map_append]
  rfl
theorem grp_len {k held : Nat} {c : C} : (grpK k held c).length = held + 1 := by unfold grpK; rw [List.length_map, List.length_range]
theorem groups_len (k : Nat) : ∀ i, ((List.range i).flatMap fun held => grpK k held (.emp held)).length ≤ i * (i + 1)
  | 0 => by simp
  | i + 1 => by
    rw [List.range_succ, List.flatMap_append, List.length_append]
    have := groups_len k i
    show _ + (grpK k i (.emp i) ++ []).length ≤ _
    rw [List.append_nil, grp_len, Nat.succ_mul, Nat.mul_succ]
    have : i * (i + 1) = i * i + i := Nat.mul_succ i i
    omega
end Dv

/-! Top lists are made of tuples. -/
namespace Dv
open PySem PySem.Spec PyProof.Rows L2 GxR Gx
theorem tuDs_of {α : Type} {f : α → D} {n : Nat} : ∀ {l : List α}, (∀ a ∈ l, tuD n (f a)) → tuDs n (l.map f)
  | [], _ => by rw [List.map_nil]; unfold tuDs; trivial
  | a :: l, h => by
    rw [List.map_cons]
    unfold tuDs
    exact ⟨h a (by simp), tuDs_of fun b hb => h b (by simp [hb])⟩
theorem tuD_int {n : Nat} {i : Int} : tuD n (.int i) := by cases n <;> (unfold tuD; trivial)
theorem put_tu {k held a : Nat} {c : C} (h6 : k ≤ 6) (hc : tuD 2 (encC c)) (hc4 : tuD 4 (encC c)) : tuD 5 (encCase (putK' k held a c)) := by
  have sl := src_le k held a
  have c1 : tuD 4 (encC (if a < held then .all [c, .less a (-1)] else c)) := by
    split
    · have e : encC (.all [c, .less a (-1)]) = .tup [.str "all", .tup [encC c, .tup [.str "less", .int a, .int (-1)]]] := by simp only [encC, encCs]
      rw [e]
      simp [tuD, tuDs, hc]
    · exact hc4
  have c2 : tuD 4 (.tup ((movK k held a).map .int)) := by
    unfold tuD
    refine ⟨?_, tuDs_of fun z _ => tuD_int⟩
    rw [List.length_map]
    unfold movK
    rw [List.length_append, List.length_map, List.length_range']
    omega
  have c3 : tuD 4 (.tup ((enP (srcK k held a)).map encSay)) := by
    unfold tuD
    refine ⟨?_, tuDs_of fun z _ => ?_⟩
    · unfold enP
      rw [List.length_map, List.length_map, List.length_zipIdx]
      omega
    · unfold encSay
      simp [tuD, tuDs]
  show tuD 5 (.tup [encC (if a < held then .all [c, .less a (-1)] else c), .tup ((movK k held a).map .int), .tup ((enP (srcK k held a)).map encSay), .int 0])
  simp only [tuD, tuDs]
  unfold tuD at c2 c3
  exact ⟨by show 4 ≤ 100000; decide, c1, c2, c3, trivial, trivial⟩
theorem top_tu {k : Nat} (hk : 1 ≤ k) (hk2 : k ≤ 6) : tuD 9 (encM (topM k)) := by
  have len : (topC k).length ≤ 1000 := ((top_ok hk hk2).cases [topC k] (List.mem_singleton.mpr rfl) (topC k) (List.mem_singleton.mpr rfl)).1
  have cs : tuDs 5 ((topC k).map encCase) := tuDs_of fun c hc => by
    unfold topC at hc
    rcases List.mem_append.mp hc with q | q
    · obtain ⟨held, hh, q⟩ := List.mem_flatMap.mp q
      obtain ⟨a, ha, rfl⟩ := List.mem_map.mp q
      exact put_tu hk2 (by simp [encC, tuD, tuDs]) (by simp [encC, tuD, tuDs])
    · obtain ⟨a, ha, rfl⟩ := List.mem_map.mp q
      exact put_tu hk2 (by simp [encC, tuD, tuDs]) (by simp [encC, tuD, tuDs])
  have e : encM (topM k) = .tup [.int 1, .int k, .tup [.tup [.tup ((topC k).map encCase)]]] := rfl
  rw [e]
  simp only [tuD, tuDs]
  refine ⟨by show 3 ≤ 100000; decide, trivial, trivial, ⟨by show 1 ≤ 100000; decide, ⟨by show 1 ≤ 100000; decide, ⟨by rw [List.length_map]; omega, cs⟩, trivial⟩, trivial⟩, trivial⟩
end Dv

open PySem PySem.Spec PyProof.Rows L2 GxR Gx
namespace Dv
/-! built machines, turned: the same answers on negated values -/
def negs (xs : List Int) : List Int := xs.map fun x => -x
theorem negs_len (xs : List Int) : (negs xs).length = xs.length := List.length_map ..
theorem negs_get (xs : List Int) (k : Nat) : (negs xs).getD k 0 = -(xs.getD k 0) := by
  unfold negs
  rw [List.getD_eq_getElem?_getD, List.getD_eq_getElem?_getD, List.getElem?_map]
  cases xs[k]? <;> simp
theorem negs_negs (xs : List Int) : negs (negs xs) = xs := by
  unfold negs
  rw [List.map_map, List.map_congr_left (g := id) (fun x _ => by simp), List.map_id]
theorem negs_take (xs : List Int) (k : Nat) : (negs xs).take k = negs (xs.take k) := by unfold negs; rw [List.map_take]
theorem asLog_neg (xs : List Int) : (asLog (negs xs)).map (chL fun x => -x) = asLog xs := by
  unfold asLog negs
  rw [List.map_map, List.map_map]
  refine List.map_congr_left fun x _ => ?_
  show ((0 : Nat), - -x) = (0, x)
  rw [Int.neg_neg]
theorem turn_answers (m : M) (xs : List Int) : answersM (turnM m) ((0, List.replicate m.regs none) : Ct) (asLog xs) = (answersM m ((0, List.replicate m.regs none) : Ct) (asLog (negs xs))).map (List.map (chE fun x => -x)) := by
  have h := answersM_turn fall_neg m ((0, List.replicate m.regs none) : Ct) (asLog (negs xs))
  rw [asLog_neg] at h
  rw [← h]
  unfold mapC
  rw [mapH_rep]
theorem rows_neg (xs : List Int) (f g : List Int → Nat → List (Int × Option Int)) (h : ∀ k, k < xs.length → (f (negs xs) k).map (chE fun x => -x) = g xs k) :
    ((List.range (negs xs).length).map (f (negs xs))).map (List.map (chE fun x => -x)) = (List.range xs.length).map (g xs) := by
  rw [negs_len, List.map_map]
  refine List.map_congr_left fun k hk => ?_
  exact h k (List.mem_range.mp hk)
-- records
def lowRow (xs : List Int) (k : Nat) : List (Int × Option Int) := if (xs.take k).all (fun y => decide (xs.getD k 0 < y)) = true then [(0, some (xs.getD k 0))] else []
def lowDue (xs : List Int) : List (List (Int × Option Int)) := (List.range xs.length).map (lowRow xs)
theorem low_turn (xs : List Int) : (recDue (negs xs)).map (List.map (chE fun x => -x)) = lowDue xs := by
  refine rows_neg xs recRow lowRow fun k _ => ?_
  unfold recRow lowRow
  rw [negs_get, negs_take]
  have e : (negs (xs.take k)).all (fun y => decide (y < -(xs.getD k 0))) = (xs.take k).all (fun y => decide (xs.getD k 0 < y)) := by
    unfold negs
    rw [List.all_map]
    refine List.all_congr rfl fun y => ?_
    show decide (-y < -(xs.getD k 0)) = decide (xs.getD k 0 < y)
    exact decide_eq_decide.mpr (by omega)
  rw [e]
  split
  · show [((0 : Int), some (- -(xs.getD k 0)))] = _
    rw [Int.neg_neg]
  · rfl
-- the top list
theorem enA_neg (l : List Int) : (enA l).map (chE fun x => -x) = enA (negs l) := by
  unfold enA negs
  rw [List.zipIdx_map, List.map_map, List.map_map]
  rfl
theorem fall_negs (xs : List Int) : fallD (negs xs) = negs (fallD xs).reverse := by
  have b := fallD_both xs xs.length
  rw [List.take_length] at b
  have s : (negs (fallD xs)).Pairwise (· ≤ ·) := by
    unfold negs
    rw [List.pairwise_map]
    exact b.1.imp fun h => by omega
  have p : (negs (fallD xs)).Perm (negs xs) := b.2.map _
  rw [← fall_of_sorted s p]
  unfold negs
  rw [List.map_reverse]
def lowestDue (k : Nat) (xs : List Int) : List (List (Int × Option Int)) := (List.range xs.length).map fun i => enA ((fallD (xs.take (i + 1))).reverse.take k)
theorem lowest_turn (k : Nat) (xs : List Int) : (topDue k (negs xs)).map (List.map (chE fun x => -x)) = lowestDue k xs := by
  refine rows_neg xs (fun xs i => enA ((fallD (xs.take (i + 1))).take k)) (fun xs i => enA ((fallD (xs.take (i + 1))).reverse.take k)) fun i _ => ?_
  show (enA ((fallD ((negs xs).take (i + 1))).take k)).map _ = enA ((fallD (xs.take (i + 1))).reverse.take k)
  rw [enA_neg, negs_take, fall_negs, ← negs_take, negs_negs]
-- the band
def bandSay' (o : Option (Int × Int)) : List (Int × Option Int) :=
  match o with
  | none => []
  | some (l, h) => [(0, some h), (1, some l)]
def bandRow' (xs : List Int) (k : Nat) : List (Int × Option Int) := if bandO xs (k + 1) = bandO xs k then [] else bandSay' (bandO xs (k + 1))
def bandDue' (xs : List Int) : List (List (Int × Option Int)) := (List.range xs.length).map (bandRow' xs)
def negB (o : Option (Int × Int)) : Option (Int × Int) := o.map fun p => (-p.2, -p.1)
theorem negB_inj {a b : Option (Int × Int)} (h : negB a = negB b) : a = b := by
  cases a with
  | none => cases b with
    | none => rfl
    | some q => cases h
  | some p => cases b with
    | none => cases h
    | some q =>
      obtain ⟨l, h1⟩ := p
      obtain ⟨l', h1'⟩ := q
      have e := Option.some.inj h
      have e1 := (Prod.mk.inj e).1
      have e2 := (Prod.mk.inj e).2
      dsimp only at e1 e2
      rw [show l = l' by omega, show h1 = h1' by omega]
theorem bandStep_le {o : Option (Int × Int)} (h : ∀ l u, o = some (l, u) → l ≤ u) (x l u : Int) (e : bandStep o x = some (l, u)) : l ≤ u := by
  cases o with
  | none =>
    have := Prod.mk.inj (Option.some.inj e)
    omega
  | some p =>
    obtain ⟨a, b⟩ := p
    have hab := h a b rfl
    unfold bandStep at e
    dsimp only at e
    split at e
    · have := Prod.mk.inj (Option.some.inj e); omega
    · split at e
      · have := Prod.mk.inj (Option.some.inj e); omega
      · have := Prod.mk.inj (Option.some.inj e); omega
theorem bandStep_neg (o : Option (Int × Int)) (hle : ∀ l u, o = some (l, u) → l ≤ u) (x : Int) : bandStep (negB o) (-x) = negB (bandStep o x) := by
  cases o with
  | none => rfl
  | some p =>
    obtain ⟨l, h⟩ := p
    have hl := hle l h rfl
    show bandStep (some (-h, -l)) (-x) = _
    unfold bandStep
    dsimp only
    by_cases c1 : x < l
    · rw [if_neg (by omega), if_pos (show -l < -x by omega), if_pos c1]
      rfl
    · by_cases c2 : h < x
      · rw [if_pos (show -x < -h by omega), if_neg c1, if_pos c2]
        rfl
      · rw [if_neg (by omega), if_neg (by omega), if_neg c1, if_neg c2]
        rfl
theorem bandO_le (xs : List Int) : ∀ k l u, bandO xs k = some (l, u) → l ≤ u
  | 0, l, u, h => by cases h
  | k + 1, l, u, h => bandStep_le (bandO_le xs k) _ _ _ h
theorem bandO_neg (xs : List Int) : ∀ k, bandO (negs xs) k = negB (bandO xs k)
  | 0 => rfl
  | k + 1 => by
    show bandStep (bandO (negs xs) k) ((negs xs).getD k 0) = negB (bandStep (bandO xs k) (xs.getD k 0))
    rw [bandO_neg xs k, negs_get, bandStep_neg _ (bandO_le xs k)]
theorem band_turn (xs : List Int) : (bandDue (negs xs)).map (List.map (chE fun x => -x)) = bandDue' xs := by
  refine rows_neg xs bandRow bandRow' fun k _ => ?_
  unfold bandRow bandRow'
  rw [bandO_neg, bandO_neg]
  by_cases c : bandO xs (k + 1) = bandO xs k
  · rw [if_pos c, if_pos (by rw [c])]
    rfl
  · rw [if_neg c, if_neg (fun h => c (negB_inj h))]
    generalize bandO xs (k + 1) = o
    cases o with
    | none => rfl
    | some p =>
      show [((0 : Int), some (- -p.2)), (1, some (- -p.1))] = [(0, some p.2), (1, some p.1)]
      rw [Int.neg_neg, Int.neg_neg]
-- turning points
def turnsRow' (xs : List Int) (k : Nat) : List (Int × Option Int) :=
  if k < 2 then [] else if xs.getD (k - 1) 0 < xs.getD (k - 2) 0 ∧ xs.getD (k - 1) 0 < xs.getD k 0 then [(0, some (xs.getD (k - 1) 0))] else
  if xs.getD (k - 2) 0 < xs.getD (k - 1) 0 ∧ xs.getD k 0 < xs.getD (k - 1) 0 then [(1, some (xs.getD (k - 1) 0))] else []
def turnsDue' (xs : List Int) : List (List (Int × Option Int)) := (List.range xs.length).map (turnsRow' xs)
theorem turns_turn (xs : List Int) : (turnsDue (negs xs)).map (List.map (chE fun x => -x)) = turnsDue' xs := by
  refine rows_neg xs turnsRow turnsRow' fun k _ => ?_
  unfold turnsRow turnsRow'
  rw [negs_get, negs_get, negs_get]
  by_cases c0 : k < 2
  · rw [if_pos c0, if_pos c0]; rfl
  rw [if_neg c0, if_neg c0]
  by_cases c1 : xs.getD (k - 1) 0 < xs.getD (k - 2) 0 ∧ xs.getD (k - 1) 0 < xs.getD k 0
  · rw [if_pos c1, if_pos (by omega)]
    show [((0 : Int), some (- -_))] = _
    rw [Int.neg_neg]
  · rw [if_neg c1, if_neg (by omega)]
    by_cases c2 : xs.getD (k - 2) 0 < xs.getD (k - 1) 0 ∧ xs.getD k 0 < xs.getD (k - 1) 0
    · rw [if_pos c2, if_pos (by omega)]
      show [((1 : Int), some (- -_))] = _
      rw [Int.neg_neg]
    · rw [if_neg c2, if_neg (by omega)]
      rfl
-- runs
def firstF (xs : List Int) : Nat → Nat
  | 0 => 0
  | k + 1 => if 0 < k ∧ xs.getD (k - 1) 0 ≤ xs.getD k 0 then k else firstF xs k
theorem firstF_lt (xs : List Int) : ∀ k, firstF xs k ≤ k
  | 0 => Nat.le_refl _
  | k + 1 => by
    unfold firstF
    have := firstF_lt xs k
    split <;> omega
theorem firstI_neg (xs : List Int) : ∀ k, firstI (negs xs) k = firstF xs k
  | 0 => rfl
  | k + 1 => by
    show (if 0 < k ∧ (negs xs).getD k 0 ≤ (negs xs).getD (k - 1) 0 then k else firstI (negs xs) k) = (if 0 < k ∧ xs.getD (k - 1) 0 ≤ xs.getD k 0 then k else firstF xs k)
    rw [negs_get, negs_get, firstI_neg xs k]
    by_cases c : 0 < k ∧ xs.getD (k - 1) 0 ≤ xs.getD k 0
    · rw [if_pos c, if_pos (by omega)]
    · rw [if_neg c, if_neg (by omega)]
def fallsRow (xs : List Int) (k : Nat) : List (Int × Option Int) := if 0 < k ∧ xs.getD (k - 1) 0 ≤ xs.getD k 0 then [(0, some (xs.getD (firstF xs k) 0))] else []
def fallsDue (xs : List Int) : List (List (Int × Option Int)) := (List.range xs.length).map (fallsRow xs)
theorem falls_turn (xs : List Int) : (runsDue (negs xs)).map (List.map (chE fun x => -x)) = fallsDue xs := by
  refine rows_neg xs runsRow fallsRow fun k _ => ?_
  unfold runsRow fallsRow
  rw [negs_get, negs_get, negs_get, firstI_neg]
  by_cases c : 0 < k ∧ xs.getD (k - 1) 0 ≤ xs.getD k 0
  · rw [if_pos c, if_pos (by omega)]
    show [((0 : Int), some (- -_))] = _
    rw [Int.neg_neg]
  · rw [if_neg c, if_neg (by omega)]
    rfl
def fiveM (k : Nat) : List M := [recM, topM k, bandM, turnsM, runsM]
def fiveT (k : Nat) (xs : List Int) : List (List (List (Int × Option Int))) := [lowDue xs, lowestDue k xs, bandDue' xs, turnsDue' xs, fallsDue xs]
theorem five_turn (k : Nat) (xs : List Int) : (fiveM k).map (fun m => answersM (turnM m) ((0, List.replicate m.regs none) : Ct) (asLog xs)) = fiveT k xs := by
  unfold fiveM fiveT
  simp only [List.map_cons, List.map_nil, turn_answers]
  rw [← low_turn, ← lowest_turn, ← band_turn, ← turns_turn, ← falls_turn]
  rw [← rec_due, ← top_due, ← band_due, ← turns_due, ← runs_due]
  rfl
theorem five_ok {k : Nat} (h1 : 1 ≤ k) (h2 : k ≤ 6) : ∀ m ∈ fiveM k, okM 3 m ∧ m.tags = 1 := fun m hm => by
  unfold fiveM at hm
  simp only [List.mem_cons, List.not_mem_nil, or_false] at hm
  rcases hm with rfl | rfl | rfl | rfl | rfl
  · exact ⟨recM_ok, rfl⟩
  · exact ⟨top_ok h1 h2, rfl⟩
  · exact ⟨bandM_ok, rfl⟩
  · exact ⟨turnsM_ok, rfl⟩
  · exact ⟨runsM_ok, rfl⟩
end Dv

open PySem PySem.Spec PyProof.Rows L2 GxR Gx
namespace Dv
/-! the spotter: what it is and what it says -/
def prs (p : List Int) : List (Int × Int) := p.zipIdx.map fun q => (q.1, (q.2 : Int))
theorem prs_len (p : List Int) : (prs p).length = p.length := by unfold prs; rw [List.length_map, List.length_zipIdx]
theorem prs_get (p : List Int) (j : Nat) (h : j < p.length) : (prs p)[j]? = some (p.getD j 0, (j : Int)) := by
  unfold prs
  rw [List.getElem?_map, List.getElem?_zipIdx, List.getElem?_eq_getElem h]
  show some (p[j], ((0 + j : Nat) : Int)) = _
  rw [Nat.zero_add, List.getD_eq_getElem?_getD, List.getElem?_eq_getElem h]
  rfl
theorem mem_prs {p : List Int} {q : Int × Int} (h : q ∈ prs p) : ∃ j : Nat, j < p.length ∧ q = (p.getD j 0, (j : Int)) := by
  obtain ⟨j, hj, e⟩ := List.getElem_of_mem h
  rw [prs_len] at hj
  refine ⟨j, hj, ?_⟩
  have := prs_get p j hj
  rw [List.getElem?_eq_getElem (by rw [prs_len]; exact hj), e] at this
  exact Option.some.inj this
structure Srt2 (L : List (Int × Int)) (p : List Int) : Prop where
  perm : L.Perm (prs p)
  le : L.Pairwise fun x y => x.1 ≤ y.1
theorem Srt2.len {L : List (Int × Int)} {p : List Int} (s : Srt2 L p) : L.length = p.length := by rw [s.perm.length_eq, prs_len]
theorem Srt2.at {L : List (Int × Int)} {p : List Int} (s : Srt2 L p) {q : Int × Int} (h : q ∈ L) : ∃ j : Nat, j < p.length ∧ q = (p.getD j 0, (j : Int)) := mem_prs (s.perm.mem_iff.mp h)
theorem Srt2.has {L : List (Int × Int)} {p : List Int} (s : Srt2 L p) {j : Nat} (h : j < p.length) : (p.getD j 0, (j : Int)) ∈ L :=
  s.perm.mem_iff.mpr (List.mem_of_getElem? (prs_get p j h))
def plc (n : Nat) (j : Int) : Int := if j = (n : Int) - 1 then -1 else j
def adjC (n : Nat) (x y : Int × Int) : C := if x.1 < y.1 then .less (plc n x.2) (plc n y.2) else .same (plc n x.2) (plc n y.2)
def adjs (L : List (Int × Int)) : List ((Int × Int) × (Int × Int)) := L.zip L.tail
def orderC (n : Nat) (L : List (Int × Int)) : C := .all ((adjs L).map fun q => adjC n q.1 q.2)
def movS (n : Nat) : List Int := ((List.range (n - 1)).map (fun (j : Nat) => (j : Int)) ++ [-1]).drop 1
def spotM (n : Nat) (L : List (Int × Int)) : M := ⟨1, n - 1, [[[⟨orderC n L, movS n, [(0, -1)], 0⟩, ⟨.tru, movS n, [], 0⟩]]]⟩
theorem movS_eq {n : Nat} (h : 1 ≤ n) : movS n = (List.range (n - 1)).map fun (i : Nat) => plc n ((i + 1 : Nat) : Int) := by
  unfold movS
  refine List.ext_getElem (by simp) fun i h1 h2 => ?_
  rw [List.length_map, List.length_range] at h2
  rw [List.getElem_drop, List.getElem_map, List.getElem_range]
  unfold plc
  by_cases c : 1 + i < n - 1
  · rw [List.getElem_append_left (by simpa using c), List.getElem_map, List.getElem_range, if_neg (by omega)]
    omega
  · rw [List.getElem_append_right (by simp; omega), if_pos (by omega)]
    simp
/-- the value at a place of the last n ones, the k-th one being read -/
def wn (xs : List Int) (n k j : Nat) : Option Int := if n ≤ k + j + 1 then some (xs.getD (k + j + 1 - n) 0) else none
def hS (xs : List Int) (n k : Nat) : List (Option Int) := (List.range (n - 1)).map (wn xs n k)
theorem hS_zero (xs : List Int) (n : Nat) : hS xs n 0 = List.replicate (n - 1) none := by
  unfold hS
  refine List.ext_getElem (by simp) fun i h1 h2 => ?_
  rw [List.length_map, List.length_range] at h1
  rw [List.getElem_map, List.getElem_range, List.getElem_replicate]
  unfold wn
  rw [if_neg (by omega)]
theorem wn_next (xs : List Int) (n k j : Nat) : wn xs n k (j + 1) = wn xs n (k + 1) j := by
  unfold wn
  rw [show k + (j + 1) + 1 = k + 1 + j + 1 by omega]
theorem worth_plc {xs : List Int} {n k j : Nat} (hj : j < n) : worth (xs.getD k 0) (hS xs n k) (plc n (j : Int)) = wn xs n k j := by
  unfold plc
  by_cases c : (j : Int) = (n : Int) - 1
  · rw [if_pos c]
    show some (xs.getD k 0) = _
    unfold wn
    rw [if_pos (by omega), show k + j + 1 - n = k by omega]
  · rw [if_neg c, worth_at (by omega), Int.toNat_natCast]
    unfold hS
    rw [List.getElem?_map, List.getElem?_range (by omega)]
    rfl
theorem kept_spot {xs : List Int} {n k : Nat} (hn : 1 ≤ n) (c : C) (sy : List (Int × Int)) : keptC (xs.getD k 0) (hS xs n k) ⟨c, movS n, sy, 0⟩ = hS xs n (k + 1) := by
  show (movS n).map (worth (xs.getD k 0) (hS xs n k)) = _
  rw [movS_eq hn, List.map_map]
  unfold hS
  refine List.map_congr_left fun i hi => ?_
  have hi' := List.mem_range.mp hi
  show worth (xs.getD k 0) (hS xs n k) (plc n ((i + 1 : Nat) : Int)) = _
  rw [worth_plc (by omega), wn_next]
theorem spot_read {xs : List Int} {n k : Nat} {L : List (Int × Int)} (hn : 1 ≤ n) : readM (spotM n L) 0 (hS xs n k) (0, xs.getD k 0) = (0, hS xs n (k + 1), if hold (xs.getD k 0) (hS xs n k) (orderC n L) = true then [(0, some (xs.getD k 0))] else []) := by
  unfold spotM
  rw [read_one]
  by_cases c : hold (xs.getD k 0) (hS xs n k) (orderC n L) = true
  · rw [List.find?_cons_of_pos (by exact c), if_pos c]
    show (0, keptC _ _ _, _) = _
    rw [kept_spot hn]
    rfl
  · rw [List.find?_cons_of_neg (by exact c), List.find?_cons_of_pos (by show hold _ _ .tru = true; unfold hold; rfl), if_neg c]
    show (0, keptC _ _ _, _) = _
    rw [kept_spot hn]
    rfl
def okAdj (w : Nat → Option Int) (x y : Int × Int) : Bool := if x.1 < y.1 then ltO (w x.2.toNat) (w y.2.toNat) else eqO (w x.2.toNat) (w y.2.toNat)
theorem zip_tail_mem {α : Type} {L : List α} {q : α × α} (h : q ∈ L.zip L.tail) : q.1 ∈ L ∧ q.2 ∈ L := by
  have := List.of_mem_zip (a := q.1) (b := q.2) h
  exact ⟨this.1, List.mem_of_mem_tail this.2⟩
theorem holdA_of {α : Type} (v : Int) (h : List (Option Int)) (f : α → C) : ∀ l : List α, holdA v h (l.map f) = l.all fun a => hold v h (f a)
  | [] => by unfold holdA; rfl
  | a :: l => by rw [List.map_cons, holdA_cons, holdA_of v h f l]; rfl
theorem hold_less' (v : Int) (h : List (Option Int)) (a b : Int) : hold v h (.less a b) = ltO (worth v h a) (worth v h b) := by unfold hold; rfl
theorem hold_same' (v : Int) (h : List (Option Int)) (a b : Int) : hold v h (.same a b) = eqO (worth v h a) (worth v h b) := by unfold hold; rfl
theorem order_hold {xs : List Int} {n k : Nat} {L : List (Int × Int)} {p : List Int} (s : Srt2 L p) (hn : n = p.length) : hold (xs.getD k 0) (hS xs n k) (orderC n L) = (adjs L).all fun q => okAdj (wn xs n k) q.1 q.2 := by
  unfold orderC
  have e : ∀ cs : List C, hold (xs.getD k 0) (hS xs n k) (.all cs) = holdA (xs.getD k 0) (hS xs n k) cs := fun cs => by conv => lhs; unfold hold
  rw [e, holdA_of]
  rw [Bool.eq_iff_iff, List.all_eq_true, List.all_eq_true]
  refine forall_congr' fun q => forall_congr' fun hq => ?_
  obtain ⟨a, ha, e1⟩ := s.at (zip_tail_mem hq).1
  obtain ⟨b, hb, e2⟩ := s.at (zip_tail_mem hq).2
  unfold adjC okAdj
  rw [e1, e2]
  dsimp only
  rw [Int.toNat_natCast, Int.toNat_natCast]
  split
  · rw [hold_less', worth_plc (by omega), worth_plc (by omega)]
  · rw [hold_same', worth_plc (by omega), worth_plc (by omega)]
/-- the adjacent ones stand so: all do -/
theorem adj_pw {α : Type} {R : α → α → Prop} (tr : ∀ x y z, R x y → R y z → R x z) : ∀ {L : List α}, (∀ q ∈ L.zip L.tail, R q.1 q.2) → L.Pairwise R
  | [], _ => .nil
  | [x], _ => List.pairwise_singleton _ _
  | x :: y :: t, h => by
    have hz : (x :: y :: t).zip (x :: y :: t).tail = (x, y) :: (y :: t).zip (y :: t).tail := rfl
    have ih := adj_pw tr (L := y :: t) fun q hq => h q (by rw [hz]; exact List.mem_cons_of_mem _ hq)
    have h1 : R x y := h (x, y) (by rw [hz]; exact List.mem_cons_self)
    refine List.pairwise_cons.mpr ⟨fun z hz => ?_, ih⟩
    rcases List.mem_cons.mp hz with rfl | hz
    · exact h1
    · exact tr x y z h1 ((List.pairwise_cons.mp ih).1 z hz)
theorem pw_adj {α : Type} {R : α → α → Prop} : ∀ {L : List α}, L.Pairwise R → ∀ q ∈ L.zip L.tail, R q.1 q.2
  | [], _, q, h => by cases h
  | [x], _, q, h => by cases h
  | x :: y :: t, p, q, h => by
    have hz : (x :: y :: t).zip (x :: y :: t).tail = (x, y) :: (y :: t).zip (y :: t).tail := rfl
    rw [hz] at h
    have p2 := List.pairwise_cons.mp p
    rcases List.mem_cons.mp h with rfl | h
    · exact p2.1 y List.mem_cons_self
    · exact pw_adj p2.2 q h
theorem okAdj_some {u : Nat → Int} {x y : Int × Int} (w : Nat → Option Int) (hx : w x.2.toNat = some (u x.2.toNat)) (hy : w y.2.toNat = some (u y.2.toNat)) :
    okAdj w x y = true ↔ if x.1 < y.1 then u x.2.toNat < u y.2.toNat else u x.2.toNat = u y.2.toNat := by
  unfold okAdj
  rw [hx, hy]
  split
  · unfold ltO; exact decide_eq_true_iff
  · unfold eqO; exact decide_eq_true_iff
/-- the same order -/
def Iso (n : Nat) (u v : Nat → Int) : Prop := ∀ a b, a < n → b < n → (u a < u b ↔ v a < v b)
theorem order_iso {n : Nat} {L : List (Int × Int)} {p : List Int} {w : Nat → Option Int} {u : Nat → Int} (s : Srt2 L p) (hn : n = p.length) (hw : ∀ j, j < n → w j = some (u j)) :
    (adjs L).all (fun q => okAdj w q.1 q.2) = true ↔ Iso n u (fun j => p.getD j 0) := by
  rw [List.all_eq_true]
  constructor
  · intro h
    have pw := adj_pw (R := fun x y : Int × Int => x.1 ≤ y.1 ∧ (x.1 < y.1 → u x.2.toNat < u y.2.toNat) ∧ (x.1 = y.1 → u x.2.toNat = u y.2.toNat)) (fun x y z h1 h2 => by
      refine ⟨by omega, fun c => ?_, fun c => ?_⟩
      · by_cases c1 : x.1 < y.1
        · have := h1.2.1 c1
          by_cases c2 : y.1 < z.1
          · have := h2.2.1 c2; omega
          · have := h2.2.2 (by omega); omega
        · have := h1.2.2 (by omega)
          have := h2.2.1 (by omega)
          omega
      · have := h1.2.2 (by omega)
        have := h2.2.2 (by omega)
        omega) (L := L) fun q hq => by
      have hle := pw_adj s.le q hq
      obtain ⟨a, ha, e1⟩ := s.at (zip_tail_mem hq).1
      obtain ⟨b, hb, e2⟩ := s.at (zip_tail_mem hq).2
      have ea : q.1.2.toNat = a := by rw [e1]; exact Int.toNat_natCast a
      have eb : q.2.2.toNat = b := by rw [e2]; exact Int.toNat_natCast b
      have := (okAdj_some (u := u) w (by rw [ea]; exact hw a (by omega)) (by rw [eb]; exact hw b (by omega))).mp (h q hq)
      refine ⟨hle, fun c => ?_, fun c => ?_⟩
      · rwa [if_pos c] at this
      · rwa [if_neg (by omega)] at this
    have key : ∀ a b, a < n → b < n → ((p.getD a 0 < p.getD b 0 → u a < u b) ∧ (p.getD a 0 = p.getD b 0 → u a = u b)) := fun a b ha hb => by
      obtain ⟨i, hi, ei⟩ := List.getElem_of_mem (s.has (show a < p.length by omega))
      obtain ⟨j, hj, ej⟩ := List.getElem_of_mem (s.has (show b < p.length by omega))
      have pg := List.pairwise_iff_getElem.mp pw
      rcases Nat.lt_trichotomy i j with c | c | c
      · have := pg i j hi hj c
        rw [ei, ej] at this
        dsimp only at this
        rw [Int.toNat_natCast, Int.toNat_natCast] at this
        exact ⟨this.2.1, this.2.2⟩
      · subst c
        rw [ei] at ej
        have e := Prod.mk.inj ej
        have : a = b := by omega
        subst this
        exact ⟨fun c => by omega, fun _ => rfl⟩
      · have := pg j i hj hi c
        rw [ei, ej] at this
        dsimp only at this
        rw [Int.toNat_natCast, Int.toNat_natCast] at this
        exact ⟨fun c => by omega, fun c => (this.2.2 c.symm).symm⟩
    intro a b ha hb
    have k1 := key a b ha hb
    have k2 := key b a hb ha
    constructor
    · intro c
      show p.getD a 0 < p.getD b 0
      by_cases c1 : p.getD a 0 < p.getD b 0
      · exact c1
      · by_cases c2 : p.getD b 0 < p.getD a 0
        · have := k2.1 c2; omega
        · have := k1.2 (by omega); omega
    · exact k1.1
  · intro h q hq
    have hle := pw_adj s.le q hq
    obtain ⟨a, ha, e1⟩ := s.at (zip_tail_mem hq).1
    obtain ⟨b, hb, e2⟩ := s.at (zip_tail_mem hq).2
    have ea : q.1.2.toNat = a := by rw [e1]; exact Int.toNat_natCast a
    have eb : q.2.2.toNat = b := by rw [e2]; exact Int.toNat_natCast b
    refine (okAdj_some (u := u) w (by rw [ea]; exact hw a (by omega)) (by rw [eb]; exact hw b (by omega))).mpr ?_
    have h1 := h a b (by omega) (by omega)
    have h2 := h b a (by omega) (by omega)
    dsimp only at h1 h2
    have f1 : q.1.1 = p.getD a 0 := by rw [e1]
    have f2 : q.2.1 = p.getD b 0 := by rw [e2]
    rw [f1, f2] at hle
    rw [ea, eb, f1, f2]
    split <;> omega
theorem order_short {L : List (Int × Int)} {p : List Int} {w : Nat → Option Int} (s : Srt2 L p) (h2 : 2 ≤ p.length) (hw : w 0 = none) : (adjs L).all (fun q => okAdj w q.1 q.2) = false := by
  have l := s.len
  obtain ⟨i, hi, ei⟩ := List.getElem_of_mem (s.has (show 0 < p.length by omega))
  refine Bool.eq_false_iff.mpr fun h => ?_
  rw [List.all_eq_true] at h
  have bad1 : ∀ x y : Int × Int, w x.2.toNat = none → okAdj w x y = false := fun x y e => by
    unfold okAdj
    rw [e]
    split
    · unfold ltO; rfl
    · unfold eqO; rfl
  have bad2 : ∀ x y : Int × Int, w y.2.toNat = none → okAdj w x y = false := fun x y e => by
    unfold okAdj
    rw [e]
    split
    · cases w x.2.toNat <;> (unfold ltO; rfl)
    · cases w x.2.toNat <;> (unfold eqO; rfl)
  have zl : (adjs L).length = L.length - 1 := by unfold adjs; rw [List.length_zip, List.length_tail]; omega
  by_cases c : i + 1 < L.length
  · have hm : (L[i], L[i + 1]) ∈ adjs L := by
      refine List.mem_of_getElem? (i := i) ?_
      unfold adjs
      rw [List.getElem?_eq_getElem (by rw [List.length_zip, List.length_tail]; omega), List.getElem_zip, List.getElem_tail]
    have := h _ hm
    rw [bad1 _ _ (by rw [ei]; exact hw)] at this
    cases this
  · have hm : (L[i - 1], L[i]) ∈ adjs L := by
      refine List.mem_of_getElem? (i := i - 1) ?_
      unfold adjs
      rw [List.getElem?_eq_getElem (by rw [List.length_zip, List.length_tail]; omega), List.getElem_zip, List.getElem_tail]
      have : i - 1 + 1 = i := by omega
      simp only [this]
    have := h _ hm
    rw [bad2 _ _ (by rw [ei]; exact hw)] at this
    cases this
-- ranks
def rankI (u : List Int) : List Int := u.map fun x => (cnt (srt u) x : Int)
theorem rankI_len (u : List Int) : (rankI u).length = u.length := List.length_map ..
theorem rankI_get (u : List Int) {j : Nat} (h : j < u.length) : (rankI u).getD j 0 = (cnt (srt u) (u.getD j 0) : Int) := by
  unfold rankI
  rw [List.getD_eq_getElem?_getD, List.getD_eq_getElem?_getD, List.getElem?_map, List.getElem?_eq_getElem h]
  rfl
theorem mem_getD {u : List Int} {j : Nat} (h : j < u.length) : u.getD j 0 ∈ u := by
  rw [List.getD_eq_getElem?_getD, List.getElem?_eq_getElem h]
  exact List.getElem_mem h
theorem rankI_iso (u : List Int) : Iso u.length (fun j => u.getD j 0) (fun j => (rankI u).getD j 0) := fun a b ha hb => by
  dsimp only
  rw [rankI_get u ha, rankI_get u hb]
  have := cnt_lt (srt_sorted u) (mem_srt.mpr (mem_getD ha)) (mem_srt.mpr (mem_getD hb))
  omega
theorem rankI_map {p : List Int} {g : Int → Int} (r : ∀ x ∈ p, ∀ y ∈ p, (g x < g y ↔ x < y)) : rankI (p.map g) = rankI p := by
  unfold rankI
  rw [srt_map p (fun x hx y hy h => (r x hx y hy).mpr h), List.map_map]
  refine List.map_congr_left fun x hx => ?_
  show ((cnt ((srt p).map g) (g x) : Nat) : Int) = _
  rw [cnt_map fun y hy => r y (mem_srt.mp hy) x hx]
theorem idx_get {p : List Int} {x : Int} (h : x ∈ p) : p.idxOf x < p.length ∧ p.getD (p.idxOf x) 0 = x := by
  have hl := List.idxOf_lt_length_iff.mpr h
  refine ⟨hl, ?_⟩
  rw [List.getD_eq_getElem?_getD, List.getElem?_eq_getElem hl]
  exact List.getElem_idxOf hl
theorem rankI_of_iso {u p : List Int} (hl : u.length = p.length) (h : Iso p.length (fun j => u.getD j 0) (fun j => p.getD j 0)) : rankI u = rankI p := by
  have eq : ∀ a b, a < p.length → b < p.length → p.getD a 0 = p.getD b 0 → u.getD a 0 = u.getD b 0 := fun a b ha hb e => by
    have h1 := h a b ha hb
    have h2 := h b a hb ha
    dsimp only at h1 h2
    omega
  have e : u = p.map fun x => u.getD (p.idxOf x) 0 := by
    refine List.ext_getElem (by rw [List.length_map, hl]) fun i h1 h2 => ?_
    rw [List.getElem_map]
    have hi : i < p.length := by omega
    have hm : p.getD i 0 = p[i] := by rw [List.getD_eq_getElem?_getD, List.getElem?_eq_getElem hi]; rfl
    have hg := idx_get (List.getElem_mem hi)
    have := eq i (p.idxOf p[i]) hi hg.1 (by rw [hg.2, hm])
    rw [← this, List.getD_eq_getElem?_getD, List.getElem?_eq_getElem h1]
    rfl
  rw [e]
  refine rankI_map fun x hx y hy => ?_
  have gx := idx_get hx
  have gy := idx_get hy
  have := h _ _ gx.1 gy.1
  dsimp only at this
  rw [gx.2, gy.2] at this
  exact this
theorem rank_iff {u p : List Int} (hp : rankI p = p) : rankI u = p ↔ u.length = p.length ∧ Iso p.length (fun j => u.getD j 0) (fun j => p.getD j 0) := by
  constructor
  · intro h
    have hl : u.length = p.length := by rw [← rankI_len u, h]
    refine ⟨hl, ?_⟩
    have := rankI_iso u
    rw [h, hl] at this
    exact this
  · rintro ⟨hl, h⟩
    rw [rankI_of_iso hl h, hp]
theorem rankI_rank (u : List Int) : rankI (rankI u) = rankI u := (rankI_of_iso (by rw [rankI_len]) (fun a b ha hb => by
  rw [rankI_len] at ha hb
  exact rankI_iso u a b ha hb)).symm
-- what it says
def lastN (xs : List Int) (n k : Nat) : List Int := (xs.take (k + 1)).drop (k + 1 - n)
theorem lastN_len {xs : List Int} {n k : Nat} (h : k < xs.length) : (lastN xs n k).length = min n (k + 1) := by
  unfold lastN
  rw [List.length_drop, List.length_take]
  omega
theorem lastN_get {xs : List Int} {n k j : Nat} (h : k < xs.length) (hn : n ≤ k + 1) (hj : j < n) : wn xs n k j = some ((lastN xs n k).getD j 0) := by
  unfold wn lastN
  rw [if_pos (by omega), List.getD_eq_getElem?_getD, List.getD_eq_getElem?_getD, List.getElem?_drop, List.getElem?_take_of_lt (by omega), show k + 1 - n + j = k + j + 1 - n by omega]
theorem order_rank {xs : List Int} {n k : Nat} {L : List (Int × Int)} {p : List Int} (s : Srt2 L p) (hn : n = p.length) (hn1 : 1 ≤ n) (hp : rankI p = p) (hk : k < xs.length) :
    hold (xs.getD k 0) (hS xs n k) (orderC n L) = decide (rankI (lastN xs n k) = p) := by
  rw [order_hold s hn]
  by_cases c : n ≤ k + 1
  · rw [Bool.eq_iff_iff, decide_eq_true_iff, order_iso (u := fun j => (lastN xs n k).getD j 0) s hn fun j hj => lastN_get hk c hj, rank_iff hp]
    rw [lastN_len hk, hn]
    constructor
    · intro h
      exact ⟨by omega, h⟩
    · intro h
      exact h.2
  · rw [order_short s (by omega) (by unfold wn; rw [if_neg (by omega)]), decide_eq_false fun h => ?_]
    have := congrArg List.length h
    rw [rankI_len, lastN_len hk] at this
    omega
def spotRow (p xs : List Int) (k : Nat) : List (Int × Option Int) := if rankI (lastN xs p.length k) = p then [(0, some (xs.getD k 0))] else []
def spotDue (p xs : List Int) : List (List (Int × Option Int)) := (List.range xs.length).map (spotRow p xs)
theorem spot_due {L : List (Int × Int)} {p : List Int} (s : Srt2 L p) (h1 : 1 ≤ p.length) (hp : rankI p = p) (xs : List Int) : answersM (spotM p.length L) (0, List.replicate (p.length - 1) none) (asLog xs) = spotDue p xs := by
  rw [← hS_zero xs]
  rw [answersM_rows (spotM p.length L) (asLog xs) (fun k => (0, hS xs p.length k)) (spotRow p xs) fun k e he => ?_]
  · rw [asLog_len]
    rfl
  obtain ⟨rfl, hk⟩ := asLog_get he
  rw [spot_read h1, order_rank s rfl h1 hp hk]
  unfold spotRow
  by_cases c : rankI (lastN xs p.length k) = p
  · rw [decide_eq_true c, if_pos rfl, if_pos c]
  · rw [decide_eq_false c, if_neg (by decide), if_neg c]
-- turned
def oppo (p : List Int) (mx : Int) : List Int := p.map fun r => mx - r
theorem srt_dense {p : List Int} (hp : rankI p = p) : srt p = (List.range (srt p).length).map fun (i : Nat) => (i : Int) := by
  refine List.ext_getElem (by simp) fun i h1 h2 => ?_
  rw [List.getElem_map, List.getElem_range]
  have hm := mem_srt.mp (List.getElem_mem h1)
  obtain ⟨j, hj, ej⟩ := List.getElem_of_mem hm
  have e := rankI_get p hj
  rw [hp] at e
  have gj : p.getD j 0 = (srt p)[i] := by rw [List.getD_eq_getElem?_getD, List.getElem?_eq_getElem hj]; exact ej
  rw [gj, cnt_at (srt_sorted p) h1] at e
  exact e
theorem oppo_dense {p : List Int} (hp : rankI p = p) {mx : Int} (hmx : mx = ((srt p).length : Int) - 1) : rankI (oppo p mx) = oppo p mx := by
  have memp : ∀ z, z ∈ p ↔ 0 ≤ z ∧ z < (srt p).length := fun z => by
    rw [← mem_srt, srt_dense hp, List.mem_map]
    constructor
    · rintro ⟨i, hi, rfl⟩
      have := List.mem_range.mp hi
      rw [← srt_dense hp]
      omega
    · rw [← srt_dense hp]
      rintro ⟨h0, h1⟩
      exact ⟨z.toNat, List.mem_range.mpr (by omega), by omega⟩
  have e : srt (oppo p mx) = srt p := by
    refine srt_unique (srt_sorted _) (srt_sorted _) fun y => ?_
    rw [mem_srt, mem_srt]
    unfold oppo
    rw [List.mem_map]
    constructor
    · rintro ⟨r, hr, rfl⟩
      have := (memp r).mp hr
      exact (memp _).mpr (by omega)
    · intro hy
      have := (memp y).mp hy
      exact ⟨mx - y, (memp _).mpr (by omega), by omega⟩
  unfold rankI
  rw [e]
  have hm : ∀ y ∈ oppo p mx, y ∈ p := fun y hy => mem_srt.mp (by rw [← e]; exact mem_srt.mpr hy)
  conv => rhs; rw [← List.map_id (oppo p mx)]
  refine List.map_congr_left fun y hy => ?_
  have h0 := (memp y).mp (hm y hy)
  have hl : y.toNat < (srt p).length := by omega
  have hg : (srt p)[y.toNat] = y := by
    have : (srt p)[y.toNat]? = ((List.range (srt p).length).map fun (i : Nat) => (i : Int))[y.toNat]? := by rw [← srt_dense hp]
    rw [List.getElem?_eq_getElem hl, List.getElem?_map, List.getElem?_range hl] at this
    have := Option.some.inj this
    dsimp only at this
    omega
  have := cnt_at (srt_sorted p) hl
  rw [hg] at this
  rw [this]
  show ((y.toNat : Nat) : Int) = id y
  show ((y.toNat : Nat) : Int) = y
  omega
theorem rank_neg {p u : List Int} (hp : rankI p = p) {mx : Int} (hmx : mx = ((srt p).length : Int) - 1) : rankI (negs u) = p ↔ rankI u = oppo p mx := by
  rw [rank_iff hp, rank_iff (oppo_dense hp hmx), negs_len]
  have lo : (oppo p mx).length = p.length := List.length_map ..
  rw [lo]
  refine and_congr Iff.rfl ?_
  have og : ∀ j, j < p.length → (oppo p mx).getD j 0 = mx - p.getD j 0 := fun j hj => by
    unfold oppo
    rw [List.getD_eq_getElem?_getD, List.getD_eq_getElem?_getD, List.getElem?_map, List.getElem?_eq_getElem hj]
    rfl
  constructor
  · intro h a b ha hb
    have := h b a hb ha
    dsimp only at this ⊢
    rw [negs_get, negs_get] at this
    rw [og a ha, og b hb]
    omega
  · intro h a b ha hb
    have := h b a hb ha
    dsimp only at this ⊢
    rw [og a ha, og b hb] at this
    rw [negs_get, negs_get]
    omega
theorem lastN_neg (xs : List Int) (n k : Nat) : lastN (negs xs) n k = negs (lastN xs n k) := by
  unfold lastN
  rw [negs_take]
  unfold negs
  rw [List.map_drop]
theorem spot_turn {p : List Int} (hp : rankI p = p) {mx : Int} (hmx : mx = ((srt p).length : Int) - 1) (xs : List Int) : (spotDue p (negs xs)).map (List.map (chE fun x => -x)) = spotDue (oppo p mx) xs := by
  refine rows_neg xs (spotRow p) (spotRow (oppo p mx)) fun k _ => ?_
  unfold spotRow
  rw [show (oppo p mx).length = p.length from List.length_map .., lastN_neg, negs_get]
  by_cases c : rankI (negs (lastN xs p.length k)) = p
  · rw [if_pos c, if_pos ((rank_neg hp hmx).mp c)]
    show [((0 : Int), some (- -_))] = _
    rw [Int.neg_neg]
  · rw [if_neg c, if_neg fun h => c ((rank_neg hp hmx).mpr h)]
    rfl
end Dv

open PySem PySem.Spec PyProof.Rows L2 GxR Gx
namespace Dv
theorem walk_enumT {K : PySem.W.Frag} {a : Addr} {xs : List V} : Walk (Ent.IteT K a) xs.length (fun H => SqT K H a xs) (YPair (fun i => some (.int (i : Nat))) (fun i => xs[i]?)) := by
  refine ⟨fun i _ hi q => ⟨xs, xs[i], q, by simp [hi]⟩, fun _ q => ⟨xs, q, Nat.le_refl _⟩, fun i H v H' _ q y => ?_⟩
  obtain ⟨T, x, h1, h2, h3, h4⟩ := y
  exact ⟨T, .int (i : Nat), x, h1, h2, h3, rfl, h4 xs q⟩
/-- new pairs of ints -/
def Two (H : Hp) (zs : List V) (qs : List (Int × Int)) : Prop := zs.length = qs.length ∧ ∀ (i : Nat) (z : V) (q : Int × Int), zs[i]? = some z → qs[i]? = some q → ∃ t, z = .ref t ∧ H t = some (.tup [.int q.1, .int q.2])
theorem Two.nil {H : Hp} : Two H [] [] := ⟨rfl, fun i z q h => by simp at h⟩
theorem Ex.tupR {T ms : List Addr} {H H1 : Hp} (a : Ex T ms H H1) {t : Addr} {xs : List V} (h : H t = some (.tup xs)) (n : t ∉ ms) : H1 t = some (.tup xs) := a.keep t _ n h fun ps e => by cases e
theorem Two.ext {T : List Addr} {H H1 : Hp} {zs : List V} {qs : List (Int × Int)} (w : Two H zs qs) (a : Ex T [] H H1) : Two H1 zs qs := ⟨w.1, fun i z q h1 h2 => by
  obtain ⟨t, e, ht⟩ := w.2 i z q h1 h2
  exact ⟨t, e, a.tupR ht (by simp)⟩⟩
theorem Two.snoc {H : Hp} {zs : List V} {qs : List (Int × Int)} (w : Two H zs qs) {t : Addr} {q : Int × Int} (h : H t = some (.tup [.int q.1, .int q.2])) : Two H (zs ++ [.ref t]) (qs ++ [q]) := by
  refine ⟨by rw [List.length_append, List.length_append, w.1]; rfl, fun i z r h1 h2 => ?_⟩
  by_cases c : i < zs.length
  · rw [List.getElem?_append_left c] at h1
    rw [List.getElem?_append_left (by rw [← w.1]; exact c)] at h2
    exact w.2 i z r h1 h2
  · rw [List.getElem?_append_right (by omega)] at h1
    rw [List.getElem?_append_right (by rw [← w.1]; omega), ← w.1] at h2
    have e0 : i - zs.length = 0 := by
      have := (List.getElem?_eq_some_iff.mp h1).1
      simp at this
      omega
    rw [e0] at h1 h2
    cases h1
    cases h2
    exact ⟨t, rfl, h⟩
def kOf (H : Hp) : V → Int × Int
  | .ref t => match H t with
    | some (.tup [.int i, .int j]) => (i, j)
    | _ => (0, 0)
  | _ => (0, 0)
theorem kOf_at {H : Hp} {t : Addr} {q : Int × Int} (h : H t = some (.tup [.int q.1, .int q.2])) : kOf H (.ref t) = q := by
  show (match H t with
    | some (.tup [.int i, .int j]) => (i, j)
    | _ => (0, 0)) = q
  rw [h]
theorem Two.keys {H : Hp} {zs : List V} {qs : List (Int × Int)} (w : Two H zs qs) : zs.map (kOf H) = qs := by
  refine List.ext_getElem (by rw [List.length_map, w.1]) fun i h1 h2 => ?_
  rw [List.length_map] at h1
  obtain ⟨t, e, ht⟩ := w.2 i _ _ (List.getElem?_eq_getElem h1) (List.getElem?_eq_getElem h2)
  rw [List.getElem_map, e, kOf_at ht]
theorem Two.each {H : Hp} {zs : List V} {qs : List (Int × Int)} (w : Two H zs qs) : ∀ x ∈ zs, ∃ t, x = .ref t ∧ H t = some (.tup [.int (kOf H x).1, .int (kOf H x).2]) := fun x hx => by
  obtain ⟨i, hi, e⟩ := List.getElem_of_mem hx
  obtain ⟨t, e2, ht⟩ := w.2 i _ _ (List.getElem?_eq_getElem hi) (List.getElem?_eq_getElem (by rw [← w.1]; exact hi))
  rw [e] at e2
  subst e2
  exact ⟨t, rfl, by rw [kOf_at ht]; exact ht⟩
theorem Two.of_each {H : Hp} {zs : List V} (h : ∀ x ∈ zs, ∃ t, x = .ref t ∧ H t = some (.tup [.int (kOf H x).1, .int (kOf H x).2])) : Two H zs (zs.map (kOf H)) := by
  refine ⟨(List.length_map _).symm, fun i z q h1 h2 => ?_⟩
  rw [List.getElem?_map, h1] at h2
  cases h2
  exact h z (List.mem_of_getElem? h1)
theorem sorted_two {H : Hp} {zs ys : List V} {p : List Int} (w : Two H zs (prs p)) (s : SrtO.Srtd (ltP (kOf H)) ys) (b : ys.Perm zs) : Srt2 (ys.map (kOf H)) p ∧ Two H ys (ys.map (kOf H)) := by
  refine ⟨⟨?_, ?_⟩, Two.of_each fun x hx => w.each x (b.mem_iff.mp hx)⟩
  · rw [← w.keys]
    exact b.map _
  · rw [List.pairwise_map]
    refine s.imp fun {x y} h => ?_
    have := SrtO.lexB_no.mp h
    omega
end Dv

open PySem PySem.Spec PyProof.Rows L2 GxR Gx
namespace Dv
/-! max of a tuple of ints; a slice with both bounds -/
section
variable {prog : Program} {w : World} {A : Around} {E : Value → Shared → Prop} {s : Shared} {l : Addr} {xs : Array (Int × Tok)}
theorem iter_intTup {Q : Value → Shared → Prop} (hl : s.heap.IsTuple l (intItems xs))
    (h : ∀ s₂ : Shared, s₂ = { s with heap := s.heap.push { cls := .type "tuple_iterator", data := .fields #[.ref l, .int 0 0] } } →
      (s₂.heap.IsTupleIter s.heap.objs.size l 0 ∧ s₂.heap.IsTuple l (intItems xs)) → (∀ b ∈ [s.heap.objs.size, l], b < s₂.heap.objs.size) → l ≠ s.heap.objs.size → Q (.ref s.heap.objs.size) s₂) :
    wpAny (model prog w) A (pyIter (.ref l)) Q E s := by
  have hlt : l < s.heap.objs.size := by obtain ⟨_, e, _⟩ := hl; exact Heap.lt_size e
  refine wpAny_pyIter_tuple hl (h _ rfl ⟨⟨_, Heap.get?_push_size _ rfl, rfl, rfl⟩, hl.push _⟩ (fun b hb => ?_) (Nat.ne_of_lt hlt))
  show b < (s.heap.push _).objs.size
  rw [Heap.size_push]
  rcases List.mem_cons.mp hb with rfl | hb
  · exact Nat.lt_succ_self _
  · rcases List.mem_cons.mp hb with rfl | hb
    · exact Nat.lt_succ_of_lt hlt
    · cases hb
theorem oldT_kept {h' : Heap} (hk : ∀ b o, b ∉ [s.heap.objs.size] → (s.heap.push { cls := .type "tuple_iterator", data := .fields #[.ref l, .int 0 0] }).get? b = some o → h'.get? b = some o) :
    ∀ b o, s.heap.get? b = some o → h'.get? b = some o := fun b o e => by
  refine hk b o (fun hm => ?_) (Heap.get?_push_of_some _ e)
  rcases List.mem_cons.mp hm with e1 | hm
  · exact absurd (e1 ▸ Heap.lt_size e) (Nat.lt_irrefl _)
  · cases hm
theorem max_intTup {Q : Value → Shared → Prop} (hh : A.handled = none) (hl : s.heap.IsTuple l (intItems xs)) (hne : 0 < xs.size)
    (h : ∀ v h' tk, (intItems xs)[argBest (fun i j => decide (numAt xs i > numAt xs j)) (xs.size - 1)]? = some v → (∀ b o, s.heap.get? b = some o → h'.get? b = some o) → Q v { s with heap := h', toks := tk }) :
    wpAny (model prog w) A (call (.builtin "max") [.ref l]) Q E s := by
  refine call_max_walk (iter_intTup hl fun s₂ e st hfp hlI => ?_)
  subst e
  refine ⟨_, _, _, _, _, _, _, rfl, Walks.tuple (A := A.in1) hh _ l hlI (intItems xs), st, hfp, by simpa [intItems] using hne, CmpOf.ints_gt (numAt xs) (fun _ _ => intItems_at), fun v h' tk hP hk => ?_⟩
  exact h v h' tk (by simpa [intItems] using hP) (oldT_kept hk)
theorem maxT_raw {its : List Value} {ns : List Int} {Q : Value → Shared → Prop} (hh : A.handled = none) (hl : s.heap.IsTuple l its.toArray) (hi : IntsAre its ns) (hne : 0 < ns.length)
    (h : ∀ h' tk M t', (∀ b o, s.heap.get? b = some o → h'.get? b = some o) → M ∈ ns → (∀ a, a ∈ ns → a ≤ M) → Q (.int M t') { s with heap := h', toks := tk }) : wpAny (model prog w) A (call (.builtin "max") [.ref l]) Q E s := by
  obtain ⟨xs, e⟩ := hi.allInts.items
  have hn : numsOf (intItems xs).toList = ns := by rw [← e]; exact hi.numsOf
  rw [nums_intItems] at hn
  subst hn
  rw [e] at hl
  have hsz : 0 < xs.size := by simpa using hne
  refine max_intTup hh hl hsz fun v h' tk hv hk => ?_
  obtain ⟨t, rfl⟩ := intItems_at hv
  obtain ⟨h1, h2⟩ := argBest_gt (numAt xs) (xs.size - 1)
  refine h h' tk _ t hk ?_ fun a ha => ?_
  · rw [numAt_eq]; exact PySem.getD_mem (by rw [List.length_map, Array.length_toList]; omega)
  · obtain ⟨j, hj, rfl⟩ := PySem.mem_getD ha
    rw [List.length_map, Array.length_toList] at hj
    rw [← numAt_eq]; exact h2 j (by omega)
end
def rMaxT (K : PySem.W.Frag) : List V → Hp → VK → Prop := fun vs H Q => ∃ (a : Addr) (ns : List Int), vs = [V.ref a] ∧ SqT K H a (ns.map V.int) ∧ 0 < ns.length ∧ ∀ m, m ∈ ns → (∀ y, y ∈ ns → y ≤ m) → Q (.int m) H
theorem cr_maxT {X : Cx} (hc : X.calm = true) : CallR X (.builtin "max") (rMaxT X.K) := by
  intro pins s σ H vs us Q I r h
  obtain ⟨a, ns, rfl, hs, hne, q⟩ := h
  obtain ⟨its, rv, hl, _⟩ := I.tuple hs
  rw [Vals.ref1 r]
  exact maxT_raw (I.ok.hd hc) (show s.heap.IsTuple a its.toArray from hl) rv.ints hne fun h' tk m t' hk h1 h2 => ⟨.int _, H, I.kept hk, ⟨_, rfl⟩, q m h1 h2⟩
theorem cut_mid {xs : List V} {i j : Int} (h0 : 0 ≤ i) (h1 : 0 ≤ j) : cutV xs (some i) (some j) = (xs.take j.toNat).drop i.toNat := by
  obtain ⟨a, rfl⟩ := Int.eq_ofNat_of_zero_le h0
  obtain ⟨b, rfl⟩ := Int.eq_ofNat_of_zero_le h1
  unfold cutV
  rw [HT.sIx_nat, HT.sIx_nat, Int.toNat_natCast, Int.toNat_natCast]
  refine List.ext_getElem? fun k => ?_
  rw [List.getElem?_drop]
  by_cases c : a + k < min b xs.length
  · rw [List.getElem?_take_of_lt (by omega), List.getElem?_take_of_lt (by omega), List.getElem?_drop, Nat.min_eq_left (by omega)]
  · rw [List.getElem?_eq_none (by rw [List.length_take, List.length_drop]; omega), List.getElem?_eq_none (by rw [List.length_take]; omega)]
theorem max_dense {p : List Int} (hp : rankI p = p) {m : Int} (hm : m ∈ p) (hy : ∀ y, y ∈ p → y ≤ m) : m = ((srt p).length : Int) - 1 := by
  have memp : ∀ z, z ∈ p ↔ 0 ≤ z ∧ z < (srt p).length := fun z => by
    rw [← mem_srt, srt_dense hp, List.mem_map]
    constructor
    · rintro ⟨i, hi, rfl⟩
      have := List.mem_range.mp hi
      rw [← srt_dense hp]
      omega
    · rw [← srt_dense hp]
      rintro ⟨h0, h1⟩
      exact ⟨z.toNat, List.mem_range.mpr (by omega), by omega⟩
  have h1 := (memp m).mp hm
  have h2 := hy (((srt p).length : Int) - 1) ((memp _).mpr (by omega))
  omega
theorem spot_ok {p : List Int} {L : List (Int × Int)} (s : Srt2 L p) (h1 : 1 ≤ p.length) (hl : p.length ≤ 1000) : okM 3 (spotM p.length L) := by
  have pl : ∀ j : Nat, j < p.length → plOk (p.length - 1 : Nat) (plc p.length (j : Int)) := fun j hj => by
    unfold plc plOk
    split
    · omega
    · omega
  have hmov : ∀ z ∈ movS p.length, -2 ≤ z ∧ z < ((p.length - 1 : Nat) : Int) := fun z hz => by
    rw [movS_eq h1] at hz
    obtain ⟨i, hi, rfl⟩ := List.mem_map.mp hz
    have hi' := List.mem_range.mp hi
    have := pl (i + 1) (by omega)
    unfold plOk at this
    omega
  have hml : (movS p.length).length = p.length - 1 := by rw [movS_eq h1, List.length_map, List.length_range]
  have hc : okC (p.length - 1) 3 (orderC p.length L) := by
    unfold orderC
    refine okC_all ?_ (okCs_of fun c hc => ?_)
    · rw [List.length_map]
      unfold adjs
      rw [List.length_zip, s.len]
      omega
    · obtain ⟨q, hq, rfl⟩ := List.mem_map.mp hc
      obtain ⟨a, ha, e1⟩ := s.at (zip_tail_mem hq).1
      obtain ⟨b, hb, e2⟩ := s.at (zip_tail_mem hq).2
      unfold adjC
      rw [e1, e2]
      split
      · exact okC_less (pl a ha) (pl b hb)
      · exact okC_same (pl a ha) (pl b hb)
  refine ok_one (by omega) (by show 2 ≤ 1000; decide) fun c hm => ?_
  simp only [List.mem_cons, List.not_mem_nil, or_false] at hm
  rcases hm with rfl | rfl
  · exact ok_case hc hml hmov (fun q hq => by
      obtain rfl := List.mem_singleton.mp hq
      refine ⟨by decide, by decide, ?_⟩
      show (-1 : Int) < _
      omega) (by show 1 ≤ 1000; decide)
  · exact ok_case okC_tru hml hmov (fun q hq => by cases hq) (by show 0 ≤ 1000; decide)
theorem spot_tu {p : List Int} {L : List (Int × Int)} (s : Srt2 L p) (h1 : 1 ≤ p.length) (hl : p.length ≤ 1000) : tuD 9 (encM (spotM p.length L)) := by
  have hml : (movS p.length).length = p.length - 1 := by rw [movS_eq h1, List.length_map, List.length_range]
  have co : tuD 4 (encC (orderC p.length L)) := by
    unfold orderC encC
    simp only [tuD, tuDs]
    refine ⟨by show 2 ≤ 100000; decide, trivial, ⟨?_, ?_⟩, trivial⟩
    · rw [encCs_length, List.length_map]
      unfold adjs
      rw [List.length_zip, s.len]
      omega
    · rw [encCs_map, List.map_map]
      refine tuDs_of fun q _ => ?_
      show tuD 2 (encC (adjC p.length q.1 q.2))
      unfold adjC
      split <;> simp [encC, tuD, tuDs]
  have cm : tuD 4 (.tup ((movS p.length).map .int)) := by
    unfold tuD
    exact ⟨by rw [List.length_map]; omega, tuDs_of fun z _ => tuD_int⟩
  have e : encM (spotM p.length L) = .tup [.int 1, .int ((p.length - 1 : Nat) : Int), .tup [.tup [.tup [.tup [encC (orderC p.length L), .tup ((movS p.length).map .int), .tup [.tup [.int 0, .int (-1)]], .int 0], .tup [encC .tru, .tup ((movS p.length).map .int), .tup [], .int 0]]]]] := rfl
  have ct : tuD 4 (encC .tru) := by simp [encC, tuD, tuDs]
  rw [e]
  unfold tuD at cm
  simp only [tuD, tuDs, List.length_cons, List.length_nil]
  exact ⟨by decide, trivial, trivial, ⟨by decide, ⟨by decide, ⟨by decide, ⟨by decide, co, cm, ⟨by decide, ⟨by decide, trivial, trivial, trivial⟩, trivial⟩, trivial, trivial⟩, ⟨by decide, ct, cm, ⟨by decide, trivial⟩, trivial, trivial⟩, trivial⟩, trivial⟩, trivial⟩, trivial⟩
end Dv

open PySem PySem.Spec PyProof.Rows L2 GxR Gx
namespace Dv
/-! built machines together -/
def mxO (xs : List Int) (k : Nat) : Option Int := (bandO xs k).map (·.2)
theorem band_some (xs : List Int) (k : Nat) : ∃ p, bandO xs (k + 1) = some p := by
  show ∃ p, bandStep (bandO xs k) (xs.getD k 0) = some p
  unfold bandStep
  cases bandO xs k with
  | none => exact ⟨_, rfl⟩
  | some p =>
    obtain ⟨l, h⟩ := p
    dsimp only
    split
    · exact ⟨_, rfl⟩
    · split <;> exact ⟨_, rfl⟩
theorem fall_head {xs : List Int} {k : Nat} {l h : Int} (h0 : 0 < k) (hk : k ≤ xs.length) (e : bandO xs k = some (l, h)) : (fallD (xs.take k)).take 1 = [h] := by
  obtain ⟨l', h', e', hl, hh, ha⟩ := bandO_spec xs k h0 hk
  rw [e] at e'
  cases e'
  have b := fallD_both xs k
  cases ed : fallD (xs.take k) with
  | nil =>
    have := b.2.mem_iff.mpr hh
    rw [ed] at this
    cases this
  | cons x t =>
    rw [ed] at b
    have hx := b.2.mem_iff.mp (List.mem_cons_self)
    have h1 := (ha x hx).2
    have h2 : h ≤ x := by
      rcases List.mem_cons.mp (b.2.mem_iff.mpr hh) with r | r
      · omega
      · exact (List.pairwise_cons.mp b.1).1 h r
    have : x = h := by omega
    rw [this]
    rfl
/-- a record is a new greatest value -/
theorem rec_new {xs : List Int} {k : Nat} (hk : k < xs.length) {l h : Int} (e : bandO xs (k + 1) = some (l, h)) :
    recRow xs k = if (match mxO xs k with | none => true | some b => decide (b < h)) = true then [(0, some h)] else [] := by
  unfold recRow mxO
  cases eo : bandO xs k with
  | none =>
    have h0 : k = 0 := by
      cases k with
      | zero => rfl
      | succ k =>
        obtain ⟨p, hp⟩ := band_some xs k
        rw [hp] at eo
        cases eo
    subst h0
    have : bandO xs 1 = some (xs.getD 0 0, xs.getD 0 0) := rfl
    rw [this] at e
    have := Prod.mk.inj (Option.some.inj e)
    rw [this.2]
    rfl
  | some p =>
    obtain ⟨l0, h0⟩ := p
    have k0 : 0 < k := by
      cases k with
      | zero => cases eo
      | succ k => omega
    obtain ⟨l', h', e', hl, hh, ha⟩ := bandO_spec xs k k0 (by omega)
    rw [eo] at e'
    cases e'
    have lh := (ha h0 hh).1
    have es : bandStep (some (l0, h0)) (xs.getD k 0) = some (l, h) := by rw [← eo]; exact e
    unfold bandStep at es
    dsimp only at es
    have all : ((xs.take k).all fun y => decide (y < xs.getD k 0)) = decide (h0 < xs.getD k 0) := by
      rw [Bool.eq_iff_iff, List.all_eq_true, decide_eq_true_iff]
      constructor
      · intro q
        have := q h0 hh
        rwa [decide_eq_true_iff] at this
      · intro q y hy
        have := (ha y hy).2
        rw [decide_eq_true_iff]
        omega
    rw [all]
    show (if decide (h0 < xs.getD k 0) = true then _ else _) = (if decide (h0 < h) = true then _ else _)
    by_cases c : h0 < xs.getD k 0
    · rw [if_neg (by omega), if_pos c] at es
      have := Prod.mk.inj (Option.some.inj es)
      rw [decide_eq_true c, if_pos rfl, decide_eq_true (by omega), if_pos rfl, this.2]
    · have : h = h0 := by
        by_cases c2 : xs.getD k 0 < l0
        · rw [if_pos c2] at es
          have := Prod.mk.inj (Option.some.inj es)
          omega
        · rw [if_neg c2, if_neg c] at es
          have := Prod.mk.inj (Option.some.inj es)
          omega
      rw [decide_eq_false c, if_neg (by decide), decide_eq_false (by omega), if_neg (by decide)]
theorem enA_take (d : List Int) (k : Nat) : (enA d).take k = enA (d.take k) := by
  unfold enA
  refine List.ext_getElem? fun i => ?_
  by_cases c : i < k
  · rw [List.getElem?_take_of_lt c, List.getElem?_map, List.getElem?_map, List.getElem?_zipIdx, List.getElem?_zipIdx, List.getElem?_take_of_lt c]
  · rw [List.getElem?_eq_none (by rw [List.length_take]; omega), List.getElem?_eq_none (by rw [List.length_map, List.length_zipIdx, List.length_take]; omega)]
theorem enA_len (d : List Int) : (enA d).length = d.length := by unfold enA; rw [List.length_map, List.length_zipIdx]
theorem fall_len (xs : List Int) (k : Nat) : (fallD (xs.take k)).length = min k xs.length := by rw [(fallD_both xs k).2.length_eq, List.length_take]
theorem enA_at (d : List Int) {i : Nat} (h : i < d.length) : (enA d)[i]? = some ((i : Int), some d[i]) := by
  unfold enA
  rw [List.getElem?_map, List.getElem?_zipIdx, List.getElem?_eq_getElem h]
  show some (((0 + i : Nat) : Int), some d[i]) = _
  rw [Nat.zero_add]
/-- a falling list, sorted and reversed, is itself -/
theorem fall_sorted {d ys : List Int} (hd : d.Pairwise (fun a b => b ≤ a)) (p : ys.Perm d) (s : ys.Pairwise (· ≤ ·)) : ys.reverse = d := by
  have s2 : ys.reverse.Pairwise (fun a b => b ≤ a) := List.pairwise_reverse.mpr s
  exact (((List.reverse_perm ys).trans p)).eq_of_pairwise (fun a b _ _ h1 h2 => by omega) s2 hd
-- turning points
def tagsOf (xs : List Int) : Nat → Option Int
  | 0 => none
  | k + 1 => if 0 < k ∧ xs.getD k 0 = xs.getD (k - 1) 0 then none else
    match (turnsRow xs k) with
    | [] => tagsOf xs k
    | p :: _ => some p.1
theorem turns_inv (xs : List Int) : ∀ k, (tagsOf xs (k + 1) = some 0 → 0 < k ∧ xs.getD k 0 < xs.getD (k - 1) 0) ∧ (tagsOf xs (k + 1) = some 1 → 0 < k ∧ xs.getD (k - 1) 0 < xs.getD k 0) ∧ (∀ t, tagsOf xs (k + 1) = some t → t = 0 ∨ t = 1)
  | 0 => by
    have : tagsOf xs 1 = none := by unfold tagsOf turnsRow; simp [tagsOf]
    rw [this]
    exact ⟨fun h => (by cases h), fun h => (by cases h), fun t h => (by cases h)⟩
  | k + 1 => by
    have ih := turns_inv xs k
    unfold tagsOf
    by_cases c : 0 < k + 1 ∧ xs.getD (k + 1) 0 = xs.getD (k + 1 - 1) 0
    · rw [if_pos c]
      exact ⟨fun h => (by cases h), fun h => (by cases h), fun t h => (by cases h)⟩
    rw [if_neg c]
    have ne : ¬ xs.getD (k + 1) 0 = xs.getD k 0 := fun h => c ⟨by omega, h⟩
    show _ ∧ _ ∧ _
    unfold turnsRow
    by_cases c0 : k + 1 < 2
    · rw [if_pos c0]
      dsimp only
      have k0 : k = 0 := by omega
      subst k0
      have : tagsOf xs 1 = none := by unfold tagsOf turnsRow; simp [tagsOf]
      rw [this]
      exact ⟨fun h => (by cases h), fun h => (by cases h), fun t h => (by cases h)⟩
    rw [if_neg c0]
    have e1 : k + 1 - 1 = k := by omega
    have e2 : k + 1 - 2 = k - 1 := by omega
    rw [e1, e2]
    by_cases c1 : xs.getD (k - 1) 0 < xs.getD k 0 ∧ xs.getD (k + 1) 0 < xs.getD k 0
    · rw [if_pos c1]
      dsimp only
      exact ⟨fun _ => ⟨by omega, c1.2⟩, fun h => (by cases h), fun t h => (by cases h; exact .inl rfl)⟩
    rw [if_neg c1]
    by_cases c2 : xs.getD k 0 < xs.getD (k - 1) 0 ∧ xs.getD k 0 < xs.getD (k + 1) 0
    · rw [if_pos c2]
      dsimp only
      exact ⟨fun h => (by cases h), fun _ => ⟨by omega, c2.2⟩, fun t h => (by cases h; exact .inr rfl)⟩
    rw [if_neg c2]
    dsimp only
    refine ⟨fun h => ?_, fun h => ?_, ih.2.2⟩
    · have := ih.1 h
      omega
    · have := ih.2.1 h
      omega
theorem turns_alter (xs : List Int) (k : Nat) (c : ¬ (0 < k ∧ xs.getD k 0 = xs.getD (k - 1) 0)) {p : Int × Option Int} {r : List (Int × Option Int)} (h : turnsRow xs k = p :: r) : r = [] ∧ tagsOf xs k ≠ some p.1 := by
  unfold turnsRow at h
  by_cases c0 : k < 2
  · rw [if_pos c0] at h; cases h
  rw [if_neg c0] at h
  obtain ⟨j, rfl⟩ : ∃ j, k = j + 1 := ⟨k - 1, by omega⟩
  have ih := turns_inv xs j
  have e1 : j + 1 - 1 = j := by omega
  have e2 : j + 1 - 2 = j - 1 := by omega
  rw [e1, e2] at h
  by_cases c1 : xs.getD (j - 1) 0 < xs.getD j 0 ∧ xs.getD (j + 1) 0 < xs.getD j 0
  · rw [if_pos c1] at h
    cases h
    refine ⟨rfl, fun h => ?_⟩
    have := ih.1 h
    omega
  rw [if_neg c1] at h
  by_cases c2 : xs.getD j 0 < xs.getD (j - 1) 0 ∧ xs.getD j 0 < xs.getD (j + 1) 0
  · rw [if_pos c2] at h
    cases h
    refine ⟨rfl, fun h => ?_⟩
    have := ih.2.1 h
    omega
  rw [if_neg c2] at h
  cases h
theorem turns_eq_none (xs : List Int) (k : Nat) (c : 0 < k ∧ xs.getD k 0 = xs.getD (k - 1) 0) : turnsRow xs k = [] := by
  unfold turnsRow
  split
  · rfl
  · rw [if_neg (by omega), if_neg (by omega)]
-- patterns
theorem get_some {xs : List Int} {i j : Nat} (h : i < xs.length) (e : i = j) : xs[i]? = some (xs.getD j 0) := by
  subst e
  rw [List.getD_eq_getElem?_getD, List.getElem?_eq_getElem h]
  rfl
theorem last3 {xs : List Int} {k : Nat} (h2 : 2 ≤ k) (hk : k < xs.length) : lastN xs 3 k = [xs.getD (k - 2) 0, xs.getD (k - 1) 0, xs.getD k 0] := by
  refine List.ext_getElem? fun i => ?_
  have hl := lastN_len (n := 3) hk
  unfold lastN at hl ⊢
  match i with
  | 0 => rw [List.getElem?_drop, List.getElem?_take_of_lt (by omega)]; exact get_some (by omega) (by omega)
  | 1 => rw [List.getElem?_drop, List.getElem?_take_of_lt (by omega)]; exact get_some (by omega) (by omega)
  | 2 => rw [List.getElem?_drop, List.getElem?_take_of_lt (by omega)]; exact get_some (by omega) (by omega)
  | i + 3 =>
    rw [List.getElem?_eq_none (by omega), List.getElem?_eq_none (by show [_, _, _].length ≤ i + 3; simp)]
theorem iso3 {a b c p q r : Int} : Iso 3 (fun j => [a, b, c].getD j 0) (fun j => [p, q, r].getD j 0) ↔ ((a < b ↔ p < q) ∧ (b < a ↔ q < p) ∧ (b < c ↔ q < r) ∧ (c < b ↔ r < q) ∧ (a < c ↔ p < r) ∧ (c < a ↔ r < p)) := by
  constructor
  · intro h
    exact ⟨h 0 1 (by omega) (by omega), h 1 0 (by omega) (by omega), h 1 2 (by omega) (by omega), h 2 1 (by omega) (by omega), h 0 2 (by omega) (by omega), h 2 0 (by omega) (by omega)⟩
  · rintro ⟨h1, h2, h3, h4, h5, h6⟩ i j hi hj
    have ci : i = 0 ∨ i = 1 ∨ i = 2 := by omega
    have cj : j = 0 ∨ j = 1 ∨ j = 2 := by omega
    rcases ci with rfl | rfl | rfl <;> rcases cj with rfl | rfl | rfl
    · exact ⟨fun h => absurd h (Int.lt_irrefl _), fun h => absurd h (Int.lt_irrefl _)⟩
    · exact h1
    · exact h5
    · exact h2
    · exact ⟨fun h => absurd h (Int.lt_irrefl _), fun h => absurd h (Int.lt_irrefl _)⟩
    · exact h3
    · exact h6
    · exact h4
    · exact ⟨fun h => absurd h (Int.lt_irrefl _), fun h => absurd h (Int.lt_irrefl _)⟩
theorem rank3 {a b c p q r : Int} (hp : rankI [p, q, r] = [p, q, r]) : rankI [a, b, c] = [p, q, r] ↔ ((a < b ↔ p < q) ∧ (b < a ↔ q < p) ∧ (b < c ↔ q < r) ∧ (c < b ↔ r < q) ∧ (a < c ↔ p < r) ∧ (c < a ↔ r < p)) := by
  rw [rank_iff hp]
  show (3 = 3 ∧ Iso 3 _ _) ↔ _
  rw [iso3]
  exact ⟨fun h => h.2, fun h => ⟨rfl, h⟩⟩
def highP : List (List Int) := [[0, 1, 0], [0, 2, 1], [1, 2, 0]]
def lowP : List (List Int) := [[1, 0, 1], [1, 0, 2], [2, 0, 1]]
theorem high_ok : ∀ p ∈ highP, rankI p = p ∧ p.length = 3 := by decide
theorem low_ok : ∀ p ∈ lowP, rankI p = p ∧ p.length = 3 := by decide
def tells (p xs : List Int) (k : Nat) : Bool := decide (0 < (spotRow p xs k).length)
theorem tells_iff {p xs : List Int} {k : Nat} : tells p xs k = true ↔ rankI (lastN xs p.length k) = p := by
  unfold tells spotRow
  rw [decide_eq_true_iff]
  split
  · rename_i h; exact ⟨fun _ => h, fun _ => by show 0 < 1; decide⟩
  · rename_i h; exact ⟨fun q => absurd q (by show ¬ 0 < 0; decide), fun q => absurd q h⟩
theorem tells_short {p xs : List Int} {k : Nat} (hl : p.length = 3) (h : k < 2) (hk : k < xs.length) : tells p xs k = false := by
  refine Bool.eq_false_iff.mpr fun h2 => ?_
  have := congrArg List.length (tells_iff.mp h2)
  rw [rankI_len, lastN_len hk, hl] at this
  omega
theorem high_count {xs : List Int} {k : Nat} (hk : k < xs.length) : (highP.filter fun p => tells p xs k).length = if 2 ≤ k ∧ xs.getD (k - 2) 0 < xs.getD (k - 1) 0 ∧ xs.getD k 0 < xs.getD (k - 1) 0 then 1 else 0 := by
  by_cases c : k < 2
  · rw [if_neg (by omega), List.filter_eq_nil_iff.mpr fun p hp => by rw [tells_short (high_ok p hp).2 c hk]; decide, List.length_nil]
  have t : ∀ p q r : Int, rankI [p, q, r] = [p, q, r] → (tells [p, q, r] xs k = true ↔ ((xs.getD (k - 2) 0 < xs.getD (k - 1) 0 ↔ p < q) ∧ (xs.getD (k - 1) 0 < xs.getD (k - 2) 0 ↔ q < p) ∧ (xs.getD (k - 1) 0 < xs.getD k 0 ↔ q < r) ∧ (xs.getD k 0 < xs.getD (k - 1) 0 ↔ r < q) ∧ (xs.getD (k - 2) 0 < xs.getD k 0 ↔ p < r) ∧ (xs.getD k 0 < xs.getD (k - 2) 0 ↔ r < p))) := fun p q r hp => by
    rw [tells_iff, show [p, q, r].length = 3 from rfl, last3 (by omega) hk]
    exact rank3 hp
  have t1 := t 0 1 0 (by decide)
  have t2 := t 0 2 1 (by decide)
  have t3 := t 1 2 0 (by decide)
  generalize xs.getD (k - 2) 0 = a at *
  generalize xs.getD (k - 1) 0 = b at *
  generalize xs.getD k 0 = d at *
  unfold highP
  simp only [List.filter_cons, List.filter_nil]
  by_cases c2 : a < b ∧ d < b
  · rw [if_pos (show 2 ≤ k ∧ a < b ∧ d < b from ⟨by omega, c2⟩)]
    rcases Int.lt_trichotomy a d with h | h | h
    · have f1 : ¬ tells [0, 1, 0] xs k = true := by rw [t1]; omega
      have f2 : tells [0, 2, 1] xs k = true := by rw [t2]; omega
      have f3 : ¬ tells [1, 2, 0] xs k = true := by rw [t3]; omega
      rw [if_neg f1, if_pos f2, if_neg f3]; rfl
    · have f1 : tells [0, 1, 0] xs k = true := by rw [t1]; omega
      have f2 : ¬ tells [0, 2, 1] xs k = true := by rw [t2]; omega
      have f3 : ¬ tells [1, 2, 0] xs k = true := by rw [t3]; omega
      rw [if_pos f1, if_neg f2, if_neg f3]; rfl
    · have f1 : ¬ tells [0, 1, 0] xs k = true := by rw [t1]; omega
      have f2 : ¬ tells [0, 2, 1] xs k = true := by rw [t2]; omega
      have f3 : tells [1, 2, 0] xs k = true := by rw [t3]; omega
      rw [if_neg f1, if_neg f2, if_pos f3]; rfl
  · rw [if_neg (show ¬ (2 ≤ k ∧ a < b ∧ d < b) from fun h => c2 h.2)]
    have f1 : ¬ tells [0, 1, 0] xs k = true := by rw [t1]; omega
    have f2 : ¬ tells [0, 2, 1] xs k = true := by rw [t2]; omega
    have f3 : ¬ tells [1, 2, 0] xs k = true := by rw [t3]; omega
    rw [if_neg f1, if_neg f2, if_neg f3]; rfl
theorem low_count {xs : List Int} {k : Nat} (hk : k < xs.length) : (lowP.filter fun p => tells p xs k).length = if 2 ≤ k ∧ xs.getD (k - 1) 0 < xs.getD (k - 2) 0 ∧ xs.getD (k - 1) 0 < xs.getD k 0 then 1 else 0 := by
  by_cases c : k < 2
  · rw [if_neg (by omega), List.filter_eq_nil_iff.mpr fun p hp => by rw [tells_short (low_ok p hp).2 c hk]; decide, List.length_nil]
  have t : ∀ p q r : Int, rankI [p, q, r] = [p, q, r] → (tells [p, q, r] xs k = true ↔ ((xs.getD (k - 2) 0 < xs.getD (k - 1) 0 ↔ p < q) ∧ (xs.getD (k - 1) 0 < xs.getD (k - 2) 0 ↔ q < p) ∧ (xs.getD (k - 1) 0 < xs.getD k 0 ↔ q < r) ∧ (xs.getD k 0 < xs.getD (k - 1) 0 ↔ r < q) ∧ (xs.getD (k - 2) 0 < xs.getD k 0 ↔ p < r) ∧ (xs.getD k 0 < xs.getD (k - 2) 0 ↔ r < p))) := fun p q r hp => by
    rw [tells_iff, show [p, q, r].length = 3 from rfl, last3 (by omega) hk]
    exact rank3 hp
  have t1 := t 1 0 1 (by decide)
  have t2 := t 1 0 2 (by decide)
  have t3 := t 2 0 1 (by decide)
  generalize xs.getD (k - 2) 0 = a at *
  generalize xs.getD (k - 1) 0 = b at *
  generalize xs.getD k 0 = d at *
  unfold lowP
  simp only [List.filter_cons, List.filter_nil]
  by_cases c2 : b < a ∧ b < d
  · rw [if_pos (show 2 ≤ k ∧ b < a ∧ b < d from ⟨by omega, c2⟩)]
    rcases Int.lt_trichotomy a d with h | h | h
    · have f1 : ¬ tells [1, 0, 1] xs k = true := by rw [t1]; omega
      have f2 : tells [1, 0, 2] xs k = true := by rw [t2]; omega
      have f3 : ¬ tells [2, 0, 1] xs k = true := by rw [t3]; omega
      rw [if_neg f1, if_pos f2, if_neg f3]; rfl
    · have f1 : tells [1, 0, 1] xs k = true := by rw [t1]; omega
      have f2 : ¬ tells [1, 0, 2] xs k = true := by rw [t2]; omega
      have f3 : ¬ tells [2, 0, 1] xs k = true := by rw [t3]; omega
      rw [if_pos f1, if_neg f2, if_neg f3]; rfl
    · have f1 : ¬ tells [1, 0, 1] xs k = true := by rw [t1]; omega
      have f2 : ¬ tells [1, 0, 2] xs k = true := by rw [t2]; omega
      have f3 : tells [2, 0, 1] xs k = true := by rw [t3]; omega
      rw [if_neg f1, if_neg f2, if_pos f3]; rfl
  · rw [if_neg (show ¬ (2 ≤ k ∧ b < a ∧ b < d) from fun h => c2 h.2)]
    have f1 : ¬ tells [1, 0, 1] xs k = true := by rw [t1]; omega
    have f2 : ¬ tells [1, 0, 2] xs k = true := by rw [t2]; omega
    have f3 : ¬ tells [2, 0, 1] xs k = true := by rw [t3]; omega
    rw [if_neg f1, if_neg f2, if_neg f3]; rfl
theorem spotted_tags {xs : List Int} {k : Nat} (hk : k < xs.length) : (turnsRow xs k).map (·.1) = List.replicate (highP.filter fun p => tells p xs k).length 0 ++ List.replicate (lowP.filter fun p => tells p xs k).length 1 := by
  rw [high_count hk, low_count hk]
  unfold turnsRow
  by_cases c0 : k < 2
  · rw [if_pos c0, if_neg (by omega), if_neg (by omega)]; rfl
  rw [if_neg c0]
  by_cases c1 : xs.getD (k - 2) 0 < xs.getD (k - 1) 0 ∧ xs.getD k 0 < xs.getD (k - 1) 0
  · rw [if_pos c1, if_pos ⟨by omega, c1⟩, if_neg (by omega)]; rfl
  rw [if_neg c1, if_neg (show ¬ (2 ≤ k ∧ xs.getD (k - 2) 0 < xs.getD (k - 1) 0 ∧ xs.getD k 0 < xs.getD (k - 1) 0) from fun h => c1 h.2)]
  by_cases c2 : xs.getD (k - 1) 0 < xs.getD (k - 2) 0 ∧ xs.getD (k - 1) 0 < xs.getD k 0
  · rw [if_pos c2, if_pos ⟨by omega, c2⟩]; rfl
  · rw [if_neg c2, if_neg (show ¬ (2 ≤ k ∧ xs.getD (k - 1) 0 < xs.getD (k - 2) 0 ∧ xs.getD (k - 1) 0 < xs.getD k 0) from fun h => c2 h.2)]; rfl
-- runs
theorem runs_ended (xs : List Int) (k : Nat) : (0 < (runsRow xs k).length) ↔ (0 < k ∧ xs.getD k 0 ≤ xs.getD (k - 1) 0) := by
  unfold runsRow
  split
  · rename_i h; exact ⟨fun _ => h, fun _ => by show 0 < 1; decide⟩
  · rename_i h; exact ⟨fun q => absurd q (by show ¬ 0 < 0; decide), fun q => absurd q h⟩
theorem takeT_any {K : PySem.W.Frag} {H : Hp} {T : List Addr} {Q : VK} {v0 : V} {ds : List D} {av : Int} (h : At K H v0 (.tup ds)) (h0 : 0 ≤ av) (q : ∀ v H', At K H' v (.tup (ds.take av.toNat)) → Ex T [] H H' → Q v H') : rSlA K v0 none (some av) H Q := by
  obtain ⟨a, xs, rfl, sq, ats⟩ := at_tup.mp h
  refine ⟨a, xs, rfl, sq, fun hw => q (.ref a) H ?_ Ex.refl, fun _ p np => q (.ref p) _ ?_ (Ex.new np)⟩
  · obtain ⟨k, rfl⟩ := Int.eq_ofNat_of_zero_le h0
    have := hw.2
    rw [HT.sIx_nat] at this
    rw [Int.toNat_natCast, List.take_of_length_le (by rw [← ats.length]; omega)]
    exact h
  · rw [cut_take h0]
    exact At.laid np (ats.takeD _)
end Dv

open PySem PySem.Spec PyProof.Rows L2 GxR Gx
namespace Dv
/-! machines with other names for registers and standings, and wider ones -/
/-- a rearrangement of 0 .. r - 1 -/
structure Shuf (ord : List Int) (r : Nat) : Prop where
  perm : ord.Perm ((List.range r).map fun (k : Nat) => (k : Int))
theorem Shuf.len {ord : List Int} {r : Nat} (s : Shuf ord r) : ord.length = r := by rw [s.perm.length_eq, List.length_map, List.length_range]
theorem Shuf.mem {ord : List Int} {r : Nat} (s : Shuf ord r) {z : Int} : z ∈ ord ↔ 0 ≤ z ∧ z < r := by
  rw [s.perm.mem_iff, List.mem_map]
  constructor
  · rintro ⟨k, hk, rfl⟩
    have := List.mem_range.mp hk
    omega
  · rintro ⟨h0, h1⟩
    exact ⟨z.toNat, List.mem_range.mpr (by omega), by omega⟩
theorem Shuf.nodup {ord : List Int} {r : Nat} (s : Shuf ord r) : ord.Nodup := by
  rw [s.perm.nodup_iff]
  exact List.Pairwise.map _ (fun a b (h : a ≠ b) => by omega) List.nodup_range
def at0 (l : List Int) (k : Nat) : Int := l.getD k 0
theorem at0_eq {l : List Int} {k : Nat} (h : k < l.length) : at0 l k = l[k] := by
  unfold at0
  rw [List.getD_eq_getElem?_getD, List.getElem?_eq_getElem h]
  rfl
theorem Shuf.at {ord : List Int} {r k : Nat} (s : Shuf ord r) (h : k < r) : 0 ≤ at0 ord k ∧ at0 ord k < r := by
  have hl := s.len
  rw [at0_eq (by omega)]
  exact s.mem.mp (List.getElem_mem (by omega))
/-- the place of j -/
def inv (ord : List Int) (j : Nat) : Nat := ord.idxOf (j : Int)
theorem Shuf.inv_lt {ord : List Int} {r j : Nat} (s : Shuf ord r) (h : j < r) : inv ord j < r := by
  unfold inv
  rw [← s.len]
  exact List.idxOf_lt_length_iff.mpr (s.mem.mpr (by omega))
theorem Shuf.at_inv {ord : List Int} {r j : Nat} (s : Shuf ord r) (h : j < r) : at0 ord (inv ord j) = j := by
  have hl := s.len
  have hi := s.inv_lt h
  rw [at0_eq (by omega)]
  exact List.getElem_idxOf (by unfold inv at hi; omega)
theorem Shuf.inv_at {ord : List Int} {r k : Nat} (s : Shuf ord r) (h : k < r) : inv ord (at0 ord k).toNat = k := by
  have hl := s.len
  have ha := s.at h
  unfold inv
  rw [Int.toNat_of_nonneg ha.1, at0_eq (by omega)]
  exact s.nodup.idxOf_getElem k (by omega)
/-- the list with f k at the place ord[k] -/
def place {α : Type} (ord : List Int) (r : Nat) (f : Nat → α) : List α := (List.range r).map fun j => f (inv ord j)
theorem place_len {α : Type} (ord : List Int) (r : Nat) (f : Nat → α) : (place ord r f).length = r := by unfold place; rw [List.length_map, List.length_range]
theorem place_at {α : Type} {ord : List Int} {r k : Nat} (s : Shuf ord r) (f : Nat → α) (h : k < r) : (place ord r f)[(at0 ord k).toNat]? = some (f k) := by
  have ha := s.at h
  unfold place
  rw [List.getElem?_map, List.getElem?_range (by omega), Option.map_some, s.inv_at h]
/-- the first i places filled -/
def fill {α : Type} (ord : List Int) (r : Nat) (f : Nat → α) (i : Nat) : List (Option α) := (List.range r).map fun j => if inv ord j < i then some (f (inv ord j)) else none
theorem fill_zero {α : Type} (ord : List Int) (r : Nat) (f : Nat → α) : fill ord r f 0 = List.replicate r none := by
  unfold fill
  refine List.ext_getElem (by simp) fun i h1 h2 => ?_
  rw [List.getElem_map, List.getElem_replicate, if_neg (Nat.not_lt_zero _)]
theorem fill_len {α : Type} (ord : List Int) (r : Nat) (f : Nat → α) (i : Nat) : (fill ord r f i).length = r := by unfold fill; rw [List.length_map, List.length_range]
theorem fill_at {α : Type} (ord : List Int) {r j : Nat} (f : Nat → α) (i : Nat) (h : j < r) : (fill ord r f i)[j]? = some (if inv ord j < i then some (f (inv ord j)) else none) := by
  unfold fill
  rw [List.getElem?_map, List.getElem?_range h]
  rfl
theorem fill_set {α : Type} {ord : List Int} {r i : Nat} (s : Shuf ord r) (f : Nat → α) (h : i < r) : (fill ord r f i).set (at0 ord i).toNat (some (f i)) = fill ord r f (i + 1) := by
  have ha := s.at h
  refine List.ext_getElem? fun j => ?_
  by_cases hj : j < r
  · rw [List.getElem?_set, fill_at ord f (i + 1) hj, fill_len]
    by_cases c : (at0 ord i).toNat = j
    · subst c
      rw [if_pos rfl, if_pos hj, s.inv_at h, if_pos (by omega)]
    · rw [if_neg c, fill_at ord f i hj]
      have ne : inv ord j ≠ i := fun e => c (by
        have := s.at_inv hj
        rw [e] at this
        omega)
      by_cases c2 : inv ord j < i
      · rw [if_pos c2, if_pos (by omega)]
      · rw [if_neg c2, if_neg (by omega)]
  · rw [List.getElem?_eq_none (by rw [List.length_set, fill_len]; omega), List.getElem?_eq_none (by rw [fill_len]; omega)]
theorem fill_all {α : Type} {ord : List Int} {r : Nat} (s : Shuf ord r) (f : Nat → α) : fill ord r f r = (place ord r f).map some := by
  unfold fill place
  rw [List.map_map]
  refine List.map_congr_left fun j hj => ?_
  rw [if_pos (s.inv_lt (List.mem_range.mp hj))]
  rfl
-- names
def nmP (ord : List Int) (r : Nat) (p : Int) : Int := if 0 ≤ p ∧ p < r then at0 ord p.toNat else p
mutual
def nmC (ord : List Int) (r : Nat) : C → C
  | .tru => .tru
  | .fls => .fls
  | .less a b => .less (nmP ord r a) (nmP ord r b)
  | .same a b => .same (nmP ord r a) (nmP ord r b)
  | .emp a => .emp (nmP ord r a)
  | .nt c => .nt (nmC ord r c)
  | .all cs => .all (nmCs ord r cs)
  | .any cs => .any (nmCs ord r cs)
def nmCs (ord : List Int) (r : Nat) : List C → List C
  | [] => []
  | c :: cs => nmC ord r c :: nmCs ord r cs
end
theorem nmCs_map (ord : List Int) (r : Nat) : ∀ cs : List C, nmCs ord r cs = cs.map (nmC ord r)
  | [] => by unfold nmCs; rfl
  | c :: cs => by unfold nmCs; rw [nmCs_map ord r cs, List.map_cons]
def nmMv (ord : List Int) (r : Nat) (ms : List Int) : List Int := place ord r fun k => nmP ord r (ms.getD k 0)
def nmCase (ord plc : List Int) (r : Nat) (c : Case) : Case := ⟨nmC ord r c.cond, nmMv ord r c.moves, c.says.map fun p => (p.1, nmP ord r p.2), (at0 plc c.nxt).toNat⟩
def nmM (ord plc : List Int) (m : M) : M := ⟨m.tags, m.regs, place plc m.steps.length fun k => (m.steps.getD k []).map (List.map (nmCase ord plc m.regs))⟩
def nmH (ord : List Int) (r : Nat) (h : List (Option Int)) : List (Option Int) := place ord r fun k => (h[k]?).getD none
section
variable {ord : List Int} {r : Nat} {v : Int} {h : List (Option Int)}
theorem nmP_ok (s : Shuf ord r) {p : Int} (h1 : -2 ≤ p) (h2 : p < r) : -2 ≤ nmP ord r p ∧ nmP ord r p < r := by
  unfold nmP
  split
  · rename_i c
    have := s.at (k := p.toNat) (by omega)
    omega
  · exact ⟨h1, h2⟩
theorem nmP_pl (s : Shuf ord r) {p : Int} (hp : plOk r p) : plOk r (nmP ord r p) := by
  unfold plOk at hp ⊢
  unfold nmP
  split
  · rename_i c
    have := s.at (k := p.toNat) (by omega)
    omega
  · exact hp
theorem worth_nm (s : Shuf ord r) {p : Int} (h1 : -2 ≤ p) (h2 : p < r) : worth v (nmH ord r h) (nmP ord r p) = worth v h p := by
  unfold nmP
  split
  · rename_i c
    have ha := s.at (k := p.toNat) (by omega)
    rw [worth_at ha.1, worth_at c.1]
    unfold nmH
    rw [place_at s _ (by omega)]
    rfl
  · have : p = -1 ∨ p = -2 := by omega
    rcases this with rfl | rfl <;> rfl
mutual
theorem hold_nm (s : Shuf ord r) : ∀ {n : Nat} {c : C}, okC r n c → hold v (nmH ord r h) (nmC ord r c) = hold v h c
  | n, .tru, _ => by unfold nmC hold; rfl
  | n, .fls, _ => by unfold nmC hold; rfl
  | n, .less a b, ok => by
    unfold okC at ok
    unfold plOk at ok
    unfold nmC hold
    rw [worth_nm s (by omega) (by omega), worth_nm s (by omega) (by omega)]
  | n, .same a b, ok => by
    unfold okC at ok
    unfold plOk at ok
    unfold nmC hold
    rw [worth_nm s (by omega) (by omega), worth_nm s (by omega) (by omega)]
  | n, .emp a, ok => by
    unfold okC at ok
    unfold plOk at ok
    unfold nmC hold
    rw [worth_nm s (by omega) (by omega)]
  | 0, .nt c, ok => by unfold okC at ok; exact ok.elim
  | n + 1, .nt c, ok => by
    unfold okC at ok
    unfold nmC hold
    rw [hold_nm s ok]
  | 0, .all cs, ok => by unfold okC at ok; exact ok.elim
  | n + 1, .all cs, ok => by
    unfold okC at ok
    unfold nmC hold
    rw [holdA_nm s ok.2]
  | 0, .any cs, ok => by unfold okC at ok; exact ok.elim
  | n + 1, .any cs, ok => by
    unfold okC at ok
    unfold nmC hold
    rw [holdE_nm s ok.2]
theorem holdA_nm (s : Shuf ord r) : ∀ {n : Nat} {cs : List C}, okCs r n cs → holdA v (nmH ord r h) (nmCs ord r cs) = holdA v h cs
  | n, [], _ => by unfold nmCs holdA; rfl
  | n, c :: cs, ok => by
    unfold okCs at ok
    unfold nmCs
    rw [holdA_cons, holdA_cons, hold_nm s ok.1, holdA_nm s ok.2]
theorem holdE_nm (s : Shuf ord r) : ∀ {n : Nat} {cs : List C}, okCs r n cs → holdE v (nmH ord r h) (nmCs ord r cs) = holdE v h cs
  | n, [], _ => by unfold nmCs holdE; rfl
  | n, c :: cs, ok => by
    unfold okCs at ok
    unfold nmCs
    rw [holdE_cons, holdE_cons, hold_nm s ok.1, holdE_nm s ok.2]
end
mutual
theorem okC_nm (s : Shuf ord r) : ∀ {n : Nat} {c : C}, okC r n c → okC r n (nmC ord r c)
  | n, .tru, _ => by unfold nmC; exact okC_tru
  | n, .fls, _ => by unfold nmC; exact okC_fls
  | n, .less a b, ok => by unfold okC at ok; unfold nmC; exact okC_less (nmP_pl s ok.1) (nmP_pl s ok.2)
  | n, .same a b, ok => by unfold okC at ok; unfold nmC; exact okC_same (nmP_pl s ok.1) (nmP_pl s ok.2)
  | n, .emp a, ok => by unfold okC at ok; unfold nmC; exact okC_emp (nmP_pl s ok)
  | 0, .nt c, ok => by unfold okC at ok; exact ok.elim
  | n + 1, .nt c, ok => by unfold okC at ok; unfold nmC; exact okC_nt (okC_nm s ok)
  | 0, .all cs, ok => by unfold okC at ok; exact ok.elim
  | n + 1, .all cs, ok => by unfold okC at ok; unfold nmC; exact okC_all (by rw [nmCs_map, List.length_map]; exact ok.1) (okCs_nm s ok.2)
  | 0, .any cs, ok => by unfold okC at ok; exact ok.elim
  | n + 1, .any cs, ok => by unfold okC at ok; unfold nmC; exact okC_any (by rw [nmCs_map, List.length_map]; exact ok.1) (okCs_nm s ok.2)
theorem okCs_nm (s : Shuf ord r) : ∀ {n : Nat} {cs : List C}, okCs r n cs → okCs r n (nmCs ord r cs)
  | n, [], _ => by unfold nmCs; exact okCs_nil
  | n, c :: cs, ok => by unfold okCs at ok; unfold nmCs; exact okCs_cons (okC_nm s ok.1) (okCs_nm s ok.2)
end
end
theorem nmCase_ok {ord plc : List Int} {r S n : Nat} (s : Shuf ord r) (t : Shuf plc S) {c : Case} (ok : okCase r S n c) : okCase r S n (nmCase ord plc r c) where
  cond := okC_nm s ok.cond
  mlen := by
    show (place ord r (fun k => nmP ord r (c.moves.getD k 0))).length = r
    exact place_len _ _ _
  mv := fun z hz => by
    unfold nmCase nmMv place at hz
    obtain ⟨j, hj, rfl⟩ := List.mem_map.mp hz
    have hi := s.inv_lt (List.mem_range.mp hj)
    have hm : c.moves.getD (inv ord j) 0 ∈ c.moves := by
      rw [List.getD_eq_getElem?_getD, List.getElem?_eq_getElem (by rw [ok.mlen]; exact hi)]
      exact List.getElem_mem _
    have := ok.mv _ hm
    exact nmP_ok s this.1 this.2
  say := fun p hp => by
    obtain ⟨q, hq, rfl⟩ := List.mem_map.mp hp
    have := ok.say q hq
    have h2 := nmP_ok s this.2.1 this.2.2
    exact ⟨this.1, h2.1, h2.2⟩
  slen := by show (c.says.map _).length ≤ 1000; rw [List.length_map]; exact ok.slen
  nxt := by
    have := t.at ok.nxt
    show (at0 plc c.nxt).toNat < S
    omega
theorem nmM_ok {ord plc : List Int} {n : Nat} {m : M} (s : Shuf ord m.regs) (t : Shuf plc m.steps.length) (ok : okM n m) : okM n (nmM ord plc m) := by
  have e : (nmM ord plc m).steps.length = m.steps.length := by
    show (place plc m.steps.length (fun k => (m.steps.getD k []).map (List.map (nmCase ord plc m.regs)))).length = m.steps.length
    exact place_len _ _ _
  have hs : ∀ x ∈ (nmM ord plc m).steps, ∃ y ∈ m.steps, x = y.map (List.map (nmCase ord plc m.regs)) := fun x hx => by
    unfold nmM place at hx
    obtain ⟨j, hj, rfl⟩ := List.mem_map.mp hx
    have hi := t.inv_lt (List.mem_range.mp hj)
    refine ⟨m.steps.getD (inv plc j) [], ?_, rfl⟩
    rw [List.getD_eq_getElem?_getD, List.getElem?_eq_getElem hi]
    exact List.getElem_mem _
  refine ⟨ok.tags, ok.tmax, ok.rmax, by rw [e]; exact ok.some, by rw [e]; exact ok.smax, fun x hx => ?_, fun x hx cs hcs => ?_⟩
  · obtain ⟨y, hy, rfl⟩ := hs x hx
    rw [List.length_map]
    exact ok.all y hy
  · obtain ⟨y, hy, rfl⟩ := hs x hx
    obtain ⟨cs0, hc0, rfl⟩ := List.mem_map.mp hcs
    have := ok.cases y hy cs0 hc0
    refine ⟨by rw [List.length_map]; exact this.1, fun c hc => ?_⟩
    obtain ⟨c0, hcc, rfl⟩ := List.mem_map.mp hc
    rw [e]
    exact nmCase_ok s t (this.2 c0 hcc)
theorem nmM_cases {ord plc : List Int} {n : Nat} {m : M} (t : Shuf plc m.steps.length) (ok : okM n m) {st tg : Nat} (hs : st < m.steps.length) : (nmM ord plc m).cases (at0 plc st).toNat tg = (m.cases st tg).map (nmCase ord plc m.regs) := by
  unfold M.cases
  show ((place plc m.steps.length (fun k => (m.steps.getD k []).map (List.map (nmCase ord plc m.regs)))).getD (at0 plc st).toNat []).getD tg [] = ((m.steps.getD st []).getD tg []).map (nmCase ord plc m.regs)
  rw [List.getD_eq_getElem?_getD (l := place _ _ _), place_at t _ hs]
  show ((m.steps.getD st []).map (List.map (nmCase ord plc m.regs))).getD tg [] = _
  rw [List.getD_eq_getElem?_getD, List.getElem?_map, List.getD_eq_getElem?_getD (l := m.steps.getD st [])]
  cases (m.steps.getD st [])[tg]? <;> rfl
theorem find_map' {α β : Type} (f : α → β) (p : β → Bool) (q : α → Bool) : ∀ {l : List α}, (∀ a ∈ l, p (f a) = q a) → (l.map f).find? p = (l.find? q).map f
  | [], _ => rfl
  | a :: l, h => by
    rw [List.map_cons, List.find?_cons, List.find?_cons, h a List.mem_cons_self]
    cases q a
    · exact find_map' f p q fun b hb => h b (List.mem_cons_of_mem _ hb)
    · rfl
theorem kept_nm {ord plc : List Int} {r S n : Nat} {v : Int} {h : List (Option Int)} (s : Shuf ord r) {c : Case} (ok : okCase r S n c) : keptC v (nmH ord r h) (nmCase ord plc r c) = nmH ord r (keptC v h c) := by
  unfold keptC
  show (place ord r (fun k => nmP ord r (c.moves.getD k 0))).map (worth v (nmH ord r h)) = place ord r (fun k => ((c.moves.map (worth v h))[k]?).getD none)
  unfold place
  rw [List.map_map]
  refine List.map_congr_left fun j hj => ?_
  have hi := s.inv_lt (List.mem_range.mp hj)
  have hl : inv ord j < c.moves.length := by rw [ok.mlen]; exact hi
  have hg : c.moves.getD (inv ord j) 0 = c.moves[inv ord j] := by rw [List.getD_eq_getElem?_getD, List.getElem?_eq_getElem hl]; rfl
  have := ok.mv _ (List.getElem_mem hl)
  show worth v (nmH ord r h) (nmP ord r (c.moves.getD (inv ord j) 0)) = ((c.moves.map (worth v h))[inv ord j]?).getD none
  rw [hg, worth_nm s this.1 this.2, List.getElem?_map, List.getElem?_eq_getElem hl]
  rfl
theorem said_nm {ord plc : List Int} {r S n : Nat} {v : Int} {h : List (Option Int)} (s : Shuf ord r) {c : Case} (ok : okCase r S n c) : saidC v (nmH ord r h) (nmCase ord plc r c) = saidC v h c := by
  unfold saidC
  show (c.says.map _).map _ = _
  rw [List.map_map]
  refine List.map_congr_left fun p hp => ?_
  have := ok.say p hp
  show (p.1, worth v (nmH ord r h) (nmP ord r p.2)) = _
  rw [worth_nm s this.2.1 this.2.2]
theorem read_nm {ord plc : List Int} {n : Nat} {m : M} (s : Shuf ord m.regs) (t : Shuf plc m.steps.length) (ok : okM n m) {st : Nat} {h : List (Option Int)} {e : Nat × Int} (hs : st < m.steps.length) (he : e.1 < m.tags) :
    readM (nmM ord plc m) (at0 plc st).toNat (nmH ord m.regs h) e = ((at0 plc (readM m st h e).1).toNat, nmH ord m.regs (readM m st h e).2.1, (readM m st h e).2.2) := by
  obtain ⟨_, _, _, _, okc⟩ := M.cases_at ok hs he
  unfold readM
  rw [nmM_cases t ok hs, find_map' (nmCase ord plc m.regs) (holdC e.2 (nmH ord m.regs h)) (holdC e.2 h) fun c hc => hold_nm s (okc c hc).cond]
  cases hf : (m.cases st e.1).find? (holdC e.2 h) with
  | none => rfl
  | some c =>
    have okx := okc c (List.mem_of_find?_eq_some hf)
    show ((at0 plc c.nxt).toNat, keptC _ _ _, saidC _ _ _) = _
    rw [kept_nm s okx, said_nm s okx]
theorem answers_nm {ord plc : List Int} {n : Nat} {m : M} (s : Shuf ord m.regs) (t : Shuf plc m.steps.length) (ok : okM n m) : ∀ (es : List (Nat × Int)) (st : Nat) (h : List (Option Int)), st < m.steps.length → (∀ e ∈ es, e.1 < m.tags) →
    answersM (nmM ord plc m) ((at0 plc st).toNat, nmH ord m.regs h) es = answersM m (st, h) es
  | [], _, _, _, _ => rfl
  | e :: es, st, h, hs, ht => by
    have he := ht e List.mem_cons_self
    have r := read_nm (h := h) s t ok hs he
    have hn : (readM m st h e).1 < m.steps.length := by
      obtain ⟨_, _, _, _, okc⟩ := M.cases_at ok hs he
      unfold readM
      cases hf : (m.cases st e.1).find? (holdC e.2 h) with
      | none => exact hs
      | some c => exact (okc c (List.mem_of_find?_eq_some hf)).nxt
    show (readM (nmM ord plc m) (at0 plc st).toNat (nmH ord m.regs h) e).2.2 :: answersM (nmM ord plc m) ((readM (nmM ord plc m) (at0 plc st).toNat (nmH ord m.regs h) e).1, (readM (nmM ord plc m) (at0 plc st).toNat (nmH ord m.regs h) e).2.1) es = (readM m st h e).2.2 :: answersM m ((readM m st h e).1, (readM m st h e).2.1) es
    rw [r]
    dsimp only
    rw [answers_nm s t ok es _ _ hn fun e' he' => ht e' (List.mem_cons_of_mem _ he')]
theorem nmH_none {ord : List Int} {r : Nat} : nmH ord r (List.replicate r none) = List.replicate r none := by
  unfold nmH place
  refine List.ext_getElem (by simp) fun i h1 h2 => ?_
  rw [List.getElem_map, List.getElem_replicate, List.getElem_range]
  show ((List.replicate r (none : Option Int))[inv ord i]?).getD none = none
  rw [List.getElem?_replicate]
  split <;> rfl
theorem answers_nm0 {ord plc : List Int} {n : Nat} {m : M} (s : Shuf ord m.regs) (t : Shuf plc m.steps.length) (p0 : at0 plc 0 = 0) (ok : okM n m) (es : List (Nat × Int)) (ht : ∀ e ∈ es, e.1 < m.tags) :
    answersM (nmM ord plc m) (0, List.replicate (nmM ord plc m).regs none) es = answersM m (0, List.replicate m.regs none) es := by
  have := answers_nm s t ok es 0 (List.replicate m.regs none) ok.some ht
  rw [p0, nmH_none] at this
  exact this
-- wider machines
def wdCase (c : Case) (q : Int) : Case := { c with moves := c.moves ++ [q] }
/-- each case of m', with one source more; the standings of m' begin with those -/
structure Wider (m m' : M) : Prop where
  tags : m'.tags = m.tags
  regs : m'.regs = m.regs + 1
  len : m'.steps.length = m.steps.length + 1
  cases : ∀ st tg, st < m.steps.length → tg < m.tags → ∃ qs : List Int, qs.length = (m.cases st tg).length ∧ m'.cases st tg = (List.zip (m.cases st tg) qs).map fun p => wdCase p.1 p.2
theorem worth_wd {v : Int} {h : List (Option Int)} {x : Option Int} {p : Int} (h1 : -2 ≤ p) (h2 : p < h.length) : worth v (h ++ [x]) p = worth v h p := by
  by_cases c : 0 ≤ p
  · rw [worth_at c, worth_at c, List.getElem?_append_left (by omega)]
  · have : p = -1 ∨ p = -2 := by omega
    rcases this with rfl | rfl <;> rfl
mutual
theorem hold_wd {v : Int} {h : List (Option Int)} {x : Option Int} : ∀ {n : Nat} {c : C}, okC h.length n c → hold v (h ++ [x]) c = hold v h c
  | n, .tru, _ => by unfold hold; rfl
  | n, .fls, _ => by unfold hold; rfl
  | n, .less a b, ok => by
    unfold okC at ok
    unfold plOk at ok
    unfold hold
    rw [worth_wd (by omega) (by omega), worth_wd (by omega) (by omega)]
  | n, .same a b, ok => by
    unfold okC at ok
    unfold plOk at ok
    unfold hold
    rw [worth_wd (by omega) (by omega), worth_wd (by omega) (by omega)]
  | n, .emp a, ok => by
    unfold okC at ok
    unfold plOk at ok
    unfold hold
    rw [worth_wd (by omega) (by omega)]
  | 0, .nt c, ok => by unfold okC at ok; exact ok.elim
  | n + 1, .nt c, ok => by
    unfold okC at ok
    unfold hold
    rw [hold_wd ok]
  | 0, .all cs, ok => by unfold okC at ok; exact ok.elim
  | n + 1, .all cs, ok => by
    unfold okC at ok
    unfold hold
    rw [holdA_wd ok.2]
  | 0, .any cs, ok => by unfold okC at ok; exact ok.elim
  | n + 1, .any cs, ok => by
    unfold okC at ok
    unfold hold
    rw [holdE_wd ok.2]
theorem holdA_wd {v : Int} {h : List (Option Int)} {x : Option Int} : ∀ {n : Nat} {cs : List C}, okCs h.length n cs → holdA v (h ++ [x]) cs = holdA v h cs
  | n, [], _ => by unfold holdA; rfl
  | n, c :: cs, ok => by
    unfold okCs at ok
    rw [holdA_cons, holdA_cons, hold_wd ok.1, holdA_wd ok.2]
theorem holdE_wd {v : Int} {h : List (Option Int)} {x : Option Int} : ∀ {n : Nat} {cs : List C}, okCs h.length n cs → holdE v (h ++ [x]) cs = holdE v h cs
  | n, [], _ => by unfold holdE; rfl
  | n, c :: cs, ok => by
    unfold okCs at ok
    rw [holdE_cons, holdE_cons, hold_wd ok.1, holdE_wd ok.2]
end
theorem read_wd {n : Nat} {m m' : M} (w : Wider m m') (ok : okM n m) {st : Nat} {h : List (Option Int)} {x : Option Int} {e : Nat × Int} (hs : st < m.steps.length) (hl : h.length = m.regs) (he : e.1 < m.tags) :
    ∃ y, readM m' st (h ++ [x]) e = ((readM m st h e).1, (readM m st h e).2.1 ++ [y], (readM m st h e).2.2) := by
  obtain ⟨_, _, _, _, okc⟩ := M.cases_at ok hs he
  obtain ⟨qs, lq, ec⟩ := w.cases st e.1 hs he
  unfold readM
  rw [ec]
  have hf : ((List.zip (m.cases st e.1) qs).map fun p => wdCase p.1 p.2).find? (holdC e.2 (h ++ [x])) = ((List.zip (m.cases st e.1) qs).find? fun p => holdC e.2 h p.1).map fun p => wdCase p.1 p.2 :=
    find_map' (fun (p : Case × Int) => wdCase p.1 p.2) (holdC e.2 (h ++ [x])) (fun (p : Case × Int) => holdC e.2 h p.1) fun p hp => hold_wd (by rw [hl]; exact (okc p.1 (List.of_mem_zip (a := p.1) (b := p.2) hp).1).cond)
  rw [hf]
  have hg : (m.cases st e.1).find? (holdC e.2 h) = ((List.zip (m.cases st e.1) qs).find? fun p => holdC e.2 h p.1).map (·.1) := by
    have e1 : (List.zip (m.cases st e.1) qs).map (·.1) = m.cases st e.1 := List.map_fst_zip (by omega)
    conv => lhs; rw [← e1]
    exact find_map' (fun (p : Case × Int) => p.1) (holdC e.2 h) (fun (p : Case × Int) => holdC e.2 h p.1) fun p _ => rfl
  rw [hg]
  cases hh : (List.zip (m.cases st e.1) qs).find? fun p => holdC e.2 h p.1 with
  | none => exact ⟨x, rfl⟩
  | some p =>
    have okx := okc p.1 (List.of_mem_zip (a := p.1) (b := p.2) (List.mem_of_find?_eq_some hh)).1
    refine ⟨worth e.2 (h ++ [x]) p.2, ?_⟩
    show (p.1.nxt, (p.1.moves ++ [p.2]).map (worth e.2 (h ++ [x])), saidC e.2 (h ++ [x]) (wdCase p.1 p.2)) = (p.1.nxt, p.1.moves.map (worth e.2 h) ++ [worth e.2 (h ++ [x]) p.2], saidC e.2 h p.1)
    have e1 : p.1.moves.map (worth e.2 (h ++ [x])) = p.1.moves.map (worth e.2 h) := List.map_congr_left fun z hz => by
      have := okx.mv z hz
      exact worth_wd this.1 (by rw [hl]; exact this.2)
    have e2 : saidC e.2 (h ++ [x]) (wdCase p.1 p.2) = saidC e.2 h p.1 := List.map_congr_left fun z hz => by
      have := okx.say z hz
      show (z.1, worth e.2 (h ++ [x]) z.2) = (z.1, worth e.2 h z.2)
      rw [worth_wd this.2.1 (by rw [hl]; exact this.2.2)]
    rw [List.map_append, e1, e2]
    rfl
theorem answers_wd {n : Nat} {m m' : M} (w : Wider m m') (ok : okM n m) : ∀ (es : List (Nat × Int)) (st : Nat) (h : List (Option Int)) (x : Option Int), st < m.steps.length → h.length = m.regs → (∀ e ∈ es, e.1 < m.tags) →
    answersM m' (st, h ++ [x]) es = answersM m (st, h) es
  | [], _, _, _, _, _, _ => rfl
  | e :: es, st, h, x, hs, hl, ht => by
    have he := ht e List.mem_cons_self
    obtain ⟨y, r⟩ := read_wd (x := x) w ok hs hl he
    have hn : okCt m ((readM m st h e).1, (readM m st h e).2.1) := okCt.step (m := m) (c := (st, h)) (e := e) ⟨hs, hl⟩ ok he
    show (readM m' st (h ++ [x]) e).2.2 :: answersM m' ((readM m' st (h ++ [x]) e).1, (readM m' st (h ++ [x]) e).2.1) es = (readM m st h e).2.2 :: answersM m ((readM m st h e).1, (readM m st h e).2.1) es
    rw [r]
    dsimp only
    rw [answers_wd w ok es _ _ _ hn.st hn.len fun e' he' => ht e' (List.mem_cons_of_mem _ he')]
theorem answers_wd0 {n : Nat} {m m' : M} (w : Wider m m') (ok : okM n m) (es : List (Nat × Int)) (ht : ∀ e ∈ es, e.1 < m.tags) : answersM m' (0, List.replicate m'.regs none) es = answersM m (0, List.replicate m.regs none) es := by
  rw [w.regs, List.replicate_succ']
  exact answers_wd w ok es 0 _ none ok.some (List.length_replicate ..) ht
/-- the same answers: the same, turned -/
theorem same_turned {m m' : M} (tg : m'.tags = m.tags) (h : ∀ es : List (Nat × Int), (∀ e ∈ es, e.1 < m.tags) → answersM m' (0, List.replicate m'.regs none) es = answersM m (0, List.replicate m.regs none) es) (es : List (Nat × Int)) (ht : ∀ e ∈ es, e.1 < m.tags) :
    answersM (turnM m') (0, List.replicate (turnM m').regs none) es = answersM (turnM m) (0, List.replicate (turnM m).regs none) es := by
  have e1 : ∀ (x : M) (fs : List (Nat × Int)), answersM (turnM x) (0, List.replicate x.regs none) (fs.map (chL fun z => -z)) = (answersM x (0, List.replicate x.regs none) fs).map (List.map (chE fun z => -z)) := fun x fs => by
    have := answersM_turn fall_neg x (0, List.replicate x.regs none) fs
    unfold mapC at this
    rw [mapH_rep] at this
    exact this
  have e2 : (es.map (chL fun z => -z)).map (chL fun z => -z) = es := by
    rw [List.map_map]
    conv => rhs; rw [← List.map_id es]
    refine List.map_congr_left fun e _ => ?_
    show (e.1, - -e.2) = e
    rw [Int.neg_neg]
  have h2 := h (es.map (chL fun z => -z)) (chL_tag ht)
  have a := e1 m' (es.map (chL fun z => -z))
  have b := e1 m (es.map (chL fun z => -z))
  rw [e2] at a b
  show answersM (turnM m') (0, List.replicate m'.regs none) es = answersM (turnM m) (0, List.replicate m.regs none) es
  rw [a, b, h2]
end Dv

open PySem PySem.Spec PyProof.Rows L2 GxR Gx
namespace Dv
/-- the dict that gives registers their new numbers -/
def NumD (H : Hp) (dn : Addr) (ord : List Int) (r : Nat) : Prop := ∃ kvs : List (Key × V), H dn = some (.dK kvs) ∧ ∀ z : Int, valV kvs (Sum.inl z : Key) = if 0 ≤ z ∧ z < r then some (V.int (at0 ord z.toNat)) else none
theorem NumD.ext {H H1 : Hp} {T ms : List Addr} {dn : Addr} {ord : List Int} {r : Nat} (h : NumD H dn ord r) (e : Ex T ms H H1) (n : dn ∉ ms) : NumD H1 dn ord r := by
  obtain ⟨kvs, hd, hv⟩ := h
  exact ⟨kvs, e.dk n hd, hv⟩
theorem NumD.isD {H : Hp} {dn : Addr} {ord : List Int} {r : Nat} (h : NumD H dn ord r) : IsD H dn := by
  obtain ⟨kvs, hd, _⟩ := h
  exact .inl ⟨kvs, .inl hd⟩
theorem NumD.get {H : Hp} {dn : Addr} {ord : List Int} {r : Nat} (h : NumD H dn ord r) (z : Int) : DGet H dn (.int z) (if 0 ≤ z ∧ z < r then some (V.int (at0 ord z.toNat)) else none) := by
  obtain ⟨kvs, hd, hv⟩ := h
  have := DGet.k (k := Sum.inl z) hd
  rw [hv z] at this
  exact this
theorem nm_get (ord : List Int) (r : Nat) (z : Int) : (if 0 ≤ z ∧ z < r then some (V.int (at0 ord z.toNat)) else none).getD (.int z) = .int (nmP ord r z) := by
  unfold nmP
  split <;> rfl
theorem shapeN (ord : List Int) (r : Nat) (c : C) : (∃ (wo : Str) (ps : List Int), encC c = .tup (.str wo :: ps.map .int) ∧ encC (nmC ord r c) = .tup (.str wo :: (ps.map (nmP ord r)).map .int) ∧ wo ≠ "not" ∧ wo ≠ "all" ∧ wo ≠ "any" ∧ ps.length ≤ 2) ∨ (∃ d, c = .nt d) ∨ (∃ cs, c = .all cs) ∨ ∃ cs, c = .any cs := by
  cases c with
  | tru => exact .inl ⟨"true", [], by unfold encC; rfl, by unfold nmC encC; rfl, by decide +kernel, by decide +kernel, by decide +kernel, by simp⟩
  | fls => exact .inl ⟨"false", [], by unfold encC; rfl, by unfold nmC encC; rfl, by decide +kernel, by decide +kernel, by decide +kernel, by simp⟩
  | less a b => exact .inl ⟨"less", [a, b], by unfold encC; rfl, by unfold nmC encC; rfl, by decide +kernel, by decide +kernel, by decide +kernel, by simp⟩
  | same a b => exact .inl ⟨"same", [a, b], by unfold encC; rfl, by unfold nmC encC; rfl, by decide +kernel, by decide +kernel, by decide +kernel, by simp⟩
  | emp a => exact .inl ⟨"empty", [a], by unfold encC; rfl, by unfold nmC encC; rfl, by decide +kernel, by decide +kernel, by decide +kernel, by simp⟩
  | nt d => exact .inr (.inl ⟨d, rfl⟩)
  | all cs => exact .inr (.inr (.inl ⟨cs, rfl⟩))
  | any cs => exact .inr (.inr (.inr ⟨cs, rfl⟩))
theorem nmC_nt (ord : List Int) (r : Nat) (c : C) : nmC ord r (.nt c) = .nt (nmC ord r c) := by conv => lhs; unfold nmC
theorem nmC_all (ord : List Int) (r : Nat) (cs : List C) : nmC ord r (.all cs) = .all (nmCs ord r cs) := by conv => lhs; unfold nmC
theorem nmC_any (ord : List Int) (r : Nat) (cs : List C) : nmC ord r (.any cs) = .any (nmCs ord r cs) := by conv => lhs; unfold nmC
theorem encCs_nm (ord : List Int) (r : Nat) (cs : List C) : cs.map (fun c => encC (nmC ord r c)) = encCs (nmCs ord r cs) := by rw [nmCs_map, encCs_map, List.map_map]; rfl
theorem Ats.setD {K : PySem.W.Frag} {H : Hp} {xs : List V} {ds : List D} {j : Nat} {x : V} {d : D} (h : Ats K H xs ds) (hx : At K H x d) : Ats K H (xs.set j x) (ds.set j d) := by
  refine Ats.of_forall (by rw [List.length_set, List.length_set, h.length]) fun i y e h1 h2 => ?_
  rw [List.getElem?_set] at h1 h2
  by_cases c : j = i
  · rw [if_pos c] at h1 h2
    split at h1
    · split at h2
      · cases h1
        cases h2
        exact hx
      · cases h2
    · cases h1
  · rw [if_neg c] at h1 h2
    obtain ⟨e', he, hy⟩ := h.get' h1
    rw [h2] at he
    cases he
    exact hy
theorem Shuf.at_get {ord : List Int} {r k : Nat} (s : Shuf ord r) (h : k < r) : atI (ord.map V.int) (k : Int) = some (.int (at0 ord k)) := iv_at (by omega) (by rw [s.len]; omega)
theorem ix_at0 {ord : List Int} {r k n : Nat} (s : Shuf ord r) (h : k < r) (hn : n = r) : ixN n (at0 ord k) = some (at0 ord k).toNat := by
  have := s.at h
  exact ix_nat this.1 (by omega)
end Dv

open PySem PySem.Spec PyProof.Rows L2 GxR Gx
namespace Dv
/-! types: ranks and spots in the place of values -/
def spotN (h : List (Option Int)) (x : Int) : Int := 2 * (cnt (kn h) x : Int) + (if x ∈ kn h then 1 else 0)
theorem cnt_mono {ks : List Int} {x y : Int} (h : x ≤ y) : cnt ks x ≤ cnt ks y := by
  unfold cnt
  induction ks with
  | nil => exact Nat.le_refl _
  | cons k ks ih =>
    rw [List.filter_cons, List.filter_cons]
    by_cases c : k < x
    · rw [if_pos (decide_eq_true c), if_pos (decide_eq_true (show k < y by omega))]
      exact Nat.succ_le_succ ih
    · rw [if_neg (by rw [decide_eq_false c]; decide)]
      split
      · exact Nat.le_succ_of_le ih
      · exact ih
theorem cnt_step {ks : List Int} {x y : Int} (m : x ∈ ks) (h : x < y) : cnt ks x + 1 ≤ cnt ks y := by
  unfold cnt
  induction ks with
  | nil => cases m
  | cons k ks ih =>
    rw [List.filter_cons, List.filter_cons]
    rcases List.mem_cons.mp m with rfl | m
    · rw [if_neg (by rw [decide_eq_false (Int.lt_irrefl _)]; decide), if_pos (decide_eq_true h)]
      exact Nat.succ_le_succ (cnt_mono (ks := ks) (Int.le_of_lt h))
    · have := ih m
      by_cases c : k < x
      · rw [if_pos (decide_eq_true c), if_pos (decide_eq_true (show k < y by omega))]
        exact Nat.succ_le_succ this
      · rw [if_neg (by rw [decide_eq_false c]; decide)]
        split
        · exact Nat.le_succ_of_le this
        · exact this
theorem spot_lt {h : List (Option Int)} {x y : Int} (hx : x ∈ kn h ∨ y ∈ kn h) (c : x < y) : spotN h x < spotN h y := by
  unfold spotN
  by_cases mx : x ∈ kn h
  · have := cnt_step mx c
    rw [if_pos mx]
    split <;> omega
  · have my := hx.resolve_left mx
    have := cnt_mono (ks := kn h) (Int.le_of_lt c)
    rw [if_neg mx, if_pos my]
    omega
theorem spot_emb (h : List (Option Int)) (v : Int) : Emb (fun x => some x ∈ h ∨ x = v) (spotN h) := fun x y hx hy => by
  have key : ∀ a b : Int, (some a ∈ h ∨ a = v) → (some b ∈ h ∨ b = v) → a < b → spotN h a < spotN h b := fun a b ha hb c => by
    refine spot_lt ?_ c
    rcases ha with ha | ha
    · exact .inl (mem_kn.mpr ha)
    · rcases hb with hb | hb
      · exact .inr (mem_kn.mpr hb)
      · omega
  rcases Int.lt_trichotomy x y with c | c | c
  · have := key x y hx hy c
    exact ⟨⟨fun _ => c, fun _ => this⟩, ⟨fun e => by omega, fun e => by omega⟩⟩
  · subst c
    exact ⟨⟨fun e => absurd e (Int.lt_irrefl _), fun e => absurd e (Int.lt_irrefl _)⟩, ⟨fun _ => rfl, fun _ => rfl⟩⟩
  · have := key y x hy hx c
    exact ⟨⟨fun e => by omega, fun e => by omega⟩, ⟨fun e => by omega, fun e => by omega⟩⟩
theorem spots_held (h : List (Option Int)) : mapH (fun x => 2 * x + 1) (ranksH h) = mapH (spotN h) h := by
  unfold ranksH mapH
  rw [List.map_map]
  refine List.map_congr_left fun o ho => ?_
  cases o with
  | none => rfl
  | some x =>
    show some (2 * rkF h x + 1) = some (spotN h x)
    unfold rkF spotN
    rw [if_pos (mem_kn.mpr ho)]
theorem step_types {m : M} {st t : Nat} {h : List (Option Int)} {v : Int} :
    readM m st (mapH (fun x => 2 * x + 1) (ranksH h)) (t, spotN h v) = ((readM m st h (t, v)).1, mapH (spotN h) (readM m st h (t, v)).2.1, (readM m st h (t, v)).2.2.map (chE (spotN h))) := by
  rw [spots_held]
  exact readM_on (spot_emb h v) (fun x hx => .inl hx) m st t (.inr rfl)
theorem held_P {m : M} {st t : Nat} {h : List (Option Int)} {v : Int} : ∀ x, some x ∈ (readM m st h (t, v)).2.1 → some x ∈ h ∨ x = v :=
  (readM_P (P := fun x => some x ∈ h ∨ x = v) m st (e := (t, v)) (fun x hx => .inl hx) (.inr rfl)).1
theorem ranks_after {m : M} {st t : Nat} {h : List (Option Int)} {v : Int} : ranksH (mapH (spotN h) (readM m st h (t, v)).2.1) = ranksH (readM m st h (t, v)).2.1 :=
  ranks_map fun x y hx hy c => ((spot_emb h v x y (held_P x hx) (held_P y hy)).1).mpr c
/-- the step of a row of machines -/
def rowR : List M → List Nat → List (Option Int) → Nat × Int → List (Nat × List (Option Int) × List (Int × Option Int))
  | m :: ms, s :: ss, h, e => readM m s (h.take m.regs) e :: rowR ms ss (h.drop m.regs) e
  | _, _, _, _ => []
def encJ (ss : List Nat) (h : List (Option Int)) : D := .tup (ss.map (fun (s : Nat) => D.int s) ++ [encH h])
end Dv

/-! xs.extend(t), t a tuple. -/
namespace Exn
open PySem PySem.Spec PyProof.Rows L2
open PySem.AutoSeq1 (wpAny_loadPart' idx_int sub_tuple_tuple sub_list_list sub_tuple_list sub_list_tuple)
theorem extend_tup (l : Addr) (items : Array Value) (n : Nat) (b : Addr) (items2 : Array Value) (n2 : Nat) (dd : Option Addr) (sl : Array (Option Value)) (hs0 : ¬(!items.isEmpty && Builtin.List.listTooLong (items.size + items2.size)) = true) (hs1 : items.size ≤ sizeLine) (hs2 : items.size + items2.size ≤ sizeLine + 1) :
    Meets (Builtin.«list.extend» ⟨[.ref l, .ref b], []⟩) (fun _ R s => s.heap.get? l = some { cls := .type "list", dict := none, data := .seq items n, slots := #[] } ∧ s.heap.get? b = some { cls := .type "tuple", dict := dd, data := .seq items2 n2, slots := sl } ∧ R (.ok (.ret Value.none)) { s with heap := s.heap.update l (Obj.mapSeq fun x => x ++ items2), toks := s.toks }) :=
  .of_wp fun prog w A R s h => by
    obtain ⟨hp, g, d, tk, os⟩ := s; obtain ⟨hl, hb, h⟩ := h; have f1 := AutoSeq1.idx_int; have f2 := AutoSeq1.sub_tuple_tuple; have f3 := AutoSeq1.sub_list_list; have f4 := AutoSeq1.sub_tuple_list; have f5 := AutoSeq1.sub_list_tuple;
    have hz' : (items ++ items2).size ≤ sizeLine + 1 := by rw [Array.size_append]; exact hs2
    wp_walk using (wpAny_updateSeq hl rfl (hz := hs1) (_hz' := hz')), wpAny_loadPart' hl, wpAny_loadPart' hb; exact ⟨_, rfl, h⟩
def rExtendT (K : PySem.W.Frag) : V → List V → Hp → VK → Prop := fun x vs H Q => ∃ l b xs zs, x = .ref l ∧ vs = [.ref b] ∧ H l = some (.lst xs) ∧ SqT K H b zs ∧ xs.length + zs.length ≤ sizeLine ∧ Q .non (upd H l (.lst (xs ++ zs)))
section
variable {X : Cx}
theorem mt_extendT : MtR X "list.extend" (rExtendT X.K) := by
  intro pins s σ H x vs v us Q I rx rv h
  obtain ⟨l, b, xs, zs, rfl, rfl, hH, hB, hz, q⟩ := h
  cases rx
  obtain ⟨u, rfl, ru⟩ := rv.one
  cases ru
  obtain ⟨z, its, n, r, hl, e⟩ := I.lstM hH
  obtain ⟨its2, r2, ⟨⟨cls, dd, data, sl⟩, ho, hc, n2, hd⟩, hs⟩ := I.tuple hB
  simp only at hc hd
  subst hc hd
  have hl2 := r2.length
  have hsz : its.toArray.size + its2.toArray.size ≤ sizeLine := by rw [List.size_toArray, List.size_toArray]; omega
  have hlong : ¬ (!its.toArray.isEmpty && Builtin.List.listTooLong (its.toArray.size + its2.toArray.size)) = true := by
    rw [notLongL hsz, Bool.and_false]
    exact Bool.false_ne_true
  refine call_meets F.slot_list_extend ⟨_, e, rfl⟩ F.entry_list_extend (F.args_list_extend_2 _ _)
    (extend_tup l its.toArray n b its2.toArray n2 dd sl hlong (by rw [List.size_toArray]; omega) (by omega)) ⟨e, ho, ?_⟩
  refine ⟨.non, _, I.lset (its' := its ++ its2) hH e (by simp) (r.append r2) ?_, rfl, q⟩
  rw [List.length_append]
  omega
end
end Exn

open PySem PySem.Spec PyProof.Rows L2 GxR Gx
namespace Dv
/-! steps: an object with six fields -/
def stepF (b t s a sd kp : V) : List (Str × V) := putF "kept" kp (putF "said" sd (putF "after" a (putF "spot" s (putF "tag" t (putF "before" b [])))))
structure StepC (K : PySem.W.Frag) (C : Addr) : Prop where
  cl : Cls K C
  n1 : NoAttr K C "before"
  n2 : NoAttr K C "tag"
  n3 : NoAttr K C "spot"
  n4 : NoAttr K C "after"
  n5 : NoAttr K C "said"
  n6 : NoAttr K C "kept"
variable {b t s a sd kp : V}
theorem stepF_before : (stepF b t s a sd kp).lookup ("before" : Str) = some b := by
  unfold stepF
  rw [lookup_putF, if_neg (by decide +kernel), lookup_putF, if_neg (by decide +kernel), lookup_putF, if_neg (by decide +kernel), lookup_putF, if_neg (by decide +kernel), lookup_putF, if_neg (by decide +kernel), lookup_putF, if_pos rfl]
theorem stepF_tag : (stepF b t s a sd kp).lookup ("tag" : Str) = some t := by
  unfold stepF
  rw [lookup_putF, if_neg (by decide +kernel), lookup_putF, if_neg (by decide +kernel), lookup_putF, if_neg (by decide +kernel), lookup_putF, if_neg (by decide +kernel), lookup_putF, if_pos rfl]
theorem stepF_spot : (stepF b t s a sd kp).lookup ("spot" : Str) = some s := by
  unfold stepF
  rw [lookup_putF, if_neg (by decide +kernel), lookup_putF, if_neg (by decide +kernel), lookup_putF, if_neg (by decide +kernel), lookup_putF, if_pos rfl]
theorem stepF_after : (stepF b t s a sd kp).lookup ("after" : Str) = some a := by
  unfold stepF
  rw [lookup_putF, if_neg (by decide +kernel), lookup_putF, if_neg (by decide +kernel), lookup_putF, if_pos rfl]
theorem stepF_said : (stepF b t s a sd kp).lookup ("said" : Str) = some sd := by
  unfold stepF
  rw [lookup_putF, if_neg (by decide +kernel), lookup_putF, if_pos rfl]
theorem stepF_kept : (stepF b t s a sd kp).lookup ("kept" : Str) = some kp := by
  unfold stepF
  rw [lookup_putF, if_pos rfl]
theorem putF_len (n : Str) (v : V) : ∀ fs : List (Str × V), (putF n v fs).length ≤ fs.length + 1
  | [] => Nat.le_refl _
  | (m, u) :: fs => by
    have := putF_len n v fs
    by_cases c : m = n
    · have e : putF n v ((m, u) :: fs) = (m, v) :: fs := by show (if m = n then _ else _) = _; rw [if_pos c]
      rw [e]; exact Nat.le_succ _
    · have e : putF n v ((m, u) :: fs) = (m, u) :: putF n v fs := by show (if m = n then _ else _) = _; rw [if_neg c]
      rw [e]; exact Nat.succ_le_succ this

/-- xs[i:j] of a tuple -/
theorem slT_mid {K : PySem.W.Frag} {H : Hp} {T : List Addr} {Q : VK} {a : Addr} {xs : List V} {i j : Nat} (sq : SqT K H a xs) (q : ∀ p H', SqT K H' p ((xs.take j).drop i) → Ex T [] H H' → Q (.ref p) H') : rSlA K (.ref a) (some (i : Int)) (some (j : Int)) H Q := by
  refine ⟨a, xs, rfl, sq, fun hw => q a H ?_ Ex.refl, fun _ p np => q p _ (SqT.of ?_) (Ex.new np)⟩
  · have h1 := hw.1
    have h2 := hw.2
    rw [HT.sIx_nat] at h1 h2
    by_cases z : xs = []
    · subst z
      have e0 : (([] : List V).take j).drop i = [] := by rw [List.take_nil, List.drop_nil]
      rw [e0]
      exact sq
    · have : 0 < xs.length := List.length_pos_iff.mpr z
      have e1 : i = 0 := by omega
      rw [e1, List.drop_zero, List.take_of_length_le (by omega)]
      exact sq
  · rw [upd_same, cut_mid (Int.natCast_nonneg _) (Int.natCast_nonneg _)]
    rfl
theorem Ats.split {K : PySem.W.Frag} {H : Hp} {es : List D} : ∀ {ds : List D} {xs : List V}, Ats K H xs (ds ++ es) → ∃ ys zs, xs = ys ++ zs ∧ Ats K H ys ds ∧ Ats K H zs es
  | [], xs, h => ⟨[], xs, rfl, Ats.mk_nil, h⟩
  | d :: ds, xs, h => by
    obtain ⟨x, r, rfl, hx, hr⟩ := ats_cons.mp h
    obtain ⟨ys, zs, rfl, h1, h2⟩ := Ats.split hr
    exact ⟨x :: ys, zs, rfl, Ats.mk hx h1, h2⟩
theorem ats_nat {K : PySem.W.Frag} {H : Hp} {xs : List V} {l : List Nat} : Ats K H xs (l.map fun (s : Nat) => D.int s) ↔ xs = l.map fun (s : Nat) => V.int s := by
  have := ats_int (K := K) (H := H) (xs := xs) (l := l.map fun (s : Nat) => (s : Int))
  rw [List.map_map, List.map_map] at this
  exact this
theorem at_encJ {K : PySem.W.Frag} {H : Hp} {v : V} {ss : List Nat} {h : List (Option Int)} : At K H v (encJ ss h) ↔ ∃ a x, v = .ref a ∧ SqT K H a ((ss.map fun (s : Nat) => V.int s) ++ [x]) ∧ At K H x (encH h) := by
  unfold encJ
  constructor
  · intro g
    obtain ⟨a, xs, rfl, sq, ats⟩ := at_tup.mp g
    obtain ⟨ys, zs, rfl, h1, h2⟩ := Ats.split ats
    obtain ⟨x, r, rfl, hx, hr⟩ := ats_cons.mp h2
    cases ats_nil.mp hr
    cases ats_nat.mp h1
    exact ⟨a, x, rfl, sq, hx⟩
  · rintro ⟨a, x, rfl, sq, hx⟩
    exact at_tup.mpr ⟨a, _, rfl, sq, Ats.append (ats_nat.mpr rfl) (Ats.mk hx Ats.mk_nil)⟩
def offs (ms : List M) (i : Nat) : Nat := ((ms.take i).map M.regs).sum
theorem offs_zero (ms : List M) : offs ms 0 = 0 := rfl
theorem offs_succ {ms : List M} {i : Nat} {m : M} (h : ms[i]? = some m) : offs ms (i + 1) = offs ms i + m.regs := by
  unfold offs
  rw [List.take_add_one, h]
  simp
theorem offs_mono (ms : List M) : ∀ {j i : Nat}, i ≤ j → offs ms i ≤ offs ms j
  | 0, i, h => by cases Nat.le_zero.mp h; exact Nat.le_refl _
  | j + 1, i, h => by
    rcases Nat.lt_or_ge i (j + 1) with c | c
    · refine Nat.le_trans (offs_mono ms (Nat.le_of_lt_succ c)) ?_
      cases g : ms[j]? with
      | none =>
        unfold offs
        rw [List.take_add_one, g]
        simp
      | some m => rw [offs_succ g]; exact Nat.le_add_right _ _
    · have : i = j + 1 := by omega
      rw [this]
      exact Nat.le_refl _
def heldA (ms : List M) (h : List (Option Int)) (i : Nat) : List (Option Int) := (h.take (offs ms (i + 1))).drop (offs ms i)
def rowAt (ms : List M) (ss : List Nat) (h : List (Option Int)) (e : Nat × Int) (i : Nat) : Nat × List (Option Int) × List (Int × Option Int) :=
  match ms[i]? with
  | some m => readM m (ss.getD i 0) (heldA ms h i) e
  | none => (0, [], [])
def rowL (ms : List M) (ss : List Nat) (h : List (Option Int)) (e : Nat × Int) (n : Nat) : List (Nat × List (Option Int) × List (Int × Option Int)) := (List.range n).map (rowAt ms ss h e)
def behL (r : List (Nat × List (Option Int) × List (Int × Option Int))) : List (Option Int) := (r.map fun x => x.2.1).flatten
structure RowOk (n : Nat) (ms : List M) (ss : List Nat) (h : List (Option Int)) (t : Nat) : Prop where
  ok : ∀ m ∈ ms, okM n m
  tag : ∀ m ∈ ms, t < m.tags
  len : ss.length = ms.length
  st : ∀ i m, ms[i]? = some m → ss.getD i 0 < m.steps.length
  hl : h.length = offs ms ms.length
  few : h.length < 64
  small : ms.length ≤ 1000
theorem RowOk.mapH {n : Nat} {ms : List M} {ss : List Nat} {h : List (Option Int)} {t : Nat} (o : RowOk n ms ss h t) (g : Int → Int) : RowOk n ms ss (mapH g h) t :=
  ⟨o.ok, o.tag, o.len, o.st, by rw [mapH_len]; exact o.hl, by rw [mapH_len]; exact o.few, o.small⟩
theorem rowL_succ (ms : List M) (ss : List Nat) (h : List (Option Int)) (e : Nat × Int) (n : Nat) : rowL ms ss h e (n + 1) = rowL ms ss h e n ++ [rowAt ms ss h e n] := by
  unfold rowL
  rw [List.range_succ, List.map_append]
  rfl
theorem behL_snoc (r : List (Nat × List (Option Int) × List (Int × Option Int))) (x : Nat × List (Option Int) × List (Int × Option Int)) : behL (r ++ [x]) = behL r ++ x.2.1 := by
  unfold behL
  simp
theorem rowL_len (ms : List M) (ss : List Nat) (h : List (Option Int)) (e : Nat × Int) (n : Nat) : (rowL ms ss h e n).length = n := by unfold rowL; simp
section
variable {n : Nat} {ms : List M} {ss : List Nat} {h : List (Option Int)} {e : Nat × Int}
theorem heldA_len (o : RowOk n ms ss h e.1) {i : Nat} {m : M} (hi : ms[i]? = some m) : (heldA ms h i).length = m.regs := by
  have l1 := (List.getElem?_eq_some_iff.mp hi).1
  have := offs_mono ms (show i + 1 ≤ ms.length from l1)
  unfold heldA
  rw [List.length_drop, List.length_take, o.hl, Nat.min_eq_left this, offs_succ hi]
  omega
theorem rowAt_eq {i : Nat} {m : M} (hi : ms[i]? = some m) : rowAt ms ss h e i = readM m (ss.getD i 0) (heldA ms h i) e := by unfold rowAt; rw [hi]
theorem rowAt_len (o : RowOk n ms ss h e.1) {i : Nat} {m : M} (hi : ms[i]? = some m) : (rowAt ms ss h e i).2.1.length = m.regs := by
  have hm : m ∈ ms := List.mem_of_getElem? hi
  rw [rowAt_eq hi]
  exact (okCt.step (c := (ss.getD i 0, heldA ms h i)) ⟨o.st i m hi, heldA_len o hi⟩ (o.ok m hm) (o.tag m hm)).len
theorem rowAt_st (o : RowOk n ms ss h e.1) {i : Nat} {m : M} (hi : ms[i]? = some m) : (rowAt ms ss h e i).1 < m.steps.length := by
  have hm : m ∈ ms := List.mem_of_getElem? hi
  rw [rowAt_eq hi]
  exact (okCt.step (c := (ss.getD i 0, heldA ms h i)) ⟨o.st i m hi, heldA_len o hi⟩ (o.ok m hm) (o.tag m hm)).st
theorem behL_len (o : RowOk n ms ss h e.1) : ∀ i, i ≤ ms.length → (behL (rowL ms ss h e i)).length = offs ms i
  | 0, _ => rfl
  | i + 1, hi => by
    have g : ms[i]? = some ms[i] := List.getElem?_eq_getElem (by omega)
    rw [rowL_succ, behL_snoc, List.length_append, behL_len o i (by omega), rowAt_len o g, offs_succ g]
end
end Dv

/-! dicts whose keys are tuples of any depth -/
namespace Dv
open PySem PySem.Spec PyProof.Rows L2 GxR Gx
mutual
def kD : NestedKey → D
  | .none => .non
  | .num i => .int i
  | .text x => .str x
  | .tup ks => .tup (kDs ks)
def kDs : List NestedKey → List D
  | [] => []
  | k :: ks => kD k :: kDs ks
end
section
variable {X : Cx} {pins : List (Addr × Obj)} {σ : L2.St} {H : Hp} {s : Shared}
mutual
theorem nested_is (I : Inv X pins σ H s) : ∀ {k : NestedKey} {v : V} {u : Value}, At X.K H v (kD k) → RelV v u → NestedIs s.heap k u
  | .none, v, u, h, r => by
    unfold kD at h
    cases at_non.mp h
    obtain rfl : u = Value.none := r
    exact .none
  | .num i, v, u, h, r => by
    unfold kD at h
    cases at_int.mp h
    obtain ⟨t, rfl⟩ := (show ∃ t, u = Value.int i t from r)
    exact .int _ _
  | .text x, v, u, h, r => by
    unfold kD at h
    cases at_str.mp h
    obtain ⟨t, rfl⟩ := (show ∃ t, u = Value.str x t from r)
    exact .text _ _
  | .tup ks, v, u, h, r => by
    unfold kD at h
    obtain ⟨a, xs, rfl, sq, ats⟩ := at_tup.mp h
    obtain rfl : u = Value.ref a := r
    obtain ⟨its, rv, ⟨o, ho, hc, n, hd⟩, _⟩ := I.tuple sq
    exact .tup ho hc hd (by simpa using nested_all I ats rv)
theorem nested_all (I : Inv X pins σ H s) : ∀ {ks : List NestedKey} {vs : List V} {us : List Value}, Ats X.K H vs (kDs ks) → Vals vs us → NestedAll s.heap ks us
  | [], vs, us, h, r => by
    unfold kDs at h
    cases ats_nil.mp h
    cases r
    exact .nil
  | k :: ks, vs, us, h, r => by
    unfold kDs at h
    obtain ⟨x, rest, rfl, hx, hr⟩ := ats_cons.mp h
    cases r with
    | cons r1 r2 => exact .cons (nested_is I hx r1) (nested_all I hr r2)
end
end
abbrev DE := NestedKey × Addr × V
abbrev NT : List DE → List (NestedKey × Addr × Value) → Prop := Paired fun p q => p.1 = q.1 ∧ p.2.1 = q.2.1 ∧ RelV p.2.2 q.2.2
/-- the dict at a: keys, where their tuples stand, values -/
def DNo (P : Program) (w : World) (a : Addr) (xs : List DE) : HO := .ext fun h => xs.length ≤ sizeLine ∧ (a == sysModules) = false ∧ ∃ ys : List (NestedKey × Addr × Value), NT xs ys ∧
  ∃ o es ep, h.get? a = some o ∧ o.ExactDict ∧ o.data = .dict es ep ∧ es.toList = ys.map (entryOfKey (nestedKind P w)) ∧ (ys.map (·.1)).Nodup
def prDE (xs : List DE) : List (NestedKey × V) := xs.map fun x => (x.1, x.2.2)
def IsDN (P : Program) (w : World) (K : PySem.W.Frag) (H : Hp) (a : Addr) (kvs : List (NestedKey × V)) : Prop :=
  ∃ xs, H a = some (DNo P w a xs) ∧ (∀ x ∈ xs, At K H (.ref x.2.1) (kD x.1) ∧ x.1.depth ≤ 8) ∧ kvs = prDE xs
theorem IsDN.ext {P : Program} {w : World} {K : PySem.W.Frag} {T ms : List Addr} {H H' : Hp} {a : Addr} {kvs : List (NestedKey × V)} (h : IsDN P w K H a kvs) (e : Ex T ms H H') (n : a ∉ ms) : IsDN P w K H' a kvs := by
  obtain ⟨xs, h1, h2, h3⟩ := h
  exact ⟨xs, e.keep a _ n h1 (fun ps z => (by cases z)), fun x hx => ⟨(h2 x hx).1.ext e, (h2 x hx).2⟩, h3⟩
theorem NT.val {xs : List DE} {ys : List (NestedKey × Addr × Value)} (r : NT xs ys) (k : NestedKey) : RelO (valV (prDE xs) k) ((atKey ys k).map (·.2)) := by
  induction r with
  | nil => exact True.intro
  | @cons p q ps qs h t ih =>
    obtain ⟨h1, _, h2⟩ := h
    by_cases e : p.1 = k
    · have e' : q.1 = k := h1.symm.trans e
      have b : atKey (q :: qs) k = some q.2 := by simp [atKey, List.find?_cons, e']
      show RelO (valV ((p.1, p.2.2) :: prDE ps) k) _
      rw [valV_pos (show ((p.1, p.2.2) : NestedKey × V).1 = k from e), b]; exact h2
    · have e' : ¬ q.1 = k := fun z => e (h1.trans z)
      have b : atKey (q :: qs) k = atKey qs k := by simp [atKey, List.find?_cons, e']
      show RelO (valV ((p.1, p.2.2) :: prDE ps) k) _
      rw [valV_neg (show ¬ ((p.1, p.2.2) : NestedKey × V).1 = k from e), b]; exact ih
def repV (xs : List DE) (k : NestedKey) (y : V) : List DE := xs.map fun x => if x.1 = k then (x.1, x.2.1, y) else x
def putX (xs : List DE) (k : NestedKey) (b : Addr) (y : V) : List DE := if (valV (prDE xs) k).isSome then repV xs k y else xs ++ [(k, b, y)]
theorem NT.repl {xs : List DE} {ys : List (NestedKey × Addr × Value)} (r : NT xs ys) (k : NestedKey) {y : V} {u : Value} (ry : RelV y u) : NT (repV xs k y) (ys.map (putAt k u)) := by
  unfold repV
  induction r with
  | nil => exact .nil
  | @cons p q ps qs h t ih =>
    rw [List.map_cons, List.map_cons]
    refine .cons ?_ ih
    obtain ⟨h1, h2, h3⟩ := h
    unfold putAt
    by_cases e : p.1 = k
    · rw [if_pos e, if_pos (h1.symm.trans e)]; exact ⟨h1, h2, ry⟩
    · rw [if_neg e, if_neg (fun z => e (h1.trans z))]; exact ⟨h1, h2, h3⟩
theorem NT.put {xs : List DE} {ys : List (NestedKey × Addr × Value)} (r : NT xs ys) (k : NestedKey) {b : Addr} {y : V} {u : Value} (ry : RelV y u) : NT (putX xs k b y) (storedH ys k b u) := by
  have e : (valV (prDE xs) k).isSome = (atKey ys k).isSome := by rw [(r.val k).isSome_eq, Option.isSome_map]
  unfold putX storedH
  rw [e]
  by_cases q : (atKey ys k).isSome = true
  · rw [if_pos q, if_pos q]; exact r.repl k ry
  · rw [if_neg q, if_neg q]; exact Paired.snoc r ⟨rfl, rfl, ry⟩
theorem prDE_put (xs : List DE) (k : NestedKey) (b : Addr) (y : V) : prDE (putX xs k b y) = putK (prDE xs) k y := by
  unfold putX putK
  rw [valV_any]
  split
  · unfold prDE repV
    rw [List.map_map, List.map_map]
    refine List.map_congr_left fun x _ => ?_
    show ((if x.1 = k then (x.1, x.2.1, y) else x).1, (if x.1 = k then (x.1, x.2.1, y) else x).2.2) = if x.1 = k then (x.1, y) else (x.1, x.2.2)
    split <;> rfl
  · unfold prDE
    rw [List.map_append]
    rfl
theorem putX_mem {xs : List DE} {k : NestedKey} {b : Addr} {y : V} {x : DE} (h : x ∈ putX xs k b y) : (x.1 = k ∧ x.2.1 = b) ∨ ∃ z ∈ xs, z.1 = x.1 ∧ z.2.1 = x.2.1 := by
  unfold putX at h
  split at h
  · obtain ⟨z, hz, e⟩ := List.mem_map.mp h
    refine .inr ⟨z, hz, ?_⟩
    rw [← e]
    split <;> exact ⟨rfl, rfl⟩
  · rcases List.mem_append.mp h with h | h
    · exact .inr ⟨x, h, rfl, rfl⟩
    · rw [List.mem_singleton.mp h]
      exact .inl ⟨rfl, rfl⟩
theorem putX_len (xs : List DE) (k : NestedKey) (b : Addr) (y : V) : (putX xs k b y).length ≤ xs.length + 1 := by
  unfold putX
  split
  · unfold repV; rw [List.length_map]; omega
  · rw [List.length_append]; exact Nat.le_refl _

section
variable {X : Cx} {pins : List (Addr × Obj)} {σ : L2.St} {H : Hp} {s : Shared} {a : Addr} {kvs : List (NestedKey × V)}
theorem dn_of (I : Inv X pins σ H s) {xs : List DE} (h : H a = some (DNo X.prog X.w a xs)) (hk : ∀ x ∈ xs, At X.K H (.ref x.2.1) (kD x.1) ∧ x.1.depth ≤ 8) : xs.length ≤ sizeLine ∧ (a == sysModules) = false ∧
    ∃ ys, NT xs ys ∧ s.heap.DictOfH (nestedKind X.prog X.w) a ys := by
  have z : ObjOk X.prog X.w H s.heap a (DNo X.prog X.w a xs) := I.hok a _ h
  obtain ⟨⟨z1, z2, ys, r, o, es, ep, h1, h2, h3, h4, h5⟩, _⟩ := z
  refine ⟨z1, z2, ys, r, o, es, ep, h1, h2, h3, h4, fun y hy => ?_, h5⟩
  have all : ∀ {l : List DE} {m : List (NestedKey × Addr × Value)}, NT l m → (∀ x ∈ l, At X.K H (.ref x.2.1) (kD x.1) ∧ x.1.depth ≤ 8) → ∀ y ∈ m, (nestedKind X.prog X.w).is s.heap y.1 y.2.1 := by
    intro l m q
    induction q with
    | nil => intro _ y hy; exact nomatch hy
    | @cons p q ps qs hq t ih =>
      intro hall y hy
      rcases List.mem_cons.mp hy with e | hy
      · subst e
        have hp := hall p (by simp)
        rw [← hq.1, ← hq.2.1]
        exact ⟨nested_is I hp.1 rfl, hp.2⟩
      · exact ih (fun x hx => hall x (by simp [hx])) y hy
  exact all r hk y hy
theorem key_is (I : Inv X pins σ H s) {b : Addr} {k : NestedKey} (h : At X.K H (.ref b) (kD k)) (d : k.depth ≤ 8) : (nestedKind X.prog X.w).is s.heap k b := ⟨nested_is I h rfl, d⟩
theorem room_nested {A : Around} (hu : A.units + 9 < cLine) : (nestedKind X.prog X.w).room A.in1 := by
  show A.in1.units + 8 < cLine
  rw [Around.in1_units]
  omega
theorem dno_new {P : Program} {w : World} {H' : Hp} {h' : Heap} {xs : List DE} {ys : List (NestedKey × Addr × Value)} (z : xs.length ≤ sizeLine) (hd : (a == sysModules) = false) (r : NT xs ys) (dd : h'.DictOfH (nestedKind P w) a ys) :
    ObjOk P w H' h' a (DNo P w a xs) := by
  obtain ⟨o, es, ep, h1, h2, h3, h4, _, h5⟩ := dd
  refine ⟨⟨z, hd, ys, r, o, es, ep, h1, h2, h3, h4, h5⟩, ⟨o, h1⟩, ?_⟩
  rintro g1 g2 ⟨q1, q2, q3, q4, o', es', ep', k1, k2, k3, k4, k5⟩ hg
  exact ⟨q1, q2, q3, q4, o', es', ep', hg _ k1, k2, k3, k4, k5⟩
theorem dn_typeIs (I : Inv X pins σ H s) (h : IsDN X.prog X.w X.K H a kvs) : s.TypeIs (.ref a) "dict" := by
  obtain ⟨xs, h1, h2, _⟩ := h
  obtain ⟨_, _, ys, _, dd⟩ := dn_of I h1 h2
  exact dd.typeIs
variable {A : Around} {E : Value → Shared → Prop} {b : Addr} {k : NestedKey}
theorem dn_in {Q : Value → Shared → Prop} (hu : A.units + 9 < cLine) (I : Inv X pins σ H s) (h : IsDN X.prog X.w X.K H a kvs) (hb : At X.K H (.ref b) (kD k)) (d : k.depth ≤ 8) (q : ∀ s', Inv X pins σ H s' → Q (.bool (valV kvs k).isSome) s') :
    wpAny (model X.prog X.w) A (compareOp .In (.ref b) (.ref a)) Q E s := by
  obtain ⟨xs, h1, h2, rfl⟩ := h
  obtain ⟨z, hd, ys, r, dd⟩ := dn_of I h1 h2
  refine wpAny_in_heap (room_nested hu) (key_is I hb d) hd dd ?_
  have e := (r.val k).isSome_eq
  rw [Option.isSome_map] at e
  rw [← e]
  exact q _ (I.tok _)
theorem dn_notIn {Q : Value → Shared → Prop} (hu : A.units + 9 < cLine) (I : Inv X pins σ H s) (h : IsDN X.prog X.w X.K H a kvs) (hb : At X.K H (.ref b) (kD k)) (d : k.depth ≤ 8) (q : ∀ s', Inv X pins σ H s' → Q (.bool (!(valV kvs k).isSome)) s') :
    wpAny (model X.prog X.w) A (compareOp .NotIn (.ref b) (.ref a)) Q E s := by
  obtain ⟨xs, h1, h2, rfl⟩ := h
  obtain ⟨z, hd, ys, r, dd⟩ := dn_of I h1 h2
  have e := (r.val k).isSome_eq
  rw [Option.isSome_map] at e
  show wpAny _ _ (do return .bool (!(← contains (.ref a) (.ref b)))) Q E s
  refine wpAny_bind (wpAny_contains_heap (room_nested hu) (key_is I hb d) hd dd (wpAny_pure ?_))
  rw [← e]
  exact q _ (I.tok _)
theorem dn_getItem {v : V} {Q : Value → Shared → Prop} (hu : A.units + 9 < cLine) (I : Inv X pins σ H s) (h : IsDN X.prog X.w X.K H a kvs) (hb : At X.K H (.ref b) (kD k)) (d : k.depth ≤ 8) (hv : valV kvs k = some v) (q : ∀ w' s', Inv X pins σ H s' → RelV v w' → Q w' s') :
    wpAny (model X.prog X.w) A (getItem (.ref a) (.ref b)) Q E s := by
  obtain ⟨xs, h1, h2, rfl⟩ := h
  obtain ⟨z, hd, ys, r, dd⟩ := dn_of I h1 h2
  obtain ⟨w', hw, rw'⟩ := RelO.some_of (v := v) (o := (atKey ys k).map (·.2)) (by rw [← hv]; exact r.val k)
  obtain ⟨p, hp, hp2⟩ := Option.map_eq_some_iff.mp hw
  refine wpAny_getItem_heap (room_nested hu) (key_is I hb d) dd hp ?_
  rw [hp2]
  exact q w' _ (I.tok _) rw'
/-- the dict behind a[k] = v, whatever stands for it -/
theorem dn_setItem {v : V} {r : Value} {Q : Unit → Shared → Prop} (hu : A.units + 9 < cLine) (I : Inv X pins σ H s) (h : IsDN X.prog X.w X.K H a kvs) (hb : At X.K H (.ref b) (kD k)) (d : k.depth ≤ 8) (hl : kvs.length < sizeLine) (rv : RelV v r)
    (q : ∀ o s', Inv X pins σ (upd H a o) s' → (∀ ps, o ≠ .tbl ps) → IsDN X.prog X.w X.K (upd H a o) a (putK kvs k v) → Q () s') :
    wpAny (model X.prog X.w) A (setItem (.ref a) (.ref b) r) Q E s := by
  obtain ⟨xs, h1, h2, rfl⟩ := h
  obtain ⟨z, hd, ys, rr, dd⟩ := dn_of I h1 h2
  have hz : ys.length ≤ sizeLine := by rw [← Paired.length rr]; exact z
  have hl' : (putX xs k b v).length ≤ sizeLine := by
    have := putX_len xs k b v
    unfold prDE at hl
    rw [List.length_map] at hl
    omega
  refine wpAny_setItem_heap (hsz := hz) (room_nested hu) (key_is I hb d) dd fun h' dd' hs => q (DNo X.prog X.w a (putX xs k b v)) _ ?_ (fun ps e => by cases e) ?_
  · have he : ∃ q, h'.get? a = some q := let ⟨q, _, _, hq, _⟩ := dd'; ⟨q, hq⟩
    exact d_write I (by rw [h1]; exact True.intro) hs he (dno_new hl' hd (rr.put k rv) dd')
  · have up : ∀ {v : V} {dd : D}, At X.K H v dd → At X.K (upd H a (DNo X.prog X.w a (putX xs k b v))) v dd := fun g => by
      refine Dv.At.ext (T := []) (ms := [a]) ⟨fun c o n e _ => by rw [upd_ne (fun z => n (by rw [z]; simp))]; exact e, fun c ys e => rd_upd e (fun z => ?_), fun _ P hP => (by cases hP), fun c u e => upd_there e⟩ g
      subst z
      rcases e with e | ⟨ob, e⟩ <;> (rw [h1] at e; cases e)
    have up2 : ∀ {y : V} {dd : D}, At X.K H y dd → At X.K (upd H a (DNo X.prog X.w a (putX xs k b v))) y dd := fun {y dd} g => by
      refine Dv.At.ext (T := []) (ms := [a]) ⟨fun c o n e _ => by rw [upd_ne (fun z => n (by rw [z]; simp))]; exact e, fun c ys e => rd_upd e (fun z => ?_), fun _ P hP => (by cases hP), fun c u e => upd_there e⟩ g
      subst z
      rcases e with e | ⟨ob, e⟩ <;> (rw [h1] at e; cases e)
    refine ⟨_, upd_same, fun x hx => ?_, (prDE_put xs k b v).symm⟩
    rcases putX_mem hx with ⟨e1, e2⟩ | ⟨z, hz, e1, e2⟩
    · rw [e1, e2]; exact ⟨up2 hb, d⟩
    · rw [← e1, ← e2]; exact ⟨up2 (h2 z hz).1, (h2 z hz).2⟩
end
theorem wpAny_Dict_pairsH' {prog : Program} {w : World} {K : Type} [DecidableEq K] {knd : HeapKind prog w K} {A : Around} {E : Value → Shared → Prop} {s : Shared} {env : Env} {keys : List (Option Expr)} {values : List Expr} {pos : Pos} {pairs : List (Sem Value × Sem Value)} {Q : Value → Shared → Prop} (hu : knd.room A)
    (hshape : (evalEachOpt keys env).zip ((evalEach values env).map fun v => do let x ← v; standAt pos; pure x) = pairs.map fun p => (some p.1, p.2)) (h0 : pairs ≠ []) (hlen : pairs.length ≤ 15)
    (h : wpAny (model prog w) A (evalPairs pairs) (fun vs s₁ => ∃ ps, CarriesH knd s₁.heap vs ps ∧ s₁.heap.DictOfH knd s.heap.objs.size [] ∧
      ∀ h' tk, h'.DictOfH knd s.heap.objs.size (storedAllH [] ps) → Heap.SameBut s.heap.objs.size s₁.heap h' → Q (.ref s.heap.objs.size) { s₁ with heap := h', toks := tk }) E
      { s with heap := s.heap.push { cls := .type "dict", data := .dict #[] } }) :
    wpAny (model prog w) A (eval (.Dict keys values pos) env) Q E s := by
  rw [arm_eval_Dict, hshape, dictDisplay_pairs pairs h0 (by omega)]
  exact wpAny_bind (wpAny_standAt (wpAny_bind (wpAny_subDictH (knd := knd) (Q := fun d s' => wpAny (model prog w) A (pure (Value.ref d)) Q E s') hu hlen
    (wpAny_mono h (fun vs s₁ h₁ => by obtain ⟨ps, hc, hm, hq⟩ := h₁; exact ⟨ps, hc, hm, fun h' tk a b => wpAny_pure (hq h' tk a b)⟩) fun _ _ e => e))))
/-! readings -/
def tNGet (P : Program) (w : World) (K : PySem.W.Frag) (td ty : TE) : TE := fun σ H Q => td σ H fun x H1 => ty σ H1 fun y H2 => ∃ a b kvs k v, x = .ref a ∧ y = .ref b ∧ IsDN P w K H2 a kvs ∧ At K H2 (.ref b) (kD k) ∧ k.depth ≤ 8 ∧ valV kvs k = some v ∧ Q v H2
def tNIn (P : Program) (w : World) (K : PySem.W.Frag) (ty td : TE) : TE := fun σ H Q => ty σ H fun y H1 => td σ H1 fun x H2 => ∃ a b kvs k, x = .ref a ∧ y = .ref b ∧ IsDN P w K H2 a kvs ∧ At K H2 (.ref b) (kD k) ∧ k.depth ≤ 8 ∧ Q (.bl (valV kvs k).isSome) H2
def tNNotIn (P : Program) (w : World) (K : PySem.W.Frag) (ty td : TE) : TE := fun σ H Q => ty σ H fun y H1 => td σ H1 fun x H2 => ∃ a b kvs k, x = .ref a ∧ y = .ref b ∧ IsDN P w K H2 a kvs ∧ At K H2 (.ref b) (kD k) ∧ k.depth ≤ 8 ∧ Q (.bl (!(valV kvs k).isSome)) H2
def sNPut (P : Program) (w : World) (K : PySem.W.Frag) (td ty tv : TE) : TS := fun D σ H => tv σ H fun v H1 => td σ H1 fun x H2 => ty σ H2 fun y H3 => ∃ a b kvs k, x = .ref a ∧ y = .ref b ∧ IsDN P w K H3 a kvs ∧ At K H3 (.ref b) (kD k) ∧ k.depth ≤ 8 ∧ kvs.length < sizeLine ∧
  ∀ o, (∀ ps, o ≠ .tbl ps) → IsDN P w K (upd H3 a o) a (putK kvs k v) → D.nx σ (upd H3 a o)
/-- {k: v} -/
def tNDisp1 (P : Program) (w : World) (K : PySem.W.Frag) (tk tv : TE) : TE := fun σ H Q => ∀ p, H p = none → ∀ o0, (∀ ps, o0 ≠ .tbl ps) → tk σ (upd H p o0) fun y H1 => tv σ H1 fun v H2 => H2 p = some o0 ∧ ∃ b k, y = .ref b ∧ At K H2 (.ref b) (kD k) ∧ k.depth ≤ 8 ∧
  ∀ o, (∀ ps, o ≠ .tbl ps) → IsDN P w K (upd H2 p o) p [(k, v)] → Q (.ref p) (upd H2 p o)
section
variable {X : Cx} {o i e value : Expr} {pos pos' tpos : Pos} {td ty tv : TE}
theorem pe_nget (hu : X.A.units + 9 < cLine) (ho : PE X o td) (hi : PE X i ty) (hs : NoSl i) : PE X (.Subscript o i pos) (tNGet X.prog X.w X.K td ty) := by
  refine ⟨fun pins s σ H Q I h => ?_⟩
  refine subD_of PySem.F.slot_dict_getitem.lookup hs (thn (ho.run pins s σ H _ I h) fun u s1 ⟨x, H1, I1, rx, q1⟩ => thn (hi.run pins s1 σ H1 _ I1 q1) fun iv s2 ⟨y, H2, I2, ry, a, b, kvs, k, v, ex, ey, g, hb, d, hv, q2⟩ => ?_)
  subst ex ey
  obtain rfl : u = Value.ref a := rx
  obtain rfl : iv = Value.ref b := ry
  exact ⟨dn_typeIs I2 g, dn_getItem hu I2 g hb d hv fun w' s3 I3 rw' => ⟨v, H2, I3, rw', q2⟩⟩
theorem pc_nin (hu : X.A.units + 9 < cLine) (hi : PE X i ty) (ho : PE X o td) : PC X .In i o (tNIn X.prog X.w X.K ty td) := by
  refine ⟨fun pins s σ H Q I h => ?_⟩
  refine thn (hi.run pins s σ H _ I h) fun iv s1 ⟨y, H1, I1, ry, q1⟩ => thn (ho.run pins s1 σ H1 _ I1 q1) fun u s2 ⟨x, H2, I2, rx, a, b, kvs, k, ex, ey, g, hb, d, q2⟩ => ?_
  subst ex ey
  obtain rfl : u = Value.ref a := rx
  obtain rfl : iv = Value.ref b := ry
  exact dn_in hu I2 g hb d fun s3 I3 => ⟨.bl (valV kvs k).isSome, H2, I3, rfl, q2⟩
theorem pc_nnotin (hu : X.A.units + 9 < cLine) (hi : PE X i ty) (ho : PE X o td) : PC X .NotIn i o (tNNotIn X.prog X.w X.K ty td) := by
  refine ⟨fun pins s σ H Q I h => ?_⟩
  refine thn (hi.run pins s σ H _ I h) fun iv s1 ⟨y, H1, I1, ry, q1⟩ => thn (ho.run pins s1 σ H1 _ I1 q1) fun u s2 ⟨x, H2, I2, rx, a, b, kvs, k, ex, ey, g, hb, d, q2⟩ => ?_
  subst ex ey
  obtain rfl : u = Value.ref a := rx
  obtain rfl : iv = Value.ref b := ry
  exact dn_notIn hu I2 g hb d fun s3 I3 => ⟨.bl (!(valV kvs k).isSome), H2, I3, rfl, q2⟩
theorem ps_nput (hu : X.A.units + 9 < cLine) (ho : PE X o td) (hi : PE X i ty) (hv : PE X value tv) (hs : swapsWith value (some (.Subscript o i pos')) pos.line X.env = pure false) :
    PS X (.Assign [.Subscript o i pos'] value pos) (sNPut X.prog X.w X.K td ty tv) := by
  refine ⟨fun pins s σ H D I h => ?_⟩
  refine wpAny_Assign_Subscript (thn (hv.run pins s σ H _ I h) fun r s1 ⟨v, H1, I1, rv, q1⟩ => thn (ho.run pins s1 σ H1 _ I1 q1) fun u s2 ⟨x, H2, I2, rx, q2⟩ => thn (hi.run pins s2 σ H2 _ I2 q2) fun iv s3 ⟨y, H3, I3, ry, a, b, kvs, k, ex, ey, g, hb, d, hl, q3⟩ => ?_) hs
  subst ex ey
  obtain rfl : u = Value.ref a := rx
  obtain rfl : iv = Value.ref b := ry
  exact dn_setItem hu I3 g hb d hl rv fun o s4 I4 ot g4 => ⟨σ, _, I4, q3 o ot g4⟩
theorem pe_ndisp1 (hu : X.A.units + 9 < cLine) (hk : PE X i ty) (hv : PE X value tv) : PE X (.Dict [some i] [value] pos) (tNDisp1 X.prog X.w X.K ty tv) := by
  refine ⟨fun pins s σ H Q I q => ?_⟩
  have hn := I.hok.fresh (Nat.le_refl s.heap.objs.size)
  have nsys : (s.heap.objs.size == sysModules) = false := beq_eq_false_iff_ne.mpr (Ne.symm (Nat.ne_of_lt I.big))
  have I1 := I.laid (a := s.heap.objs.size) (o := DNo X.prog X.w s.heap.objs.size []) (h' := s.heap.push { cls := .type "dict", data := .dict #[] }) (t' := s.toks) (fun _ _ q => Heap.get?_push_of_some _ q) (Nat.le_refl _)
    (dno_new (Nat.zero_le _) nsys .nil (Heap.DictOfH.new s.heap))
  refine wpAny_Dict_pairsH' (knd := nestedKind X.prog X.w) (pairs := pairTrees [some i] [value] X.env pos) (by show X.A.units + 8 < cLine; omega) (zip_pairTrees [some i] [value] X.env pos rfl rfl) (fun z => by cases z) (by show 1 ≤ 15; decide) ?_
  refine pairTrees_cons_walk (thn (hk.run pins _ σ _ _ I1 (q _ hn _ (fun ps e => by cases e))) fun u s1 ⟨y, H1, I1', ry, q1⟩ => thn (hv.run pins s1 σ H1 _ I1' q1) fun w2 s2 ⟨v, H2, I2, rv, h0, b, k, ey, hb, d, q2⟩ => pairTrees_nil_walk ?_)
  subst ey
  obtain rfl : u = Value.ref b := ry
  obtain ⟨z, hd, ys, rr, dd⟩ := dn_of I2 h0 (fun x hx => by cases hx)
  cases rr
  refine ⟨[(k, b, w2)], ⟨rfl, rfl, key_is I2 hb d, trivial⟩, dd, fun h' tk dd' hs => ?_⟩
  have rr' : NT [(k, b, v)] [(k, b, w2)] := .cons ⟨rfl, rfl, rv⟩ .nil
  have he : ∃ q, h'.get? s.heap.objs.size = some q := let ⟨q, _, _, hq, _⟩ := dd'; ⟨q, hq⟩
  refine ⟨.ref s.heap.objs.size, _, d_write I2 (by rw [h0]; exact True.intro) hs he (dno_new (xs := [(k, b, v)]) (by show 1 ≤ sizeLine; decide) nsys rr' dd'), rfl, q2 _ (fun ps e => by cases e) ⟨[(k, b, v)], upd_same, fun x hx => ?_, rfl⟩⟩
  cases List.mem_singleton.mp hx
  refine ⟨?_, d⟩
  refine Dv.At.ext (T := []) (ms := [s.heap.objs.size]) ⟨fun c o n e _ => by rw [upd_ne (fun z => n (by rw [z]; simp))]; exact e, fun c ys e => rd_upd e (fun z => ?_), fun _ P hP => (by cases hP), fun c u e => upd_there e⟩ hb
  subst z
  rcases e with e | ⟨ob, e⟩ <;> (rw [h0] at e; cases e)
end
/-! x in a list or a tuple of such data -/
def rInN (K : PySem.W.Frag) (neg : Bool) : V → V → Hp → VK → Prop := fun x y H Q => ∃ p xs ks k, y = .ref p ∧ (SqL K H p xs ∨ SqT K H p xs) ∧ Ats K H xs (kDs ks) ∧ At K H x (kD k) ∧ k.depth ≤ 8 ∧ Q (.bl (if neg then !decide (k ∈ ks) else decide (k ∈ ks))) H
open Classical in
noncomputable def isK (h : Heap) (k : NestedKey) (u : Value) : Bool := decide (NestedIs h k u)
open Classical in
theorem isK_iff {h : Heap} {k : NestedKey} {u : Value} : isK h k u = true ↔ NestedIs h k u := by unfold isK; exact decide_eq_true_iff
theorem isK_of {h : Heap} {k k' : NestedKey} {u : Value} (hu : NestedIs h k' u) : isK h k u = NestedKey.beq k' k := by
  rw [Bool.eq_iff_iff, isK_iff]
  constructor
  · intro z
    rw [NestedIs.inj _ _ _ hu z, NestedKey.beq_self]
  · intro e
    rw [← NestedKey.eq_of_beq _ _ e]
    exact hu
theorem anyK {h : Heap} {k : NestedKey} : ∀ {ks : List NestedKey} {us : List Value}, NestedAll h ks us → us.any (isK h k) = decide (k ∈ ks)
  | [], us, r => by cases r; rfl
  | k' :: ks, us, r => by
    cases r with
    | cons r1 r2 =>
      rw [List.any_cons, isK_of r1, anyK r2]
      by_cases e : k' = k
      · subst e
        rw [NestedKey.beq_self]
        simp
      · have : NestedKey.beq k' k = false := by
          rw [← NestedKey.decide_eq]
          exact decide_eq_false e
        rw [this, Bool.false_or]
        rw [decide_eq_decide]
        simp [Ne.symm e]
theorem memK {h : Heap} : ∀ {ks : List NestedKey} {us : List Value} {u : Value}, NestedAll h ks us → u ∈ us → ∃ k, NestedIs h k u
  | [], us, u, r, m => by cases r; cases m
  | k' :: ks, us, u, r, m => by
    cases r with
    | cons r1 r2 =>
      rcases List.mem_cons.mp m with e | m
      · rw [e]; exact ⟨_, r1⟩
      · exact memK r2 m
section
variable {X : Cx}
theorem eqK {pins : List (Addr × Obj)} {σ : L2.St} {H : Hp} {s : Shared} {k : NestedKey} {v : Value} (hu : X.A.units + 9 < cLine) (hx : NestedIs s.heap k v) (d : k.depth ≤ 8) {ks : List NestedKey} {us : List Value} (r : NestedAll s.heap ks us) : ∀ y, y ∈ us → SeqAt.EqAt X.A.in1 s y v (isK s.heap k y) := fun y hy => by
  obtain ⟨k', hk'⟩ := memK r hy
  rw [isK_of hk']
  refine eqAt_key k' k X.A.in1 s y v hk' hx ?_
  rw [Around.in1_units]
  have := Nat.min_le_right k'.depth k.depth
  omega
theorem op_in_nest (hu : X.A.units + 9 < cLine) : OpR X (compareOp .In) (rInN X.K false) := by
  intro pins s σ H x y v u Q I rx ry h
  obtain ⟨p, xs, ks, k, rfl, hq, hk, hx, d, q⟩ := h
  cases ry
  have hx' := nested_is I hx rx
  rcases hq with hq | hq
  · obtain ⟨its, r, pl, hz⟩ := I.list hq
    have r' := nested_all I hk r
    refine SeqAt.in_listAt (isK s.heap k) pl.isList (fun w hw => eqK (pins := pins) (σ := σ) (H := H) hu hx' d r' w (by simpa using hw)) ⟨.bl _, H, I, rfl, ?_⟩
    rw [show its.toArray.any (isK s.heap k) = its.any (isK s.heap k) by simp, anyK r']
    exact q
  · obtain ⟨its, r, pl, hz⟩ := I.tuple hq
    have r' := nested_all I hk r
    refine SeqAt.in_tupleAt (isK s.heap k) pl (fun w hw => eqK (pins := pins) (σ := σ) (H := H) hu hx' d r' w (by simpa using hw)) ⟨.bl _, H, I, rfl, ?_⟩
    rw [show its.toArray.any (isK s.heap k) = its.any (isK s.heap k) by simp, anyK r']
    exact q
theorem op_notIn_nest (hu : X.A.units + 9 < cLine) : OpR X (compareOp .NotIn) (rInN X.K true) := by
  intro pins s σ H x y v u Q I rx ry h
  obtain ⟨p, xs, ks, k, rfl, hq, hk, hx, d, q⟩ := h
  cases ry
  have hx' := nested_is I hx rx
  rcases hq with hq | hq
  · obtain ⟨its, r, pl, hz⟩ := I.list hq
    have r' := nested_all I hk r
    refine SeqAt.notIn_listAt (isK s.heap k) pl.isList (fun w hw => eqK (pins := pins) (σ := σ) (H := H) hu hx' d r' w (by simpa using hw)) ⟨.bl _, H, I, rfl, ?_⟩
    rw [show its.toArray.any (isK s.heap k) = its.any (isK s.heap k) by simp, anyK r']
    exact q
  · obtain ⟨its, r, pl, hz⟩ := I.tuple hq
    have r' := nested_all I hk r
    refine SeqAt.notIn_tupleAt (isK s.heap k) pl (fun w hw => eqK (pins := pins) (σ := σ) (H := H) hu hx' d r' w (by simpa using hw)) ⟨.bl _, H, I, rfl, ?_⟩
    rw [show its.toArray.any (isK s.heap k) = its.any (isK s.heap k) by simp, anyK r']
    exact q
/-- len of a set of ints -/
theorem cr_lenSO : CallR X (.builtin "len") (fun xs H Q => ∃ a S n, xs = [.ref a] ∧ H a = some (SetO X.w a S n) ∧ Q (.int (n : Nat)) H) := by
  intro pins s σ H xs us Q I r h
  obtain ⟨a, S, n, rfl, ha, q⟩ := h
  cases r with
  | cons r1 r2 =>
    cases r2
    cases r1
    obtain ⟨o, es, ep, t, ho, hex, hd, _, _, _, hlt, hf, hn, _⟩ := setO_get I ha
    refine call_len_set ho hex hd hf (by have : scanBound = 4096 := rfl; omega) ⟨.int n, H, I.tok _, ⟨_, by rw [hn]⟩, q⟩
end
end Dv

/-! Two machines joined: placed conditions, conditions put together, cases in order. -/
namespace Dv
open PySem PySem.Spec PyProof.Rows L2 GxR Gx
mutual
def eqC : C → C → Bool
  | .tru, .tru => true
  | .fls, .fls => true
  | .less a b, .less c d => decide (a = c) && decide (b = d)
  | .same a b, .same c d => decide (a = c) && decide (b = d)
  | .emp a, .emp b => decide (a = b)
  | .nt a, .nt b => eqC a b
  | .all a, .all b => eqCs a b
  | .any a, .any b => eqCs a b
  | _, _ => false
def eqCs : List C → List C → Bool
  | [], [] => true
  | a :: r, b :: t => eqC a b && eqCs r t
  | _, _ => false
end
mutual
theorem eqC_refl : ∀ a : C, eqC a a = true
  | .tru => by unfold eqC; rfl
  | .fls => by unfold eqC; rfl
  | .less a b => by unfold eqC; simp
  | .same a b => by unfold eqC; simp
  | .emp a => by unfold eqC; simp
  | .nt a => by unfold eqC; exact eqC_refl a
  | .all a => by unfold eqC; exact eqCs_refl a
  | .any a => by unfold eqC; exact eqCs_refl a
theorem eqCs_refl : ∀ a : List C, eqCs a a = true
  | [] => by unfold eqCs; rfl
  | a :: r => by unfold eqCs; rw [eqC_refl a, eqCs_refl r]; rfl
end
mutual
theorem eqC_eq : ∀ a b : C, eqC a b = true → a = b
  | .tru, b, h => by cases b <;> first | rfl | (unfold eqC at h; cases h)
  | .fls, b, h => by cases b <;> first | rfl | (unfold eqC at h; cases h)
  | .less a c, b, h => by
    cases b <;> first | (unfold eqC at h; simp at h; rw [h.1, h.2]) | (unfold eqC at h; cases h)
  | .same a c, b, h => by
    cases b <;> first | (unfold eqC at h; simp at h; rw [h.1, h.2]) | (unfold eqC at h; cases h)
  | .emp a, b, h => by
    cases b <;> first | (unfold eqC at h; simp at h; rw [h]) | (unfold eqC at h; cases h)
  | .nt a, b, h => by
    cases b with
    | nt c => unfold eqC at h; rw [eqC_eq a c h]
    | _ => unfold eqC at h; cases h
  | .all a, b, h => by
    cases b with
    | all c => unfold eqC at h; rw [eqCs_eq a c h]
    | _ => unfold eqC at h; cases h
  | .any a, b, h => by
    cases b with
    | any c => unfold eqC at h; rw [eqCs_eq a c h]
    | _ => unfold eqC at h; cases h
theorem eqCs_eq : ∀ a b : List C, eqCs a b = true → a = b
  | [], b, h => by cases b <;> first | rfl | (unfold eqCs at h; cases h)
  | a :: r, b, h => by
    cases b with
    | nil => unfold eqCs at h; cases h
    | cons c t =>
      unfold eqCs at h
      obtain ⟨h1, h2⟩ := (Bool.and_eq_true _ _).mp h
      rw [eqC_eq a c h1, eqCs_eq r t h2]
end
instance decEqC : DecidableEq C := fun a b => if h : eqC a b = true then isTrue (eqC_eq a b h) else isFalse fun e => h (by rw [e]; exact eqC_refl b)

/-! ### conditions as keys -/
mutual
def keyC : C → NestedKey
  | .tru => .tup [.text "true"]
  | .fls => .tup [.text "false"]
  | .less a b => .tup [.text "less", .num a, .num b]
  | .same a b => .tup [.text "same", .num a, .num b]
  | .emp a => .tup [.text "empty", .num a]
  | .nt c => .tup [.text "not", keyC c]
  | .all cs => .tup [.text "all", .tup (keyCs cs)]
  | .any cs => .tup [.text "any", .tup (keyCs cs)]
def keyCs : List C → List NestedKey
  | [] => []
  | c :: cs => keyC c :: keyCs cs
end
theorem keyCs_map : ∀ cs : List C, keyCs cs = cs.map keyC
  | [] => by unfold keyCs; rfl
  | c :: cs => by unfold keyCs; rw [keyCs_map cs]; rfl
mutual
theorem kD_keyC : ∀ c : C, kD (keyC c) = encC c
  | .tru => by unfold keyC encC kD; simp only [kDs, kD]
  | .fls => by unfold keyC encC kD; simp only [kDs, kD]
  | .less a b => by unfold keyC encC kD; simp only [kDs, kD]
  | .same a b => by unfold keyC encC kD; simp only [kDs, kD]
  | .emp a => by unfold keyC encC kD; simp only [kDs, kD]
  | .nt c => by unfold keyC encC kD; simp only [kDs, kD, kD_keyC c]
  | .all cs => by unfold keyC encC kD; simp only [kDs, kD, kDs_keyC cs]
  | .any cs => by unfold keyC encC kD; simp only [kDs, kD, kDs_keyC cs]
theorem kDs_keyC : ∀ cs : List C, kDs (keyCs cs) = encCs cs
  | [] => by unfold keyCs encCs kDs; rfl
  | c :: cs => by unfold keyCs encCs kDs; rw [kD_keyC c, kDs_keyC cs]
end
mutual
theorem encC_inj : ∀ {c d : C}, encC c = encC d → c = d
  | .tru, d, h => by cases d <;> (unfold encC at h; simp at h) <;> (first | rfl | first | exact absurd h (by decide) | exact absurd h.1 (by decide))
  | .fls, d, h => by cases d <;> (unfold encC at h; simp at h) <;> (first | rfl | first | exact absurd h (by decide) | exact absurd h.1 (by decide))
  | .less a b, d, h => by
    cases d <;> (unfold encC at h; simp at h) <;> (first | first | exact absurd h (by decide) | exact absurd h.1 (by decide) | (rw [h.1, h.2]))
  | .same a b, d, h => by
    cases d <;> (unfold encC at h; simp at h) <;> (first | first | exact absurd h (by decide) | exact absurd h.1 (by decide) | (rw [h.1, h.2]))
  | .emp a, d, h => by
    cases d <;> (unfold encC at h; simp at h) <;> (first | first | exact absurd h (by decide) | exact absurd h.1 (by decide) | (rw [h]))
  | .nt c, d, h => by
    cases d with
    | nt e =>
      unfold encC at h
      rw [encC_inj (by simpa using h : encC c = encC e)]
    | _ => unfold encC at h; simp at h <;> (first | exact absurd h (by decide) | exact absurd h.1 (by decide))
  | .all cs, d, h => by
    cases d with
    | all es =>
      unfold encC at h
      rw [encCs_inj (by simpa using h : encCs cs = encCs es)]
    | _ => unfold encC at h; simp at h <;> (first | exact absurd h (by decide) | exact absurd h.1 (by decide))
  | .any cs, d, h => by
    cases d with
    | any es =>
      unfold encC at h
      rw [encCs_inj (by simpa using h : encCs cs = encCs es)]
    | _ => unfold encC at h; simp at h <;> (first | exact absurd h (by decide) | exact absurd h.1 (by decide))
theorem encCs_inj : ∀ {cs ds : List C}, encCs cs = encCs ds → cs = ds
  | [], [], _ => rfl
  | [], d :: ds, h => by unfold encCs at h; cases h
  | c :: cs, [], h => by unfold encCs at h; cases h
  | c :: cs, d :: ds, h => by
    unfold encCs at h
    have z := List.cons.inj h
    rw [encC_inj z.1, encCs_inj z.2]
end
theorem keyC_inj {c d : C} (h : keyC c = keyC d) : c = d := encC_inj (by rw [← kD_keyC, ← kD_keyC, h])
mutual
theorem keyC_depth {r : Nat} : ∀ {n : Nat} {c : C}, okC r n c → (keyC c).depth ≤ 2 * n + 1
  | n, .tru, _ => by unfold keyC; simp [NestedKey.depth, NestedKey.depthAll]
  | n, .fls, _ => by unfold keyC; simp [NestedKey.depth, NestedKey.depthAll]
  | n, .less a b, _ => by unfold keyC; simp [NestedKey.depth, NestedKey.depthAll]
  | n, .same a b, _ => by unfold keyC; simp [NestedKey.depth, NestedKey.depthAll]
  | n, .emp a, _ => by unfold keyC; simp [NestedKey.depth, NestedKey.depthAll]
  | 0, .nt c, h => by unfold okC at h; exact h.elim
  | 0, .all c, h => by unfold okC at h; exact h.elim
  | 0, .any c, h => by unfold okC at h; exact h.elim
  | n + 1, .nt c, h => by
    unfold okC at h
    have z := keyC_depth h
    unfold keyC
    simp [NestedKey.depth, NestedKey.depthAll]
    omega
  | n + 1, .all cs, h => by
    unfold okC at h
    have z := keyCs_depth h.2
    unfold keyC
    simp [NestedKey.depth, NestedKey.depthAll]
    omega
  | n + 1, .any cs, h => by
    unfold okC at h
    have z := keyCs_depth h.2
    unfold keyC
    simp [NestedKey.depth, NestedKey.depthAll]
    omega
theorem keyCs_depth {r : Nat} : ∀ {n : Nat} {cs : List C}, okCs r n cs → NestedKey.depthAll (keyCs cs) ≤ 2 * n + 1
  | n, [], _ => by unfold keyCs NestedKey.depthAll; omega
  | n, c :: cs, h => by
    unfold okCs at h
    have z1 := keyC_depth h.1
    have z2 := keyCs_depth h.2
    unfold keyCs NestedKey.depthAll
    omega
end
theorem dqD_str {n : Nat} {t : Str} (h : (toPy (.str t)).canLay0 = true) : dqD n (.str t) := by cases n <;> (unfold dqD; exact h)
mutual
theorem dqD_up : ∀ {n : Nat} {d : D}, dqD n d → dqD (n + 1) d
  | 0, .tup _, h => by unfold dqD at h; exact h.elim
  | n + 1, .tup ds, h => by unfold dqD at h; exact dqD_tup (dqDs_up h)
  | 0, .str s, h => by unfold dqD at h ⊢; exact h
  | n + 1, .str s, h => by unfold dqD at h ⊢; exact h
  | n, .bl b, h => (dq_bl h).elim
  | n, .int i, h => dqD_int
  | n, .non, h => dqD_non
theorem dqDs_up : ∀ {n : Nat} {ds : List D}, dqDs n ds → dqDs (n + 1) ds
  | n, [], h => dqDs_nil
  | n, d :: ds, h => by
    unfold dqDs at h
    exact dqDs_cons (dqD_up h.1) (dqDs_up h.2)
end
mutual
theorem dqD_encC {r : Nat} : ∀ {n : Nat} {c : C}, okC r n c → dqD (2 * n + 1) (encC c)
  | n, .tru, _ => by unfold encC dqD; exact dqDs_cons (dqD_str (by unfold toPy PyData.canLay0; decide +kernel)) dqDs_nil
  | n, .fls, _ => by unfold encC dqD; exact dqDs_cons (dqD_str (by unfold toPy PyData.canLay0; decide +kernel)) dqDs_nil
  | n, .less a b, _ => by unfold encC dqD; exact dqDs_cons (dqD_str (by unfold toPy PyData.canLay0; decide +kernel)) (dqDs_cons dqD_int (dqDs_cons dqD_int dqDs_nil))
  | n, .same a b, _ => by unfold encC dqD; exact dqDs_cons (dqD_str (by unfold toPy PyData.canLay0; decide +kernel)) (dqDs_cons dqD_int (dqDs_cons dqD_int dqDs_nil))
  | n, .emp a, _ => by unfold encC dqD; exact dqDs_cons (dqD_str (by unfold toPy PyData.canLay0; decide +kernel)) (dqDs_cons dqD_int dqDs_nil)
  | 0, .nt c, h => by unfold okC at h; exact h.elim
  | 0, .all c, h => by unfold okC at h; exact h.elim
  | 0, .any c, h => by unfold okC at h; exact h.elim
  | n + 1, .nt c, h => by
    unfold okC at h
    unfold encC
    exact dqD_tup (dqDs_cons (dqD_str (by unfold toPy PyData.canLay0; decide +kernel)) (dqDs_cons (dqD_up (dqD_encC h)) dqDs_nil))
  | n + 1, .all cs, h => by
    unfold okC at h
    unfold encC
    exact dqD_tup (dqDs_cons (dqD_str (by unfold toPy PyData.canLay0; decide +kernel)) (dqDs_cons (dqD_tup (dqDs_encC h.2)) dqDs_nil))
  | n + 1, .any cs, h => by
    unfold okC at h
    unfold encC
    exact dqD_tup (dqDs_cons (dqD_str (by unfold toPy PyData.canLay0; decide +kernel)) (dqDs_cons (dqD_tup (dqDs_encC h.2)) dqDs_nil))
theorem dqDs_encC {r : Nat} : ∀ {n : Nat} {cs : List C}, okCs r n cs → dqDs (2 * n + 1) (encCs cs)
  | n, [], _ => by unfold encCs; exact dqDs_nil
  | n, c :: cs, h => by
    unfold okCs at h
    unfold encCs
    exact dqDs_cons (dqD_encC h.1) (dqDs_encC h.2)
end

/-! ### placed conditions -/
def srcJ (new : Int) (held : List Int) (s : Int) : Int := if s = -1 then new else if s = -2 then -2 else held.getD s.toNat 0
mutual
def placedC (new : Int) (held : List Int) : C → C
  | .tru => .tru
  | .fls => .fls
  | .less a b => if srcJ new held a = -2 ∨ srcJ new held b = -2 then .fls else .less (srcJ new held a) (srcJ new held b)
  | .same a b => if srcJ new held a = -2 ∨ srcJ new held b = -2 then .fls else .same (srcJ new held a) (srcJ new held b)
  | .emp a => if srcJ new held a = -2 then .tru else .emp (srcJ new held a)
  | .nt c => .nt (placedC new held c)
  | .all cs => .all (placedCs new held cs)
  | .any cs => .any (placedCs new held cs)
def placedCs (new : Int) (held : List Int) : List C → List C
  | [] => []
  | c :: cs => placedC new held c :: placedCs new held cs
end
theorem placedCs_map (new : Int) (held : List Int) : ∀ cs : List C, placedCs new held cs = cs.map (placedC new held)
  | [] => by unfold placedCs; rfl
  | c :: cs => by unfold placedCs; rw [placedCs_map new held cs]; rfl
def Fits (R r : Nat) (new : Int) (held : List Int) : Prop := ∀ p, plOk r p → srcJ new held p = -2 ∨ plOk R (srcJ new held p)
mutual
theorem okC_placed {R r : Nat} {new : Int} {held : List Int} (f : Fits R r new held) : ∀ {n : Nat} {c : C}, okC r n c → okC R n (placedC new held c)
  | n, .tru, _ => by unfold placedC; exact okC_tru
  | n, .fls, _ => by unfold placedC; exact okC_fls
  | n, .less a b, h => by
    unfold okC at h
    unfold placedC
    by_cases e : srcJ new held a = -2 ∨ srcJ new held b = -2
    · rw [if_pos e]; exact okC_fls
    · rw [if_neg e]
      exact okC_less ((f a h.1).resolve_left fun z => e (.inl z)) ((f b h.2).resolve_left fun z => e (.inr z))
  | n, .same a b, h => by
    unfold okC at h
    unfold placedC
    by_cases e : srcJ new held a = -2 ∨ srcJ new held b = -2
    · rw [if_pos e]; exact okC_fls
    · rw [if_neg e]
      exact okC_same ((f a h.1).resolve_left fun z => e (.inl z)) ((f b h.2).resolve_left fun z => e (.inr z))
  | n, .emp a, h => by
    unfold okC at h
    unfold placedC
    by_cases e : srcJ new held a = -2
    · rw [if_pos e]; exact okC_tru
    · rw [if_neg e]
      exact okC_emp ((f a h).resolve_left e)
  | 0, .nt c, h => by unfold okC at h; exact h.elim
  | 0, .all c, h => by unfold okC at h; exact h.elim
  | 0, .any c, h => by unfold okC at h; exact h.elim
  | n + 1, .nt c, h => by
    unfold okC at h
    unfold placedC
    exact okC_nt (okC_placed f h)
  | n + 1, .all cs, h => by
    unfold okC at h
    unfold placedC
    exact okC_all (by rw [placedCs_map, List.length_map]; exact h.1) (okCs_placed f h.2)
  | n + 1, .any cs, h => by
    unfold okC at h
    unfold placedC
    exact okC_any (by rw [placedCs_map, List.length_map]; exact h.1) (okCs_placed f h.2)
theorem okCs_placed {R r : Nat} {new : Int} {held : List Int} (f : Fits R r new held) : ∀ {n : Nat} {cs : List C}, okCs r n cs → okCs R n (placedCs new held cs)
  | n, [], _ => by unfold placedCs; exact okCs_nil
  | n, c :: cs, h => by
    unfold okCs at h
    unfold placedCs
    exact okCs_cons (okC_placed f h.1) (okCs_placed f h.2)
end
def Same (r : Nat) (new : Int) (held : List Int) (v : Int) (h : List (Option Int)) (w : Int) (g : List (Option Int)) : Prop := ∀ p, -2 ≤ p → p < (r : Int) → worth v h (srcJ new held p) = worth w g p
theorem ltO_none {a b : Option Int} (h : a = none ∨ b = none) : ltO a b = false := by
  rcases h with h | h <;> subst h
  · rfl
  · cases a <;> rfl
theorem eqO_none {a b : Option Int} (h : a = none ∨ b = none) : eqO a b = false := by
  rcases h with h | h <;> subst h
  · rfl
  · cases a <;> rfl
theorem worth_m2 {v : Int} {h : List (Option Int)} {p : Int} (e : p = -2) : worth v h p = none := by subst e; rfl
mutual
theorem hold_placed {r : Nat} {new : Int} {held : List Int} {v w : Int} {h g : List (Option Int)} (f : Same r new held v h w g) : ∀ {n : Nat} {c : C}, okC r n c → hold v h (placedC new held c) = hold w g c
  | n, .tru, _ => by unfold placedC; unfold hold; rfl
  | n, .fls, _ => by unfold placedC; unfold hold; rfl
  | n, .less a b, k => by
    unfold okC at k
    have ea := f a (by have := k.1.1; omega) k.1.2
    have eb := f b (by have := k.2.1; omega) k.2.2
    unfold placedC
    by_cases e : srcJ new held a = -2 ∨ srcJ new held b = -2
    · rw [if_pos e]
      unfold hold
      rw [← ea, ← eb]
      exact (ltO_none (e.imp worth_m2 worth_m2)).symm
    · rw [if_neg e]
      unfold hold
      rw [ea, eb]
  | n, .same a b, k => by
    unfold okC at k
    have ea := f a (by have := k.1.1; omega) k.1.2
    have eb := f b (by have := k.2.1; omega) k.2.2
    unfold placedC
    by_cases e : srcJ new held a = -2 ∨ srcJ new held b = -2
    · rw [if_pos e]
      unfold hold
      rw [← ea, ← eb]
      exact (eqO_none (e.imp worth_m2 worth_m2)).symm
    · rw [if_neg e]
      unfold hold
      rw [ea, eb]
  | n, .emp a, k => by
    unfold okC at k
    have ea := f a (by have := k.1; omega) k.2
    unfold placedC
    by_cases e : srcJ new held a = -2
    · rw [if_pos e]
      unfold hold
      rw [← ea, worth_m2 e]
      rfl
    · rw [if_neg e]
      unfold hold
      rw [ea]
  | 0, .nt c, h => by unfold okC at h; exact h.elim
  | 0, .all c, h => by unfold okC at h; exact h.elim
  | 0, .any c, h => by unfold okC at h; exact h.elim
  | n + 1, .nt c, k => by
    unfold okC at k
    unfold placedC hold
    rw [hold_placed f k]
  | n + 1, .all cs, k => by
    unfold okC at k
    unfold placedC hold
    exact holdA_placed f k.2
  | n + 1, .any cs, k => by
    unfold okC at k
    unfold placedC hold
    exact holdE_placed f k.2
theorem holdA_placed {r : Nat} {new : Int} {held : List Int} {v w : Int} {h g : List (Option Int)} (f : Same r new held v h w g) : ∀ {n : Nat} {cs : List C}, okCs r n cs → holdA v h (placedCs new held cs) = holdA w g cs
  | n, [], _ => by unfold placedCs holdA; rfl
  | n, c :: cs, k => by
    unfold okCs at k
    unfold placedCs holdA
    rw [hold_placed f k.1, holdA_placed f k.2]
theorem holdE_placed {r : Nat} {new : Int} {held : List Int} {v w : Int} {h g : List (Option Int)} (f : Same r new held v h w g) : ∀ {n : Nat} {cs : List C}, okCs r n cs → holdE v h (placedCs new held cs) = holdE w g cs
  | n, [], _ => by unfold placedCs holdE; rfl
  | n, c :: cs, k => by
    unfold okCs at k
    unfold placedCs holdE
    rw [hold_placed f k.1, holdE_placed f k.2]
end

/-! ### conditions put together -/
def flatC : C → List C
  | .all cs => cs
  | c => [c]
noncomputable def addP (acc : List C) (c : C) : List C := if c = .tru ∨ c ∈ acc then acc else acc ++ [c]
noncomputable def partsOf (l : List C) : List C := l.foldl addP []
def wrapC : List C → C
  | [] => .tru
  | [p] => p
  | ps => .all ps
noncomputable def allOf (cs : List C) : C := if C.fls ∈ cs.flatMap flatC then .fls else wrapC (partsOf (cs.flatMap flatC))
section
variable (v : Int) (h : List (Option Int))
theorem holdA_app : ∀ a b : List C, holdA v h (a ++ b) = (holdA v h a && holdA v h b)
  | [], b => by rw [List.nil_append, show holdA v h [] = true by unfold holdA; rfl, Bool.true_and]
  | c :: a, b => by rw [List.cons_append, holdA_cons, holdA_cons, holdA_app a b, Bool.and_assoc]
theorem holdA_one (c : C) : holdA v h [c] = hold v h c := by rw [holdA_cons, show holdA v h [] = true by unfold holdA; rfl, Bool.and_true]
theorem holdA_flat (c : C) : holdA v h (flatC c) = hold v h c := by
  cases c <;> (unfold flatC) <;> (try exact holdA_one v h _)
  conv => rhs; unfold hold
theorem holdA_flats (cs : List C) : holdA v h (cs.flatMap flatC) = holdA v h cs := by
  induction cs with
  | nil => rfl
  | cons c cs ih => rw [List.flatMap_cons, holdA_app, holdA_flat, holdA_cons, ih]
theorem holdA_mem {c : C} : ∀ {l : List C}, c ∈ l → holdA v h l = true → hold v h c = true
  | d :: l, m, e => by
    rw [holdA_cons, Bool.and_eq_true] at e
    rcases List.mem_cons.mp m with rfl | m
    · exact e.1
    · exact holdA_mem m e.2
theorem holdA_fls : ∀ {l : List C}, C.fls ∈ l → holdA v h l = false := fun {l} m => by
  cases e : holdA v h l with
  | false => rfl
  | true =>
    have z := holdA_mem v h m e
    unfold hold at z
    cases z
theorem holdA_addP (acc : List C) (c : C) : holdA v h (addP acc c) = (holdA v h acc && hold v h c) := by
  unfold addP
  by_cases e : c = .tru ∨ c ∈ acc
  · rw [if_pos e]
    rcases e with rfl | m
    · rw [show hold v h .tru = true by unfold hold; rfl, Bool.and_true]
    · cases z : holdA v h acc with
      | false => rfl
      | true => rw [holdA_mem v h m z]; rfl
  · rw [if_neg e, holdA_app, holdA_one]
theorem holdA_addPs : ∀ (l acc : List C), holdA v h (l.foldl addP acc) = (holdA v h acc && holdA v h l)
  | [], acc => by rw [show holdA v h [] = true by unfold holdA; rfl, Bool.and_true]; rfl
  | c :: l, acc => by rw [List.foldl_cons, holdA_addPs l, holdA_addP, holdA_cons, Bool.and_assoc]
theorem hold_wrap (l : List C) : hold v h (wrapC l) = holdA v h l := by
  match l with
  | [] => unfold wrapC hold holdA; rfl
  | [p] => exact (holdA_one v h p).symm
  | p :: q :: l => conv => lhs; unfold wrapC hold
theorem hold_allOf (cs : List C) : hold v h (allOf cs) = holdA v h cs := by
  unfold allOf
  by_cases e : C.fls ∈ cs.flatMap flatC
  · rw [if_pos e, ← holdA_flats, holdA_fls v h e]
    unfold hold
    rfl
  · rw [if_neg e, hold_wrap, ← holdA_flats v h cs]
    unfold partsOf
    rw [holdA_addPs, show holdA v h [] = true by unfold holdA; rfl, Bool.true_and]
end
theorem okCs_mem {r n : Nat} {c : C} : ∀ {l : List C}, okCs r n l → c ∈ l → okC r n c
  | d :: l, k, m => by
    unfold okCs at k
    rcases List.mem_cons.mp m with rfl | m
    · exact k.1
    · exact okCs_mem k.2 m
theorem okC_flat {r n : Nat} {c : C} (k : okC r n c) : ∀ d ∈ flatC c, okC r n d := by
  cases c <;> (unfold flatC) <;> (try (intro d m; obtain rfl := List.mem_singleton.mp m; exact k))
  intro d m
  cases n with
  | zero => unfold okC at k; exact k.elim
  | succ n => unfold okC at k; exact okC_succ (okCs_mem k.2 m)
theorem addPs_mem {d : C} : ∀ (l acc : List C), d ∈ l.foldl addP acc → d ∈ acc ∨ d ∈ l
  | [], acc, m => .inl m
  | c :: l, acc, m => by
    rw [List.foldl_cons] at m
    rcases addPs_mem l _ m with m | m
    · unfold addP at m
      by_cases e : c = .tru ∨ c ∈ acc
      · rw [if_pos e] at m; exact .inl m
      · rw [if_neg e] at m
        rcases List.mem_append.mp m with m | m
        · exact .inl m
        · exact .inr (by rw [List.mem_singleton.mp m]; simp)
    · exact .inr (by simp [m])
theorem addPs_len : ∀ (l acc : List C), (l.foldl addP acc).length ≤ acc.length + l.length
  | [], acc => by simp
  | c :: l, acc => by
    rw [List.foldl_cons]
    have z := addPs_len l (addP acc c)
    have y : (addP acc c).length ≤ acc.length + 1 := by
      unfold addP
      split
      · omega
      · rw [List.length_append]; exact Nat.le_refl _
    rw [List.length_cons]
    omega
theorem okC_allOf {r n : Nat} {cs : List C} (k : ∀ c ∈ cs, okC r n c) (l : (cs.flatMap flatC).length ≤ 100000) : okC r (n + 1) (allOf cs) := by
  unfold allOf
  by_cases e : C.fls ∈ cs.flatMap flatC
  · rw [if_pos e]; exact okC_fls
  · rw [if_neg e]
    have km : ∀ d ∈ partsOf (cs.flatMap flatC), okC r n d := fun d m => by
      rcases addPs_mem _ _ m with m | m
      · cases m
      · obtain ⟨c, hc, hd⟩ := List.mem_flatMap.mp m
        exact okC_flat (k c hc) d hd
    have kl : (partsOf (cs.flatMap flatC)).length ≤ 100000 := by
      have := addPs_len (cs.flatMap flatC) []
      unfold partsOf
      rw [List.length_nil] at this
      omega
    generalize partsOf (cs.flatMap flatC) = ps at km kl
    match ps with
    | [] => exact okC_tru
    | [p] => exact okC_succ (km p (by simp))
    | p :: q :: ps => exact okC_all kl (okCs_of km)

/-! ### machines beside one another -/
def idleC (m : M) (st t : Nat) : List Case := m.cases st t ++ [⟨.tru, (List.range m.regs).map Int.ofNat, [], st⟩]
def heldJ (r1 r2 : Nat) : List Int := (List.range r2).map fun k => ((r1 + k : Nat) : Int)
noncomputable def besideC (r1 r2 S2 : Nat) (c d : Case) : Case :=
  ⟨allOf [c.cond, placedC (-1) (heldJ r1 r2) d.cond], c.moves ++ d.moves.map (srcJ (-1) (heldJ r1 r2)), c.says ++ d.says.map (fun p => (p.1, srcJ (-1) (heldJ r1 r2) p.2)), c.nxt * S2 + d.nxt⟩
noncomputable def casesB (one other : M) (i j t : Nat) : List Case := (idleC one i t).flatMap fun c => (idleC other j t).map (besideC one.regs other.regs other.steps.length c)
noncomputable def vain : List Case → List Case
  | [] => []
  | c :: cs => if c.cond = .tru then [c] else if c.cond = .fls then vain cs else c :: vain cs
noncomputable def besideCs (one other : M) (i j t : Nat) : List Case := vain (casesB one other i j t)
noncomputable def rowsB (one other : M) (i j : Nat) : List (List Case) := (List.range one.tags).map (besideCs one other i j)
noncomputable def besideM (one other : M) : M := ⟨one.tags, one.regs + other.regs, (List.range one.steps.length).flatMap fun i => (List.range other.steps.length).map (rowsB one other i)⟩

theorem find_vain (v : Int) (h : List (Option Int)) : ∀ cs : List Case, (vain cs).find? (holdC v h) = cs.find? (holdC v h)
  | [] => rfl
  | c :: cs => by
    unfold vain
    by_cases e : c.cond = .tru
    · rw [if_pos e]
      have z : holdC v h c = true := by unfold holdC; rw [e]; unfold hold; rfl
      rw [List.find?_cons_of_pos z, List.find?_cons_of_pos z]
    · rw [if_neg e]
      by_cases e2 : c.cond = .fls
      · rw [if_pos e2]
        have z : ¬ holdC v h c = true := by unfold holdC; rw [e2]; unfold hold; simp
        rw [List.find?_cons_of_neg z]
        exact find_vain v h cs
      · rw [if_neg e2, List.find?_cons, List.find?_cons, find_vain v h cs]
theorem find_pairs {α β γ : Type} (f : α → β → γ) (p : γ → Bool) (p1 : α → Bool) (p2 : β → Bool) (ys : List β) : ∀ xs : List α, (∀ c ∈ xs, ∀ d ∈ ys, p (f c d) = (p1 c && p2 d)) →
    (xs.flatMap fun c => ys.map (f c)).find? p = (ys.find? p2).bind fun d => (xs.find? p1).map fun c => f c d
  | [], _ => by cases ys.find? p2 <;> rfl
  | c :: xs, k => by
    have ih := find_pairs f p p1 p2 ys xs fun c' m => k c' (by simp [m])
    rw [List.flatMap_cons, List.find?_append, ih]
    have e : (ys.map (f c)).find? p = if p1 c = true then (ys.find? p2).map (f c) else none := by
      have kc := k c (by simp)
      clear ih k
      induction ys with
      | nil => simp
      | cons y ys ihy =>
        have ky := kc y (by simp)
        rw [List.map_cons, List.find?_cons, List.find?_cons, ky, ihy fun d m => kc d (by simp [m])]
        cases p1 c <;> cases p2 y <;> simp
    rw [e, List.find?_cons]
    cases p1 c <;> cases ys.find? p2 <;> simp
theorem find_idle (m : M) (st t : Nat) (v : Int) (h : List (Option Int)) : (idleC m st t).find? (holdC v h) = some (((m.cases st t).find? (holdC v h)).getD ⟨.tru, (List.range m.regs).map Int.ofNat, [], st⟩) := by
  unfold idleC
  rw [List.find?_append]
  cases (m.cases st t).find? (holdC v h) with
  | some c => rfl
  | none =>
    rw [Option.none_or, List.find?_cons_of_pos (by unfold holdC hold; rfl)]
    rfl
theorem srcJ_beside {r1 r2 : Nat} {p : Int} (h0 : 0 ≤ p) (h1 : p < r2) : srcJ (-1) (heldJ r1 r2) p = (r1 : Int) + p := by
  unfold srcJ heldJ
  rw [if_neg (by omega), if_neg (by omega), List.getD_eq_getElem?_getD, List.getElem?_map, List.getElem?_range (by omega)]
  show ((r1 + p.toNat : Nat) : Int) = _
  omega
theorem srcJ_new {r1 r2 : Nat} : srcJ (-1) (heldJ r1 r2) (-1) = -1 := rfl
theorem srcJ_no {r1 r2 : Nat} : srcJ (-1) (heldJ r1 r2) (-2) = -2 := rfl
theorem srcJ_cases {r1 r2 : Nat} {p : Int} (h0 : -2 ≤ p) (h1 : p < r2) : -2 ≤ srcJ (-1) (heldJ r1 r2) p ∧ srcJ (-1) (heldJ r1 r2) p < ((r1 + r2 : Nat) : Int) := by
  by_cases e : 0 ≤ p
  · rw [srcJ_beside e h1]; omega
  · have : p = -1 ∨ p = -2 := by omega
    rcases this with rfl | rfl
    · rw [srcJ_new]; omega
    · rw [srcJ_no]; omega
theorem fits_beside (r1 r2 : Nat) : Fits (r1 + r2) r2 (-1) (heldJ r1 r2) := fun p hp => by
  by_cases e : 0 ≤ p
  · right; rw [srcJ_beside e hp.2]; unfold plOk; have := hp.2; omega
  · have : p = -1 := by have := hp.1; omega
    subst this
    right
    rw [srcJ_new]
    unfold plOk
    omega
theorem worth_left {v : Int} {h1 h2 : List (Option Int)} {p : Int} (hp : p < (h1.length : Int)) (h0 : -2 ≤ p) : worth v (h1 ++ h2) p = worth v h1 p := by
  unfold worth
  by_cases e1 : p = -1
  · rw [if_pos e1, if_pos e1]
  · by_cases e2 : p = -2
    · rw [if_neg e1, if_neg e1, if_pos e2, if_pos e2]
    · rw [if_neg e1, if_neg e1, if_neg e2, if_neg e2, List.getElem?_append_left (by omega)]
theorem same_beside {v : Int} {h1 h2 : List (Option Int)} {r1 r2 : Nat} (e1 : h1.length = r1) : Same r2 (-1) (heldJ r1 r2) v (h1 ++ h2) v h2 := fun p h0 hp => by
  by_cases e : 0 ≤ p
  · rw [srcJ_beside e hp, worth_at (by omega), worth_at e, List.getElem?_append_right (by omega)]
    congr 2
    omega
  · have : p = -1 ∨ p = -2 := by omega
    rcases this with rfl | rfl <;> rfl
mutual
theorem hold_left {r : Nat} {v : Int} {h1 h2 : List (Option Int)} (e : h1.length = r) : ∀ {n : Nat} {c : C}, okC r n c → hold v (h1 ++ h2) c = hold v h1 c
  | n, .tru, _ => by unfold hold; rfl
  | n, .fls, _ => by unfold hold; rfl
  | n, .less a b, k => by
    unfold okC at k
    unfold hold
    rw [worth_left (by rw [e]; exact k.1.2) (by have := k.1.1; omega), worth_left (by rw [e]; exact k.2.2) (by have := k.2.1; omega)]
  | n, .same a b, k => by
    unfold okC at k
    unfold hold
    rw [worth_left (by rw [e]; exact k.1.2) (by have := k.1.1; omega), worth_left (by rw [e]; exact k.2.2) (by have := k.2.1; omega)]
  | n, .emp a, k => by
    unfold okC at k
    unfold hold
    rw [worth_left (by rw [e]; exact k.2) (by have := k.1; omega)]
  | 0, .nt c, h => by unfold okC at h; exact h.elim
  | 0, .all c, h => by unfold okC at h; exact h.elim
  | 0, .any c, h => by unfold okC at h; exact h.elim
  | n + 1, .nt c, k => by
    unfold okC at k
    unfold hold
    rw [hold_left e k]
  | n + 1, .all cs, k => by
    unfold okC at k
    unfold hold
    exact holdA_left e k.2
  | n + 1, .any cs, k => by
    unfold okC at k
    unfold hold
    exact holdE_left e k.2
theorem holdA_left {r : Nat} {v : Int} {h1 h2 : List (Option Int)} (e : h1.length = r) : ∀ {n : Nat} {cs : List C}, okCs r n cs → holdA v (h1 ++ h2) cs = holdA v h1 cs
  | n, [], _ => by unfold holdA; rfl
  | n, c :: cs, k => by
    unfold okCs at k
    unfold holdA
    rw [hold_left e k.1, holdA_left e k.2]
theorem holdE_left {r : Nat} {v : Int} {h1 h2 : List (Option Int)} (e : h1.length = r) : ∀ {n : Nat} {cs : List C}, okCs r n cs → holdE v (h1 ++ h2) cs = holdE v h1 cs
  | n, [], _ => by unfold holdE; rfl
  | n, c :: cs, k => by
    unfold okCs at k
    unfold holdE
    rw [hold_left e k.1, holdE_left e k.2]
end
def idleOne (m : M) (st : Nat) : Case := ⟨.tru, (List.range m.regs).map Int.ofNat, [], st⟩
theorem okCase_idle {m : M} {n st : Nat} (hs : st < m.steps.length) : okCase m.regs m.steps.length n (idleOne m st) := by
  refine ⟨okC_tru, (by unfold idleOne; simp), fun s hm => ?_, fun p hp => (by unfold idleOne at hp; cases hp), (by unfold idleOne; simp), hs⟩
  unfold idleOne at hm
  obtain ⟨k, hk, rfl⟩ := List.mem_map.mp hm
  have := List.mem_range.mp hk
  show -2 ≤ (k : Int) ∧ (k : Int) < _
  omega
theorem okCase_idles {m : M} {n st t : Nat} (ok : okM n m) (hs : st < m.steps.length) (ht : t < m.tags) : ∀ c ∈ idleC m st t, okCase m.regs m.steps.length n c := fun c hc => by
  obtain ⟨_, _, _, _, hcs⟩ := M.cases_at ok hs ht
  unfold idleC at hc
  rcases List.mem_append.mp hc with hc | hc
  · exact hcs c hc
  · rw [List.mem_singleton.mp hc]
    exact okCase_idle hs
theorem flat_at {β : Type} {n : Nat} {g : Nat → List β} (hg : ∀ a, (g a).length = n) : ∀ {N i j : Nat}, i < N → j < n → ((List.range N).flatMap g)[i * n + j]? = (g i)[j]?
  | N + 1, i, j, hi, hj => by
    have hl : ∀ N, ((List.range N).flatMap g).length = N * n := fun N => by
      induction N with
      | zero => simp
      | succ N ih => rw [List.range_succ, List.flatMap_append, List.length_append, ih, List.flatMap_cons, List.flatMap_nil, List.append_nil, hg, Nat.succ_mul]
    rw [List.range_succ, List.flatMap_append, List.flatMap_cons, List.flatMap_nil, List.append_nil]
    by_cases e : i = N
    · subst e
      rw [List.getElem?_append_right (by rw [hl]; omega), hl]
      congr 1
      omega
    · have hi' : i < N := by omega
      have : i * n + j < N * n := by
        have := Nat.mul_le_mul_right n (show i + 1 ≤ N by omega)
        rw [Nat.succ_mul] at this
        omega
      rw [List.getElem?_append_left (by rw [hl]; exact this)]
      exact flat_at hg hi' hj
theorem cases_beside {one other : M} {i j t : Nat} (hi : i < one.steps.length) (hj : j < other.steps.length) (ht : t < one.tags) :
    (besideM one other).cases (i * other.steps.length + j) t = besideCs one other i j t := by
  have e : (besideM one other).steps[i * other.steps.length + j]? = some (rowsB one other i j) := by
    show ((List.range one.steps.length).flatMap fun i => (List.range other.steps.length).map (rowsB one other i))[i * other.steps.length + j]? = _
    rw [flat_at (n := other.steps.length) (fun a => by rw [List.length_map, List.length_range]) hi hj]
    rw [List.getElem?_map, List.getElem?_range hj]
    rfl
  unfold M.cases
  rw [List.getD_eq_getElem?_getD (l := (besideM one other).steps), e]
  show (rowsB one other i j).getD t [] = _
  unfold rowsB
  rw [List.getD_eq_getElem?_getD, List.getElem?_map, List.getElem?_range ht]
  rfl

theorem readM_beside {n : Nat} {one other : M} (o1 : okM n one) (o2 : okM n other) {a b : Nat} {h1 h2 : List (Option Int)} {e : Nat × Int} (k1 : okCt one (a, h1)) (k2 : okCt other (b, h2)) (t1 : e.1 < one.tags) (t2 : e.1 < other.tags) :
    readM (besideM one other) (a * other.steps.length + b) (h1 ++ h2) e = ((readM one a h1 e).1 * other.steps.length + (readM other b h2 e).1, (readM one a h1 e).2.1 ++ (readM other b h2 e).2.1, (readM one a h1 e).2.2 ++ (readM other b h2 e).2.2) := by
  have l1 : h1.length = one.regs := k1.len
  have l2 : h2.length = other.regs := k2.len
  have read1 : ∀ (m : M) (st : Nat) (h : List (Option Int)), okM n m → okCt m (st, h) → e.1 < m.tags → ∃ c, (idleC m st e.1).find? (holdC e.2 h) = some c ∧ c ∈ idleC m st e.1 ∧ readM m st h e = (c.nxt, keptC e.2 h c, saidC e.2 h c) := by
    intro m st h ok k t
    refine ⟨_, find_idle m st e.1 e.2 h, List.mem_of_find?_eq_some (find_idle m st e.1 e.2 h), ?_⟩
    unfold readM
    cases (m.cases st e.1).find? (holdC e.2 h) with
    | some c => rfl
    | none =>
      show (st, h, []) = (st, keptC e.2 h _, saidC e.2 h _)
      unfold keptC saidC
      congr 2
      show h = ((List.range m.regs).map Int.ofNat).map (worth e.2 h)
      have hl : h.length = m.regs := k.len
      refine List.ext_getElem? fun i => ?_
      rw [List.getElem?_map, List.getElem?_map]
      by_cases hi : i < m.regs
      · rw [List.getElem?_range hi]
        show _ = some (worth e.2 h (i : Int))
        rw [worth_at (by omega), List.getElem?_eq_getElem (by omega)]
        simp
        rw [List.getElem?_eq_getElem (by omega)]
        rfl
      · rw [List.getElem?_eq_none (by omega), List.getElem?_eq_none (by rw [List.length_range]; omega)]
        rfl
  obtain ⟨c, f1, m1, r1⟩ := read1 one a h1 o1 k1 t1
  obtain ⟨d, f2, m2, r2⟩ := read1 other b h2 o2 k2 t2
  have okc := okCase_idles o1 k1.st t1 c m1
  have okd := okCase_idles o2 k2.st t2 d m2
  rw [r1, r2]
  have ef : ((besideM one other).cases (a * other.steps.length + b) e.1).find? (holdC e.2 (h1 ++ h2)) = some (besideC one.regs other.regs other.steps.length c d) := by
    rw [cases_beside k1.st k2.st t1]
    unfold besideCs
    rw [find_vain]
    unfold casesB
    rw [find_pairs _ _ (holdC e.2 h1) (holdC e.2 h2), f2, f1]
    · rfl
    · intro c' hc d' hd
      have okc := okCase_idles o1 k1.st t1 c' hc
      have okd := okCase_idles o2 k2.st t2 d' hd
      unfold holdC besideC
      show hold e.2 (h1 ++ h2) (allOf _) = _
      rw [hold_allOf, holdA_cons, holdA_one, hold_left l1 okc.cond, hold_placed (same_beside l1) okd.cond]
  unfold readM
  rw [ef]
  show ((besideC one.regs other.regs other.steps.length c d).nxt, keptC e.2 (h1 ++ h2) _, saidC e.2 (h1 ++ h2) _) = _
  have sb := same_beside (v := e.2) (h2 := h2) (r2 := other.regs) l1
  have ek : keptC e.2 (h1 ++ h2) (besideC one.regs other.regs other.steps.length c d) = keptC e.2 h1 c ++ keptC e.2 h2 d := by
    unfold keptC besideC
    show (c.moves ++ d.moves.map (srcJ (-1) (heldJ one.regs other.regs))).map (worth e.2 (h1 ++ h2)) = _
    rw [List.map_append, List.map_map]
    congr 1
    · exact List.map_congr_left fun p hp => worth_left (by rw [l1]; exact (okc.mv p hp).2) (okc.mv p hp).1
    · exact List.map_congr_left fun p hp => sb p (okd.mv p hp).1 (okd.mv p hp).2
  have es : saidC e.2 (h1 ++ h2) (besideC one.regs other.regs other.steps.length c d) = saidC e.2 h1 c ++ saidC e.2 h2 d := by
    unfold saidC besideC
    show (c.says ++ d.says.map (fun p => (p.1, srcJ (-1) (heldJ one.regs other.regs) p.2))).map (fun p => (p.1, worth e.2 (h1 ++ h2) p.2)) = _
    rw [List.map_append, List.map_map]
    congr 1
    · refine List.map_congr_left fun p hp => ?_
      rw [worth_left (by rw [l1]; exact (okc.say p hp).2.2) (okc.say p hp).2.1]
    · refine List.map_congr_left fun p hp => ?_
      show (p.1, worth e.2 (h1 ++ h2) (srcJ _ _ p.2)) = _
      rw [sb p.2 (okd.say p hp).2.1 (okd.say p hp).2.2]
  rw [ek, es]
  rfl
theorem answers_beside {n : Nat} {one other : M} (o1 : okM n one) (o2 : okM n other) : ∀ (es : List (Nat × Int)) (a b : Nat) (h1 h2 : List (Option Int)), okCt one (a, h1) → okCt other (b, h2) → (∀ e ∈ es, e.1 < one.tags ∧ e.1 < other.tags) →
    answersM (besideM one other) (a * other.steps.length + b, h1 ++ h2) es = List.zipWith (· ++ ·) (answersM one (a, h1) es) (answersM other (b, h2) es)
  | [], a, b, h1, h2, _, _, _ => rfl
  | e :: es, a, b, h1, h2, k1, k2, ht => by
    have te := ht e (by simp)
    have r := readM_beside o1 o2 k1 k2 te.1 te.2
    have ih := answers_beside o1 o2 es _ _ _ _ (k1.step o1 te.1) (k2.step o2 te.2) fun f hf => ht f (by simp [hf])
    show (readM (besideM one other) (a * other.steps.length + b) (h1 ++ h2) e).2.2 :: answersM (besideM one other) (stepM (besideM one other) (a * other.steps.length + b, h1 ++ h2) e) es = _
    unfold stepM
    rw [r]
    exact congrArg _ ih

/-! bounds -/
def Nar (w : Nat) (m : M) : Prop := ∀ s ∈ m.steps, ∀ cs ∈ s, cs.length ≤ w ∧ ∀ c ∈ cs, (flatC c.cond).length ≤ w ∧ c.says.length ≤ w
theorem vain_mem {c : Case} : ∀ {cs : List Case}, c ∈ vain cs → c ∈ cs
  | d :: cs, m => by
    unfold vain at m
    by_cases e : d.cond = .tru
    · rw [if_pos e] at m
      rw [List.mem_singleton.mp m]
      simp
    · rw [if_neg e] at m
      by_cases e2 : d.cond = .fls
      · rw [if_pos e2] at m
        exact List.mem_cons_of_mem _ (vain_mem m)
      · rw [if_neg e2] at m
        rcases List.mem_cons.mp m with rfl | m
        · simp
        · exact List.mem_cons_of_mem _ (vain_mem m)
theorem vain_len : ∀ cs : List Case, (vain cs).length ≤ cs.length
  | [] => Nat.le_refl _
  | c :: cs => by
    have := vain_len cs
    unfold vain
    split
    · simp
    · split <;> simp <;> omega
theorem pairs_len {α β γ : Type} (f : α → β → γ) (ys : List β) : ∀ xs : List α, (xs.flatMap fun c => ys.map (f c)).length = xs.length * ys.length
  | [] => by simp
  | c :: xs => by rw [List.flatMap_cons, List.length_append, List.length_map, pairs_len f ys xs, List.length_cons, Nat.succ_mul]; omega
theorem flat_placed (new : Int) (held : List Int) (c : C) : (flatC (placedC new held c)).length ≤ max (flatC c).length 1 := by
  cases c <;> (unfold placedC) <;> (try split) <;> (unfold flatC) <;> (try rw [placedCs_map, List.length_map]) <;> simp <;> omega
mutual
theorem okC_mono' {r R : Nat} (l : r ≤ R) : ∀ {n : Nat} {c : C}, okC r n c → okC R n c
  | n, .tru, _ => okC_tru
  | n, .fls, _ => okC_fls
  | n, .less a b, k => by
    unfold okC plOk at k
    exact okC_less (by unfold plOk; omega) (by unfold plOk; omega)
  | n, .same a b, k => by
    unfold okC plOk at k
    exact okC_same (by unfold plOk; omega) (by unfold plOk; omega)
  | n, .emp a, k => by
    unfold okC plOk at k
    exact okC_emp (by unfold plOk; omega)
  | 0, .nt c, h => by unfold okC at h; exact h.elim
  | 0, .all c, h => by unfold okC at h; exact h.elim
  | 0, .any c, h => by unfold okC at h; exact h.elim
  | n + 1, .nt c, k => by
    unfold okC at k
    exact okC_nt (okC_mono' l k)
  | n + 1, .all cs, k => by
    unfold okC at k
    exact okC_all k.1 (okCs_mono' l k.2)
  | n + 1, .any cs, k => by
    unfold okC at k
    exact okC_any k.1 (okCs_mono' l k.2)
theorem okCs_mono' {r R : Nat} (l : r ≤ R) : ∀ {n : Nat} {cs : List C}, okCs r n cs → okCs R n cs
  | n, [], _ => okCs_nil
  | n, c :: cs, k => by
    unfold okCs at k
    exact okCs_cons (okC_mono' l k.1) (okCs_mono' l k.2)
end
theorem okCase_beside {r1 r2 S1 S2 n : Nat} {c d : Case} (k1 : okCase r1 S1 n c) (k2 : okCase r2 S2 n d) (f1 : (flatC c.cond).length ≤ 40000) (f2 : (flatC d.cond).length ≤ 40000) (s1 : c.says.length ≤ 500) (s2 : d.says.length ≤ 500) :
    okCase (r1 + r2) (S1 * S2) (n + 1) (besideC r1 r2 S2 c d) := by
  refine ⟨?_, ?_, ?_, ?_, ?_, ?_⟩
  · refine okC_allOf (fun x hx => ?_) ?_
    · rcases List.mem_cons.mp hx with rfl | hx
      · exact okC_mono' (Nat.le_add_right r1 r2) k1.cond
      · rw [List.mem_singleton.mp hx]
        exact okC_placed (fits_beside r1 r2) k2.cond
    · have z := flat_placed (-1) (heldJ r1 r2) d.cond
      rw [List.flatMap_cons, List.flatMap_cons, List.flatMap_nil, List.append_nil, List.length_append]
      omega
  · show (c.moves ++ d.moves.map _).length = _
    rw [List.length_append, List.length_map, k1.mlen, k2.mlen]
  · intro s hs
    rcases List.mem_append.mp hs with hs | hs
    · have := k1.mv s hs; omega
    · obtain ⟨p, hp, rfl⟩ := List.mem_map.mp hs
      exact srcJ_cases (k2.mv p hp).1 (k2.mv p hp).2
  · intro p hp
    rcases List.mem_append.mp hp with hp | hp
    · have := k1.say p hp; omega
    · obtain ⟨q, hq, rfl⟩ := List.mem_map.mp hp
      exact ⟨(k2.say q hq).1, srcJ_cases (k2.say q hq).2.1 (k2.say q hq).2.2⟩
  · show (c.says ++ d.says.map _).length ≤ 1000
    rw [List.length_append, List.length_map]
    omega
  · show c.nxt * S2 + d.nxt < S1 * S2
    have := k1.nxt
    have := k2.nxt
    have := Nat.mul_le_mul_right S2 (show c.nxt + 1 ≤ S1 by omega)
    rw [Nat.succ_mul] at this
    omega
theorem nar_at {w n : Nat} {m : M} (k : Nar w m) (ok : okM n m) {st t : Nat} (hs : st < m.steps.length) (ht : t < m.tags) : (m.cases st t).length ≤ w ∧ ∀ c ∈ m.cases st t, (flatC c.cond).length ≤ w ∧ c.says.length ≤ w := by
  obtain ⟨s, e1, e2, _⟩ := M.cases_at ok hs ht
  exact k s (List.mem_of_getElem? e1) _ (List.mem_of_getElem? e2)
theorem nar_idle {w n : Nat} {m : M} (k : Nar w m) (ok : okM n m) {st t : Nat} (hs : st < m.steps.length) (ht : t < m.tags) : (idleC m st t).length ≤ w + 1 ∧ ∀ c ∈ idleC m st t, (flatC c.cond).length ≤ w + 1 ∧ c.says.length ≤ w + 1 := by
  have z := nar_at k ok hs ht
  unfold idleC
  refine ⟨by rw [List.length_append]; simp; exact z.1, fun c hc => ?_⟩
  rcases List.mem_append.mp hc with hc | hc
  · have := z.2 c hc; omega
  · rw [List.mem_singleton.mp hc]
    exact ⟨by show ([C.tru] : List C).length ≤ _; simp, by simp⟩
theorem okM_beside {n : Nat} {one other : M} (o1 : okM n one) (o2 : okM n other) (n1 : Nar 30 one) (n2 : Nar 30 other) (et : one.tags = other.tags) (er : one.regs + other.regs ≤ 1000) (es : one.steps.length * other.steps.length ≤ 1000) : okM (n + 1) (besideM one other) := by
  have sl : (besideM one other).steps.length = one.steps.length * other.steps.length := by
    show ((List.range one.steps.length).flatMap fun i => (List.range other.steps.length).map (rowsB one other i)).length = _
    rw [pairs_len, List.length_range, List.length_range]
  have at_ : ∀ s ∈ (besideM one other).steps, ∃ i j, i < one.steps.length ∧ j < other.steps.length ∧ s = rowsB one other i j := fun s hs => by
    obtain ⟨i, hi, hs⟩ := List.mem_flatMap.mp hs
    obtain ⟨j, hj, rfl⟩ := List.mem_map.mp hs
    exact ⟨i, j, List.mem_range.mp hi, List.mem_range.mp hj, rfl⟩
  refine ⟨o1.tags, o1.tmax, er, by rw [sl]; exact Nat.mul_pos o1.some o2.some, by rw [sl]; exact es, fun s hs => ?_, fun s hs cs hcs => ?_⟩
  · obtain ⟨i, j, _, _, rfl⟩ := at_ s hs
    show ((List.range one.tags).map _).length = one.tags
    rw [List.length_map, List.length_range]
  · obtain ⟨i, j, hi, hj, rfl⟩ := at_ s hs
    obtain ⟨t, ht, rfl⟩ := List.mem_map.mp hcs
    have ht := List.mem_range.mp ht
    have z1 := nar_idle n1 o1 hi ht
    have z2 := nar_idle n2 o2 hj (et ▸ ht)
    refine ⟨?_, fun c hc => ?_⟩
    · refine Nat.le_trans (vain_len _) ?_
      unfold casesB
      rw [pairs_len]
      exact Nat.le_trans (Nat.mul_le_mul z1.1 z2.1) (by decide)
    · obtain ⟨c1, h1, hc⟩ := List.mem_flatMap.mp (vain_mem hc)
      obtain ⟨c2, h2, rfl⟩ := List.mem_map.mp hc
      rw [sl]
      have y1 := z1.2 c1 h1
      have y2 := z2.2 c2 h2
      exact okCase_beside (okCase_idles o1 hi ht c1 h1) (okCase_idles o2 hj (et ▸ ht) c2 h2) (by omega) (by omega) (by omega) (by omega)

theorem shapeP {r n : Nat} {c : C} (ok : okC r n c) : (∃ (wo : Str) (ss : List Int), encC c = .tup (.str wo :: ss.map .int) ∧ wo ≠ "not" ∧ inV (V.str wo) [V.str "all", V.str "any"] = false ∧ (∀ s ∈ ss, plOk r s) ∧ ss.length ≤ 2 ∧
    ∀ nw held, encC (placedC nw held c) = if -2 ∈ ss.map (srcJ nw held) then (if wo = "empty" then encC .tru else encC .fls) else .tup (.str wo :: (ss.map (srcJ nw held)).map .int)) ∨ (∃ d, c = .nt d) ∨ (∃ cs, c = .all cs) ∨ ∃ cs, c = .any cs := by
  cases c with
  | tru =>
    refine .inl ⟨"true", [], by unfold encC; rfl, by decide, by decide +kernel, (fun s h => nomatch h), by decide, fun nw held => ?_⟩
    rw [if_neg (by simp)]
    unfold placedC encC
    rfl
  | fls =>
    refine .inl ⟨"false", [], by unfold encC; rfl, by decide, by decide +kernel, (fun s h => nomatch h), by decide, fun nw held => ?_⟩
    rw [if_neg (by simp)]
    unfold placedC encC
    rfl
  | less a b =>
    unfold okC at ok
    refine .inl ⟨"less", [a, b], by unfold encC; rfl, by decide, by decide +kernel, fun s h => ?_, by simp, fun nw held => ?_⟩
    · simp only [List.mem_cons, List.not_mem_nil, or_false] at h
      rcases h with rfl | rfl
      · exact ok.1
      · exact ok.2
    · unfold placedC
      by_cases e : srcJ nw held a = -2 ∨ srcJ nw held b = -2
      · rw [if_pos e, if_pos (by simp only [List.map_cons, List.map_nil, List.mem_cons, List.not_mem_nil, or_false]; exact e.imp Eq.symm Eq.symm), if_neg (by decide)]
      · rw [if_neg e, if_neg (by simp only [List.map_cons, List.map_nil, List.mem_cons, List.not_mem_nil, or_false]; exact fun z => e (z.imp Eq.symm Eq.symm))]
        conv => lhs; unfold encC
        rfl
  | same a b =>
    unfold okC at ok
    refine .inl ⟨"same", [a, b], by unfold encC; rfl, by decide, by decide +kernel, fun s h => ?_, by simp, fun nw held => ?_⟩
    · simp only [List.mem_cons, List.not_mem_nil, or_false] at h
      rcases h with rfl | rfl
      · exact ok.1
      · exact ok.2
    · unfold placedC
      by_cases e : srcJ nw held a = -2 ∨ srcJ nw held b = -2
      · rw [if_pos e, if_pos (by simp only [List.map_cons, List.map_nil, List.mem_cons, List.not_mem_nil, or_false]; exact e.imp Eq.symm Eq.symm), if_neg (by decide)]
      · rw [if_neg e, if_neg (by simp only [List.map_cons, List.map_nil, List.mem_cons, List.not_mem_nil, or_false]; exact fun z => e (z.imp Eq.symm Eq.symm))]
        conv => lhs; unfold encC
        rfl
  | emp a =>
    unfold okC at ok
    refine .inl ⟨"empty", [a], by unfold encC; rfl, by decide, by decide +kernel, fun s h => ?_, by simp, fun nw held => ?_⟩
    · simp only [List.mem_cons, List.not_mem_nil, or_false] at h
      rw [h]
      exact ok
    · unfold placedC
      by_cases e : srcJ nw held a = -2
      · rw [if_pos e, if_pos (by simp only [List.map_cons, List.map_nil, List.mem_cons, List.not_mem_nil, or_false]; exact e.symm), if_pos rfl]
      · rw [if_neg e, if_neg (by simp only [List.map_cons, List.map_nil, List.mem_cons, List.not_mem_nil, or_false]; exact fun z => e z.symm)]
        conv => lhs; unfold encC
        rfl
  | nt d => exact .inr (.inl ⟨d, rfl⟩)
  | all cs => exact .inr (.inr (.inl ⟨cs, rfl⟩))
  | any cs => exact .inr (.inr (.inr ⟨cs, rfl⟩))
theorem inV_ints (v : Int) : ∀ l : List Int, inV (.int v) (l.map V.int) = decide (v ∈ l)
  | [] => rfl
  | x :: l => by
    have ih := inV_ints v l
    unfold inV at ih ⊢
    rw [List.map_cons, List.any_cons, ih]
    show (decide (x = v) || decide (v ∈ l)) = _
    rw [show decide (v ∈ x :: l) = (decide (v = x) || decide (v ∈ l)) by simp]
    congr 1
    rw [decide_eq_decide]
    exact ⟨Eq.symm, Eq.symm⟩

theorem headC {K : PySem.W.Frag} {H : Hp} {v : V} {c : C} (h : At K H v (encC c)) : ∃ ac w rest, v = .ref ac ∧ SqT K H ac (.str w :: rest) ∧ ((w ≠ "all" ∧ flatC c = [c]) ∨ (w = "all" ∧ ∃ b ys, rest = [.ref b] ∧ SqT K H b ys ∧ Ats K H ys (encCs (flatC c)))) := by
  cases c with
  | all cs =>
    unfold encC at h
    obtain ⟨a, x1, x2, rfl, sq, e1, e2⟩ := h.t2
    cases at_str.mp e1
    obtain ⟨b, ys, rfl, sqb, ats⟩ := at_tup.mp e2
    exact ⟨a, _, _, rfl, sq, .inr ⟨rfl, b, ys, rfl, sqb, ats⟩⟩
  | _ =>
    unfold encC at h
    obtain ⟨a, xs, rfl, sq, ats⟩ := at_tup.mp h
    obtain ⟨x, r, rfl, e1, e2⟩ := ats_cons.mp ats
    cases at_str.mp e1
    exact ⟨a, _, _, rfl, sq, .inl ⟨by decide, rfl⟩⟩
theorem addPs_snoc (l acc : List C) (c : C) : (l ++ [c]).foldl addP acc = addP (l.foldl addP acc) c := by rw [List.foldl_append]; rfl
theorem mem_keyCs {c : C} {l : List C} : keyC c ∈ keyCs l ↔ c ∈ l := by
  rw [keyCs_map, List.mem_map]
  constructor
  · rintro ⟨d, hd, e⟩
    rw [← keyC_inj e]
    exact hd
  · exact fun h => ⟨c, h, rfl⟩
theorem addP_in {acc : List C} {c : C} (h : c = .tru ∨ c ∈ acc) : addP acc c = acc := by unfold addP; rw [if_pos h]
theorem addP_new {acc : List C} {c : C} (h : ¬ (c = .tru ∨ c ∈ acc)) : addP acc c = acc ++ [c] := by unfold addP; rw [if_neg h]
theorem Ex.put0 {T ms : List Addr} {H H1 : Hp} {p : Addr} {o : HO} (a : Ex T ms H H1) (n : H p = none) : Ex T ms H (upd H1 p o) := by
  have b : Ex [] ms H (upd H1 p o) := Ex.put (T := []) ⟨a.keep, a.tups, (fun _ _ h => nomatch h), a.there⟩ n (fun _ h => nomatch h)
  exact ⟨b.keep, b.tups, fun h => (a.put n h).tabs h, b.there⟩

/-! data of bounded depth and width without truth values -/
mutual
def nbD : Nat → D → Prop
  | 0, .tup _ => False
  | n + 1, .tup ds => ds.length ≤ 100000 ∧ nbDs n ds
  | _, .bl _ => False
  | _, _ => True
def nbDs : Nat → List D → Prop
  | _, [] => True
  | n, d :: ds => nbD n d ∧ nbDs n ds
end
theorem nb_int {n : Nat} {i : Int} : nbD n (.int i) := by cases n <;> (unfold nbD; trivial)
theorem nb_str {n : Nat} {s : Str} : nbD n (.str s) := by cases n <;> (unfold nbD; trivial)
theorem nb_encO {n : Nat} {o : Option Int} : nbD n (encO o) := by cases o <;> cases n <;> (unfold encO nbD; trivial)
theorem nbDs_nil {n : Nat} : nbDs n [] := by unfold nbDs; trivial
theorem nbDs_cons {n : Nat} {d : D} {ds : List D} (h : nbD n d) (t : nbDs n ds) : nbDs n (d :: ds) := by unfold nbDs; exact ⟨h, t⟩
theorem nbDs_map {α : Type} {f : α → D} {n : Nat} : ∀ {l : List α}, (∀ a ∈ l, nbD n (f a)) → nbDs n (l.map f)
  | [], _ => nbDs_nil
  | a :: l, h => nbDs_cons (h a (by simp)) (nbDs_map fun b m => h b (by simp [m]))
theorem nb_tup {n : Nat} {ds : List D} (l : ds.length ≤ 100000) (h : nbDs n ds) : nbD (n + 1) (.tup ds) := by unfold nbD; exact ⟨l, h⟩
theorem nbDs_get {n : Nat} : ∀ {ds : List D} {i : Nat} {d : D}, nbDs n ds → ds[i]? = some d → nbD n d
  | [], i, d, h, e => by simp at e
  | d' :: ds, 0, d, h, e => by
    unfold nbDs at h
    obtain rfl : d' = d := by simpa using e
    exact h.1
  | d' :: ds, i + 1, d, h, e => by
    unfold nbDs at h
    exact nbDs_get h.2 (by simpa using e)
mutual
theorem nb_up : ∀ {n : Nat} {d : D}, nbD n d → nbD (n + 1) d
  | 0, .tup ds, h => by unfold nbD at h; exact h.elim
  | n + 1, .tup ds, h => by unfold nbD at h; exact nb_tup h.1 (nbs_up h.2)
  | n, .int i, _ => nb_int
  | n, .str s, _ => nb_str
  | n, .non, _ => by unfold nbD; trivial
  | 0, .bl b, h => by unfold nbD at h; exact h.elim
  | n + 1, .bl b, h => by unfold nbD at h; exact h.elim
theorem nbs_up : ∀ {n : Nat} {ds : List D}, nbDs n ds → nbDs (n + 1) ds
  | n, [], _ => nbDs_nil
  | n, d :: ds, h => by unfold nbDs at h; exact nbDs_cons (nb_up h.1) (nbs_up h.2)
end
theorem nb_le {n m : Nat} {d : D} (h : nbD n d) (l : n ≤ m) : nbD m d := by
  obtain ⟨k, rfl⟩ := Nat.exists_eq_add_of_le l
  induction k with
  | zero => exact h
  | succ k ih => exact nb_up (ih (by omega))
mutual
theorem nb_encC {r : Nat} : ∀ {n : Nat} {c : C}, okC r n c → nbD (2 * n + 1) (encC c)
  | n, .tru, _ => by unfold encC; exact nb_tup (by simp) (nbDs_cons nb_str nbDs_nil)
  | n, .fls, _ => by unfold encC; exact nb_tup (by simp) (nbDs_cons nb_str nbDs_nil)
  | n, .less a b, _ => by unfold encC; exact nb_tup (by simp) (nbDs_cons nb_str (nbDs_cons nb_int (nbDs_cons nb_int nbDs_nil)))
  | n, .same a b, _ => by unfold encC; exact nb_tup (by simp) (nbDs_cons nb_str (nbDs_cons nb_int (nbDs_cons nb_int nbDs_nil)))
  | n, .emp a, _ => by unfold encC; exact nb_tup (by simp) (nbDs_cons nb_str (nbDs_cons nb_int nbDs_nil))
  | 0, .nt c, h => by unfold okC at h; exact h.elim
  | 0, .all c, h => by unfold okC at h; exact h.elim
  | 0, .any c, h => by unfold okC at h; exact h.elim
  | n + 1, .nt c, h => by
    unfold okC at h
    unfold encC
    exact nb_tup (by simp) (nbDs_cons nb_str (nbDs_cons (nb_up (nb_encC h)) nbDs_nil))
  | n + 1, .all cs, h => by
    unfold okC at h
    unfold encC
    exact nb_tup (by simp) (nbDs_cons nb_str (nbDs_cons (nb_tup (by rw [encCs_length]; exact h.1) (nbs_encC h.2)) nbDs_nil))
  | n + 1, .any cs, h => by
    unfold okC at h
    unfold encC
    exact nb_tup (by simp) (nbDs_cons nb_str (nbDs_cons (nb_tup (by rw [encCs_length]; exact h.1) (nbs_encC h.2)) nbDs_nil))
theorem nbs_encC {r : Nat} : ∀ {n : Nat} {cs : List C}, okCs r n cs → nbDs (2 * n + 1) (encCs cs)
  | n, [], _ => by unfold encCs; exact nbDs_nil
  | n, c :: cs, h => by
    unfold okCs at h
    unfold encCs
    exact nbDs_cons (nb_encC h.1) (nbs_encC h.2)
end
theorem nb_encA {n : Nat} {l : List (List (Int × Option Int))} (h : ∀ a ∈ l, a.length ≤ 100000) (hl : l.length ≤ 100000) : nbD (n + 3) (.tup (l.map encA)) :=
  nb_tup (by rw [List.length_map]; exact hl) (nbDs_map fun a ha => nb_tup (by rw [List.length_map]; exact h a ha) (nbDs_map fun _ _ => nb_tup (by simp) (nbDs_cons nb_int (nbDs_cons nb_encO nbDs_nil))))
theorem nb_encM {n : Nat} {m : M} (ok : okM n m) : nbD (2 * n + 7) (encM m) := by
  refine nb_tup (by simp) (nbDs_cons nb_int (nbDs_cons nb_int (nbDs_cons (nb_tup (by rw [List.length_map]; have := ok.smax; omega) (nbDs_map fun s hs => ?_)) nbDs_nil)))
  refine nb_tup (by rw [List.length_map, ok.all s hs]; have := ok.tmax; omega) (nbDs_map fun cs hcs => ?_)
  have z := ok.cases s hs cs hcs
  refine nb_tup (by rw [List.length_map]; have := z.1; omega) (nbDs_map fun c hc => ?_)
  have o := z.2 c hc
  refine nb_tup (by simp) (nbDs_cons (nb_le (nb_encC o.cond) (by omega)) (nbDs_cons (nb_tup (by rw [List.length_map, o.mlen]; have := ok.rmax; omega) (nbDs_map fun _ _ => nb_int)) (nbDs_cons (nb_tup (by rw [List.length_map]; have := o.slen; omega) (nbDs_map fun _ _ => nb_tup (by simp) (nbDs_cons nb_int (nbDs_cons nb_int nbDs_nil)))) (nbDs_cons nb_int nbDs_nil))))
theorem ans_len {n : Nat} {m : M} (ok : okM n m) : ∀ {es : List (Nat × Int)} {c : Ct}, okCt m c → (∀ e ∈ es, e.1 < m.tags) → ∀ a ∈ answersM m c es, a.length ≤ 1000
  | [], c, _, _, a, h => by cases h
  | e :: es, c, k, ht, a, h => by
    have te := ht e (by simp)
    rcases List.mem_cons.mp h with rfl | h
    · obtain ⟨_, _, _, _, hc⟩ := M.cases_at ok k.st te
      unfold readM
      cases ef : (m.cases c.1 e.1).find? (holdC e.2 c.2) with
      | none => exact Nat.zero_le _
      | some d =>
        show (saidC e.2 c.2 d).length ≤ 1000
        unfold saidC
        rw [List.length_map]
        exact (hc d (List.mem_of_find?_eq_some ef)).slen
    · exact ans_len ok (k.step ok te) (fun f hf => ht f (by simp [hf])) a h
theorem begin_beside {n : Nat} {one other : M} (o1 : okM n one) (o2 : okM n other) (es : List (Nat × Int)) (ht : ∀ e ∈ es, e.1 < one.tags ∧ e.1 < other.tags) :
    answersM (besideM one other) ((0, List.replicate (besideM one other).regs none) : Ct) es = List.zipWith (· ++ ·) (answersM one ((0, List.replicate one.regs none) : Ct) es) (answersM other ((0, List.replicate other.regs none) : Ct) es) := by
  have z := answers_beside o1 o2 es 0 0 (List.replicate one.regs none) (List.replicate other.regs none) ⟨o1.some, List.length_replicate⟩ ⟨o2.some, List.length_replicate⟩ ht
  rw [← z]
  congr 1
  show (0, List.replicate (one.regs + other.regs) none) = (0 * other.steps.length + 0, List.replicate one.regs none ++ List.replicate other.regs none)
  rw [Nat.zero_mul, List.replicate_append_replicate]
theorem steps_beside (one other : M) : (besideM one other).steps.length = one.steps.length * other.steps.length := by
  show ((List.range one.steps.length).flatMap fun i => (List.range other.steps.length).map (rowsB one other i)).length = _
  rw [pairs_len, List.length_range, List.length_range]
end Dv

/-! sorted of a set of ints, however many -/
namespace L2
open PySem PySem.Spec PyProof.Rows
section
variable {P : Program} {w : World} {A : Around} {E : Value → Shared → Prop} {s : Shared} {a : Addr}
theorem sorted_setB {S : Int → Bool} {n : Nat} {Q : Value → Shared → Prop} (R : SetR w s.heap a S n) (hh : A.handled = none) (hbig : n ≤ sizeLine)
    (hQ : ∀ s' p (out : Array Value) (c : Nat) (ns : List Int), (∀ b o, s.heap.get? b = some o → s'.heap.get? b = some o) → s'.gens = s.gens → s'.os = s.os → s.heap.objs.size ≤ p →
      s'.heap.get? p = some (seqObj "list" out c) → IntsAre out.toList ns → ns.Pairwise (· < ·) → (∀ k, k ∈ ns ↔ S k = true) → ns.length = n → Q (.ref p) s') :
    wpAny (model P w) A (call (.builtin "sorted") [.ref a]) Q E s := by
  obtain ⟨o, es, ep, t, ho, hex, hd, g, nd, hm, hb, hf, hn, hr, hl⟩ := R
  refine Calls.call_function_entry kind_sorted plain_sorted entry_sorted (args_sorted1 _) ?_
  unfold Builtin.«sorted»
  refine wpAny_bind (m := checkCount "sorted" 1 1 _) (wpAny_pure ?_)
  refine wpAny_bind (collect_set (A := A.in1) hh ⟨o, ho, hex.1, hd⟩ hf hb hr hl fun s1 vs k1 hz g1 o1 pm => ?_)
  have hvl : vs.length = n := by rw [pm.length_eq, List.length_map, Array.length_toList]; exact hn
  have hI : IntsAre vs (vs.map Builtin.Re.reRawOf) := ints_of vs fun v hv => by
    obtain ⟨e, he, q⟩ := List.mem_map.mp (pm.mem_iff.mp hv)
    obtain ⟨k, tk, h1, _⟩ := g e he
    exact ⟨k, tk, by rw [← q]; exact h1⟩
  have pk : (vs.map Builtin.Re.reRawOf).Perm (es.toList.map keyOf) := by
    have q := pm.map Builtin.Re.reRawOf
    rw [List.map_map] at q
    exact q
  refine wpAny_bind (wpAny_newList ?_ (by rw [hvl]; exact hbig))
  have hoL : (s1.heap.push (seqObj "list" vs.toArray 0)).get? s1.heap.objs.size = some (seqObj "list" vs.toArray 0) := Heap.get?_push_size _ rfl
  refine wpAny_bind (wpAny_holding (wpAny_call_entry slot_list_sort ⟨_, hoL, rfl⟩ entry_list_sort (SrtO.list_sort_ord SrtO.swo_int hoL (by rw [hvl]; exact hbig) (fun h2 => SrtO.ints_sortable hI h2) fun out0 h1 h2 => ⟨_, rfl, ?_⟩) (args_list_sort _)))
  obtain ⟨a1, a2, a3⟩ := SrtO.ints_out hI h1 h2
  obtain ⟨c, hc⟩ := sortedHeap_at (vs := vs) (out := out0.toArray) hoL
  have pn : (out0.map SrtO.iv).Perm (es.toList.map keyOf) := a2.trans pk
  refine wpAny_pure ⟨_, rfl, hQ _ s1.heap.objs.size out0.toArray c (out0.map SrtO.iv) (fun b u e => ?_) g1 o1 hz hc a1 (lt_of_le_nodup _ a3 (pn.nodup_iff.mpr nd)) (fun k => by rw [pn.mem_iff, ← hm k]) ?_⟩
  · have q := k1 b u e
    have hlt := Heap.lt_size q
    show (sortedHeap (s1.heap.push (seqObj "list" vs.toArray 0)) s1.heap.objs.size vs out0.toArray).get? b = some u
    rw [sortedHeap_old (Nat.ne_of_lt hlt) (by rw [size_push']; exact Nat.lt_succ_of_lt hlt)]
    exact Heap.get?_push_of_some _ q
  · rw [pn.length_eq, List.length_map, Array.length_toList]; exact hn
end
/-- sorted(found), any number of members -/
def rSortedSetB (w : World) : List V → Hp → VK → Prop := fun vs H Q => ∃ (a : Addr) (S : Int → Bool) (n : Nat), vs = [V.ref a] ∧ H a = some (SetO w a S n) ∧ n ≤ 100000 ∧
  ∀ (ns : List Int) (p : Addr), ns.Pairwise (· < ·) → (∀ k : Int, k ∈ ns ↔ S k = true) → ns.length = n → H p = none → Q (.ref p) (upd H p (.lst (ns.map V.int)))
section
variable {X : Cx}
theorem cr_sortedSetB (hc : X.calm = true) : CallR X (.builtin "sorted") (rSortedSetB X.w) := by
  intro pins s σ H vs us Q I r h
  obtain ⟨a, S, n, rfl, ha, h64, q⟩ := h
  have R := setO_get I ha
  rw [Vals.ref1 r]
  refine sorted_setB R (I.ok.hd hc) (by rw [sizeLine_eq]; omega) fun s' p out c ns k g o hp hg hi hs hm hl => ?_
  have hlen : (ns.map V.int).length ≤ sizeLine := by rw [List.length_map, hl, sizeLine_eq]; omega
  have hn : H p = none := I.hok.fresh hp
  have J : Inv X pins σ (upd H p (.lst (ns.map V.int))) { s with heap := s'.heap, gens := s'.gens, drawn := s'.drawn, toks := s'.toks } :=
    I.call (ch := []) (Un.laid k hp hn) (I.hok.laid k hp ⟨hlen, out.toList, c, vals_of_ints hi, hg⟩) (by rw [g]; exact I.bare) (fun _ z => nomatch z)
  have e : s' = { s with heap := s'.heap, gens := s'.gens, drawn := s'.drawn, toks := s'.toks } := by
    cases s'
    cases s
    cases o
    rfl
  rw [e]
  exact ⟨.ref p, _, J, rfl, q ns p hs hm hl hn⟩
end
end L2

/-! traces: tags and spots along a log, a log with told spots -/
namespace Dv
open PySem PySem.Spec PyProof.Rows L2 GxR Gx
/-- the type of a content -/
def tyC (c : Ct) : Ct := (c.1, ranksH c.2)
/-- a row of the trace -/
def trR (m : M) (c : Ct) (e : Nat × Int) : Option Nat × Ct × Int := (idxC e.2 c.2 (m.cases c.1 e.1), tyC c, spotN c.2 e.2)
def trL (m : M) : Ct → List (Nat × Int) → List (Option Nat × Ct × Int)
  | _, [] => []
  | c, e :: es => trR m c e :: trL m (stepM m c e) es
def spL (m : M) : Ct → List (Nat × Int) → List (Nat × Int)
  | _, [] => []
  | c, e :: es => (e.1, spotN c.2 e.2) :: spL m (stepM m c e) es
def tyS (m : M) (k : Ct) (e : Nat × Int) : Ct := ((readM m k.1 (mapH (fun x => 2 * x + 1) k.2) e).1, ranksH (readM m k.1 (mapH (fun x => 2 * x + 1) k.2) e).2.1)
def tyL (m : M) (k : Ct) (ss : List (Nat × Int)) : Ct := ss.foldl (tyS m) k
theorem trL_len (m : M) : ∀ (es : List (Nat × Int)) (c : Ct), (trL m c es).length = es.length
  | [], _ => rfl
  | e :: es, c => congrArg (· + 1) (trL_len m es (stepM m c e))
theorem spL_len (m : M) : ∀ (es : List (Nat × Int)) (c : Ct), (spL m c es).length = es.length
  | [], _ => rfl
  | e :: es, c => congrArg (· + 1) (spL_len m es (stepM m c e))
theorem trL_snoc (m : M) (e : Nat × Int) : ∀ (es : List (Nat × Int)) (c : Ct), trL m c (es ++ [e]) = trL m c es ++ [trR m (contM m c es) e]
  | [], _ => rfl
  | e' :: es, c => congrArg (_ :: ·) (trL_snoc m e es (stepM m c e'))
theorem contM_snoc (m : M) (e : Nat × Int) (es : List (Nat × Int)) (c : Ct) : contM m c (es ++ [e]) = stepM m (contM m c es) e := by
  unfold contM
  rw [List.foldl_append]
  rfl
theorem tyL_snoc (m : M) (e : Nat × Int) (es : List (Nat × Int)) (c : Ct) : tyL m c (es ++ [e]) = tyS m (tyL m c es) e := by
  unfold tyL
  rw [List.foldl_append]
  rfl
theorem spL_get (m : M) : ∀ (es : List (Nat × Int)) (c : Ct) (i : Nat) (hi : i < es.length), (spL m c es)[i]? = some (es[i].1, ((trL m c es)[i]'(by rw [trL_len]; exact hi)).2.2)
  | e :: es, c, 0, _ => rfl
  | e :: es, c, i + 1, hi => spL_get m es (stepM m c e) i (Nat.lt_of_succ_lt_succ hi)
theorem tyS_type (m : M) (c : Ct) (e : Nat × Int) : tyS m (tyC c) (e.1, spotN c.2 e.2) = tyC (stepM m c e) := by
  unfold tyS tyC
  dsimp only
  rw [step_types]
  show ((readM m c.1 c.2 (e.1, e.2)).1, ranksH (mapH (spotN c.2) (readM m c.1 c.2 (e.1, e.2)).2.1)) = _
  rw [ranks_after]
  rfl
theorem ty_along (m : M) : ∀ (es : List (Nat × Int)) (c : Ct), tyL m (tyC c) (spL m c es) = tyC (contM m c es)
  | [], _ => rfl
  | e :: es, c => by
    show tyL m (tyS m (tyC c) (e.1, spotN c.2 e.2)) (spL m (stepM m c e) es) = _
    rw [tyS_type]
    exact ty_along m es (stepM m c e)
/-! ### logs in tight form -/
theorem spot_map {g : Int → Int} {h : List (Option Int)} {v : Int} (r : ∀ x y, (some x ∈ h ∨ x = v) → (some y ∈ h ∨ y = v) → (g x < g y ↔ x < y)) : spotN (mapH g h) (g v) = spotN h v := by
  have inj : ∀ x y, (some x ∈ h ∨ x = v) → (some y ∈ h ∨ y = v) → g x = g y → x = y := fun x y hx hy e => by
    rcases Int.lt_trichotomy x y with c | c | c
    · have := (r x y hx hy).mpr c; omega
    · exact c
    · have := (r y x hy hx).mpr c; omega
  unfold spotN
  rw [kn_map (fun x y hx hy c => (r x y (.inl hx) (.inl hy)).mpr c), cnt_map (fun x hx => r x v (.inl (mem_kn.mp hx)) (.inr rfl))]
  congr 1
  by_cases c : v ∈ kn h
  · rw [if_pos c, if_pos (List.mem_map.mpr ⟨v, c, rfl⟩)]
  · rw [if_neg c, if_neg fun z => by
      obtain ⟨x, hx, e⟩ := List.mem_map.mp z
      exact c (inj x v (.inl (mem_kn.mp hx)) (.inr rfl) e ▸ hx)]
theorem spL_map {P : Int → Prop} {g : Int → Int} (r : Emb P g) (m : M) : ∀ (es : List (Nat × Int)) (c : Ct), (∀ x, some x ∈ c.2 → P x) → (∀ e ∈ es, P e.2) →
    spL m (mapC g c) (es.map (chL g)) = spL m c es
  | [], _, _, _ => rfl
  | e :: es, c, hc, he => by
    have pe := he e (by simp)
    have e1 : spotN (mapH g c.2) (g e.2) = spotN c.2 e.2 := spot_map fun x y hx hy => (r x y (by rcases hx with z | z; exact hc x z; rw [z]; exact pe) (by rcases hy with z | z; exact hc y z; rw [z]; exact pe)).1
    have e2 : stepM m (mapC g c) (chL g e) = mapC g (stepM m c e) := by
      have z := readM_on r (h := c.2) hc m c.1 e.1 (v := e.2) pe
      unfold stepM mapC chL
      dsimp only
      rw [z]
    show (e.1, spotN (mapH g c.2) (g e.2)) :: spL m (stepM m (mapC g c) (chL g e)) (es.map (chL g)) = _
    rw [e1, e2, spL_map r m es (stepM m c e) (readM_P (P := P) m c.1 (e := e) hc pe).1 fun e' h' => he e' (by simp [h'])]
    rfl
theorem tg_emb (es : List (Nat × Int)) : Emb (fun x => x ∈ vals es) (tgF es) := fun x y hx hy => by
  refine ⟨tg_lt hx hy, ⟨fun e => ?_, fun e => by rw [e]⟩⟩
  rcases Int.lt_trichotomy x y with c | c | c
  · have := (tg_lt hx hy).mpr c; omega
  · exact c
  · have := (tg_lt hy hx).mpr c; omega
theorem spL_tight (m : M) (r : Nat) (es : List (Nat × Int)) : spL m ((0, List.replicate r none) : Ct) (tightL es) = spL m ((0, List.replicate r none) : Ct) es := by
  have z := spL_map (tg_emb es) m es ((0, List.replicate r none) : Ct) (fun x hx => by have := (List.mem_replicate.mp hx).2; cases this) fun e he => List.mem_map.mpr ⟨e, he, rfl⟩
  have e : mapC (tgF es) ((0, List.replicate r none) : Ct) = (0, List.replicate r none) := by
    unfold mapC mapH
    rw [List.map_replicate]
    rfl
  rw [e] at z
  exact z
theorem tight_srt (es : List (Nat × Int)) : srt (vals (tightL es)) = (List.range (srt (vals es)).length).map fun (i : Nat) => (i : Int) := by
  rw [tight_vals, srt_map _ fun x hx y hy c => (tg_lt hx hy).mpr c]
  refine List.ext_getElem (by rw [List.length_map, List.length_map, List.length_range]) fun i h1 h2 => ?_
  rw [List.length_map] at h1
  rw [List.getElem_map, List.getElem_map, List.getElem_range]
  show ((cnt (srt (vals es)) (srt (vals es))[i] : Nat) : Int) = _
  rw [cnt_at (srt_sorted _) h1]
/-! ### a log with told spots -/
def bnds (ks : List Int) (top : Int) : List Int := 0 :: ks ++ [top]
def valA (ks : List Int) (s top : Int) : Int := if s % 2 = 1 then ks.getD (s / 2).toNat 0 else ((bnds ks top).getD (s / 2).toNat 0 + (bnds ks top).getD ((s / 2).toNat + 1) 0) / 2
def logL (m : M) (top : Int) : Ct → List (Nat × Int) → List (Nat × Int)
  | _, [] => []
  | c, s :: ss => (s.1, valA (kn c.2) s.2 top) :: logL m top (stepM m c (s.1, valA (kn c.2) s.2 top)) ss
theorem logL_len (m : M) (top : Int) : ∀ (ss : List (Nat × Int)) (c : Ct), (logL m top c ss).length = ss.length
  | [], _ => rfl
  | s :: ss, c => congrArg (· + 1) (logL_len m top ss _)
theorem logL_snoc (m : M) (top : Int) (s : Nat × Int) : ∀ (ss : List (Nat × Int)) (c : Ct), logL m top c (ss ++ [s]) = logL m top c ss ++ [(s.1, valA (kn (contM m c (logL m top c ss)).2) s.2 top)]
  | [], _ => rfl
  | s' :: ss, c => congrArg (_ :: ·) (logL_snoc m top s ss _)
/-- spots that can come about, from a type on -/
def okSp (m : M) : Ct → List (Nat × Int) → Prop
  | _, [] => True
  | k, s :: ss => (s.1 < m.tags ∧ 0 ≤ s.2 ∧ s.2 ≤ 2 * ((kn k.2).length : Nat)) ∧ okSp m (tyS m k s) ss
/-- room for n more values -/
structure Rm (n : Nat) (ks : List Int) (top : Int) : Prop where
  low : ∀ x ∈ ks, 2 ^ (n + 1) ≤ x
  high : ∀ x ∈ ks, x + 2 ^ (n + 1) ≤ top
  apart : ∀ x ∈ ks, ∀ y ∈ ks, x < y → x + 2 ^ (n + 1) ≤ y
  top : (2 : Int) ^ (n + 1) ≤ top
theorem cnt_sorted {ks : List Int} {v : Int} {i : Nat} (hs : ks.Pairwise (· < ·)) (hi : i ≤ ks.length) (lo : ∀ j, j < i → ∀ h : j < ks.length, ks[j] < v) (hi2 : ∀ j, i ≤ j → ∀ h : j < ks.length, v < ks[j]) : cnt ks v = i ∧ v ∉ ks := by
  have e : ks.filter (fun y => decide (y < v)) = ks.take i := by
    have e1 : ks = ks.take i ++ ks.drop i := (List.take_append_drop i ks).symm
    conv => lhs; rw [e1]
    rw [List.filter_append]
    have a1 : (ks.take i).filter (fun y => decide (y < v)) = ks.take i := List.filter_eq_self.mpr fun y hy => by
      obtain ⟨j, hj, rfl⟩ := List.getElem_of_mem hy
      rw [List.length_take] at hj
      rw [List.getElem_take]
      exact decide_eq_true (lo j (by omega) (by omega))
    have a2 : (ks.drop i).filter (fun y => decide (y < v)) = [] := List.filter_eq_nil_iff.mpr fun y hy => by
      obtain ⟨j, hj, rfl⟩ := List.getElem_of_mem hy
      rw [List.length_drop] at hj
      rw [List.getElem_drop]
      have := hi2 (i + j) (by omega) (by omega)
      rw [decide_eq_true_eq]
      omega
    rw [a1, a2, List.append_nil]
  refine ⟨by unfold cnt; rw [e, List.length_take]; omega, fun z => ?_⟩
  obtain ⟨j, hj, e⟩ := List.getElem_of_mem z
  by_cases c : j < i
  · have := lo j c hj; omega
  · have := hi2 j (by omega) hj; omega
theorem bnds_at {ks : List Int} {top : Int} {i : Nat} (hi : i ≤ ks.length) : (bnds ks top).getD i 0 = (if h : 0 < i then ks[i - 1]'(by omega) else 0) ∧ (bnds ks top).getD (i + 1) 0 = (if h : i < ks.length then ks[i] else top) := by
  unfold bnds
  constructor
  · cases i with
    | zero => rfl
    | succ i =>
      rw [dif_pos (Nat.succ_pos i), List.getD_eq_getElem?_getD, List.cons_append, List.getElem?_cons_succ, List.getElem?_append_left (by omega), List.getElem?_eq_getElem (by omega)]
      rfl
  · rw [List.getD_eq_getElem?_getD, List.cons_append, List.getElem?_cons_succ]
    by_cases c : i < ks.length
    · rw [dif_pos c, List.getElem?_append_left c, List.getElem?_eq_getElem c]
      rfl
    · rw [dif_neg c, List.getElem?_append_right (by omega), show i - ks.length = 0 by omega]
      rfl
/-- the value is at the spot, and room is left -/
theorem valA_spot {n : Nat} {h : List (Option Int)} {s top : Int} (rm : Rm n (kn h) top) (s0 : 0 ≤ s) (s1 : s ≤ 2 * ((kn h).length : Nat)) :
    spotN h (valA (kn h) s top) = s ∧ ∀ ks' : List Int, (∀ x ∈ ks', x ∈ kn h ∨ x = valA (kn h) s top) → 1 ≤ n → Rm (n - 1) ks' top := by
  have srtd := kn_sorted h
  generalize hks : kn h = ks at *
  obtain ⟨i, hi⟩ : ∃ i : Nat, (s / 2).toNat = i := ⟨_, rfl⟩
  have pw : (0 : Int) < 2 ^ (n + 1) := Int.pow_pos (by decide)
  by_cases odd : s % 2 = 1
  · have hil : i < ks.length := by omega
    have ev : valA ks s top = ks[i] := by
      unfold valA
      rw [if_pos odd, hi, List.getD_eq_getElem?_getD, List.getElem?_eq_getElem hil]
      rfl
    rw [ev]
    have hm : ks[i] ∈ ks := List.getElem_mem hil
    refine ⟨?_, fun ks' hk hn => ?_⟩
    · unfold spotN
      rw [hks, cnt_at srtd hil, if_pos hm]
      omega
    · have sub : ∀ x ∈ ks', x ∈ ks := fun x hx => by
        rcases hk x hx with z | z
        · exact z
        · rw [z]; exact hm
      have pl : (2 : Int) ^ (n - 1 + 1) ≤ 2 ^ (n + 1) := by
        rw [show n + 1 = (n - 1 + 1) + 1 by omega, Int.pow_succ]
        have : (0 : Int) < 2 ^ (n - 1 + 1) := Int.pow_pos (by decide)
        omega
      exact ⟨fun x hx => by have := rm.low x (sub x hx); omega, fun x hx => by have := rm.high x (sub x hx); omega, fun x hx y hy c => by have := rm.apart x (sub x hx) y (sub y hy) c; omega, by have := rm.top; omega⟩
  · have hil : i ≤ ks.length := by omega
    obtain ⟨b1, b2⟩ := bnds_at (top := top) hil
    have ev : valA ks s top = ((bnds ks top).getD i 0 + (bnds ks top).getD (i + 1) 0) / 2 := by
      unfold valA
      rw [if_neg odd, hi]
    rw [ev]
    generalize hlo : (bnds ks top).getD i 0 = lo at *
    generalize hhi : (bnds ks top).getD (i + 1) 0 = hi' at *
    have q2 : (2 : Int) ^ (n + 1) = 2 * 2 ^ n := by rw [Int.pow_succ, Int.mul_comm]
    have pn : (0 : Int) < 2 ^ n := Int.pow_pos (by decide)
    have gap : lo + 2 ^ (n + 1) ≤ hi' := by
      rw [b1, b2]
      split
      · split
        · rename_i c1 c2
          exact rm.apart _ (List.getElem_mem _) _ (List.getElem_mem _) ((at_lt srtd (by omega) c2).mpr (by omega))
        · exact rm.high _ (List.getElem_mem _)
      · split
        · have := rm.low _ (List.getElem_mem (h := by assumption))
          omega
        · have := rm.top
          omega
    have below : ∀ j, j < i → ∀ hj : j < ks.length, ks[j] ≤ lo := fun j c hj => by
      rw [b1, dif_pos (by omega)]
      by_cases e : j = i - 1
      · subst e; exact Int.le_refl _
      · exact Int.le_of_lt ((at_lt srtd hj (by omega)).mpr (by omega))
    have above : ∀ j, i ≤ j → ∀ hj : j < ks.length, hi' ≤ ks[j] := fun j c hj => by
      rw [b2, dif_pos (by omega)]
      by_cases e : j = i
      · subst e; exact Int.le_refl _
      · exact Int.le_of_lt ((at_lt srtd (by omega) hj).mpr (by omega))
    have lo0 : 0 ≤ lo := by
      rw [b1]
      split
      · have := rm.low (ks[i - 1]'(by omega)) (List.getElem_mem (by omega)); omega
      · exact Int.le_refl _
    have hit : hi' ≤ top := by
      rw [b2]
      split
      · have := rm.high _ (List.getElem_mem (h := by assumption)); omega
      · exact Int.le_refl _
    have v1 : lo + 2 ^ n ≤ (lo + hi') / 2 := by omega
    have v2 : (lo + hi') / 2 + 2 ^ n ≤ hi' := by omega
    generalize (lo + hi') / 2 = v at *
    obtain ⟨c1, c2⟩ := cnt_sorted (v := v) srtd hil (fun j a b => by have := below j a b; omega) (fun j a b => by have := above j a b; omega)
    refine ⟨?_, fun ks' hk hn => ?_⟩
    · unfold spotN
      rw [hks, c1, if_neg c2]
      omega
    · have side : ∀ x ∈ ks, x ≤ lo ∨ hi' ≤ x := fun x hx => by
        obtain ⟨j, hj, rfl⟩ := List.getElem_of_mem hx
        by_cases c : j < i
        · exact .inl (below j c hj)
        · exact .inr (above j (by omega) hj)
      refine ⟨fun x hx => ?_, fun x hx => ?_, fun x hx y hy c => ?_, ?_⟩
      · rw [show n - 1 + 1 = n by omega]
        rcases hk x hx with z | z
        · have := rm.low x z; omega
        · omega
      · rw [show n - 1 + 1 = n by omega]
        rcases hk x hx with z | z
        · have := rm.high x z; omega
        · omega
      · rw [show n - 1 + 1 = n by omega]
        rcases hk x hx with z | z <;> rcases hk y hy with u | u
        · have := rm.apart x z y u c; omega
        · rcases side x z with w | w <;> omega
        · rcases side y u with w | w <;> omega
        · omega
      · rw [show n - 1 + 1 = n by omega]
        have := rm.top
        omega
theorem kn_ranks_len (h : List (Option Int)) : (kn (ranksH h)).length = (kn h).length := by rw [kn_ranks, List.length_map, List.length_range]
/-- the log has the told spots -/
theorem log_spots (m : M) (top : Int) : ∀ (ss : List (Nat × Int)) (c : Ct) (n : Nat), Rm n (kn c.2) top → ss.length ≤ n + 1 → okSp m (tyC c) ss → spL m c (logL m top c ss) = ss
  | [], _, _, _, _, _ => rfl
  | s :: ss, c, n, rm, hl, ok => by
    obtain ⟨⟨t1, s0, s1⟩, ok⟩ := ok
    have s1' : s.2 ≤ 2 * ((kn c.2).length : Nat) := by rw [← kn_ranks_len]; exact s1
    obtain ⟨e1, rm'⟩ := valA_spot rm s0 s1'
    have ety : tyS m (tyC c) s = tyC (stepM m c (s.1, valA (kn c.2) s.2 top)) := by
      have z := tyS_type m c (s.1, valA (kn c.2) s.2 top)
      rw [show spotN c.2 (s.1, valA (kn c.2) s.2 top).2 = s.2 from e1] at z
      exact z
    rw [ety] at ok
    show (s.1, spotN c.2 (valA (kn c.2) s.2 top)) :: spL m (stepM m c (s.1, valA (kn c.2) s.2 top)) (logL m top (stepM m c (s.1, valA (kn c.2) s.2 top)) ss) = _
    rw [e1]
    cases ss with
    | nil => rfl
    | cons s' ss =>
      have hn : 1 ≤ n := by rw [List.length_cons, List.length_cons] at hl; omega
      rw [log_spots m top (s' :: ss) _ (n - 1) (rm' _ (fun x hx => ?_) hn) (by rw [List.length_cons] at hl; omega) ok]
      have := held_P (m := m) (st := c.1) (t := s.1) (h := c.2) (v := valA (kn c.2) s.2 top) x (mem_kn.mp hx)
      rcases this with z | z
      · exact .inl (mem_kn.mpr z)
      · exact .inr z
end Dv
namespace Dv
open PySem PySem.Spec PyProof.Rows L2 GxR Gx
def encNo : Option Nat → D
  | none => .non
  | some n => .int n
theorem at_encNo {K : PySem.W.Frag} {H : Hp} {o : Option Nat} : At K H (oN o) (encNo o) := by
  cases o with
  | none => exact at_non.mpr rfl
  | some n => exact at_int.mpr rfl
def encT (r : Option Nat × Ct × Int) : D := .tup [encNo r.1, encCt r.2.1.1 r.2.1.2, .int r.2.2]
theorem take_snoc {α : Type} {l : List α} {i : Nat} (h : i < l.length) : l.take (i + 1) = l.take i ++ [l[i]] := by rw [List.take_add_one, List.getElem?_eq_getElem h]; rfl
theorem okCt_beg {m : M} {n : Nat} (ok : okM n m) : okCt m ((0, List.replicate m.regs none) : Ct) := ⟨ok.some, List.length_replicate⟩
end Dv

namespace Dv
open PySem PySem.Spec PyProof.Rows L2 GxR Gx
theorem walk_zipT {K : PySem.W.Frag} {a b : Addr} {xs ys : List V} {n : Nat} (hn : n = min xs.length ys.length) : Walk (RZ.ItzT K a b) n (fun H => SqT K H a xs ∧ SqT K H b ys) (YPair (fun i => xs[i]?) (fun i => ys[i]?)) := by
  subst hn
  refine ⟨fun i _ hi q => ?_, fun _ q => ⟨xs, ys, q.1, q.2, by omega⟩, fun i H v H' _ q y => ?_⟩
  · have h1 : i < xs.length := by omega
    have h2 : i < ys.length := by omega
    exact ⟨xs, ys, xs[i], ys[i], q.1, q.2, by simp [h1], by simp [h2]⟩
  · obtain ⟨T, x, z, h1, h2, h3, h4, h5⟩ := y
    exact ⟨T, x, z, h1, h2, h3, h4 xs q.1, h5 ys q.2⟩
end Dv

namespace Dv
open PySem PySem.Spec PyProof.Rows L2 GxR Gx
theorem okSp_at (m : M) : ∀ (ss : List (Nat × Int)) (k : Ct), okSp m k ss → ∀ (i : Nat) (hi : i < ss.length), ss[i].1 < m.tags ∧ 0 ≤ ss[i].2 ∧ ss[i].2 ≤ 2 * ((kn (tyL m k (ss.take i)).2).length : Nat)
  | s :: ss, k, h, 0, _ => h.1
  | s :: ss, k, h, i + 1, hi => okSp_at m ss (tyS m k s) h.2 i (Nat.lt_of_succ_lt_succ hi)
theorem logL_tag (m : M) (top : Int) : ∀ (ss : List (Nat × Int)) (c : Ct) (e : Nat × Int), e ∈ logL m top c ss → ∃ s ∈ ss, e.1 = s.1
  | s :: ss, c, e, h => by
    rcases List.mem_cons.mp h with rfl | h
    · exact ⟨s, by simp, rfl⟩
    · obtain ⟨s', h1, h2⟩ := logL_tag m top ss _ e h
      exact ⟨s', by simp [h1], h2⟩
theorem logL_take (m : M) (top : Int) : ∀ (i : Nat) (ss : List (Nat × Int)) (c : Ct), (logL m top c ss).take i = logL m top c (ss.take i)
  | 0, _, _ => by rw [List.take_zero, List.take_zero]; rfl
  | i + 1, [], c => rfl
  | i + 1, s :: ss, c => congrArg (_ :: ·) (logL_take m top i ss _)
theorem spL_take (m : M) : ∀ (i : Nat) (es : List (Nat × Int)) (c : Ct), (spL m c es).take i = spL m c (es.take i)
  | 0, _, _ => by rw [List.take_zero, List.take_zero]; rfl
  | i + 1, [], c => rfl
  | i + 1, e :: es, c => congrArg (_ :: ·) (spL_take m i es _)
theorem Rm.start {n : Nat} {h : List (Option Int)} (he : ∀ x ∈ h, x = none) : Rm n (kn h) (2 ^ (n + 1)) := by
  have e : ∀ x, x ∉ kn h := fun x hx => by have := he _ (mem_kn.mp hx); cases this
  exact ⟨fun x hx => absurd hx (e x), fun x hx => absurd hx (e x), fun x hx => absurd hx (e x), Int.le_refl _⟩
end Dv
namespace Dv
open PySem PySem.Spec PyProof.Rows L2 GxR Gx
theorem okSp_snoc (m : M) (s : Nat × Int) : ∀ (ss : List (Nat × Int)) (k : Ct), okSp m k ss → (s.1 < m.tags ∧ 0 ≤ s.2 ∧ s.2 ≤ 2 * ((kn (tyL m k ss).2).length : Nat)) → okSp m k (ss ++ [s])
  | [], _, _, h => ⟨h, trivial⟩
  | s' :: ss, k, h, h' => ⟨h.1, okSp_snoc m s ss (tyS m k s') h.2 h'⟩
theorem okSp_tags (m : M) (ss : List (Nat × Int)) (k : Ct) (h : okSp m k ss) : ∀ e ∈ ss, e.1 < m.tags := fun e he => by
  obtain ⟨i, hi, rfl⟩ := List.getElem_of_mem he
  exact (okSp_at m ss k h i hi).1
/-- the machine that narrows two held values -/
def btwC : C := .all [.less 0 (-1), .less (-1) 1]
def narM : M := ⟨1, 2, [[[⟨.emp 0, [-1, -2], [(0, -1)], 0⟩, ⟨.less 0 (-1), [0, -1], [], 1⟩]], [[⟨btwC, [-1, 1], [], 2⟩]], [[⟨btwC, [0, -1], [], 1⟩]]]⟩
def narS (n : Nat) : List (Nat × Int) := (0, 0) :: List.replicate n (0, 2)
theorem nar_two : tyS narM (1, [some 0, some 1]) (0, 2) = (2, [some 0, some 1]) ∧ tyS narM (2, [some 0, some 1]) (0, 2) = (1, [some 0, some 1]) ∧ tyS narM (0, [some 0, none]) (0, 2) = (1, [some 0, some 1]) ∧ tyS narM (0, [none, none]) (0, 0) = (0, [some 0, none]) := by decide +kernel
theorem nar_kn : (kn [some 0, some 1]).length = 2 ∧ (kn [some 0, none]).length = 1 ∧ (kn [none, none]).length = 0 := by decide +kernel
theorem nar_rep : ∀ n, okSp narM (1, [some 0, some 1]) (List.replicate n (0, 2)) ∧ okSp narM (2, [some 0, some 1]) (List.replicate n (0, 2))
  | 0 => ⟨trivial, trivial⟩
  | n + 1 => by
    obtain ⟨h1, h2⟩ := nar_rep n
    have k2 : (2 : Int) ≤ 2 * (((kn [some 0, some 1]).length : Nat) : Int) := by rw [nar_kn.1]; decide
    rw [List.replicate_succ]
    exact ⟨⟨⟨by decide, by decide, k2⟩, by rw [nar_two.1]; exact h2⟩, ⟨⟨by decide, by decide, k2⟩, by rw [nar_two.2.1]; exact h1⟩⟩
theorem nar_ok (n : Nat) : okSp narM (tyC ((0, List.replicate narM.regs none) : Ct)) (narS n) := by
  have e : tyC ((0, List.replicate narM.regs none) : Ct) = (0, [none, none]) := by decide +kernel
  rw [e]
  refine ⟨⟨by decide, by decide, by show (0 : Int) ≤ 2 * (((kn [none, none]).length : Nat) : Int); rw [nar_kn.2.2]; decide⟩, ?_⟩
  rw [nar_two.2.2.2]
  cases n with
  | zero => exact trivial
  | succ n =>
    rw [List.replicate_succ]
    refine ⟨⟨by decide, by decide, by show (2 : Int) ≤ 2 * (((kn [some 0, none]).length : Nat) : Int); rw [nar_kn.2.1]; decide⟩, ?_⟩
    rw [nar_two.2.2.1]
    exact (nar_rep n).1
/-- a list that stands beside the draws -/
structure LsAt (dr : Addr) (H : Hp) (L : Addr) (xs : List V) : Prop where
  ne : L ≠ dr
  at_ : H L = some (.lst xs)
theorem LsAt.ext {dr L : Addr} {T : List Addr} {H H' : Hp} {xs : List V} (h : LsAt dr H L xs) (e : Ex T [dr] H H') : LsAt dr H' L xs := ⟨h.ne, e.lst (by simpa using h.ne) h.at_⟩
end Dv
namespace Dv
open PySem PySem.Spec PyProof.Rows L2 GxR Gx
theorem trL_regs {m : M} {n : Nat} (ok : okM n m) : ∀ (es : List (Nat × Int)) (c : Ct), okCt m c → (∀ e ∈ es, e.1 < m.tags) → ∀ r ∈ trL m c es, r.2.1.2.length = m.regs
  | e :: es, c, oc, tg, r, hr => by
    rcases List.mem_cons.mp hr with rfl | hr
    · show (ranksH c.2).length = _
      unfold ranksH
      rw [mapH_len]
      exact oc.len
    · exact trL_regs ok es (stepM m c e) (oc.step ok (tg e (by simp))) (fun e' h => tg e' (by simp [h])) r hr
theorem spL_tag (m : M) : ∀ (es : List (Nat × Int)) (c : Ct) (s : Nat × Int), s ∈ spL m c es → ∃ e ∈ es, s.1 = e.1
  | e :: es, c, s, h => by
    rcases List.mem_cons.mp h with rfl | h
    · exact ⟨e, by simp, rfl⟩
    · obtain ⟨e', h1, h2⟩ := spL_tag m es _ s h
      exact ⟨e', by simp [h1], h2⟩
/-- the log in tight form that has the told spots -/
def logT (m : M) (ss : List (Nat × Int)) : List (Nat × Int) := tightL (logL m (2 ^ (ss.length + 1)) ((0, List.replicate m.regs none) : Ct) ss)
theorem logT_len (m : M) (ss : List (Nat × Int)) : (logT m ss).length = ss.length := by unfold logT; rw [tightL_len, logL_len]
theorem logT_spots {m : M} {ss : List (Nat × Int)} (h : okSp m (tyC ((0, List.replicate m.regs none) : Ct)) ss) : spL m ((0, List.replicate m.regs none) : Ct) (logT m ss) = ss := by
  unfold logT
  rw [spL_tight]
  exact log_spots m _ ss _ ss.length (Rm.start fun x hx => (List.mem_replicate.mp hx).2) (Nat.le_succ _) h
theorem logT_tags {m : M} {ss : List (Nat × Int)} (h : okSp m (tyC ((0, List.replicate m.regs none) : Ct)) ss) : ∀ e ∈ logT m ss, e.1 < m.tags := fun e he => by
  obtain ⟨e', h1, rfl⟩ := List.mem_map.mp (show e ∈ (logL m _ _ ss).map (chL _) from he)
  obtain ⟨s, h2, h3⟩ := logL_tag m _ ss _ e' h1
  show e'.1 < _
  rw [h3]
  exact okSp_tags m ss _ h s h2
theorem logT_srt (m : M) (ss : List (Nat × Int)) : srt (vals (logT m ss)) = (List.range (srt (vals (logT m ss))).length).map fun (i : Nat) => (i : Int) := by
  unfold logT
  rw [tight_srt, List.length_map, List.length_range]
theorem rg_cast (n : Nat) : rgV 0 (n : Int) = ((List.range n).map fun (i : Nat) => (i : Int)).map V.int := by
  unfold rgV
  rw [List.map_map]
  rw [show ((n : Int) - 0).toNat = n by omega]
  refine List.map_congr_left fun i _ => ?_
  show V.int (0 + (i : Int)) = V.int i
  rw [Int.zero_add]
end Dv

namespace Law
open PySem PySem.Spec PyProof.Rows L2 GxR Gx Dv
def topS (i : Nat) : Stmt := PySem.Challenge.pw_anyvalues_k00_traces.main.body.getD i (.Pass ⟨0, 0, 0, 0⟩)
abbrev s__worth : Stmt := topS 4
abbrev s_holds : Stmt := topS 3
abbrev s_case_at : Stmt := topS 6
abbrev s_read : Stmt := topS 7
abbrev s_beginning : Stmt := topS 5
abbrev s__numbered : Stmt := topS 12
abbrev s_held_values : Stmt := topS 10
abbrev s_ranks_of : Stmt := topS 11
abbrev s_spots_held : Stmt := topS 19
abbrev s_Step : Stmt := topS 18
abbrev s_row_step : Stmt := topS 20
abbrev s_type_of : Stmt := topS 22
abbrev s_step_of : Stmt := topS 23
abbrev s_tight : Stmt := topS 9
abbrev s_spot_at : Stmt := topS 14
abbrev s_value_at : Stmt := topS 15
abbrev s_top_for : Stmt := topS 16
abbrev s_trace : Stmt := topS 25
abbrev s_spots_along : Stmt := topS 26
abbrev s_type_behind : Stmt := topS 27
abbrev s_log_of_spots : Stmt := topS 28
abbrev s__law_at : Stmt := topS 30
abbrev s__law_holds : Stmt := topS 31
abbrev s__law_beginning : Stmt := topS 32
abbrev s__law_ranks : Stmt := topS 33
abbrev s__law_read : Stmt := topS 34
abbrev s__law_take : Stmt := topS 35
abbrev s__law_draws : Stmt := topS 36
abbrev s__law_condition : Stmt := topS 37
abbrev s__law_case : Stmt := topS 38
abbrev s__law_machine : Stmt := topS 39
abbrev s__law_cell : Stmt := topS 40
abbrev s__law_same : Stmt := topS 41
abbrev s__law_is_integer : Stmt := topS 42
abbrev s__law_spot : Stmt := topS 43
abbrev s__law_case_number : Stmt := topS 44
abbrev s__law_trace : Stmt := topS 45
abbrev s__law_drawn_spots : Stmt := topS 46
abbrev s__law_narrowing : Stmt := topS 47
abbrev s_law : Stmt := topS 48
section
variable {P : Program} {w : World} {K : PySem.W.Frag} {mg : Str → Option Value} {base : Heap}
theorem sc__worth : FnScope ["source", "value", "held"] ["source", "value", "held"] (defScope s__worth) := ⟨rfl, rfl, rfl, by decide +kernel, rfl, by decide +kernel, by decide +kernel⟩
def sp__worth (K : PySem.W.Frag) : Sp := fun vs H Q _ => ∃ (p v : Int) (hv : V) (h : List (Option Int)), vs = [.int p, .int v, hv] ∧ At K H hv (encH h) ∧ -2 ≤ p ∧ p < h.length ∧ Q (oV (worth v h p)) H
theorem ok__worth {f : Addr} {fd : FuncData} {k : Nat} {t1 t2 : Tok} (F : Fun K "_worth" "_worth" s__worth f fd) (mN : mg "NEW" = some (.int (-1) t1)) (mN2 : mg "NOTHING" = some (.int (-2) t2)) : FnOk P w K mg base CX0 (k + 1) f fd ["source", "value", "held"] (sp__worth K) := by
  refine F.ok sc__worth (fun vs H Q E h => ?_) (fun cdv A outer s H vs Q E hr h => ?_)
  · obtain ⟨p, v, hv, h, rfl, _⟩ := h
    rfl
  obtain ⟨p, v, hv, h, rfl, hh, h0, h1, q⟩ := h
  refine ⟨_, pss_cons (ps_if (pt_cmpR op_eq (pv 0) (pe_glob (v := .int (-1)) rfl mN ⟨_, rfl⟩) (nomark _)) (pss_one (ps_ret (pv 1))) pss_nil)
    (pss_cons (ps_if (pt_cmpR op_eq (pv 0) (pe_glob (v := .int (-2)) rfl mN2 ⟨_, rfl⟩) (nomark _)) (pss_one (ps_ret pe_non)) pss_nil)
    (pss_one (ps_ret (pe_ix ix_tup (pv 2) (pv 0) (fun _ _ => rfl))))), ?_⟩
  refine ⟨_, rfl, rfl, _, rfl, ite2 (fun c => ?_) (fun c => ?_)⟩
  · have e : p = -1 := by simpa using c
    subst e
    exact ⟨_, rfl, q⟩
  have n1 : p ≠ -1 := by simpa using c
  refine ⟨_, rfl, rfl, _, rfl, ite2 (fun c => ?_) (fun c => ?_)⟩
  · have e : p = -2 := by simpa using c
    subst e
    exact q
  have n2 : p ≠ -2 := by simpa using c
  obtain ⟨a, rfl, sq⟩ := at_encH.mp hh
  exact ⟨_, rfl, _, rfl, a, _, _, _, rfl, rfl, sq, oV_at (v := v) (by omega) h1, q⟩

theorem sc_holds : FnScope ["condition", "value", "held", "word", "one", "other"] ["condition", "value", "held"] (defScope s_holds) := ⟨rfl, rfl, rfl, by decide +kernel, rfl, by decide +kernel, by decide +kernel⟩
def sp_holds (K : PySem.W.Frag) (T : List Addr) (n : Nat) : Sp := fun vs H Q _ => ∃ (x hv : V) (c : C) (v : Int) (h : List (Option Int)), vs = [x, .int v, hv] ∧ At K H x (encC c) ∧ At K H hv (encH h) ∧ Wd T H ∧ (∃ m, n = m + 1 ∧ okC h.length m c) ∧
  ∀ H', Ex T [] H H' → Q (.bl (hold v h c)) H'

theorem ok_holds {f fW c PT : Addr} {fd fdW : FuncData} {T : List Addr} (hPT : PT ∈ T) (F : FunT K "holds" "holds" s_holds f fd c) (bF : Binds K fd ["condition", "value", "held"] []) (mF : mg "holds" = some (.ref f))
    (TB : TabB base mg c PT) (mAll : mg "all" = none) (mAny : mg "any" = none)
    (W : FnOk P w K mg base CX0 1 fW fdW ["source", "value", "held"] (sp__worth K)) (kW : PySem.W.keepIn K (.ref fW) = true) (bW : Binds K fdW ["source", "value", "held"] []) (mW : mg "_worth" = some (.ref fW)) :
    ∀ n : Nat, FnOk P w K mg base CX0 (2 * n + 1) f fd ["condition", "value", "held"] (sp_holds K T n) := by
  intro n
  induction n with
  | zero =>
    have no : ∀ vs H Q E, ¬ sp_holds K T 0 vs H Q E := fun vs H Q E h => by
      obtain ⟨x, hv, c, v, h, _, _, _, _, ⟨m, e, _⟩, _⟩ := h
      omega
    exact ⟨fun vs H Q E h => absurd h (no vs H Q E), fun A outer s H args us vs Q E _ _ _ _ h => absurd h (no vs H Q E)⟩
  | succ n ih =>
  refine F.ok sc_holds (fun vs H Q E h => ?_) (fun A outer s H vs Q E hr h => ?_)
  · obtain ⟨x, hv, c, v, h, rfl, _⟩ := h
    rfl
  obtain ⟨x, hv, c, v, h, rfl, hx, hh, wd, ⟨n', en, ok⟩, q⟩ := h
  obtain rfl : n = n' := by omega
  have hr1 : Room 1 _ := hr.mono (by omega)
  refine ⟨_, pss_cons (ps_set (i := 3) sc_holds.nd rfl (.inl rfl) (pe_ix ix_tup (pv 0) pe_int (fun _ _ => rfl)))
    (pss_cons (ps_if (pt_cmpR op_eq (pv 3) pe_str (nomark _))
      (pss_one (ps_ret (pe_allG (k := 2 * n + 1) (es := [("part", none), ("value", some 1), ("held", some 2)]) hr (by rfl) mAll TB rfl ⟨by rfl, by rfl, by rfl, by (show freeOk (defScope s_holds) _ = true; decide +kernel), by (show capsOk ["condition", "value", "held", "word", "one", "other"] _ _ = true; decide +kernel)⟩
        (pi_tup (pe_ix ix_tup (pv 0) pe_int (fun _ _ => rfl))) (fun _ _ _ _ _ _ _ => pg_name (i := 0) (show (["part", "value", "held"] : List Str).Nodup by decide +kernel) rfl (.inl rfl) (.inr rfl))
        (fun _ _ _ _ _ _ _ hr' => pe_call ih hr' (by rfl) mF F.kp bF .nil pass0 (pa_cons (pv 0) (pa_cons (pv 1) (pa_cons (pv 2) pa_nil)))) (fun _ => rfl)))) pss_nil)
    (pss_cons (ps_if (pt_cmpR op_eq (pv 3) pe_str (nomark _))
      (pss_one (ps_ret (pe_anyG (k := 2 * n + 1) (es := [("part", none), ("value", some 1), ("held", some 2)]) hr (by rfl) mAny TB rfl ⟨by rfl, by rfl, by rfl, by (show freeOk (defScope s_holds) _ = true; decide +kernel), by (show capsOk ["condition", "value", "held", "word", "one", "other"] _ _ = true; decide +kernel)⟩
        (pi_tup (pe_ix ix_tup (pv 0) pe_int (fun _ _ => rfl))) (fun _ _ _ _ _ _ _ => pg_name (i := 0) (show (["part", "value", "held"] : List Str).Nodup by decide +kernel) rfl (.inl rfl) (.inr rfl))
        (fun _ _ _ _ _ _ _ hr' => pe_call ih hr' (by rfl) mF F.kp bF .nil pass0 (pa_cons (pv 0) (pa_cons (pv 1) (pa_cons (pv 2) pa_nil)))) (fun _ => rfl)))) pss_nil)
    (pss_cons (ps_if (pt_cmpR op_eq (pv 3) pe_str (nomark _))
      (pss_one (ps_ret (pe_not (pe_call ih (hr.mono (by omega)) (by rfl) mF F.kp bF .nil pass0 (pa_cons (pe_ix ix_tup (pv 0) pe_int (fun _ _ => rfl)) (pa_cons (pv 1) (pa_cons (pv 2) pa_nil))))))) pss_nil)
    (pss_cons (ps_if (pt_cmpR op_in_seq (pv 3) (pe_tup (pa_cons pe_str (pa_cons pe_str pa_nil))) rfl)
      (pss_one (ps_ret (pe_cmpR op_eq (pv 3) pe_str (nomark _)))) pss_nil)
    (pss_cons (ps_set (i := 4) sc_holds.nd rfl (.inl rfl) (pe_call W hr1 (by rfl) mW kW bW .nil pass0 (pa_cons (pe_ix ix_tup (pv 0) pe_int (fun _ _ => rfl)) (pa_cons (pv 1) (pa_cons (pv 2) pa_nil)))))
    (pss_cons (ps_if (pt_cmpR op_eq (pv 3) pe_str (nomark _)) (pss_one (ps_ret (pe_cmp (pc_isN (pv 4)) rfl))) pss_nil)
    (pss_cons (ps_set (i := 5) sc_holds.nd rfl (.inl rfl) (pe_call W hr1 (by rfl) mW kW bW .nil pass0 (pa_cons (pe_ix ix_tup (pv 0) pe_int (fun _ _ => rfl)) (pa_cons (pv 1) (pa_cons (pv 2) pa_nil)))))
    (pss_cons (ps_if (pw_or (pt_cmp (pc_isN (pv 4)) rfl) (pw_or1 (pt_cmp (pc_isN (pv 5)) rfl))).pt (pss_one (ps_ret pe_bl)) pss_nil)
    (pss_one (ps_ret (pe_ifExp (pt_cmpR op_eq (pv 3) pe_str (nomark _)) (pe_cmpR op_lt (pv 4) (pv 5) (nomark _)) (pe_cmpR op_eq (pv 4) (pv 5) (nomark _))))))))))))), ?_⟩
  cases c with
  | all cs =>
    unfold encC at hx
    cases n with
    | zero => unfold okC at ok; exact ok.elim
    | succ n =>
    unfold okC at ok
    obtain ⟨oc, ok⟩ := ok
    obtain ⟨a, x1, x2, rfl, sq, e1, e2⟩ := hx.t2
    cases at_str.mp e1
    obtain ⟨b, xs, rfl, sqb, ats⟩ := at_tup.mp e2
    refine ⟨_, rfl, a, _, _, _, rfl, rfl, sq, rfl, ?_⟩
    refine ⟨_, rfl, rfl, _, rfl, ifStrEq ?_⟩
    refine ⟨_, rfl, a, _, _, _, rfl, rfl, sq, rfl, b, rfl, ⟨_, sqb⟩, wd PT hPT, fun H2 ht => ?_⟩
    refine ⟨fun i m σ' H' => i + m = cs.length ∧ Ex T [] H H' ∧ (∃ y, σ' = [y, some (.int v), some hv]) ∧ holdA v h cs = holdA v h (cs.drop i), ⟨cs.length, by omega, Ex.tab (wd PT hPT) ht, ⟨_, rfl⟩, rfl⟩, ?_⟩
    rintro i m σ' H' ⟨him, ex, ⟨y, rfl⟩, hd⟩
    have hl : xs.length = cs.length := by rw [ats.length, encCs_length]
    by_cases hi : i < cs.length
    · obtain ⟨x, hx1, hx2⟩ := part_at ats hi
      refine .inr ⟨⟨xs, x, ex.sqT sqb, hx1⟩, ?_⟩
      rintro x' H'' ⟨rfl, hy⟩
      have e : x' = x := Option.some.inj ((hy xs (ex.sqT sqb)).symm.trans hx1)
      subst e
      refine ⟨_, rfl, _, rfl, _, rfl, _, hv, cs[i], v, h, rfl, hx2.ext ex, hh.ext ex, ex.wd wd, ⟨n, rfl, okCs_get ok (List.getElem?_eq_getElem hi)⟩, fun H3 ex3 => ⟨_, rfl, ?_⟩⟩
      have hdc : holdA v h (cs.drop i) = (hold v h cs[i] && holdA v h (cs.drop (i + 1))) := by rw [List.drop_eq_getElem_cons hi, holdA_cons]
      cases hb : hold v h cs[i] with
      | true =>
        rw [if_neg (by decide)]
        refine ⟨m - 1, by omega, by omega, ex.trans ex3, ⟨_, rfl⟩, ?_⟩
        rw [hd, hdc, hb, Bool.true_and]
      | false =>
        rw [if_pos rfl]
        have hz : hold v h (.all cs) = false := by unfold hold; rw [hd, hdc, hb, Bool.false_and]
        rw [← hz]
        exact q _ (ex.trans ex3)
    · refine .inl ⟨⟨xs, ex.sqT sqb, by omega⟩, ?_⟩
      have hz : hold v h (.all cs) = true := by unfold hold; rw [hd, List.drop_eq_nil_of_le (by omega)]; unfold holdA; rfl
      show Q (.bl true) H'
      rw [← hz]
      exact q _ ex
  | any cs =>
    unfold encC at hx
    cases n with
    | zero => unfold okC at ok; exact ok.elim
    | succ n =>
    unfold okC at ok
    obtain ⟨oc, ok⟩ := ok
    obtain ⟨a, x1, x2, rfl, sq, e1, e2⟩ := hx.t2
    cases at_str.mp e1
    obtain ⟨b, xs, rfl, sqb, ats⟩ := at_tup.mp e2
    refine ⟨_, rfl, a, _, _, _, rfl, rfl, sq, rfl, ?_⟩
    refine ⟨_, rfl, rfl, _, rfl, ifStrNe (by decide +kernel) ?_⟩
    refine ⟨_, rfl, rfl, _, rfl, ifStrEq ?_⟩
    refine ⟨_, rfl, a, _, _, _, rfl, rfl, sq, rfl, b, rfl, ⟨_, sqb⟩, wd PT hPT, fun H2 ht => ?_⟩
    refine ⟨fun i m σ' H' => i + m = cs.length ∧ Ex T [] H H' ∧ (∃ y, σ' = [y, some (.int v), some hv]) ∧ holdE v h cs = holdE v h (cs.drop i), ⟨cs.length, by omega, Ex.tab (wd PT hPT) ht, ⟨_, rfl⟩, rfl⟩, ?_⟩
    rintro i m σ' H' ⟨him, ex, ⟨y, rfl⟩, hd⟩
    have hl : xs.length = cs.length := by rw [ats.length, encCs_length]
    by_cases hi : i < cs.length
    · obtain ⟨x, hx1, hx2⟩ := part_at ats hi
      refine .inr ⟨⟨xs, x, ex.sqT sqb, hx1⟩, ?_⟩
      rintro x' H'' ⟨rfl, hy⟩
      have e : x' = x := Option.some.inj ((hy xs (ex.sqT sqb)).symm.trans hx1)
      subst e
      refine ⟨_, rfl, _, rfl, _, rfl, _, hv, cs[i], v, h, rfl, hx2.ext ex, hh.ext ex, ex.wd wd, ⟨n, rfl, okCs_get ok (List.getElem?_eq_getElem hi)⟩, fun H3 ex3 => ⟨_, rfl, ?_⟩⟩
      have hdc : holdE v h (cs.drop i) = (hold v h cs[i] || holdE v h (cs.drop (i + 1))) := by rw [List.drop_eq_getElem_cons hi, holdE_cons]
      cases hb : hold v h cs[i] with
      | false =>
        rw [if_neg (by decide)]
        refine ⟨m - 1, by omega, by omega, ex.trans ex3, ⟨_, rfl⟩, ?_⟩
        rw [hd, hdc, hb, Bool.false_or]
      | true =>
        rw [if_pos rfl]
        have hz : hold v h (.any cs) = true := by unfold hold; rw [hd, hdc, hb, Bool.true_or]
        rw [← hz]
        exact q _ (ex.trans ex3)
    · refine .inl ⟨⟨xs, ex.sqT sqb, by omega⟩, ?_⟩
      have hz : hold v h (.any cs) = false := by unfold hold; rw [hd, List.drop_eq_nil_of_le (by omega)]; unfold holdE; rfl
      show Q (.bl false) H'
      rw [← hz]
      exact q _ ex
  | nt c =>
    unfold encC at hx
    cases n with
    | zero => unfold okC at ok; exact ok.elim
    | succ n =>
    unfold okC at ok
    obtain ⟨a, x1, x2, rfl, sq, e1, e2⟩ := hx.t2
    cases at_str.mp e1
    refine ⟨_, rfl, a, _, _, _, rfl, rfl, sq, rfl, ?_⟩
    refine ⟨_, rfl, rfl, _, rfl, ifStrNe (by decide +kernel) ?_⟩
    refine ⟨_, rfl, rfl, _, rfl, ifStrNe (by decide +kernel) ?_⟩
    refine ⟨_, rfl, rfl, _, rfl, ifStrEq ?_⟩
    refine ⟨_, rfl, a, _, _, _, rfl, rfl, sq, rfl, _, rfl, _, rfl, x2, hv, c, v, h, rfl, e2, hh, wd, ⟨n, rfl, ok⟩, fun H3 ex3 => ⟨_, rfl, ?_⟩⟩
    have q' := q H3 ex3
    unfold hold at q'
    exact q'
  | tru =>
    unfold encC at hx
    obtain ⟨a, x1, rfl, sq, e1⟩ := hx.t1
    cases at_str.mp e1
    refine ⟨_, rfl, a, _, _, _, rfl, rfl, sq, rfl, ?_⟩
    refine ⟨_, rfl, rfl, _, rfl, ifStrNe (by decide +kernel) ?_⟩
    refine ⟨_, rfl, rfl, _, rfl, ifStrNe (by decide +kernel) ?_⟩
    refine ⟨_, rfl, rfl, _, rfl, ifStrNe (by decide +kernel) ?_⟩
    refine ⟨_, rfl, by decide, fun p np => ⟨p, _, rfl, .inr (SqT.of upd_same), rfl, rfl, _, rfl, ?_⟩⟩
    have e : inV (V.str "true") [V.str "true", V.str "false"] = true := by decide +kernel
    rw [if_neg Bool.false_ne_true, e]
    refine iteT ⟨_, rfl, rfl, ?_⟩
    rw [decStr, show decide (("true" : Str) = "true") = true by decide +kernel]
    exact q _ (Ex.new np)
  | fls =>
    unfold encC at hx
    obtain ⟨a, x1, rfl, sq, e1⟩ := hx.t1
    cases at_str.mp e1
    refine ⟨_, rfl, a, _, _, _, rfl, rfl, sq, rfl, ?_⟩
    refine ⟨_, rfl, rfl, _, rfl, ifStrNe (by decide +kernel) ?_⟩
    refine ⟨_, rfl, rfl, _, rfl, ifStrNe (by decide +kernel) ?_⟩
    refine ⟨_, rfl, rfl, _, rfl, ifStrNe (by decide +kernel) ?_⟩
    refine ⟨_, rfl, by decide, fun p np => ⟨p, _, rfl, .inr (SqT.of upd_same), rfl, rfl, _, rfl, ?_⟩⟩
    have e : inV (V.str "false") [V.str "true", V.str "false"] = true := by decide +kernel
    rw [if_neg Bool.false_ne_true, e]
    refine iteT ⟨_, rfl, rfl, ?_⟩
    rw [decStr, show decide (("false" : Str) = "true") = false by decide +kernel]
    exact q _ (Ex.new np)
  | emp a' =>
    unfold encC at hx
    unfold okC plOk at ok
    obtain ⟨a, x1, x2, rfl, sq, e1, e2⟩ := hx.t2
    cases at_str.mp e1
    cases at_int.mp e2
    refine ⟨_, rfl, a, _, _, _, rfl, rfl, sq, rfl, ?_⟩
    refine ⟨_, rfl, rfl, _, rfl, ifStrNe (by decide +kernel) ?_⟩
    refine ⟨_, rfl, rfl, _, rfl, ifStrNe (by decide +kernel) ?_⟩
    refine ⟨_, rfl, rfl, _, rfl, ifStrNe (by decide +kernel) ?_⟩
    refine ⟨_, rfl, by decide, fun p np => ⟨p, _, rfl, .inr (SqT.of upd_same), rfl, rfl, _, rfl, ?_⟩⟩
    have e : inV (V.str "empty") [V.str "true", V.str "false"] = false := by decide +kernel
    rw [if_neg Bool.false_ne_true, e]
    refine iteF ?_
    have ex0 : Ex T [] H (upd H p (.tup [V.str "true", V.str "false"])) := Ex.new np
    refine ⟨_, rfl, a, _, _, _, rfl, rfl, ex0.sqT sq, rfl, _, rfl, _, rfl, a', v, hv, h, rfl, hh.ext ex0, by omega, ok.2, ?_⟩
    refine ⟨_, rfl, rfl, _, rfl, ifStrEq ⟨_, rfl, ?_⟩⟩
    have q' := q _ ex0
    unfold hold at q'
    have e3 : decide (oV (worth v h a') = V.non) = (worth v h a').isNone := by cases worth v h a' <;> rfl
    show Q (.bl (decide (oV (worth v h a') = V.non))) _
    rw [e3]
    exact q'
  | less a' b' =>
    unfold encC at hx
    unfold okC plOk at ok
    obtain ⟨a, x1, x2, x3, rfl, sq, e1, e2, e3⟩ := hx.t3
    cases at_str.mp e1
    cases at_int.mp e2
    cases at_int.mp e3
    refine ⟨_, rfl, a, _, _, _, rfl, rfl, sq, rfl, ?_⟩
    refine ⟨_, rfl, rfl, _, rfl, ifStrNe (by decide +kernel) ?_⟩
    refine ⟨_, rfl, rfl, _, rfl, ifStrNe (by decide +kernel) ?_⟩
    refine ⟨_, rfl, rfl, _, rfl, ifStrNe (by decide +kernel) ?_⟩
    refine ⟨_, rfl, by decide, fun p np => ⟨p, _, rfl, .inr (SqT.of upd_same), rfl, rfl, _, rfl, ?_⟩⟩
    have e : inV (V.str "less") [V.str "true", V.str "false"] = false := by decide +kernel
    rw [if_neg Bool.false_ne_true, e]
    refine iteF ?_
    have ex0 : Ex T [] H (upd H p (.tup [V.str "true", V.str "false"])) := Ex.new np
    refine ⟨_, rfl, a, _, _, _, rfl, rfl, ex0.sqT sq, rfl, _, rfl, _, rfl, a', v, hv, h, rfl, hh.ext ex0, by omega, ok.1.2, ?_⟩
    refine ⟨_, rfl, rfl, _, rfl, ifStrNe (by decide +kernel) ?_⟩
    refine ⟨_, rfl, a, _, _, _, rfl, rfl, ex0.sqT sq, rfl, _, rfl, _, rfl, b', v, hv, h, rfl, hh.ext ex0, by omega, ok.2.2, ?_⟩
    have q' := q _ ex0
    unfold hold at q'
    refine ⟨_, rfl, _, rfl, ?_⟩
    generalize worth v h a' = wa at q' ⊢
    generalize worth v h b' = wb at q' ⊢
    cases wa with
    | none => exact iteT q'
    | some x =>
      refine iteF ⟨_, rfl, _, rfl, ?_⟩
      cases wb with
      | none => exact iteT q'
      | some y => exact iteF ⟨_, rfl, rfl, _, rfl, ifStrEq ⟨_, rfl, _, rfl, x, y, rfl, rfl, q'⟩⟩
  | same a' b' =>
    unfold encC at hx
    unfold okC plOk at ok
    obtain ⟨a, x1, x2, x3, rfl, sq, e1, e2, e3⟩ := hx.t3
    cases at_str.mp e1
    cases at_int.mp e2
    cases at_int.mp e3
    refine ⟨_, rfl, a, _, _, _, rfl, rfl, sq, rfl, ?_⟩
    refine ⟨_, rfl, rfl, _, rfl, ifStrNe (by decide +kernel) ?_⟩
    refine ⟨_, rfl, rfl, _, rfl, ifStrNe (by decide +kernel) ?_⟩
    refine ⟨_, rfl, rfl, _, rfl, ifStrNe (by decide +kernel) ?_⟩
    refine ⟨_, rfl, by decide, fun p np => ⟨p, _, rfl, .inr (SqT.of upd_same), rfl, rfl, _, rfl, ?_⟩⟩
    have e : inV (V.str "same") [V.str "true", V.str "false"] = false := by decide +kernel
    rw [if_neg Bool.false_ne_true, e]
    refine iteF ?_
    have ex0 : Ex T [] H (upd H p (.tup [V.str "true", V.str "false"])) := Ex.new np
    refine ⟨_, rfl, a, _, _, _, rfl, rfl, ex0.sqT sq, rfl, _, rfl, _, rfl, a', v, hv, h, rfl, hh.ext ex0, by omega, ok.1.2, ?_⟩
    refine ⟨_, rfl, rfl, _, rfl, ifStrNe (by decide +kernel) ?_⟩
    refine ⟨_, rfl, a, _, _, _, rfl, rfl, ex0.sqT sq, rfl, _, rfl, _, rfl, b', v, hv, h, rfl, hh.ext ex0, by omega, ok.2.2, ?_⟩
    have q' := q _ ex0
    unfold hold at q'
    refine ⟨_, rfl, _, rfl, ?_⟩
    generalize worth v h a' = wa at q' ⊢
    generalize worth v h b' = wb at q' ⊢
    cases wa with
    | none => exact iteT q'
    | some x =>
      refine iteF ⟨_, rfl, _, rfl, ?_⟩
      cases wb with
      | none => exact iteT q'
      | some y =>
        refine iteF ⟨_, rfl, rfl, _, rfl, ?_⟩
        refine ifStrNe (by decide +kernel) ⟨_, rfl, _, rfl, rfl, ?_⟩
        have e4 : decide (V.int x = V.int y) = eqO (some x) (some y) := by
          show decide (V.int x = V.int y) = decide (x = y)
          by_cases hxy : x = y
          · rw [hxy, decide_eq_true rfl, decide_eq_true rfl]
          · rw [decide_eq_false hxy, decide_eq_false fun e => hxy (V.int.inj e)]
        show Q (.bl (decide (V.int x = V.int y))) _
        rw [e4]
        exact q'

abbrev N_case_at : List Str := ["machine", "content", "entry", "standing", "held", "tag", "value", "number", "case"]
theorem sc_case_at : FnScope N_case_at ["machine", "content", "entry"] (defScope s_case_at) := ⟨rfl, rfl, rfl, by decide +kernel, rfl, by decide +kernel, by decide +kernel⟩
def sp_case_at (K : PySem.W.Frag) (T : List Addr) (n : Nat) : Sp := fun vs H Q _ => ∃ (xm xc xe : V) (m : M) (st : Nat) (h : List (Option Int)) (e : Nat × Int), vs = [xm, xc, xe] ∧ At K H xm (encM m) ∧ At K H xc (encCt st h) ∧ At K H xe (encE e) ∧ Wd T H ∧ okM n m ∧ st < m.steps.length ∧ e.1 < m.tags ∧ h.length = m.regs ∧
  ∀ H', Ex T [] H H' → Q (oN (idxC e.2 h (m.cases st e.1))) H'
theorem ok_case_at {f g : Addr} {fd gd : FuncData} {T : List Addr} {n k : Nat} (F : Fun K "case_at" "case_at" s_case_at f fd) (me : mg "enumerate" = none)
    (G : FnOk P w K mg base CX0 k g gd ["condition", "value", "held"] (sp_holds K T (n + 1))) (kG : PySem.W.keepIn K (.ref g) = true) (bG : Binds K gd ["condition", "value", "held"] []) (mG : mg "holds" = some (.ref g)) :
    FnOk P w K mg base CX0 (k + 1) f fd ["machine", "content", "entry"] (sp_case_at K T n) := by
  refine F.ok sc_case_at (fun vs H Q E h => ?_) (fun cdv A outer s H vs Q E hr h => ?_)
  · obtain ⟨xm, xc, xe, m, st, h, e, rfl, _⟩ := h
    rfl
  obtain ⟨xm, xc, xe, m, st, h, e, rfl, hm, hc, he, wd, ok, hst, htg, hlen, q⟩ := h
  refine ⟨_, pss_cons (ps_asg (pv 1) (pg_tup rfl (pgs_cons (pg_name (i := 3) sc_case_at.nd rfl (.inl rfl)) (pgs_cons (pg_name (i := 4) sc_case_at.nd rfl (.inl rfl)) pgs_nil))))
    (pss_cons (ps_asg (pv 2) (pg_tup rfl (pgs_cons (pg_name (i := 5) sc_case_at.nd rfl (.inl rfl)) (pgs_cons (pg_name (i := 6) sc_case_at.nd rfl (.inl rfl)) pgs_nil))))
    (pss_cons (ps_for PassesOwn.never rfl (Ent.pi_enumT (by rfl) me (pa_cons (pe_ix ix_tup (pe_ix ix_tup (pe_ix ix_tup (pv 0) pe_int (fun _ _ => rfl)) (pv 3) (fun _ _ => rfl)) (pv 5) (fun _ _ => rfl)) pa_nil)) (pg_tup rfl (pgs_cons (pg_name (i := 7) sc_case_at.nd rfl (.inl rfl)) (pgs_cons (pg_name (i := 8) sc_case_at.nd rfl (.inl rfl)) pgs_nil)))
      (pss_one (ps_if (pt_val (pe_call G hr (by rfl) mG kG bG .nil pass0 (pa_cons (pe_ix ix_tup (pv 8) pe_int (fun _ _ => rfl)) (pa_cons (pv 6) (pa_cons (pv 4) pa_nil))))) (pss_one (ps_ret (pv 7))) pss_nil)))
    (pss_one (ps_ret pe_non)))), ?_⟩
  obtain ⟨am, y1, y2, y3, rfl, sqm, h1, h2, h3⟩ := hm.t3
  cases at_int.mp h1
  cases at_int.mp h2
  obtain ⟨as', xs, rfl, sqs, ats⟩ := at_tup.mp h3
  obtain ⟨ac, z1, hv, rfl, sqc, g1, hh⟩ := hc.t2
  cases at_int.mp g1
  obtain ⟨ae, w1, w2, rfl, sqe, f1, f2⟩ := he.t2
  cases at_int.mp f1
  cases at_int.mp f2
  obtain ⟨s', hs1, hs2, clen, okc⟩ := M.cases_at ok hst htg
  obtain ⟨xst, hx1, hx2⟩ := ats.at hs1
  obtain ⟨ast, xts, rfl, sqst, atst⟩ := at_tup.mp hx2
  obtain ⟨xcs, hc1, hc2⟩ := atst.at hs2
  obtain ⟨acs, ys, rfl, sqcs, atcs⟩ := at_tup.mp hc2
  have yl := atcs.len
  refine ⟨_, rfl, ac, [_, _], rfl, sqc, rfl, _, [_], rfl, _, [], rfl, rfl, ?_⟩
  refine ⟨_, rfl, ae, [_, _], rfl, sqe, rfl, _, [_], rfl, _, [], rfl, rfl, ?_⟩
  refine ⟨_, rfl, am, _, _, _, rfl, rfl, sqm, rfl, _, rfl, as', _, _, _, rfl, rfl, sqs, at_natI hx1, _, rfl, ast, _, _, _, rfl, rfl, sqst, at_natI hc1, acs, ys, rfl, sqcs, ?_⟩
  refine ⟨fun i k' σ' H' => (∃ y7 y8, σ' = [some (.ref am), some (.ref ac), some (.ref ae), some (.int st), some hv, some (.int e.1), some (.int e.2), y7, y8]) ∧ Ex T [] H H' ∧ i + k' = ys.length ∧ ∀ j c, j < i → (m.cases st e.1)[j]? = some c → holdC e.2 h c = false,
    ⟨ys.length, ⟨_, _, rfl⟩, Ex.refl, by omega, fun j c hj _ => absurd hj (by omega)⟩, ?_⟩
  rintro i k' σ' H' ⟨⟨y7, y8, rfl⟩, ex, hik, hno⟩
  by_cases hi : i < ys.length
  · have hi' : i < (m.cases st e.1).length := by omega
    obtain ⟨x, hx1', hx2'⟩ := atcs.at (List.getElem?_eq_getElem hi')
    refine .inr ⟨⟨ys, x, ex.sqT sqcs, hx1'⟩, fun σ2 H2 => (∃ y7 y8, σ2 = [some (.ref am), some (.ref ac), some (.ref ae), some (.int st), some hv, some (.int e.1), some (.int e.2), y7, y8]) ∧ Ex T [] H H2 ∧ ∀ j c, j < i + 1 → (m.cases st e.1)[j]? = some c → holdC e.2 h c = false, fun σ2 H2 hN => ?_, ?_⟩
    · exact ⟨k' - 1, by omega, hN.1, hN.2.1, by omega, hN.2.2⟩
    rintro v H2 ⟨T2, x', rfl, nT, rfl, hy⟩
    have e1 : x' = x := Option.some.inj ((hy ys (ex.sqT sqcs)).symm.trans hx1')
    subst e1
    have exT : Ex T [] H' (upd H' T2 (.tup [.int (i : Nat), x'])) := Ex.new nT
    have ex2 := ex.trans exT
    refine ⟨T2, [_, _], rfl, SqT.of upd_same, rfl, _, [_], rfl, _, [], rfl, rfl, ?_⟩
    obtain ⟨acase, c1, c2, c3, c4, rfl, sqcase, d1, d2, d3, d4⟩ := (hx2'.ext ex2).t4
    have okci := okc _ (List.getElem_mem hi')
    refine ⟨_, rfl, acase, _, _, _, rfl, rfl, sqcase, rfl, _, rfl, _, rfl, c1, hv, _, e.2, h, rfl, d1, hh.ext ex2, ex2.wd wd, ⟨n, rfl, by rw [hlen]; exact okci.cond⟩, fun H3 ex3 => ⟨_, rfl, ?_⟩⟩
    cases hb : hold e.2 h (m.cases st e.1)[i].cond with
    | true =>
      refine iteT ⟨_, rfl, ?_⟩
      have z := q H3 (ex2.trans ex3)
      rw [idxC_drop e.2 h _ hno (List.getElem?_eq_getElem hi') hb] at z
      exact z
    | false =>
      refine iteF ⟨⟨_, _, rfl⟩, ex2.trans ex3, fun j c hj hjc => ?_⟩
      by_cases ej : j = i
      · subst ej
        rw [List.getElem?_eq_getElem hi'] at hjc
        cases hjc
        exact hb
      · exact hno j c (by omega) hjc
  · refine .inl ⟨⟨ys, ex.sqT sqcs, by omega⟩, ?_⟩
    have z := q H' ex
    rw [idxC_none e.2 h _ fun j c hj => hno j c (by have := (List.getElem?_eq_some_iff.mp hj).1; omega) hj] at z
    exact z

abbrev N_read : List Str := ["machine", "content", "entry", "number", "standing", "held", "tag", "value", "_", "moves", "says", "following", "said", "kept", "told", "source"]
theorem sc_read : FnScope N_read ["machine", "content", "entry"] (defScope s_read) := ⟨rfl, rfl, rfl, by decide +kernel, rfl, by decide +kernel, by decide +kernel⟩
def sp_read (K : PySem.W.Frag) (T : List Addr) (n : Nat) : Sp := fun vs H Q _ => ∃ (xm xc xe : V) (m : M) (st : Nat) (h : List (Option Int)) (e : Nat × Int), vs = [xm, xc, xe] ∧ At K H xm (encM m) ∧ At K H xc (encCt st h) ∧ At K H xe (encE e) ∧ Wd T H ∧ okM n m ∧ st < m.steps.length ∧ e.1 < m.tags ∧ h.length = m.regs ∧
  ∀ v H', At K H' v (encR (readM m st h e)) → Ex T [] H H' → Q v H'
theorem ok_read {f g gw : Addr} {fd gd gwd : FuncData} {T : List Addr} {n k : Nat} (F : Fun K "read" "read" s_read f fd) (mt : mg "tuple" = none)
    (G : FnOk P w K mg base CX0 k g gd ["machine", "content", "entry"] (sp_case_at K T n)) (kG : PySem.W.keepIn K (.ref g) = true) (bG : Binds K gd ["machine", "content", "entry"] []) (mG : mg "case_at" = some (.ref g))
    (W : FnOk P w K mg base CX0 k gw gwd ["source", "value", "held"] (sp__worth K)) (kW : PySem.W.keepIn K (.ref gw) = true) (bW : Binds K gwd ["source", "value", "held"] []) (mW : mg "_worth" = some (.ref gw)) :
    FnOk P w K mg base CX0 (k + 1) f fd ["machine", "content", "entry"] (sp_read K T n) := by
  refine F.ok sc_read (fun vs H Q E h => ?_) (fun cdv A outer s H vs Q E hr h => ?_)
  · obtain ⟨xm, xc, xe, m, st, h, e, rfl, _⟩ := h
    rfl
  obtain ⟨xm, xc, xe, m, st, h, e, rfl, hm, hc, he, wd, ok, hst, htg, hlen, q⟩ := h
  refine ⟨_, pss_cons (ps_set (i := 3) sc_read.nd rfl (.inl rfl) (pe_call G hr (by rfl) mG kG bG .nil pass0 (pa_cons (pv 0) (pa_cons (pv 1) (pa_cons (pv 2) pa_nil)))))
    (pss_cons (ps_if (pt_cmp (pc_isN (pv 3)) rfl) (pss_one (ps_ret (pe_tup (pa_cons (pv 1) (pa_cons (pe_tup pa_nil) pa_nil))))) pss_nil)
    (pss_cons (ps_asg (pv 1) (pg_tup rfl (pgs_cons (pg_name (i := 4) sc_read.nd rfl (.inl rfl)) (pgs_cons (pg_name (i := 5) sc_read.nd rfl (.inr rfl)) pgs_nil))))
    (pss_cons (ps_asg (pv 2) (pg_tup rfl (pgs_cons (pg_name (i := 6) sc_read.nd rfl (.inl rfl)) (pgs_cons (pg_name (i := 7) sc_read.nd rfl (.inr rfl)) pgs_nil))))
    (C8.pss_cut (ps_asg (pe_ix ix_tup (pe_ix ix_tup (pe_ix ix_tup (pe_ix ix_tup (pv 0) pe_int (fun _ _ => rfl)) (pv 4) (fun _ _ => rfl)) (pv 6) (fun _ _ => rfl)) (pv 3) (fun _ _ => rfl))
      (pg_tup rfl (pgs_cons (pg_name (i := 8) sc_read.nd rfl (.inl rfl)) (pgs_cons (pg_name (i := 9) sc_read.nd rfl (.inl rfl)) (pgs_cons (pg_name (i := 10) sc_read.nd rfl (.inl rfl)) (pgs_cons (pg_name (i := 11) sc_read.nd rfl (.inl rfl)) pgs_nil))))))
    (C8.pss_cut (ps_set (i := 12) sc_read.nd rfl (.inl rfl) (pe_callTy call_tuple_of (by rfl) mt (by decide +kernel) (pa_cons
      (pe_lc (own := [("told", 14), ("source", 15)]) (g := gTup K 2 (gCons (gName 14) (gCons (gName 15) gNil))) (tt := tYes) rfl sc_read.nd (pi_tup (pv 10)) (blkOk_by (N := N_read) (sc := defScope s_read) (by decide +kernel))
        (fun _ _ _ _ _ => pg_tup rfl (pgs_cons (pg_name (i := 14) sc_read.nd rfl (.inl rfl)) (pgs_cons (pg_name (i := 15) sc_read.nd rfl (.inl rfl)) pgs_nil))) (fun _ _ _ _ _ => pts_nil)
        (fun _ _ _ _ _ => pe_tup (pa_cons (pv 14) (pa_cons (pe_call W hr (by rfl) mW kW bW .nil pass0 (pa_cons (pv 15) (pa_cons (pv 7) (pa_cons (pv 5) pa_nil)))) pa_nil)))) pa_nil)))
    (pss_cons (ps_set (i := 13) sc_read.nd rfl (.inl rfl) (pe_callTy call_tuple_of (by rfl) mt (by decide +kernel) (pa_cons
      (pe_lc (own := [("source", 15)]) (g := gName 15) (tt := tYes) rfl sc_read.nd (pi_tup (pv 9)) (blkOk_by (N := N_read) (sc := defScope s_read) (by decide +kernel))
        (fun _ _ _ _ _ => pg_name (i := 15) sc_read.nd rfl (.inl rfl)) (fun _ _ _ _ _ => pts_nil)
        (fun _ _ _ _ _ => pe_call W hr (by rfl) mW kW bW .nil pass0 (pa_cons (pv 15) (pa_cons (pv 7) (pa_cons (pv 5) pa_nil))))) pa_nil)))
    (pss_one (ps_ret (pe_tup (pa_cons (pe_tup (pa_cons (pv 11) (pa_cons (pv 13) pa_nil))) (pa_cons (pv 12) pa_nil)))))))))))
    , ?_⟩
  refine ⟨_, rfl, _, rfl, _, rfl, xm, xc, xe, m, st, h, e, rfl, hm, hc, he, wd, ok, hst, htg, hlen, fun H1 ex1 => ?_⟩
  have fm := idxC_find e.2 h (m.cases st e.1)
  obtain ⟨am, y1, y2, y3, rfl, sqm, h1, h2, h3⟩ := (hm.ext ex1).t3
  cases at_int.mp h1
  cases at_int.mp h2
  obtain ⟨as', xs, rfl, sqs, ats⟩ := at_tup.mp h3
  obtain ⟨ac, z1, hv, rfl, sqc, g1, hh⟩ := (hc.ext ex1).t2
  cases at_int.mp g1
  obtain ⟨ae, w1, w2, rfl, sqe, f1, f2⟩ := (he.ext ex1).t2
  cases at_int.mp f1
  cases at_int.mp f2
  rcases fm with ⟨e1, e2⟩ | ⟨j, c, e1, hj, e2⟩
  · rw [e1]
    refine ⟨_, rfl, true, congrArg V.bl (decide_eq_true rfl), iteT ⟨_, rfl, ?_⟩⟩
    refine ⟨by show 0 ≤ sizeLine; decide, fun p np => ⟨by show 2 ≤ sizeLine; decide, fun p2 np2 => ?_⟩⟩
    have exA : Ex T [] H1 (upd H1 p (.tup [])) := Ex.new np
    refine q _ _ ?_ ((ex1.trans exA).trans (Ex.new np2))
    have er : readM m st h e = (st, h, []) := by unfold readM; rw [e2]
    rw [er]
    exact At.laid np2 (Ats.mk ((hc.ext ex1).ext exA) (Ats.mk (At.laid np Ats.mk_nil) Ats.mk_nil))
  rw [e1]
  obtain ⟨s', hs1, hs2, clen, okc⟩ := M.cases_at ok hst htg
  obtain ⟨xst, hx1, hx2⟩ := ats.at hs1
  obtain ⟨ast, xts, rfl, sqst, atst⟩ := at_tup.mp hx2
  obtain ⟨xcs, hc1, hc2⟩ := atst.at hs2
  obtain ⟨acs, ys, rfl, sqcs, atcs⟩ := at_tup.mp hc2
  obtain ⟨xca, hca1, hca2⟩ := atcs.at hj
  obtain ⟨acase, c1, c2, c3, c4, rfl, sqcase, d1, d2, d3, d4⟩ := hca2.t4
  cases at_int.mp d4
  obtain ⟨amv, mvs, rfl, sqmv, atmv⟩ := at_tup.mp d2
  obtain ⟨asy, sys, rfl, sqsy, atsy⟩ := at_tup.mp d3
  have okci := okc _ (List.mem_of_getElem? hj)
  refine ⟨_, rfl, false, congrArg V.bl (decide_eq_false (fun z => by cases z)), iteF ?_⟩
  refine ⟨_, rfl, ac, [_, _], rfl, sqc, rfl, _, [_], rfl, _, [], rfl, rfl, ?_⟩
  refine ⟨_, rfl, ae, [_, _], rfl, sqe, rfl, _, [_], rfl, _, [], rfl, rfl, ?_⟩
  refine ⟨fun σ' H' => σ' = [some (.ref am), some (.ref ac), some (.ref ae), some (.int j), some (.int st), some hv, some (.int e.1), some (.int e.2), some c1, some (.ref amv), some (.ref asy), some (.int c.nxt), none, none, none, none] ∧ H1 = H', ?_, ?_⟩
  · refine ⟨_, rfl, am, _, _, _, rfl, rfl, sqm, rfl, _, rfl, as', _, _, _, rfl, rfl, sqs, at_natI hx1, _, rfl, ast, _, _, _, rfl, rfl, sqst, at_natI hc1, _, rfl, acs, _, _, _, rfl, rfl, sqcs, at_natI hca1, ?_⟩
    exact ⟨acase, [_, _, _, _], rfl, sqcase, rfl, _, [_, _, _], rfl, _, [_, _], rfl, _, [_], rfl, _, [], rfl, rfl, rfl, rfl⟩
  rintro σ' H' ⟨rfl, rfl⟩
  have lsay : sys.length = c.says.length := atsy.len
  have lmv : mvs.length = c.moves.length := atmv.len
  refine ⟨fun σ' H' => ∃ l, σ' = [some (.ref am), some (.ref ac), some (.ref ae), some (.int j), some (.int st), some hv, some (.int e.1), some (.int e.2), some c1, some (.ref amv), some (.ref asy), some (.int c.nxt), some l, none, none, none] ∧ Ex T [] H1 H' ∧ At K H' l (encA (saidC e.2 h c)), ?_, ?_⟩
  · refine ⟨_, rfl, asy, rfl, ⟨_, sqsy⟩, fun D nD => lc_tup (xs := sys) (fun i H' => Col K T [] D H1 H' (((saidC e.2 h c).take i).map encA1)) (Col.start Ex.refl nD) (fun i H' _ c' => c'.1.sqT sqsy) ?_ ?_⟩
    · rintro i x H' hi cl
      have hi' : i < c.says.length := by rw [← lsay]; exact (List.getElem?_eq_some_iff.mp hi).1
      obtain ⟨x', hx1', hx2'⟩ := atsy.at (List.getElem?_eq_getElem hi')
      rw [hi] at hx1'
      cases hx1'
      obtain ⟨ap, p1, p2, rfl, sqp, q1, q2⟩ := (hx2'.ext cl.1).t2
      cases at_int.mp q1
      cases at_int.mp q2
      have sb := okci.say _ (List.getElem_mem hi')
      refine ⟨ap, [_, _], rfl, sqp, rfl, _, [_], rfl, _, [], rfl, rfl, wipe2 (by decide), yesIf ⟨_, rfl, _, rfl, _, rfl, _, rfl, _, e.2, hv, h, rfl, hh.ext cl.1, sb.2.1, by omega, by show 2 ≤ sizeLine; decide, fun p np => ?_⟩⟩
      obtain ⟨acc, k1, k2, k3⟩ := cl.put nD (by simp) (ex1.wd wd) (Ex.new np) (x := .ref p) (d := encA1 (c.says[i].1, worth e.2 h c.says[i].2)) (At.laid np (Ats.mk (at_int.mpr rfl) (Ats.mk (at_encO.mpr rfl) Ats.mk_nil))) (take_len _ _ _ _ (by unfold saidC; rw [List.length_map]; have := okci.slen; omega))
      refine ⟨acc, k1, k2, ?_⟩
      rw [take_map] at k3
      · exact k3
      · unfold saidC
        rw [List.getElem?_map, List.getElem?_eq_getElem hi']
        rfl
    · rintro H2 cl
      rw [lsay, show c.says.length = (saidC e.2 h c).length by unfold saidC; rw [List.length_map], List.take_length] at cl
      obtain ⟨exs, as0, hD0, ats0⟩ := cl
      refine ⟨D, _, rfl, .inl ⟨SqL.of hD0, fun l nl => ?_⟩⟩
      have hS := At.laid nl ats0
      exact ⟨_, rfl, exs.trans (Ex.new nl), hS⟩
  rintro σ' Hs ⟨ls, rfl, exl, hS⟩
  refine ⟨_, rfl, amv, rfl, ⟨_, exl.sqT sqmv⟩, fun D2 nD2 => lc_tup (xs := mvs) (fun i H' => Col K T [] D2 Hs H' (((keptC e.2 h c).take i).map encO)) (Col.start Ex.refl nD2) (fun i H' _ c' => (exl.trans c'.1).sqT sqmv) ?_ ?_⟩
  · rintro i x H' hi cl
    have hi' : i < c.moves.length := by rw [← lmv]; exact (List.getElem?_eq_some_iff.mp hi).1
    obtain ⟨x', hx1', hx2'⟩ := atmv.at (List.getElem?_eq_getElem hi')
    rw [hi] at hx1'
    cases hx1'
    cases at_int.mp hx2'
    have sb := okci.mv _ (List.getElem_mem hi')
    refine ⟨wipe1, yesIf ⟨_, rfl, _, rfl, _, rfl, _, e.2, hv, h, rfl, hh.ext (exl.trans cl.1), sb.1, by omega, ?_⟩⟩
    obtain ⟨acc, k1, k2, k3⟩ := cl.put nD2 (by simp) (exl.wd (ex1.wd wd)) Ex.refl (d := encO (worth e.2 h c.moves[i])) (at_encO.mpr rfl) (take_len _ _ _ _ (by unfold keptC; rw [List.length_map, okci.mlen]; have := ok.rmax; omega))
    refine ⟨acc, k1, k2, ?_⟩
    rw [take_map] at k3
    · exact k3
    · unfold keptC
      rw [List.getElem?_map, List.getElem?_eq_getElem hi']
      rfl
  · rintro H3 cl
    rw [lmv, show c.moves.length = (keptC e.2 h c).length by unfold keptC; rw [List.length_map], List.take_length] at cl
    obtain ⟨exk, ks0, hK0, atk0⟩ := cl
    refine ⟨D2, _, rfl, .inl ⟨SqL.of hK0, fun l2 nl2 => ?_⟩⟩
    refine ⟨_, rfl, _, rfl, by show 2 ≤ sizeLine; decide, fun l3 nl3 => ⟨_, rfl, by show 2 ≤ sizeLine; decide, fun l4 nl4 => ?_⟩⟩
    have e2' : Ex T [] H3 (upd H3 l2 (.tup ks0)) := Ex.new nl2
    have e3' : Ex T [] (upd H3 l2 (.tup ks0)) (upd (upd H3 l2 (.tup ks0)) l3 (.tup [.int (c.nxt : Nat), .ref l2])) := Ex.new nl3
    have er : readM m st h e = (c.nxt, keptC e.2 h c, saidC e.2 h c) := by unfold readM; rw [e2]
    refine q _ _ ?_ ((((((ex1.trans exl).trans exk).trans e2').trans e3')).trans (Ex.new nl4))
    rw [er]
    exact At.laid nl4 (Ats.mk (At.laid nl3 (Ats.mk (at_int.mpr rfl) (Ats.mk (At.laid nl2 atk0) Ats.mk_nil))) (Ats.mk (((hS.ext exk).ext e2').ext e3') Ats.mk_nil))

theorem sc_beginning : FnScope ["machine"] ["machine"] (defScope s_beginning) := ⟨rfl, rfl, rfl, by decide +kernel, rfl, by decide +kernel, by decide +kernel⟩
def sp_beginning (K : PySem.W.Frag) (T : List Addr) : Sp := fun vs H Q _ => ∃ (xm : V) (m : M), vs = [xm] ∧ At K H xm (encM m) ∧ m.regs ≤ 1000 ∧
  ∀ v H', At K H' v (encCt 0 (List.replicate m.regs none)) → Ex T [] H H' → Q v H'
theorem rep_non {H : Hp} {n : Nat} {l : Addr} (h : SqT K H l (List.replicate n [V.non]).flatten) : At K H (.ref l) (encH (List.replicate n none)) := by
  rw [flat_rep] at h
  refine at_tup.mpr ⟨l, _, rfl, h, ?_⟩
  rw [List.map_replicate]
  exact ats_rep (at_non.mpr rfl) n
theorem ok_beginning {f : Addr} {fd : FuncData} {T : List Addr} {k : Nat} (F : Fun K "beginning" "beginning" s_beginning f fd) :
    FnOk P w K mg base CX0 (k + 1) f fd ["machine"] (sp_beginning K T) := by
  refine F.ok sc_beginning (fun vs H Q E h => ?_) (fun cdv A outer s H vs Q E hr h => ?_)
  · obtain ⟨xm, m, rfl, _⟩ := h
    rfl
  obtain ⟨xm, m, rfl, hm, hr0, q⟩ := h
  refine ⟨_, pss_one (ps_ret (pe_tup (pa_cons pe_int (pa_cons (pe_op Tm.op_repN (pe_tup (pa_cons pe_non pa_nil)) (pe_ix ix_tup (pv 0) pe_int (fun _ _ => rfl))) pa_nil)))), ?_⟩
  obtain ⟨am, y1, y2, y3, rfl, sqm, h1, h2, h3⟩ := hm.t3
  cases at_int.mp h2
  refine ⟨by show 1 ≤ sizeLine; decide, fun p np => ⟨_, rfl, am, _, _, _, rfl, rfl, (Ex.new (T := T) (ms := []) np).sqT sqm, rfl, p, (m.regs : Int), [.non], rfl, rfl, SqT.of upd_same, by simp, by omega, by omega, by show 1 ≤ 1000; decide, fun l H' hH sq => ⟨by show 2 ≤ sizeLine; decide, fun l2 nl2 => ?_⟩⟩⟩
  have e1 : Ex T [] H H' := by
    rcases hH with rfl | ⟨n2, rfl⟩
    · exact Ex.new np
    · exact (Ex.new np).trans (Ex.new n2)
  exact q _ _ (At.laid nl2 (Ats.mk (at_int.mpr rfl) (Ats.mk (rep_non sq) Ats.mk_nil))) (e1.trans (Ex.new nl2))

abbrev N__numbered : List Str := ["values", "number", "value"]
theorem sc__numbered : FnScope N__numbered ["values"] (defScope s__numbered) := ⟨rfl, rfl, rfl, by decide +kernel, rfl, by decide +kernel, by decide +kernel⟩
def Num (ks : List Int) (kvs : List (Key × V)) : Prop := ∀ (j : Nat) (v : Int), ks[j]? = some v → valV kvs (Sum.inl v) = some (.int (j : Nat))
theorem Num.put {ks : List Int} {i : Nat} {kvs : List (Key × V)} (h : Num (ks.take i) kvs) (srt : ks.Pairwise (· < ·)) (hi : i < ks.length) : Num (ks.take (i + 1)) (putK kvs (Sum.inl ks[i]) (.int (i : Nat))) := by
  intro j v e
  rw [valV_put]
  rw [List.getElem?_take] at e
  split at e
  · next c =>
    rw [List.getElem?_eq_getElem (by omega)] at e
    cases e
    by_cases z : j = i
    · subst z
      rw [if_pos rfl]
    · rw [if_neg]
      · refine h j _ ?_
        rw [List.getElem?_take, if_pos (by omega), List.getElem?_eq_getElem (by omega)]
      · intro e2
        have e3 : ks[j] = ks[i] := Sum.inl.inj e2
        have := (at_lt srt (show j < ks.length by omega) hi).mpr (by omega)
        omega
  · cases e
def sp__numbered (K : PySem.W.Frag) (T : List Addr) : Sp := fun vs H Q _ => ∃ (p : Addr) (ks : List Int), vs = [.ref p] ∧ SqL K H p (ks.map V.int) ∧ ks.Pairwise (· < ·) ∧ ks.length ≤ 5000 ∧ Wd T H ∧
  ∀ d H' kvs, H' d = some (.dK kvs) → Num ks kvs → Ex T [] H H' → Q (.ref d) H'
theorem ok__numbered {f : Addr} {fd : FuncData} {k : Nat} {T : List Addr} (F : Fun K "_numbered" "_numbered" s__numbered f fd) (m_enumerate : mg "enumerate" = none) :
    FnOk P w K mg base CX0 (k + 1) f fd ["values"] (sp__numbered K T) := by
  refine F.ok sc__numbered (fun vs H Q E h => ?_) (fun cdv A outer s H vs Q E hr h => ?_)
  · obtain ⟨p, ks, rfl, _⟩ := h
    rfl
  obtain ⟨p, ks, rfl, sq, srt, few, wd, q⟩ := h
  refine ⟨_, (pss_one (ps_ret (pe_dc (own := [("number", 1), ("value", 2)]) (g := (gTup K 2 (gCons (gName 1) (gCons (gName 2) gNil)))) (tt := tYes) rfl sc__numbered.nd (pi_enum (by rfl) m_enumerate (pa_cons (pv 0) pa_nil)) (blkOk_by (N := N__numbered) (sc := defScope s__numbered) (by decide +kernel))
        (fun _ _ _ _ _ => (pg_tup rfl (pgs_cons (pg_name (i := 1) sc__numbered.nd rfl (.inl rfl)) (pgs_cons (pg_name (i := 2) sc__numbered.nd rfl (.inl rfl)) pgs_nil)))) (fun _ _ _ _ _ => pts_nil)
        (fun _ _ _ _ _ => (pv 2)) (fun _ _ _ _ _ => (pv 1))))), ?_⟩
  refine ⟨_, rfl, p, ks.map V.int, rfl, sq, fun D nD => ?_⟩
  refine ⟨fun i m H' => m = ks.length - i ∧ i ≤ ks.length ∧ Ex T [] H H' ∧ ∃ kvs, H' D = some (.dK kvs) ∧ kvs.length ≤ i ∧ Num (ks.take i) kvs, ⟨_, rfl, Nat.zero_le _, Ex.new nD, [], upd_same, Nat.le_refl _, fun j v e => by rw [List.take_zero] at e; cases e⟩, ?_⟩
  rintro i m H' ⟨rfl, hi, ex, kvs, hD, lk, num⟩
  have sq' := ex.sqL (by simp) sq
  by_cases hlt : i < ks.length
  · refine .inr ⟨⟨ks.map V.int, .int ks[i], sq', by simp [hlt]⟩, fun H2 => i + 1 ≤ ks.length ∧ Ex T [] H H2 ∧ ∃ kvs, H2 D = some (.dK kvs) ∧ kvs.length ≤ i + 1 ∧ Num (ks.take (i + 1)) kvs, fun H2 z => ⟨ks.length - (i + 1), by omega, rfl, z⟩, fun x H2 y => ?_⟩
    obtain ⟨p2, x2, rfl, np2, rfl, hx⟩ := y
    have hx' := hx _ sq'
    rw [List.getElem?_map, List.getElem?_eq_getElem hlt] at hx'
    cases hx'
    have e2 := Ex.new (T := T) (ms := []) (o := HO.tup [.int (i : Int), .int ks[i]]) np2
    refine ⟨p2, [_, _], rfl, SqT.of upd_same, rfl, _, [_], rfl, _, [], rfl, rfl, wipe2 (by decide), yesIf ⟨_, rfl, _, rfl, kvs, .inl ks[i], rfl, e2.dk (by simp) hD, by unfold sizeLine; omega, ?_⟩⟩
    refine ⟨hlt, (ex.trans e2).put nD wd, _, upd_same, ?_, num.put srt hlt⟩
    exact Nat.le_trans (length_putK _ _ _) (by omega)
  · have e : i = ks.length := by omega
    subst e
    rw [List.take_length] at num
    exact .inl ⟨⟨_, sq', by rw [List.length_map]; exact Nat.le_refl _⟩, q D H' kvs hD num ex⟩

abbrev N_held_values : List Str := ["held", "value"]
theorem sc_held_values : FnScope N_held_values ["held"] (defScope s_held_values) := ⟨rfl, rfl, rfl, by decide +kernel, rfl, by decide +kernel, by decide +kernel⟩
def sp_held_values (K : PySem.W.Frag) (T : List Addr) : Sp := fun vs H Q _ => ∃ (ah : Addr) (h : List (Option Int)), vs = [.ref ah] ∧ Sq K H ah (h.map oV) ∧ h.length < 64 ∧ Wd T H ∧
  ∀ p H', H' p = some (.lst ((kn h).map V.int)) → (kn h).length ≤ h.length → Ex T [] H H' → Q (.ref p) H'
theorem ok_held_values {f : Addr} {fd : FuncData} {k : Nat} {T : List Addr} (F : Fun K "held_values" "held_values" s_held_values f fd) (m_sorted : mg "sorted" = none) :
    FnOk P w K mg base CX0 (k + 1) f fd ["held"] (sp_held_values K T) := by
  refine F.ok sc_held_values (fun vs H Q E h => ?_) (fun cdv A outer s H vs Q E hr h => ?_)
  · obtain ⟨ah, h, rfl, _⟩ := h
    rfl
  obtain ⟨ah, h, rfl, sq, few, wd, q⟩ := h
  refine ⟨_, (pss_one (ps_ret (pe_callB (cr_sortedSet rfl) (by rfl) m_sorted boot_sorted (pa_cons (pe_scI (own := [("value", 1)]) (g := (gName 1)) (tt := _) rfl sc_held_values.nd (pi_or (pi_list (pv 0)) (pi_tup (pv 0))) (blkOk_by (N := N_held_values) (sc := defScope s_held_values) (by decide +kernel))
        (fun _ _ _ _ _ => (pg_name (i := 1) sc_held_values.nd rfl (.inl rfl))) (fun _ _ _ _ _ => pts_one (pt_cmp (pc_notN (pv 1)) rfl))
        (fun _ _ _ _ _ => (pv 1))) pa_nil)))), ?_⟩
  rcases sq with sq | sq
  · refine .inl ⟨_, rfl, ah, rfl, ⟨_, sq⟩, fun Z nZ => ?_⟩
    refine ⟨fun i m H' => m = h.length - i ∧ i ≤ h.length ∧ Ex T [] H H' ∧ ∃ (S : Int → Bool) (n : Nat), H' Z = some (SetO w Z S n) ∧ n ≤ i ∧ ∀ y, S y = true ↔ some y ∈ h.take i, ⟨_, rfl, Nat.zero_le _, Ex.new nZ, _, 0, upd_same, Nat.le_refl _, fun y => by simp⟩, ?_⟩
    rintro i m H' ⟨rfl, hi, ex, S, n, hZ, ln, mem⟩
    have sq' := ex.sqL (by simp) sq
    by_cases hlt : i < h.length
    · have et : h.take (i + 1) = h.take i ++ [h[i]] := by rw [List.take_add_one, List.getElem?_eq_getElem hlt]; rfl
      refine .inr ⟨⟨h.map oV, oV h[i], sq', by simp [hlt]⟩, fun H2 => i + 1 ≤ h.length ∧ Ex T [] H H2 ∧ ∃ (S : Int → Bool) (n : Nat), H2 Z = some (SetO w Z S n) ∧ n ≤ i + 1 ∧ ∀ y, S y = true ↔ some y ∈ h.take (i + 1), fun H2 z => ⟨h.length - (i + 1), by omega, rfl, z⟩, fun x H2 y => ?_⟩
      obtain ⟨rfl, y⟩ := y
      have hx' := y _ sq'
      rw [List.getElem?_map, List.getElem?_eq_getElem hlt] at hx'
      cases hx'
      refine ⟨wipe1, _, rfl, _, rfl, ?_⟩
      cases hO : h[i] with
      | none =>
        refine iteF ⟨hlt, ex, S, n, hZ, by omega, fun y => ?_⟩
        rw [mem, et, hO]
        simp
      | some z =>
        refine iteT ⟨_, rfl, z, S, n, rfl, hZ, by unfold scanBound; omega, hlt, ex.put nZ wd, _, _, upd_same, ?_, fun y => ?_⟩
        · split <;> omega
        · rw [et, hO, List.mem_append, Bool.or_eq_true, mem, decide_eq_true_iff]
          simp
    · have e : i = h.length := by omega
      subst e
      rw [List.take_length] at mem
      refine .inl ⟨⟨_, sq', by rw [List.length_map]; exact Nat.le_refl _⟩, ?_⟩
      refine ⟨Z, S, n, rfl, hZ, by omega, fun ks pk srt' mem' lk npk => ?_⟩
      have ek : ks = kn h := srt_unique srt' (kn_sorted h) fun y => by rw [mem' y, mem, mem_kn]
      subst ek
      exact q pk _ upd_same (by omega) (ex.trans (Ex.new npk))
  · refine .inr ⟨_, rfl, ah, rfl, ⟨_, sq⟩, fun Z nZ => ?_⟩
    refine ⟨fun i m H' => m = h.length - i ∧ i ≤ h.length ∧ Ex T [] H H' ∧ ∃ (S : Int → Bool) (n : Nat), H' Z = some (SetO w Z S n) ∧ n ≤ i ∧ ∀ y, S y = true ↔ some y ∈ h.take i, ⟨_, rfl, Nat.zero_le _, Ex.new nZ, _, 0, upd_same, Nat.le_refl _, fun y => by simp⟩, ?_⟩
    rintro i m H' ⟨rfl, hi, ex, S, n, hZ, ln, mem⟩
    have sq' := ex.sqT sq
    by_cases hlt : i < h.length
    · have et : h.take (i + 1) = h.take i ++ [h[i]] := by rw [List.take_add_one, List.getElem?_eq_getElem hlt]; rfl
      refine .inr ⟨⟨h.map oV, oV h[i], sq', by simp [hlt]⟩, fun H2 => i + 1 ≤ h.length ∧ Ex T [] H H2 ∧ ∃ (S : Int → Bool) (n : Nat), H2 Z = some (SetO w Z S n) ∧ n ≤ i + 1 ∧ ∀ y, S y = true ↔ some y ∈ h.take (i + 1), fun H2 z => ⟨h.length - (i + 1), by omega, rfl, z⟩, fun x H2 y => ?_⟩
      obtain ⟨rfl, y⟩ := y
      have hx' := y _ sq'
      rw [List.getElem?_map, List.getElem?_eq_getElem hlt] at hx'
      cases hx'
      refine ⟨wipe1, _, rfl, _, rfl, ?_⟩
      cases hO : h[i] with
      | none =>
        refine iteF ⟨hlt, ex, S, n, hZ, by omega, fun y => ?_⟩
        rw [mem, et, hO]
        simp
      | some z =>
        refine iteT ⟨_, rfl, z, S, n, rfl, hZ, by unfold scanBound; omega, hlt, ex.put nZ wd, _, _, upd_same, ?_, fun y => ?_⟩
        · split <;> omega
        · rw [et, hO, List.mem_append, Bool.or_eq_true, mem, decide_eq_true_iff]
          simp
    · have e : i = h.length := by omega
      subst e
      rw [List.take_length] at mem
      refine .inl ⟨⟨_, sq', by rw [List.length_map]; exact Nat.le_refl _⟩, ?_⟩
      refine ⟨Z, S, n, rfl, hZ, by omega, fun ks pk srt' mem' lk npk => ?_⟩
      have ek : ks = kn h := srt_unique srt' (kn_sorted h) fun y => by rw [mem' y, mem, mem_kn]
      subst ek
      exact q pk _ upd_same (by omega) (ex.trans (Ex.new npk))

abbrev N_ranks_of : List Str := ["held", "lower", "value"]
theorem sc_ranks_of : FnScope N_ranks_of ["held"] (defScope s_ranks_of) := ⟨rfl, rfl, rfl, by decide +kernel, rfl, by decide +kernel, by decide +kernel⟩
def sp_ranks_of (K : PySem.W.Frag) (T : List Addr) : Sp := fun vs H Q _ => ∃ (ah : Addr) (h : List (Option Int)), vs = [.ref ah] ∧ Sq K H ah (h.map oV) ∧ h.length < 64 ∧ Wd T H ∧
  ∀ v H', At K H' v (encH (ranksH h)) → Ex T [] H H' → Q v H'
theorem ok_ranks_of {f : Addr} {fd : FuncData} {k : Nat} {T : List Addr} (F : Fun K "ranks_of" "ranks_of" s_ranks_of f fd) (m_tuple : mg "tuple" = none)
    {a__numbered : Addr} {d__numbered : FuncData} (G__numbered : FnOk P w K mg base CX0 k a__numbered d__numbered ["values"] (sp__numbered K T)) (k__numbered : PySem.W.keepIn K (.ref a__numbered) = true) (b__numbered : Binds K d__numbered ["values"] []) (m__numbered : mg "_numbered" = some (.ref a__numbered))
    {a_held_values : Addr} {d_held_values : FuncData} (G_held_values : FnOk P w K mg base CX0 k a_held_values d_held_values ["held"] (sp_held_values K T)) (k_held_values : PySem.W.keepIn K (.ref a_held_values) = true) (b_held_values : Binds K d_held_values ["held"] []) (m_held_values : mg "held_values" = some (.ref a_held_values)) :
    FnOk P w K mg base CX0 (k + 1) f fd ["held"] (sp_ranks_of K T) := by
  refine F.ok sc_ranks_of (fun vs H Q E h => ?_) (fun cdv A outer s H vs Q E hr h => ?_)
  · obtain ⟨ah, h, rfl, _⟩ := h
    rfl
  obtain ⟨ah, h, rfl, sq, few, wd, q⟩ := h
  refine ⟨_, (pss_cons (ps_set (i := 1) sc_ranks_of.nd rfl (.inr rfl) (pe_call G__numbered hr (by rfl) m__numbered k__numbered b__numbered .nil pass0 (pa_cons (pe_call G_held_values hr (by rfl) m_held_values k_held_values b_held_values .nil pass0 (pa_cons (pv 0) pa_nil)) pa_nil)))
    (pss_one (ps_ret (pe_callTy call_tuple_of (by rfl) m_tuple (by decide +kernel) (pa_cons (pe_lc (own := [("value", 2)]) (g := (gName 2)) (tt := tYes) rfl sc_ranks_of.nd (pi_or (pi_list (pv 0)) (pi_tup (pv 0))) (blkOk_by (N := N_ranks_of) (sc := defScope s_ranks_of) (by decide +kernel))
        (fun _ _ _ _ _ => (pg_name (i := 2) sc_ranks_of.nd rfl (.inl rfl))) (fun _ _ _ _ _ => pts_nil)
        (fun _ _ _ _ _ => (pe_ifExp (pt_cmp (pc_isN (pv 2)) rfl) pe_non (pe_dget (Nat.lt_of_le_of_lt (Nat.add_le_add_left (by decide : 1 ≤ 64) _) hr.units) (pv 1) (pv 2) (fun _ _ => rfl))))) pa_nil))))), ?_⟩
  refine ⟨_, rfl, ah, h, rfl, sq, few, wd, fun p H1 hp lk ex1 => ?_⟩
  refine ⟨p, kn h, rfl, SqL.of hp, kn_sorted h, by omega, ex1.wd wd, fun d H2 kvs hd num ex2 => ?_⟩
  have e2 := ex1.trans ex2
  rcases sq with sq | sq
  · refine .inl ⟨_, rfl, ah, rfl, ⟨_, e2.sqL (by simp) sq⟩, fun D nD => lc_list (xs := h.map oV) (fun i H' => Col K T [] D H2 H' (((ranksH h).take i).map encO)) (Col.start Ex.refl nD) (fun i H' _ c' => (e2.trans c'.1).sqL (by simp) sq) ?_ ?_⟩
    · rintro i x H' hi cl
      have hi' : i < h.length := by have := (List.getElem?_eq_some_iff.mp hi).1; rw [List.length_map] at this; exact this
      rw [List.getElem?_map, List.getElem?_eq_getElem hi'] at hi
      cases hi
      refine ⟨wipe1, yesIf ?_⟩
      have fin : ∀ y, y = oV (h[i].map (rkF h)) → ∃ xs, H' D = some (.lst xs) ∧ xs.length < 5000 → True := fun _ _ => ⟨[], fun _ => trivial⟩
      obtain ⟨acc, k1, k2, k3⟩ := cl.put nD (by simp) (e2.wd wd) Ex.refl (d := encO (h[i].map (rkF h))) (at_encO.mpr rfl) (take_len _ _ _ _ (by unfold ranksH; rw [mapH_len]; omega))
      refine ⟨_, rfl, _, rfl, ?_⟩
      rw [take_map] at k3
      rotate_left
      · unfold ranksH mapH
        rw [List.getElem?_map, List.getElem?_eq_getElem hi']
        rfl
      cases hO : h[i] with
      | none =>
        rw [hO] at k3
        exact iteT ⟨acc, k1, k2, k3⟩
      | some v =>
        rw [hO] at k3
        obtain ⟨j, hj, ej, cj⟩ := cnt_of (kn_sorted h) (mem_kn.mpr (show some v ∈ h from hO ▸ List.getElem_mem _))
        refine iteF ⟨_, rfl, _, rfl, d, .int (j : Nat), rfl, ?_, acc, k1, k2, ?_⟩
        · have := DGet.k (k := Sum.inl v) (cl.1.dk (by simp) hd)
          rw [num j v (by rw [List.getElem?_eq_getElem hj, ej])] at this
          exact this
        · have : rkF h v = (j : Nat) := by unfold rkF; rw [cj]
          rw [← this]
          exact k3
    · rintro H3 cl
      rw [List.length_map, show h.length = (ranksH h).length from mapH_len.symm, List.take_length] at cl
      obtain ⟨exs, as0, hD0, ats0⟩ := cl
      exact ⟨D, _, rfl, .inl ⟨SqL.of hD0, fun l nl => q _ _ (At.laid nl ats0) ((e2.trans exs).trans (Ex.new nl))⟩⟩
  · refine .inr ⟨_, rfl, ah, rfl, ⟨_, e2.sqT sq⟩, fun D nD => lc_tup (xs := h.map oV) (fun i H' => Col K T [] D H2 H' (((ranksH h).take i).map encO)) (Col.start Ex.refl nD) (fun i H' _ c' => (e2.trans c'.1).sqT sq) ?_ ?_⟩
    · rintro i x H' hi cl
      have hi' : i < h.length := by have := (List.getElem?_eq_some_iff.mp hi).1; rw [List.length_map] at this; exact this
      rw [List.getElem?_map, List.getElem?_eq_getElem hi'] at hi
      cases hi
      refine ⟨wipe1, yesIf ?_⟩
      have fin : ∀ y, y = oV (h[i].map (rkF h)) → ∃ xs, H' D = some (.lst xs) ∧ xs.length < 5000 → True := fun _ _ => ⟨[], fun _ => trivial⟩
      obtain ⟨acc, k1, k2, k3⟩ := cl.put nD (by simp) (e2.wd wd) Ex.refl (d := encO (h[i].map (rkF h))) (at_encO.mpr rfl) (take_len _ _ _ _ (by unfold ranksH; rw [mapH_len]; omega))
      refine ⟨_, rfl, _, rfl, ?_⟩
      rw [take_map] at k3
      rotate_left
      · unfold ranksH mapH
        rw [List.getElem?_map, List.getElem?_eq_getElem hi']
        rfl
      cases hO : h[i] with
      | none =>
        rw [hO] at k3
        exact iteT ⟨acc, k1, k2, k3⟩
      | some v =>
        rw [hO] at k3
        obtain ⟨j, hj, ej, cj⟩ := cnt_of (kn_sorted h) (mem_kn.mpr (show some v ∈ h from hO ▸ List.getElem_mem _))
        refine iteF ⟨_, rfl, _, rfl, d, .int (j : Nat), rfl, ?_, acc, k1, k2, ?_⟩
        · have := DGet.k (k := Sum.inl v) (cl.1.dk (by simp) hd)
          rw [num j v (by rw [List.getElem?_eq_getElem hj, ej])] at this
          exact this
        · have : rkF h v = (j : Nat) := by unfold rkF; rw [cj]
          rw [← this]
          exact k3
    · rintro H3 cl
      rw [List.length_map, show h.length = (ranksH h).length from mapH_len.symm, List.take_length] at cl
      obtain ⟨exs, as0, hD0, ats0⟩ := cl
      exact ⟨D, _, rfl, .inl ⟨SqL.of hD0, fun l nl => q _ _ (At.laid nl ats0) ((e2.trans exs).trans (Ex.new nl))⟩⟩

abbrev N_spots_held : List Str := ["ranks", "rank"]
theorem sc_spots_held : FnScope N_spots_held ["ranks"] (defScope s_spots_held) := ⟨rfl, rfl, rfl, by decide +kernel, rfl, by decide +kernel, by decide +kernel⟩
def sp_spots_held (K : PySem.W.Frag) (T : List Addr) : Sp := fun vs H Q _ => ∃ (x : V) (h : List (Option Int)), vs = [x] ∧ At K H x (encH h) ∧ h.length ≤ 1000 ∧ Wd T H ∧
  ∀ v H', At K H' v (encH (mapH (fun z => 2 * z + 1) h)) → Ex T [] H H' → Q v H'
theorem ok_spots_held {f : Addr} {fd : FuncData} {k : Nat} {T : List Addr} (F : Fun K "spots_held" "spots_held" s_spots_held f fd) (m_tuple : mg "tuple" = none) :
    FnOk P w K mg base CX0 (k + 1) f fd ["ranks"] (sp_spots_held K T) := by
  refine F.ok sc_spots_held (fun vs H Q E h => ?_) (fun cdv A outer s H vs Q E hr h => ?_)
  · obtain ⟨x, h, rfl, _⟩ := h
    rfl
  obtain ⟨x, h, rfl, hx, few, wd, q⟩ := h
  refine ⟨_, (pss_one (ps_ret (pe_callTy call_tuple_of (by rfl) m_tuple (by decide +kernel) (pa_cons (pe_lc (own := [("rank", 1)]) (g := (gName 1)) (tt := tYes) rfl sc_spots_held.nd (pi_tup (pv 0)) (blkOk_by (N := N_spots_held) (sc := defScope s_spots_held) (by decide +kernel))
        (fun _ _ _ _ _ => (pg_name (i := 1) sc_spots_held.nd rfl (.inl rfl))) (fun _ _ _ _ _ => pts_nil)
        (fun _ _ _ _ _ => (pe_ifExp (pt_cmp (pc_isN (pv 1)) rfl) pe_non (pe_op op_add (pe_op op_mul pe_int (pv 1)) pe_int)))) pa_nil)))), ?_⟩
  obtain ⟨ah, rfl, sq⟩ := at_encH.mp hx
  refine ⟨_, rfl, ah, rfl, ⟨_, sq⟩, fun Z nZ => lc_tup (xs := h.map oV) (fun i H' => Col K T [] Z H H' (((mapH (fun z => 2 * z + 1) h).take i).map encO)) (Col.start Ex.refl nZ) (fun i H' _ c' => c'.1.sqT sq) ?_ ?_⟩
  · rintro i x H' hi cl
    have hi' : i < h.length := by have := (List.getElem?_eq_some_iff.mp hi).1; rw [List.length_map] at this; exact this
    rw [List.getElem?_map, List.getElem?_eq_getElem hi'] at hi
    cases hi
    obtain ⟨acc, k1, k2, k3⟩ := cl.put nZ (by simp) wd Ex.refl (d := encO (h[i].map fun z => 2 * z + 1)) (at_encO.mpr rfl) (take_len _ _ _ _ (by rw [mapH_len]; omega))
    rw [take_map] at k3
    rotate_left
    · unfold mapH
      rw [List.getElem?_map, List.getElem?_eq_getElem hi']
      rfl
    refine ⟨wipe1, yesIf ⟨_, rfl, _, rfl, ?_⟩⟩
    cases hO : h[i] with
    | none =>
      rw [hO] at k3
      exact iteT ⟨acc, k1, k2, k3⟩
    | some v =>
      rw [hO] at k3
      exact iteF ⟨_, rfl, _, _, rfl, rfl, .inl ⟨by decide, by decide⟩, _, _, rfl, rfl, acc, k1, k2, k3⟩
  · rintro H3 cl
    rw [List.length_map, show h.length = (mapH (fun z => 2 * z + 1) h).length from mapH_len.symm, List.take_length] at cl
    obtain ⟨exs, as0, hD0, ats0⟩ := cl
    exact ⟨Z, _, rfl, .inl ⟨SqL.of hD0, fun l nl => q _ _ (At.laid nl ats0) (exs.trans (Ex.new nl))⟩⟩

abbrev s_Step_init : Stmt := inClass s_Step 0
abbrev P_Step : List Str := ["self", "before", "tag", "spot", "after", "said", "kept"]
theorem sc_Step : FnScope P_Step P_Step (defScope s_Step_init) := ⟨rfl, rfl, rfl, by decide +kernel, rfl, by decide +kernel, by decide +kernel⟩
def sp_Step (C : Addr) : Sp := fun vs H Q _ => ∃ (p dx : Addr) (b t s a sd kp : V), vs = [.ref p, b, t, s, a, sd, kp] ∧ H p = some (.ins C dx []) ∧ Q .non (upd H p (.ins C dx (stepF b t s a sd kp)))
theorem ok_Step {f C : Addr} {fd : FuncData} {k : Nat} (F : Fun K "__init__" "Step.__init__" s_Step_init f fd) (TC : StepC K C) :
    FnOk P w K mg base CX0 (k + 1) f fd P_Step (sp_Step C) := by
  refine F.ok sc_Step (fun vs H Q E h => ?_) (fun cdv A outer s H vs Q E hr h => ?_)
  · obtain ⟨p, dx, b, t, s, a, sd, kp, rfl, _⟩ := h
    rfl
  obtain ⟨p, dx, b, t, z, a, sd, kp, rfl, hp, q⟩ := h
  refine ⟨_, pss_cons (ps_fld (pv 0) (pv 1) rfl) (pss_cons (ps_fld (pv 0) (pv 2) rfl) (pss_cons (ps_fld (pv 0) (pv 3) rfl) (pss_cons (ps_fld (pv 0) (pv 4) rfl) (pss_cons (ps_fld (pv 0) (pv 5) rfl) (pss_one (ps_fld (pv 0) (pv 6) rfl)))))), ?_⟩
  have l1 := putF_len "before" b []
  have l2 := putF_len "tag" t (putF "before" b [])
  have l3 := putF_len "spot" z (putF "tag" t (putF "before" b []))
  have l4 := putF_len "after" a (putF "spot" z (putF "tag" t (putF "before" b [])))
  have l5 := putF_len "said" sd (putF "after" a (putF "spot" z (putF "tag" t (putF "before" b []))))
  have l0 : ([] : List (Str × V)).length = 0 := rfl
  refine ⟨_, rfl, _, rfl, p, C, dx, [], rfl, hp, TC.cl, TC.n1, (by show 0 < 1000; decide), ?_⟩
  refine ⟨_, rfl, _, rfl, p, C, dx, _, rfl, upd_same, TC.cl, TC.n2, by omega, ?_⟩
  rw [upd_upd]
  refine ⟨_, rfl, _, rfl, p, C, dx, _, rfl, upd_same, TC.cl, TC.n3, by omega, ?_⟩
  rw [upd_upd]
  refine ⟨_, rfl, _, rfl, p, C, dx, _, rfl, upd_same, TC.cl, TC.n4, by omega, ?_⟩
  rw [upd_upd]
  refine ⟨_, rfl, _, rfl, p, C, dx, _, rfl, upd_same, TC.cl, TC.n5, by omega, ?_⟩
  rw [upd_upd]
  refine ⟨_, rfl, _, rfl, p, C, dx, _, rfl, upd_same, TC.cl, TC.n6, by omega, ?_⟩
  rw [upd_upd]
  exact q

abbrev N_row_step : List Str := ["row", "joint", "tag", "spot", "held", "standings", "said", "behind", "start", "machine", "standing", "end", "content", "answer", "after"]
theorem sc_row_step : FnScope N_row_step ["row", "joint", "tag", "spot"] (defScope s_row_step) := ⟨rfl, rfl, rfl, by decide +kernel, rfl, by decide +kernel, by decide +kernel⟩
def sp_row_step (K : PySem.W.Frag) (T : List Addr) (C : Addr) (n : Nat) : Sp := fun vs H Q _ => ∃ (xr xj : V) (ms : List M) (ss : List Nat) (h : List (Option Int)) (t : Nat) (v : Int), vs = [xr, xj, .int t, .int v] ∧ At K H xr (.tup (ms.map encM)) ∧ At K H xj (encJ ss h) ∧ RowOk n ms ss h t ∧ Wd T H ∧
  ∀ x dx va vs' vk H', H' x = some (.ins C dx (stepF xj (.int t) (.int v) va vs' vk)) → At K H' va (encJ ((rowL ms ss (mapH (fun z => 2 * z + 1) h) (t, v) ms.length).map (·.1)) (ranksH (behL (rowL ms ss (mapH (fun z => 2 * z + 1) h) (t, v) ms.length)))) →
    At K H' vs' (.tup ((rowL ms ss (mapH (fun z => 2 * z + 1) h) (t, v) ms.length).map fun r => encA r.2.2)) → At K H' vk (.tup ((kn (behL (rowL ms ss (mapH (fun z => 2 * z + 1) h) (t, v) ms.length))).map D.int)) → Ex T [] H H' → Q (.ref x) H'
theorem ok_row_step {f : Addr} {fd : FuncData} {k : Nat} {T : List Addr} {n : Nat} (F : Fun K "row_step" "row_step" s_row_step f fd) (m_zip : mg "zip" = none) (m_tuple : mg "tuple" = none) {C_Step gi : Addr} {gid : FuncData} (M_Step : Mk K C_Step gi) (G_Step : FnOk P w K mg base CX0 k gi gid ["self", "before", "tag", "spot", "after", "said", "kept"] (sp_Step C_Step)) (m_Step : mg "Step" = some (.ref C_Step)) (b_Step : Binds K gid ["self", "before", "tag", "spot", "after", "said", "kept"] [])
    {a_spots_held : Addr} {d_spots_held : FuncData} (G_spots_held : FnOk P w K mg base CX0 (k + 1) a_spots_held d_spots_held ["ranks"] (sp_spots_held K T)) (k_spots_held : PySem.W.keepIn K (.ref a_spots_held) = true) (b_spots_held : Binds K d_spots_held ["ranks"] []) (m_spots_held : mg "spots_held" = some (.ref a_spots_held))
    {a_read : Addr} {d_read : FuncData} (G_read : FnOk P w K mg base CX0 (k + 1) a_read d_read ["machine", "content", "entry"] (sp_read K T n)) (k_read : PySem.W.keepIn K (.ref a_read) = true) (b_read : Binds K d_read ["machine", "content", "entry"] []) (m_read : mg "read" = some (.ref a_read))
    {a_ranks_of : Addr} {d_ranks_of : FuncData} (G_ranks_of : FnOk P w K mg base CX0 (k + 1) a_ranks_of d_ranks_of ["held"] (sp_ranks_of K T)) (k_ranks_of : PySem.W.keepIn K (.ref a_ranks_of) = true) (b_ranks_of : Binds K d_ranks_of ["held"] []) (m_ranks_of : mg "ranks_of" = some (.ref a_ranks_of))
    {a_held_values : Addr} {d_held_values : FuncData} (G_held_values : FnOk P w K mg base CX0 (k + 1) a_held_values d_held_values ["held"] (sp_held_values K T)) (k_held_values : PySem.W.keepIn K (.ref a_held_values) = true) (b_held_values : Binds K d_held_values ["held"] []) (m_held_values : mg "held_values" = some (.ref a_held_values)) :
    FnOk P w K mg base CX0 (k + 2) f fd ["row", "joint", "tag", "spot"] (sp_row_step K T C_Step n) := by
  refine F.ok sc_row_step (fun vs H Q E h => ?_) (fun cdv A outer s H vs Q E hr h => ?_)
  · obtain ⟨xr, xj, ms, ss, h, t, v, rfl, _⟩ := h
    rfl
  obtain ⟨xr, xj, ms, ss, h, t, v, rfl, hrow, hj, o0, wd, q⟩ := h
  refine ⟨_, (pss_cons (ps_set (i := 4) sc_row_step.nd rfl (.inl rfl) (pe_call G_spots_held hr (by rfl) m_spots_held k_spots_held b_spots_held .nil pass0 (pa_cons (pe_ix ix_tup (pv 1) (pe_un un_neg pe_int) (fun _ _ => rfl)) pa_nil)))
    (pss_cons (ps_set (i := 5) sc_row_step.nd rfl (.inl rfl) (pe_lst pa_nil))
    (pss_cons (ps_set (i := 6) sc_row_step.nd rfl (.inl rfl) (pe_lst pa_nil))
    (pss_cons (ps_set (i := 7) sc_row_step.nd rfl (.inl rfl) (pe_lst pa_nil))
    (pss_cons (ps_set (i := 8) sc_row_step.nd rfl (.inl rfl) pe_int)
    (pss_cons (ps_for PassesOwn.never rfl (RZ.pi_zipA (by rfl) m_zip (pa_cons (pv 0) (pa_cons (pv 1) pa_nil))) (pg_tup rfl (pgs_cons (pg_name (i := 9) sc_row_step.nd rfl (.inl rfl)) (pgs_cons (pg_name (i := 10) sc_row_step.nd rfl (.inl rfl)) pgs_nil)))
      (pss_cons (ps_set (i := 11) sc_row_step.nd rfl (.inl rfl) (pe_op op_add (pv 8) (pe_ix ix_tup (pv 9) pe_int (fun _ _ => rfl))))
      (pss_cons (ps_asg (pe_call G_read hr (by rfl) m_read k_read b_read .nil pass0 (pa_cons (pv 9) (pa_cons (pe_tup (pa_cons (pv 10) (pa_cons (pe_slice sl_tupA (pv 4) (po_some (pv 8)) (po_some (pv 11))) pa_nil))) (pa_cons (pe_tup (pa_cons (pv 2) (pa_cons (pv 3) pa_nil))) pa_nil)))) (pg_tup rfl (pgs_cons (pg_name (i := 12) sc_row_step.nd rfl (.inl rfl)) (pgs_cons (pg_name (i := 13) sc_row_step.nd rfl (.inl rfl)) pgs_nil))))
      (pss_cons (ps_expr (pe_bm PySem.F.plainAttrs_list PySem.F.slot_list_append PySem.F.type_list_append mt_append (pv 5) (pa_cons (pe_ix ix_tup (pv 12) pe_int (fun _ _ => rfl)) pa_nil)))
      (pss_cons (ps_expr (pe_bm PySem.F.plainAttrs_list PySem.F.slot_list_extend PySem.F.type_list_extend Exn.mt_extendT (pv 7) (pa_cons (pe_ix ix_tup (pv 12) pe_int (fun _ _ => rfl)) pa_nil)))
      (pss_cons (ps_expr (pe_bm PySem.F.plainAttrs_list PySem.F.slot_list_append PySem.F.type_list_append mt_append (pv 6) (pa_cons (pv 13) pa_nil)))
      (pss_one (ps_set (i := 8) sc_row_step.nd rfl (.inl rfl) (pv 11)))))))))
    (pss_cons (ps_set (i := 14) sc_row_step.nd rfl (.inl rfl) (pe_tup (StX.pa_star (pv 5) (pa_cons (pe_call G_ranks_of hr (by rfl) m_ranks_of k_ranks_of b_ranks_of .nil pass0 (pa_cons (pv 7) pa_nil)) pa_nil))))
    (pss_one (ps_ret (pe_make M_Step G_Step hr (by rfl) m_Step b_Step .nil pass0 (pa_cons (pv 1) (pa_cons (pv 2) (pa_cons (pv 3) (pa_cons (pv 14) (pa_cons (pe_callTy call_tuple_of (by rfl) m_tuple (by decide +kernel) (pa_cons (pv 6) pa_nil)) (pa_cons (pe_callTy call_tuple_of (by rfl) m_tuple (by decide +kernel) (pa_cons (pe_call G_held_values hr (by rfl) m_held_values k_held_values b_held_values .nil pass0 (pa_cons (pv 7) pa_nil)) pa_nil)) pa_nil)))))))))))))))), ?_⟩
  obtain ⟨ar, xs, rfl, sqr, atsr⟩ := at_tup.mp hrow
  obtain ⟨aj, xl, rfl, sqj, atl⟩ := at_encJ.mp hj
  have o := o0.mapH (fun z => 2 * z + 1)
  refine ⟨_, rfl, _, rfl, aj, _, _, _, rfl, rfl, sqj, atI_last _ _, xl, h, rfl, atl, by have := o0.few; omega, wd, fun vh H1 ath ex1 => ?_⟩
  generalize mapH (fun z => 2 * z + 1) h = hs at *
  refine ⟨Nat.zero_le _, fun D1 n1 => ⟨Nat.zero_le _, fun D2 n2 => ⟨Nat.zero_le _, fun D3 n3 => ?_⟩⟩⟩
  have d12 : D1 ≠ D2 := fun e => by rw [e, upd_same] at n2; cases n2
  have d13 : D1 ≠ D3 := fun e => by rw [e, upd_ne (by rw [← e]; exact d12), upd_same] at n3; cases n3
  have d23 : D2 ≠ D3 := fun e => by rw [e, upd_same] at n3; cases n3
  have h1 : upd (upd (upd H1 D1 (.lst [])) D2 (.lst [])) D3 (.lst []) D1 = some (.lst []) := by rw [upd_ne d13, upd_ne d12, upd_same]
  have h2 : upd (upd (upd H1 D1 (.lst [])) D2 (.lst [])) D3 (.lst []) D2 = some (.lst []) := by rw [upd_ne d23, upd_same]
  have h3 : upd (upd (upd H1 D1 (.lst [])) D2 (.lst [])) D3 (.lst []) D3 = some (.lst []) := upd_same
  have exs1 : Ex T [] H1 (upd (upd (upd H1 D1 (.lst [])) D2 (.lst [])) D3 (.lst [])) := ((Ex.new n1).trans (Ex.new n2)).trans (Ex.new n3)
  have f1 := n1
  have f2 : H1 D2 = none := (Ex.new (T := T) (ms := []) n1).free n2
  have f3 : H1 D3 = none := ((Ex.new (T := T) (ms := []) n1).trans (Ex.new n2)).free n3
  have wd1 := ex1.wd wd
  have exs := ex1.trans exs1
  obtain ⟨avh, rfl, sqh⟩ := at_encH.mp ath
  clear n1 n2 n3 ath
  generalize upd (upd (upd H1 D1 (.lst [])) D2 (.lst [])) D3 (.lst []) = Hs at *
  have xsl : xs.length = ms.length := atsr.len
  refine ⟨_, rfl, _, rfl, ar, aj, _, _, rfl, .inr ⟨exs.sqT sqr, exs.sqT sqj, ?_⟩⟩
  refine ⟨fun i m σ' H' => m = ms.length - i ∧ i ≤ ms.length ∧ (∃ y9 y10 y11 y12 y13, σ' = [some (.ref ar), some (.ref aj), some (.int t), some (.int v), some (.ref avh), some (.ref D1), some (.ref D2), some (.ref D3), some (.int (offs ms i : Nat)), y9, y10, y11, y12, y13, none]) ∧ Ex T [] H1 H' ∧ H' D1 = some (.lst ((rowL ms ss hs (t, v) i).map fun r => V.int r.1)) ∧ H' D3 = some (.lst ((behL (rowL ms ss hs (t, v) i)).map oV)) ∧ ∃ xs2, H' D2 = some (.lst xs2) ∧ Ats K H' xs2 ((rowL ms ss hs (t, v) i).map fun r => encA r.2.2), ⟨_, rfl, Nat.zero_le _, ⟨_, _, _, _, _, rfl⟩, exs1, h1, h3, [], h2, Ats.mk_nil⟩, ?_⟩
  clear h1 h2 h3
  rintro i m σ' H4 ⟨rfl, hi, ⟨y9, y10, y11, y12, y13, rfl⟩, ex4, k1, k3, xs2, k2, ats2⟩
  have exH := ex1.trans ex4
  have sqr4 := exH.sqT sqr
  have sqj4 := exH.sqT sqj
  by_cases hlt : i < ms.length
  · have gm : ms[i]? = some ms[i] := List.getElem?_eq_getElem hlt
    have hm : ms[i] ∈ ms := List.getElem_mem hlt
    obtain ⟨xm, gx, atm⟩ := atsr.at gm
    have gs : ((ss.map fun (s : Nat) => V.int s) ++ [xl])[i]? = some (.int (ss.getD i 0 : Nat)) := by
      have hl : i < ss.length := by rw [o.len]; exact hlt
      rw [List.getElem?_append_left (by rw [List.length_map]; exact hl), List.getElem?_map, List.getD_eq_getElem?_getD, List.getElem?_eq_getElem hl]
      rfl
    refine .inr ⟨⟨xs, _, _, _, sqr4, sqj4, gx, gs⟩, fun σ' H' => i + 1 ≤ ms.length ∧ (∃ y9 y10 y11 y12 y13, σ' = [some (.ref ar), some (.ref aj), some (.int t), some (.int v), some (.ref avh), some (.ref D1), some (.ref D2), some (.ref D3), some (.int (offs ms (i + 1) : Nat)), y9, y10, y11, y12, y13, none]) ∧ Ex T [] H1 H' ∧ H' D1 = some (.lst ((rowL ms ss hs (t, v) (i + 1)).map fun r => V.int r.1)) ∧ H' D3 = some (.lst ((behL (rowL ms ss hs (t, v) (i + 1))).map oV)) ∧ ∃ xs2, H' D2 = some (.lst xs2) ∧ Ats K H' xs2 ((rowL ms ss hs (t, v) (i + 1)).map fun r => encA r.2.2), fun σ2 H2 z => ⟨ms.length - (i + 1), by omega, rfl, z⟩, ?_⟩
    rintro w5 H5 ⟨t3, x, y, rfl, n3, rfl, g1, g2⟩
    have e1 := g1 _ sqr4
    have e2 := g2 _ sqj4
    rw [gx] at e1
    rw [gs] at e2
    cases e1
    cases e2
    have ex5 : Ex T [] H4 (upd H4 t3 (.tup [xm, .int (ss.getD i 0 : Nat)])) := Ex.new n3
    have sq3 : SqT K (upd H4 t3 (.tup [xm, .int (ss.getD i 0 : Nat)])) t3 [xm, .int (ss.getD i 0 : Nat)] := SqT.of upd_same
    generalize upd H4 t3 (.tup [xm, .int (ss.getD i 0 : Nat)]) = H5 at *
    have exH5 := exH.trans ex5
    obtain ⟨am, z0, z1, z2, rfl, sqm, m0, m1, m2⟩ := (atm.ext exH5).t3
    cases at_int.mp m1
    refine ⟨t3, [_, _], rfl, sq3, rfl, _, [_], rfl, _, [], rfl, rfl, ?_⟩
    refine ⟨_, rfl, _, rfl, am, _, _, _, rfl, rfl, sqm, rfl, _, _, rfl, rfl, ?_⟩
    have eo : (fun i j : Int => V.int (i + j)) (offs ms i : Nat) (ms[i].regs : Nat) = V.int (offs ms (i + 1) : Nat) := by rw [offs_succ gm]; rfl
    rw [eo]
    refine ⟨_, rfl, _, rfl, _, rfl, _, rfl, _, rfl, _, rfl, _, rfl, slT_mid (T := T) ((ex4.trans ex5).sqT sqh) fun p6 H6 sq6 ex6 => ?_⟩
    have eh : ((hs.map oV).take (offs ms (i + 1))).drop (offs ms i) = (heldA ms hs i).map oV := by unfold heldA; rw [List.map_drop, List.map_take]
    rw [eh] at sq6
    refine ⟨by show 2 ≤ sizeLine; decide, fun p7 n7 => ⟨_, rfl, _, rfl, by show 2 ≤ sizeLine; decide, fun p8 n8 => ?_⟩⟩
    have at7 : At K (upd H6 p7 (.tup [.int (ss.getD i 0 : Nat), .ref p6])) (.ref p7) (encCt (ss.getD i 0) (heldA ms hs i)) := At.laid n7 (Ats.mk (at_int.mpr rfl) (Ats.mk (at_encH.mpr ⟨p6, rfl, sq6⟩) Ats.mk_nil))
    have ex7 : Ex T [] H6 (upd H6 p7 (.tup [.int (ss.getD i 0 : Nat), .ref p6])) := Ex.new n7
    have at8 : At K (upd (upd H6 p7 (.tup [.int (ss.getD i 0 : Nat), .ref p6])) p8 (.tup [.int t, .int v])) (.ref p8) (encE (t, v)) := At.laid n8 (Ats.mk (at_int.mpr rfl) (Ats.mk (at_int.mpr rfl) Ats.mk_nil))
    have ex8 : Ex T [] (upd H6 p7 (.tup [.int (ss.getD i 0 : Nat), .ref p6])) (upd (upd H6 p7 (.tup [.int (ss.getD i 0 : Nat), .ref p6])) p8 (.tup [.int t, .int v])) := Ex.new n8
    have ex68 := ex6.trans (ex7.trans ex8)
    have exH8 := exH5.trans ex68
    refine ⟨_, _, _, ms[i], ss.getD i 0, heldA ms hs i, (t, v), rfl, atm.ext exH8, at7.ext ex8, at8, exH8.wd wd, o.ok _ hm, o.st i _ gm, o.tag _ hm, heldA_len (e := (t, v)) o gm, fun vr H9 at9 ex9 => ?_⟩
    rw [← rowAt_eq (ss := ss) (h := hs) (e := (t, v)) gm] at at9
    have rl := rowAt_len (e := (t, v)) o gm
    have bl := behL_len (e := (t, v)) o i (Nat.le_of_lt hlt)
    have bo := offs_mono ms (show i + 1 ≤ ms.length from hlt)
    rw [offs_succ gm, ← o.hl] at bo
    have few := o.few
    rw [rowL_succ, List.map_append, behL_snoc, List.map_append, List.map_append]
    generalize rowAt ms ss hs (t, v) i = ra at *
    obtain ⟨av, c1, c2, rfl, sqv, ac1, ac2⟩ := at9.t2
    obtain ⟨ac, s1, s2, rfl, sqc, b1, b2⟩ := ac1.t2
    cases at_int.mp b1
    obtain ⟨ah, rfl, sqb⟩ := at_encH.mp b2
    have ex49 := (ex5.trans ex68).trans ex9
    have exHs := ex4.trans ex49
    have q1 := ex49.lst (by simp) k1
    have q2 := ex49.lst (by simp) k2
    have q3 := ex49.lst (by simp) k3
    have at2 := ats2.ext ex49
    have lm : ms.length ≤ 1000 := o.small
    refine ⟨av, [_, _], rfl, sqv, rfl, _, [_], rfl, _, [], rfl, rfl, ?_⟩
    refine ⟨_, rfl, .inl ⟨rfl, _, .inl (.inl q1)⟩, _, rfl, ac, _, _, _, rfl, rfl, sqc, rfl, D1, _, _, rfl, rfl, q1, by rw [List.length_map, rowL_len]; exact small5000 (by omega), ?_⟩
    have w1 : Ex T [D1, D2, D3] H9 (upd H9 D1 (.lst (((rowL ms ss hs (t, v) i).map fun r => V.int r.1) ++ [.int (ra.1 : Nat)]))) := Ex.write (by simp) q1
    have w1' : upd H9 D1 (.lst (((rowL ms ss hs (t, v) i).map fun r => V.int r.1) ++ [.int (ra.1 : Nat)])) D1 = _ := upd_same
    have r2 : upd H9 D1 (.lst (((rowL ms ss hs (t, v) i).map fun r => V.int r.1) ++ [.int (ra.1 : Nat)])) D2 = _ := (upd_ne d12.symm).trans q2
    have r3 : upd H9 D1 (.lst (((rowL ms ss hs (t, v) i).map fun r => V.int r.1) ++ [.int (ra.1 : Nat)])) D3 = _ := (upd_ne d13.symm).trans q3
    have px := exHs.put (o := .lst (((rowL ms ss hs (t, v) i).map fun r => V.int r.1) ++ [.int (ra.1 : Nat)])) f1 wd1
    generalize upd H9 D1 (.lst (((rowL ms ss hs (t, v) i).map fun r => V.int r.1) ++ [.int (ra.1 : Nat)])) = H10 at *
    refine ⟨_, rfl, .inl ⟨rfl, _, .inl (.inl r3)⟩, _, rfl, ac, _, _, _, rfl, rfl, w1.sqT sqc, rfl, D3, ah, _, _, rfl, rfl, r3, w1.sqT sqb, by rw [List.length_map, List.length_map, rl, bl]; exact Nat.le_trans (show _ ≤ 63 by omega) (by decide), ?_⟩
    have w2 : Ex T [D1, D2, D3] H10 (upd H10 D3 (.lst (((behL (rowL ms ss hs (t, v) i)).map oV) ++ ra.2.1.map oV))) := Ex.write (by simp) r3
    have u1 : upd H10 D3 (.lst (((behL (rowL ms ss hs (t, v) i)).map oV) ++ ra.2.1.map oV)) D1 = _ := (upd_ne d13).trans w1'
    have u2 : upd H10 D3 (.lst (((behL (rowL ms ss hs (t, v) i)).map oV) ++ ra.2.1.map oV)) D2 = _ := (upd_ne d23).trans r2
    have u3 : upd H10 D3 (.lst (((behL (rowL ms ss hs (t, v) i)).map oV) ++ ra.2.1.map oV)) D3 = _ := upd_same
    have px2 := px.put (o := .lst (((behL (rowL ms ss hs (t, v) i)).map oV) ++ ra.2.1.map oV)) f3 wd1
    generalize upd H10 D3 (.lst (((behL (rowL ms ss hs (t, v) i)).map oV) ++ ra.2.1.map oV)) = H11 at *
    have l2 : xs2.length < 5000 := by rw [at2.len, rowL_len]; omega
    refine ⟨_, rfl, .inl ⟨rfl, _, .inl (.inl u2)⟩, _, rfl, D2, _, _, rfl, rfl, u2, small5000 (Nat.le_of_lt l2), ?_⟩
    have w3 : Ex T [D1, D2, D3] H11 (upd H11 D2 (.lst (xs2 ++ [c2]))) := Ex.write (by simp) u2
    have wall := w1.trans (w2.trans w3)
    refine ⟨_, rfl, hlt, ⟨_, _, _, _, _, rfl⟩, px2.put f2 wd1, (upd_ne d12).trans u1, (upd_ne d23.symm).trans u3, _, upd_same, Ats.append (at2.ext wall) (Ats.mk (ac2.ext wall) Ats.mk_nil)⟩
  · have ei : i = ms.length := by omega
    subst ei
    have bl := behL_len (e := (t, v)) o ms.length (Nat.le_refl _)
    rw [← o.hl] at bl
    have few : (behL (rowL ms ss hs (t, v) ms.length)).length < 64 := by rw [bl]; exact o.few
    have lm : (rowL ms ss hs (t, v) ms.length).length ≤ 1000 := by rw [rowL_len]; exact o.small
    refine .inl ⟨⟨xs, _, sqr4, sqj4, .inl (by rw [xsl]; exact Nat.le_refl _)⟩, ?_⟩
    generalize rowL ms ss hs (t, v) ms.length = rl at *
    refine ⟨_, rfl, D1, _, rfl, .inr (SqL.of k1), _, rfl, D3, _, rfl, .inl (SqL.of k3), few, exH.wd wd, fun va H5 at5 ex5 => ⟨by rw [List.length_append, List.length_map]; exact Nat.le_trans (show _ + 1 ≤ 1001 by omega) (by decide), fun pt nt => ?_⟩⟩
    have ex6 : Ex T [] H5 (upd H5 pt (.tup ((rl.map fun r => V.int r.1) ++ [va]))) := Ex.new nt
    have atA : At K (upd H5 pt (.tup ((rl.map fun r => V.int r.1) ++ [va]))) (.ref pt) (encJ (rl.map (·.1)) (ranksH (behL rl))) := at_encJ.mpr ⟨pt, va, rfl, SqT.of (by rw [List.map_map]; exact upd_same), at5.ext ex6⟩
    generalize upd H5 pt (.tup ((rl.map fun r => V.int r.1) ++ [va])) = H6 at *
    have ex46 := ex5.trans ex6
    have j2 := ex46.lst (by simp) k2
    have j3 := ex46.lst (by simp) k3
    refine ⟨_, rfl, _, rfl, _, rfl, _, rfl, _, rfl, D2, _, rfl, .inl ⟨SqL.of j2, fun l2 nl2 => ?_⟩⟩
    have ex7 : Ex T [] H6 (upd H6 l2 (.tup xs2)) := Ex.new nl2
    have atS : At K (upd H6 l2 (.tup xs2)) (.ref l2) (.tup (rl.map fun r => encA r.2.2)) := At.laid nl2 (ats2.ext ex46)
    have i3 := ex7.lst (by simp) j3
    have ex07 := (exH.trans ex46).trans ex7
    generalize upd H6 l2 (.tup xs2) = H7 at *
    refine ⟨_, rfl, D3, _, rfl, .inl (SqL.of i3), few, ex07.wd wd, fun p H8 hp lk ex8 => ⟨p, _, rfl, .inl ⟨SqL.of hp, fun l3 nl3 x dx nx ndx ne => ?_⟩⟩⟩
    have ex9 : Ex T [] H8 (upd H8 l3 (.tup ((kn (behL rl)).map V.int))) := Ex.new nl3
    have atK : At K (upd H8 l3 (.tup ((kn (behL rl)).map V.int))) (.ref l3) (.tup ((kn (behL rl)).map D.int)) := At.laid nl3 (ats_int.mpr rfl)
    generalize upd H8 l3 (.tup ((kn (behL rl)).map V.int)) = H9 at *
    refine ⟨x, dx, _, _, _, _, _, _, rfl, upd_same, ?_⟩
    rw [upd_upd]
    have exX : Ex T [] H9 (upd (upd H9 dx (.own x)) x (.ins C_Step dx (stepF (.ref aj) (.int t) (.int v) (.ref pt) (.ref l2) (.ref l3)))) := (Ex.new ndx).trans (Ex.new (by rw [upd_ne ne.symm]; exact nx))
    have exf := (ex8.trans ex9).trans exX
    exact ⟨rfl, q x dx _ _ _ _ upd_same (atA.ext (ex7.trans exf)) (atS.ext exf) (atK.ext exX) (ex07.trans exf)⟩

abbrev N_type_of : List Str := ["content", "standing", "held"]
theorem sc_type_of : FnScope N_type_of ["content"] (defScope s_type_of) := ⟨rfl, rfl, rfl, by decide +kernel, rfl, by decide +kernel, by decide +kernel⟩
def sp_type_of (K : PySem.W.Frag) (T : List Addr) : Sp := fun vs H Q _ => ∃ (x : V) (st : Nat) (h : List (Option Int)), vs = [x] ∧ At K H x (encCt st h) ∧ h.length < 64 ∧ Wd T H ∧
  ∀ v H', At K H' v (encCt st (ranksH h)) → Ex T [] H H' → Q v H'
theorem ok_type_of {f : Addr} {fd : FuncData} {k : Nat} {T : List Addr} (F : Fun K "type_of" "type_of" s_type_of f fd)
    {a_ranks_of : Addr} {d_ranks_of : FuncData} (G_ranks_of : FnOk P w K mg base CX0 k a_ranks_of d_ranks_of ["held"] (sp_ranks_of K T)) (k_ranks_of : PySem.W.keepIn K (.ref a_ranks_of) = true) (b_ranks_of : Binds K d_ranks_of ["held"] []) (m_ranks_of : mg "ranks_of" = some (.ref a_ranks_of)) :
    FnOk P w K mg base CX0 (k + 1) f fd ["content"] (sp_type_of K T) := by
  refine F.ok sc_type_of (fun vs H Q E h => ?_) (fun cdv A outer s H vs Q E hr h => ?_)
  · obtain ⟨x, st, h, rfl, _⟩ := h
    rfl
  obtain ⟨x, st, h, rfl, hx, few, wd, q⟩ := h
  refine ⟨_, (pss_cons (ps_asg (pv 0) (pg_tup rfl (pgs_cons (pg_name (i := 1) sc_type_of.nd rfl (.inl rfl)) (pgs_cons (pg_name (i := 2) sc_type_of.nd rfl (.inl rfl)) pgs_nil))))
    (pss_one (ps_ret (pe_tup (pa_cons (pv 1) (pa_cons (pe_call G_ranks_of hr (by rfl) m_ranks_of k_ranks_of b_ranks_of .nil pass0 (pa_cons (pv 2) pa_nil)) pa_nil)))))), ?_⟩
  obtain ⟨ac, y1, y2, rfl, sqc, h1, h2⟩ := hx.t2
  cases at_int.mp h1
  obtain ⟨ah, rfl, sqh⟩ := at_encH.mp h2
  refine ⟨_, rfl, ac, [_, _], rfl, sqc, rfl, _, [_], rfl, _, [], rfl, rfl, ?_⟩
  refine ⟨_, rfl, _, rfl, ah, h, rfl, .inr sqh, few, wd, fun v H1 at1 ex1 => ⟨by show 2 ≤ sizeLine; decide, fun p np => ?_⟩⟩
  exact q _ _ (At.laid np (Ats.mk (at_int.mpr rfl) (Ats.mk at1 Ats.mk_nil))) (ex1.trans (Ex.new np))

abbrev N_step_of : List Str := ["machine", "kind", "tag", "spot", "step"]
theorem sc_step_of : FnScope N_step_of ["machine", "kind", "tag", "spot"] (defScope s_step_of) := ⟨rfl, rfl, rfl, by decide +kernel, rfl, by decide +kernel, by decide +kernel⟩
theorem row_one (m : M) (st : Nat) (h : List (Option Int)) (e : Nat × Int) (hl : h.length = m.regs) : rowL [m] [st] h e 1 = [readM m st h e] := by
  show [rowAt [m] [st] h e 0] = _
  have : heldA [m] h 0 = h := by
    show (h.take (m.regs + 0)).drop 0 = h
    rw [List.drop_zero, List.take_of_length_le (by omega)]
  show [readM m st (heldA [m] h 0) e] = _
  rw [this]
def sp_step_of (K : PySem.W.Frag) (T : List Addr) (n : Nat) : Sp := fun vs H Q _ => ∃ (xm xk : V) (m : M) (st : Nat) (h : List (Option Int)) (t : Nat) (v : Int), vs = [xm, xk, .int t, .int v] ∧ At K H xm (encM m) ∧ At K H xk (encCt st h) ∧ okM n m ∧ st < m.steps.length ∧ t < m.tags ∧ h.length = m.regs ∧ h.length < 64 ∧ Wd T H ∧
  ∀ r H', At K H' r (.tup [encCt (readM m st (mapH (fun z => 2 * z + 1) h) (t, v)).1 (ranksH (readM m st (mapH (fun z => 2 * z + 1) h) (t, v)).2.1), encA (readM m st (mapH (fun z => 2 * z + 1) h) (t, v)).2.2]) → Ex T [] H H' → Q r H'
theorem ok_step_of {f : Addr} {fd : FuncData} {k : Nat} {T : List Addr} {n : Nat} (F : Fun K "step_of" "step_of" s_step_of f fd) {C_Step : Addr} (TC : StepC K C_Step)
    {a_row_step : Addr} {d_row_step : FuncData} (G_row_step : FnOk P w K mg base CX0 k a_row_step d_row_step ["row", "joint", "tag", "spot"] (sp_row_step K T C_Step n)) (k_row_step : PySem.W.keepIn K (.ref a_row_step) = true) (b_row_step : Binds K d_row_step ["row", "joint", "tag", "spot"] []) (m_row_step : mg "row_step" = some (.ref a_row_step)) :
    FnOk P w K mg base CX0 (k + 1) f fd ["machine", "kind", "tag", "spot"] (sp_step_of K T n) := by
  refine F.ok sc_step_of (fun vs H Q E h => ?_) (fun cdv A outer s H vs Q E hr h => ?_)
  · obtain ⟨xm, xk, m, st, h, t, v, rfl, _⟩ := h
    rfl
  obtain ⟨xm, xk, m, st, h, t, v, rfl, hm, hk, ok, hst, ht, hl, few, wd, q⟩ := h
  refine ⟨_, (pss_cons (ps_set (i := 4) sc_step_of.nd rfl (.inl rfl) (pe_call G_row_step hr (by rfl) m_row_step k_row_step b_row_step .nil pass0 (pa_cons (pe_tup (pa_cons (pv 0) pa_nil)) (pa_cons (pv 1) (pa_cons (pv 2) (pa_cons (pv 3) pa_nil))))))
    (pss_one (ps_ret (pe_tup (pa_cons (pe_fld (pv 4) rfl) (pa_cons (pe_ix ix_tup (pe_fld (pv 4) rfl) pe_int (fun _ _ => rfl)) pa_nil)))))), ?_⟩
  refine ⟨_, rfl, by show 1 ≤ sizeLine; decide, fun p np => ?_⟩
  have ex1 : Ex T [] H (upd H p (.tup [xm])) := Ex.new np
  have atr : At K (upd H p (.tup [xm])) (.ref p) (.tup ([m].map encM)) := At.laid np (Ats.mk hm Ats.mk_nil)
  generalize upd H p (.tup [xm]) = H1 at *
  have o : RowOk n [m] [st] h t := ⟨fun m' hm' => by rw [List.mem_singleton.mp hm']; exact ok, fun m' hm' => by rw [List.mem_singleton.mp hm']; exact ht, rfl, fun i m' hi => (by
    cases i with
    | zero => cases hi; exact hst
    | succ i => cases hi), by rw [hl]; show m.regs = m.regs + 0; omega, few, by show 1 ≤ 1000; decide⟩
  refine ⟨_, rfl, _, rfl, _, rfl, _, xk, [m], [st], h, t, v, rfl, atr, hk.ext ex1, o, ex1.wd wd, fun x dx va vs' vk H2 hx a1 a2 a3 ex2 => ?_⟩
  rw [show ([m] : List M).length = 1 from rfl, row_one _ _ _ _ (by rw [mapH_len]; exact hl)] at a1 a2 a3
  generalize readM m st (mapH (fun z => 2 * z + 1) h) (t, v) = r at *
  have eb : behL [r] = r.2.1 := by unfold behL; simp
  rw [eb] at a1
  obtain ⟨as, s1, rfl, sqs, c1⟩ := a2.t1
  refine ⟨_, rfl, x, C_Step, dx, _, _, rfl, hx, TC.cl, TC.n4, stepF_after, _, rfl, x, C_Step, dx, _, _, rfl, hx, TC.cl, TC.n5, stepF_said, as, _, _, _, rfl, rfl, sqs, rfl, by show 2 ≤ sizeLine; decide, fun p2 np2 => ?_⟩
  exact q _ _ (At.laid np2 (Ats.mk a1 (Ats.mk c1 Ats.mk_nil))) ((ex1.trans ex2).trans (Ex.new np2))

abbrev N_tight : List Str := ["log", "lower", "tag", "value"]
theorem sc_tight : FnScope N_tight ["log"] (defScope s_tight) := ⟨rfl, rfl, rfl, by decide +kernel, rfl, by decide +kernel, by decide +kernel⟩
def sp_tight (K : PySem.W.Frag) (T : List Addr) : Sp := fun vs H Q _ => ∃ (x : V) (es : List (Nat × Int)), vs = [x] ∧ Lg K H x es ∧ es.length ≤ 1000 ∧ (srt (vals es)).length ≤ 1000 ∧ Wd T H ∧
  ∀ v H', At K H' v (.tup ((tightL es).map encE)) → Ex T [] H H' → Q v H'
theorem ok_tight {f : Addr} {fd : FuncData} {k : Nat} {T : List Addr} (F : Fun K "tight" "tight" s_tight f fd) (m_sorted : mg "sorted" = none) (m_tuple : mg "tuple" = none)
    {a__numbered : Addr} {d__numbered : FuncData} (G__numbered : FnOk P w K mg base CX0 k a__numbered d__numbered ["values"] (sp__numbered K T)) (k__numbered : PySem.W.keepIn K (.ref a__numbered) = true) (b__numbered : Binds K d__numbered ["values"] []) (m__numbered : mg "_numbered" = some (.ref a__numbered)) :
    FnOk P w K mg base CX0 (k + 1) f fd ["log"] (sp_tight K T) := by
  refine F.ok sc_tight (fun vs H Q E h => ?_) (fun cdv A outer s H vs Q E hr h => ?_)
  · obtain ⟨x, es, rfl, _⟩ := h
    rfl
  obtain ⟨x, es, rfl, hx, few, lo, wd, q⟩ := h
  refine ⟨_, (pss_cons (ps_set (i := 1) sc_tight.nd rfl (.inr rfl) (pe_call G__numbered hr (by rfl) m__numbered k__numbered b__numbered .nil pass0 (pa_cons (pe_callB (cr_sortedSetB rfl) (by rfl) m_sorted boot_sorted (pa_cons (pe_scI (own := [("tag", 2), ("value", 3)]) (g := (gTup K 2 (gCons (gName 2) (gCons (gName 3) gNil)))) (tt := tYes) rfl sc_tight.nd (pi_or (pi_list (pv 0)) (pi_tup (pv 0))) (blkOk_by (N := N_tight) (sc := defScope s_tight) (by decide +kernel))
        (fun _ _ _ _ _ => (pg_tup rfl (pgs_cons (pg_name (i := 2) sc_tight.nd rfl (.inl rfl)) (pgs_cons (pg_name (i := 3) sc_tight.nd rfl (.inl rfl)) pgs_nil)))) (fun _ _ _ _ _ => pts_nil)
        (fun _ _ _ _ _ => (pv 3))) pa_nil)) pa_nil)))
    (pss_one (ps_ret (pe_callTy call_tuple_of (by rfl) m_tuple (by decide +kernel) (pa_cons (pe_lc (own := [("tag", 2), ("value", 3)]) (g := (gTup K 2 (gCons (gName 2) (gCons (gName 3) gNil)))) (tt := tYes) rfl sc_tight.nd (pi_or (pi_list (pv 0)) (pi_tup (pv 0))) (blkOk_by (N := N_tight) (sc := defScope s_tight) (by decide +kernel))
        (fun _ _ _ _ _ => (pg_tup rfl (pgs_cons (pg_name (i := 2) sc_tight.nd rfl (.inl rfl)) (pgs_cons (pg_name (i := 3) sc_tight.nd rfl (.inl rfl)) pgs_nil)))) (fun _ _ _ _ _ => pts_nil)
        (fun _ _ _ _ _ => (pe_tup (pa_cons (pv 2) (pa_cons (pe_dget (Nat.lt_of_le_of_lt (Nat.add_le_add_left (by decide : 1 ≤ 64) _) hr.units) (pv 1) (pv 3) (fun _ _ => rfl)) pa_nil))))) pa_nil))))), ?_⟩
  obtain ⟨al, xs, rfl, hsq, ats⟩ := hx
  have xl : xs.length = es.length := by rw [ats.length, List.length_map]
  rcases hsq with hq | hq
  · refine .inl ⟨_, rfl, al, rfl, ⟨_, hq⟩, fun Z nZ => ?_⟩
    refine ⟨fun i m H' => m = es.length - i ∧ i ≤ es.length ∧ Ex T [] H H' ∧ ∃ (S : Int → Bool) (n : Nat), H' Z = some (SetO w Z S n) ∧ n = (srt ((vals es).take i)).length ∧ ∀ y, S y = true ↔ y ∈ (vals es).take i, ⟨_, rfl, Nat.zero_le _, Ex.new nZ, _, 0, upd_same, rfl, fun y => by simp⟩, ?_⟩
    rintro i m H' ⟨rfl, hi, ex, S, n, hZ, ln, mem⟩
    have sq' := ex.sqL (by simp) hq
    by_cases hlt : i < es.length
    · have ev : (vals es)[i]? = some (es[i]).2 := by unfold vals; rw [List.getElem?_map, List.getElem?_eq_getElem hlt]; rfl
      have et : (vals es).take (i + 1) = (vals es).take i ++ [(es[i]).2] := by rw [List.take_add_one, ev]; rfl
      obtain ⟨x, hx1, hx2⟩ := ats.at (List.getElem?_eq_getElem hlt)
      refine .inr ⟨⟨xs, x, sq', hx1⟩, fun H2 => i + 1 ≤ es.length ∧ Ex T [] H H2 ∧ ∃ (S : Int → Bool) (n : Nat), H2 Z = some (SetO w Z S n) ∧ n = (srt ((vals es).take (i + 1))).length ∧ ∀ y, S y = true ↔ y ∈ (vals es).take (i + 1), fun H2 z => ⟨es.length - (i + 1), by omega, rfl, z⟩, fun x' H2 y => ?_⟩
      obtain ⟨rfl, y⟩ := y
      have hx' := y _ sq'
      rw [hx1] at hx'
      cases hx'
      obtain ⟨ap, v1, v2, rfl, sqp, g1, g2⟩ := (hx2.ext ex).t2
      cases at_int.mp g1
      cases at_int.mp g2
      refine ⟨ap, [_, _], rfl, sqp, rfl, _, [_], rfl, _, [], rfl, rfl, wipe2 (by decide), yesIf ⟨_, rfl, (es[i]).2, S, n, rfl, hZ, ?_, hlt, ex.put nZ wd, _, _, upd_same, ?_, fun y => ?_⟩⟩
      · have := srt_len (vals es) i
        unfold scanBound
        omega
      · rw [et, srt_snoc, insN_len (srt_sorted _), ln]
        by_cases c : (es[i]).2 ∈ (vals es).take i
        · rw [if_pos ((mem _).mpr c), if_pos (mem_srt.mpr c)]
        · rw [if_neg (fun z => c ((mem _).mp z)), if_neg (fun z => c (mem_srt.mp z))]
      · rw [et, List.mem_append, Bool.or_eq_true, mem, decide_eq_true_iff, List.mem_singleton]
    · have e : i = es.length := by omega
      subst e
      rw [← vals_len es, List.take_length] at mem ln
      refine .inl ⟨⟨_, sq', by rw [xl]; exact Nat.le_refl _⟩, ?_⟩
      refine ⟨Z, S, n, rfl, hZ, by omega, fun ks pk srt' mem' lk npk => ?_⟩
      have ek : ks = srt (vals es) := srt_unique srt' (srt_sorted _) fun y => by rw [mem' y, mem, mem_srt]
      subst ek
      have e1 := ex.trans (Ex.new (T := T) (ms := []) (o := .lst ((srt (vals es)).map V.int)) npk)
      refine ⟨pk, srt (vals es), rfl, SqL.of upd_same, srt_sorted _, by omega, e1.wd wd, fun d H2 kvs hd num ex2 => ?_⟩
      have e2 := e1.trans ex2
      refine .inl ⟨_, rfl, al, rfl, ⟨_, e2.sqL (by simp) hq⟩, fun D nD => lc_list (xs := xs) (fun i H' => Col K T [] D H2 H' (((tightL es).take i).map encE)) (Col.start Ex.refl nD) (fun i H' _ c' => (e2.trans c'.1).sqL (by simp) hq) ?_ ?_⟩
      · rintro i x H' hi cl
        have hi' : i < es.length := by rw [← xl]; exact (List.getElem?_eq_some_iff.mp hi).1
        obtain ⟨x', hx1, hx2⟩ := ats.at (List.getElem?_eq_getElem hi')
        rw [hi] at hx1
        cases hx1
        obtain ⟨ap, v1, v2, rfl, sqp, g1, g2⟩ := (hx2.ext (e2.trans cl.1)).t2
        cases at_int.mp g1
        cases at_int.mp g2
        obtain ⟨j, hj, ej, cj⟩ := cnt_of (srt_sorted (vals es)) (mem_srt.mpr (show (es[i]).2 ∈ vals es from List.mem_map.mpr ⟨_, List.getElem_mem hi', rfl⟩))
        refine ⟨ap, [_, _], rfl, sqp, rfl, _, [_], rfl, _, [], rfl, rfl, wipe2 (by decide), yesIf ⟨_, rfl, _, rfl, _, rfl, d, .int (j : Nat), rfl, ?_, by show 2 ≤ sizeLine; decide, fun p np => ?_⟩⟩
        · have := DGet.k (k := Sum.inl (es[i]).2) (cl.1.dk (by simp) hd)
          rw [num j _ (by rw [List.getElem?_eq_getElem hj, ej])] at this
          exact this
        obtain ⟨acc, k1, k2, k3⟩ := cl.put nD (by simp) (e2.wd wd) (Ex.new np) (x := .ref p) (d := encE (chL (tgF es) es[i])) (At.laid np (Ats.mk (at_int.mpr rfl) (Ats.mk (at_int.mpr (by show V.int (j : Nat) = V.int (tgF es (es[i]).2); unfold tgF; rw [cj])) Ats.mk_nil))) (take_len _ _ _ _ (by rw [tightL_len]; omega))
        refine ⟨acc, k1, k2, ?_⟩
        rw [take_map] at k3
        · exact k3
        · unfold tightL
          rw [List.getElem?_map, List.getElem?_eq_getElem hi']
          rfl
      · rintro H3 cl
        rw [xl, show es.length = (tightL es).length from (tightL_len es).symm, List.take_length] at cl
        obtain ⟨exs, as0, hD0, ats0⟩ := cl
        exact ⟨D, _, rfl, .inl ⟨SqL.of hD0, fun l nl => q _ _ (At.laid nl ats0) ((e2.trans exs).trans (Ex.new nl))⟩⟩
  · refine .inr ⟨_, rfl, al, rfl, ⟨_, hq⟩, fun Z nZ => ?_⟩
    refine ⟨fun i m H' => m = es.length - i ∧ i ≤ es.length ∧ Ex T [] H H' ∧ ∃ (S : Int → Bool) (n : Nat), H' Z = some (SetO w Z S n) ∧ n = (srt ((vals es).take i)).length ∧ ∀ y, S y = true ↔ y ∈ (vals es).take i, ⟨_, rfl, Nat.zero_le _, Ex.new nZ, _, 0, upd_same, rfl, fun y => by simp⟩, ?_⟩
    rintro i m H' ⟨rfl, hi, ex, S, n, hZ, ln, mem⟩
    have sq' := ex.sqT hq
    by_cases hlt : i < es.length
    · have ev : (vals es)[i]? = some (es[i]).2 := by unfold vals; rw [List.getElem?_map, List.getElem?_eq_getElem hlt]; rfl
      have et : (vals es).take (i + 1) = (vals es).take i ++ [(es[i]).2] := by rw [List.take_add_one, ev]; rfl
      obtain ⟨x, hx1, hx2⟩ := ats.at (List.getElem?_eq_getElem hlt)
      refine .inr ⟨⟨xs, x, sq', hx1⟩, fun H2 => i + 1 ≤ es.length ∧ Ex T [] H H2 ∧ ∃ (S : Int → Bool) (n : Nat), H2 Z = some (SetO w Z S n) ∧ n = (srt ((vals es).take (i + 1))).length ∧ ∀ y, S y = true ↔ y ∈ (vals es).take (i + 1), fun H2 z => ⟨es.length - (i + 1), by omega, rfl, z⟩, fun x' H2 y => ?_⟩
      obtain ⟨rfl, y⟩ := y
      have hx' := y _ sq'
      rw [hx1] at hx'
      cases hx'
      obtain ⟨ap, v1, v2, rfl, sqp, g1, g2⟩ := (hx2.ext ex).t2
      cases at_int.mp g1
      cases at_int.mp g2
      refine ⟨ap, [_, _], rfl, sqp, rfl, _, [_], rfl, _, [], rfl, rfl, wipe2 (by decide), yesIf ⟨_, rfl, (es[i]).2, S, n, rfl, hZ, ?_, hlt, ex.put nZ wd, _, _, upd_same, ?_, fun y => ?_⟩⟩
      · have := srt_len (vals es) i
        unfold scanBound
        omega
      · rw [et, srt_snoc, insN_len (srt_sorted _), ln]
        by_cases c : (es[i]).2 ∈ (vals es).take i
        · rw [if_pos ((mem _).mpr c), if_pos (mem_srt.mpr c)]
        · rw [if_neg (fun z => c ((mem _).mp z)), if_neg (fun z => c (mem_srt.mp z))]
      · rw [et, List.mem_append, Bool.or_eq_true, mem, decide_eq_true_iff, List.mem_singleton]
    · have e : i = es.length := by omega
      subst e
      rw [← vals_len es, List.take_length] at mem ln
      refine .inl ⟨⟨_, sq', by rw [xl]; exact Nat.le_refl _⟩, ?_⟩
      refine ⟨Z, S, n, rfl, hZ, by omega, fun ks pk srt' mem' lk npk => ?_⟩
      have ek : ks = srt (vals es) := srt_unique srt' (srt_sorted _) fun y => by rw [mem' y, mem, mem_srt]
      subst ek
      have e1 := ex.trans (Ex.new (T := T) (ms := []) (o := .lst ((srt (vals es)).map V.int)) npk)
      refine ⟨pk, srt (vals es), rfl, SqL.of upd_same, srt_sorted _, by omega, e1.wd wd, fun d H2 kvs hd num ex2 => ?_⟩
      have e2 := e1.trans ex2
      refine .inr ⟨_, rfl, al, rfl, ⟨_, e2.sqT hq⟩, fun D nD => lc_tup (xs := xs) (fun i H' => Col K T [] D H2 H' (((tightL es).take i).map encE)) (Col.start Ex.refl nD) (fun i H' _ c' => (e2.trans c'.1).sqT hq) ?_ ?_⟩
      · rintro i x H' hi cl
        have hi' : i < es.length := by rw [← xl]; exact (List.getElem?_eq_some_iff.mp hi).1
        obtain ⟨x', hx1, hx2⟩ := ats.at (List.getElem?_eq_getElem hi')
        rw [hi] at hx1
        cases hx1
        obtain ⟨ap, v1, v2, rfl, sqp, g1, g2⟩ := (hx2.ext (e2.trans cl.1)).t2
        cases at_int.mp g1
        cases at_int.mp g2
        obtain ⟨j, hj, ej, cj⟩ := cnt_of (srt_sorted (vals es)) (mem_srt.mpr (show (es[i]).2 ∈ vals es from List.mem_map.mpr ⟨_, List.getElem_mem hi', rfl⟩))
        refine ⟨ap, [_, _], rfl, sqp, rfl, _, [_], rfl, _, [], rfl, rfl, wipe2 (by decide), yesIf ⟨_, rfl, _, rfl, _, rfl, d, .int (j : Nat), rfl, ?_, by show 2 ≤ sizeLine; decide, fun p np => ?_⟩⟩
        · have := DGet.k (k := Sum.inl (es[i]).2) (cl.1.dk (by simp) hd)
          rw [num j _ (by rw [List.getElem?_eq_getElem hj, ej])] at this
          exact this
        obtain ⟨acc, k1, k2, k3⟩ := cl.put nD (by simp) (e2.wd wd) (Ex.new np) (x := .ref p) (d := encE (chL (tgF es) es[i])) (At.laid np (Ats.mk (at_int.mpr rfl) (Ats.mk (at_int.mpr (by show V.int (j : Nat) = V.int (tgF es (es[i]).2); unfold tgF; rw [cj])) Ats.mk_nil))) (take_len _ _ _ _ (by rw [tightL_len]; omega))
        refine ⟨acc, k1, k2, ?_⟩
        rw [take_map] at k3
        · exact k3
        · unfold tightL
          rw [List.getElem?_map, List.getElem?_eq_getElem hi']
          rfl
      · rintro H3 cl
        rw [xl, show es.length = (tightL es).length from (tightL_len es).symm, List.take_length] at cl
        obtain ⟨exs, as0, hD0, ats0⟩ := cl
        exact ⟨D, _, rfl, .inl ⟨SqL.of hD0, fun l nl => q _ _ (At.laid nl ats0) ((e2.trans exs).trans (Ex.new nl))⟩⟩

abbrev N_spot_at : List Str := ["values", "value", "lower", "other"]
theorem sc_spot_at : FnScope N_spot_at ["values", "value"] (defScope s_spot_at) := ⟨rfl, rfl, rfl, by decide +kernel, rfl, by decide +kernel, by decide +kernel⟩
theorem inV_int (v : Int) : ∀ l : List Int, inV (.int v) (l.map V.int) = decide (v ∈ l)
  | [] => rfl
  | a :: l => by
    have ih := inV_int v l
    unfold inV at *
    rw [List.map_cons, List.any_cons, ih, show eqV (V.int a) (V.int v) = decide (a = v) from rfl]
    by_cases c : v = a
    · subst c; simp
    · have e1 : decide (a = v) = false := decide_eq_false fun e => c e.symm
      rw [e1, Bool.false_or]
      exact decide_eq_decide.mpr ⟨fun hm => List.mem_cons_of_mem _ hm, fun hm => (List.mem_cons.mp hm).resolve_left c⟩
def sp_spot_at (K : PySem.W.Frag) (T : List Addr) : Sp := fun vs H Q _ => ∃ (pk : Addr) (h : List (Option Int)) (v : Int), vs = [.ref pk, .int v] ∧ H pk = some (.lst ((kn h).map V.int)) ∧ h.length < 64 ∧ Wd T H ∧
  ∀ H', Ex T [] H H' → Q (.int (spotN h v)) H'
theorem ok_spot_at {f : Addr} {fd : FuncData} {k : Nat} {T : List Addr} (F : Fun K "spot_at" "spot_at" s_spot_at f fd) (m_len : mg "len" = none) :
    FnOk P w K mg base CX0 (k + 1) f fd ["values", "value"] (sp_spot_at K T) := by
  refine F.ok sc_spot_at (fun vs H Q E h => ?_) (fun cdv A outer s H vs Q E hr h => ?_)
  · obtain ⟨pk, h, v, rfl, _⟩ := h
    rfl
  obtain ⟨pk, h, v, rfl, hk, few, wd, q⟩ := h
  refine ⟨_, (pss_cons (ps_set (i := 2) sc_spot_at.nd rfl (.inl rfl) (pe_callB call_len_seq (by rfl) m_len PySem.boot_len (pa_cons (pe_lc (own := [("other", 3)]) (g := (gName 3)) (tt := _) rfl sc_spot_at.nd (pi_list (pv 0)) (blkOk_by (N := N_spot_at) (sc := defScope s_spot_at) (by decide +kernel))
        (fun _ _ _ _ _ => (pg_name (i := 3) sc_spot_at.nd rfl (.inl rfl))) (fun _ _ _ _ _ => pts_one (pt_cmpR op_lt (pv 3) (pv 1) (nomark _)))
        (fun _ _ _ _ _ => (pv 3))) pa_nil)))
    (pss_one (ps_ret (pe_ifExp (pt_cmpR op_in_seq (pv 1) (pv 0) rfl) (pe_op op_add (pe_op op_mul pe_int (pv 2)) pe_int) (pe_op op_mul pe_int (pv 2)))))), ?_⟩
  have kl := kn_len h
  refine ⟨_, rfl, pk, rfl, ⟨_, SqL.of hk⟩, fun Z nZ => lc_list (xs := (kn h).map V.int) (fun i H' => Ex T [] H H' ∧ H' Z = some (.lst ((((kn h).take i).filter fun k => decide (k < v)).map V.int))) ⟨Ex.new nZ, upd_same⟩ (fun i H' _ z => z.1.sqL (by simp) (SqL.of hk)) ?_ ?_⟩
  · rintro i x H' hi ⟨ex, hD⟩
    have hi' : i < (kn h).length := by have := (List.getElem?_eq_some_iff.mp hi).1; rw [List.length_map] at this; exact this
    rw [List.getElem?_map, List.getElem?_eq_getElem hi'] at hi
    cases hi
    have et : (kn h).take (i + 1) = (kn h).take i ++ [(kn h)[i]] := by rw [List.take_add_one, List.getElem?_eq_getElem hi']; rfl
    refine ⟨wipe1, _, rfl, _, rfl, _, _, rfl, rfl, _, rfl, ?_⟩
    by_cases c : (kn h)[i] < v
    · rw [decide_eq_true c]
      refine iteT ⟨_, rfl, _, hD, ?_, ex.put nZ wd, ?_⟩
      · rw [List.length_map]
        refine small5000 (Nat.le_trans (List.length_filter_le _ _) ?_)
        rw [List.length_take]
        omega
      · rw [upd_same, et, List.filter_append, List.map_append, List.filter_cons, if_pos (decide_eq_true c)]
        rfl
    · rw [decide_eq_false c]
      refine iteF ⟨ex, ?_⟩
      rw [hD, et, List.filter_append, List.filter_cons, if_neg (by rw [decide_eq_false c]; decide)]
      simp
  · rintro H3 ⟨ex, hD⟩
    rw [List.length_map, List.take_length] at hD
    have hk' := ex.lst (by simp) hk
    have z := q H3 ex
    unfold spotN Dv.cnt at z
    refine ⟨Z, _, rfl, .inl (SqL.of hD), _, rfl, _, rfl, pk, _, rfl, .inl (SqL.of hk'), rfl, by simp [flatV], _, rfl, ?_⟩
    rw [inV_int, List.length_map]
    by_cases c : v ∈ kn h
    · rw [if_pos c] at z
      rw [decide_eq_true c]
      exact iteT ⟨_, rfl, _, _, rfl, rfl, .inl ⟨by decide, by decide⟩, _, _, rfl, rfl, z⟩
    · rw [if_neg c, Int.add_zero] at z
      rw [decide_eq_false c]
      exact iteF ⟨_, rfl, _, _, rfl, rfl, .inl ⟨by decide, by decide⟩, z⟩

abbrev N_value_at : List Str := ["values", "spot", "top", "at", "bounds"]
theorem sc_value_at : FnScope N_value_at ["values", "spot", "top"] (defScope s_value_at) := ⟨rfl, rfl, rfl, by decide +kernel, rfl, by decide +kernel, by decide +kernel⟩
def sp_value_at (K : PySem.W.Frag) (T : List Addr) : Sp := fun vs H Q _ => ∃ (pk : Addr) (ks : List Int) (s top : Int), vs = [.ref pk, .int s, .int top] ∧ H pk = some (.lst (ks.map V.int)) ∧ ks.length < 64 ∧ 0 ≤ s ∧ s ≤ 2 * (ks.length : Nat) ∧ Wd T H ∧
  ∀ H', Ex T [] H H' → Q (.int (valA ks s top)) H'
theorem ok_value_at {f : Addr} {fd : FuncData} {k : Nat} {T : List Addr} (F : Fun K "value_at" "value_at" s_value_at f fd) :
    FnOk P w K mg base CX0 (k + 1) f fd ["values", "spot", "top"] (sp_value_at K T) := by
  refine F.ok sc_value_at (fun vs H Q E h => ?_) (fun cdv A outer s H vs Q E hr h => ?_)
  · obtain ⟨pk, ks, s, top, rfl, _⟩ := h
    rfl
  obtain ⟨pk, ks, sp, top, rfl, hk, few, s0, s1, wd, q⟩ := h
  refine ⟨_, (pss_cons (ps_set (i := 3) sc_value_at.nd rfl (.inl rfl) (pe_op op_fdiv (pv 1) pe_int))
    (pss_cons (ps_if (pt_cmpR op_eq (pe_op op_mod (pv 1) pe_int) pe_int (nomark _))
      (pss_one (ps_ret (pe_ix ix_list (pv 0) (pv 3) (fun _ _ => rfl))))
      pss_nil)
    (pss_cons (ps_set (i := 4) sc_value_at.nd rfl (.inl rfl) (pe_tup (pa_cons pe_int (StX.pa_star (pv 0) (pa_cons (pv 2) pa_nil)))))
    (pss_one (ps_ret (pe_op op_fdiv (pe_op op_add (pe_ix ix_tup (pv 4) (pv 3) (fun _ _ => rfl)) (pe_ix ix_tup (pv 4) (pe_op op_add (pv 3) pe_int) (fun _ _ => rfl))) pe_int)))))), ?_⟩
  refine ⟨_, rfl, _, _, rfl, rfl, ⟨by decide, by decide⟩, ?_⟩
  refine ⟨_, rfl, _, _, rfl, rfl, (by show (0 : Int) < 2; decide), rfl, _, rfl, ite2 (fun c => ?_) (fun c => ?_)⟩
  · have odd : sp % 2 = 1 := by simpa using c
    obtain ⟨i, hi⟩ : ∃ i : Nat, sp / 2 = (i : Int) := ⟨(sp / 2).toNat, by omega⟩
    have hil : i < ks.length := by omega
    have z := q H Ex.refl
    unfold valA at z
    rw [if_pos odd, hi, Int.toNat_natCast, List.getD_eq_getElem?_getD, List.getElem?_eq_getElem hil] at z
    rw [show (fun i j : Int => V.int (i / j)) sp 2 = V.int ((i : Nat) : Int) from congrArg V.int hi]
    exact ⟨_, rfl, _, rfl, pk, _, _, _, rfl, rfl, SqL.of hk, atI_nat (show (ks.map V.int)[i]? = some (V.int ks[i]) by rw [List.getElem?_map, List.getElem?_eq_getElem hil]; rfl), z⟩
  · have odd : ¬ sp % 2 = 1 := by simpa using c
    obtain ⟨i, hi⟩ : ∃ i : Nat, sp / 2 = (i : Int) := ⟨(sp / 2).toNat, by omega⟩
    have hil : i ≤ ks.length := by omega
    have z := fun H' e => q H' e
    unfold valA at z
    rw [if_neg odd, hi, Int.toNat_natCast] at z
    rw [show (fun i j : Int => V.int (i / j)) sp 2 = V.int ((i : Nat) : Int) from congrArg V.int hi]
    have ebl : (bnds ks top).length = ks.length + 2 := by unfold bnds; rw [List.length_append, List.length_cons]; rfl
    have eb : V.int 0 :: (ks.map V.int ++ [V.int top]) = (bnds ks top).map V.int := by unfold bnds; rw [List.map_append, List.map_cons]; rfl
    have gb : ∀ j, j < ks.length + 2 → ((bnds ks top).map V.int)[j]? = some (V.int ((bnds ks top).getD j 0)) := fun j hj => by
      rw [List.getElem?_map, List.getD_eq_getElem?_getD, List.getElem?_eq_getElem (by omega)]
      rfl
    refine ⟨_, rfl, pk, _, rfl, .inr (SqL.of hk), _, rfl, ?_, fun p np => ?_⟩
    · show (V.int 0 :: (ks.map V.int ++ [V.int top])).length ≤ sizeLine
      rw [eb, List.length_map, ebl]
      exact Nat.le_of_lt (small5000 (by omega))
    have sqb : SqT K (upd H p (.tup (V.int 0 :: (ks.map V.int ++ [V.int top])))) p ((bnds ks top).map V.int) := by rw [← eb]; exact SqT.of upd_same
    refine ⟨_, rfl, _, rfl, p, _, _, _, rfl, rfl, sqb, atI_nat (gb i (by omega)), _, rfl, _, rfl, _, _, rfl, rfl, p, _, _, _, rfl, rfl, sqb, atI_nat (j := i + 1) (gb (i + 1) (by omega)), _, _, rfl, rfl, _, _, rfl, rfl, ⟨by decide, by decide⟩, z _ (Ex.new np)⟩

abbrev N_top_for : List Str := ["many"]
theorem sc_top_for : FnScope N_top_for ["many"] (defScope s_top_for) := ⟨rfl, rfl, rfl, by decide +kernel, rfl, by decide +kernel, by decide +kernel⟩
def sp_top_for : Sp := fun vs H Q _ => ∃ (n : Nat), vs = [.int n] ∧ n ≤ 1000 ∧ Q (.int (2 ^ (n + 1))) H
theorem ok_top_for {f : Addr} {fd : FuncData} {k : Nat}  (F : Fun K "top_for" "top_for" s_top_for f fd) :
    FnOk P w K mg base CX0 (k + 1) f fd ["many"] (sp_top_for ) := by
  refine F.ok sc_top_for (fun vs H Q E h => ?_) (fun cdv A outer s H vs Q E hr h => ?_)
  · obtain ⟨n, rfl, _⟩ := h
    rfl
  obtain ⟨n, rfl, hn, q⟩ := h
  refine ⟨_, (pss_one (ps_ret (pe_op op_oneShl pe_int (pe_op op_add (pv 0) pe_int)))), ?_⟩
  exact ⟨_, rfl, _, _, rfl, rfl, n + 1, rfl, rfl, by omega, q⟩

abbrev N_trace : List Str := ["machine", "log", "content", "told", "entry", "spot"]
theorem sc_trace : FnScope N_trace ["machine", "log"] (defScope s_trace) := ⟨rfl, rfl, rfl, by decide +kernel, rfl, by decide +kernel, by decide +kernel⟩
def sp_trace (K : PySem.W.Frag) (T : List Addr) (n : Nat) : Sp := fun vs H Q _ => ∃ (xm xl : V) (m : M) (es : List (Nat × Int)), vs = [xm, xl] ∧ At K H xm (encM m) ∧ At K H xl (.tup (es.map encE)) ∧ okM n m ∧ m.regs < 64 ∧ (∀ e ∈ es, e.1 < m.tags) ∧ es.length ≤ 1000 ∧ Wd T H ∧
  ∀ v H', At K H' v (.tup ((trL m ((0, List.replicate m.regs none) : Ct) es).map encT)) → Ex T [] H H' → Q v H'
theorem ok_trace {f : Addr} {fd : FuncData} {k : Nat} {T : List Addr} {n : Nat} (F : Fun K "trace" "trace" s_trace f fd) (m_tuple : mg "tuple" = none)
    {a_beginning : Addr} {d_beginning : FuncData} (G_beginning : FnOk P w K mg base CX0 k a_beginning d_beginning ["machine"] (sp_beginning K T)) (k_beginning : PySem.W.keepIn K (.ref a_beginning) = true) (b_beginning : Binds K d_beginning ["machine"] []) (m_beginning : mg "beginning" = some (.ref a_beginning))
    {a_spot_at : Addr} {d_spot_at : FuncData} (G_spot_at : FnOk P w K mg base CX0 k a_spot_at d_spot_at ["values", "value"] (sp_spot_at K T)) (k_spot_at : PySem.W.keepIn K (.ref a_spot_at) = true) (b_spot_at : Binds K d_spot_at ["values", "value"] []) (m_spot_at : mg "spot_at" = some (.ref a_spot_at))
    {a_held_values : Addr} {d_held_values : FuncData} (G_held_values : FnOk P w K mg base CX0 k a_held_values d_held_values ["held"] (sp_held_values K T)) (k_held_values : PySem.W.keepIn K (.ref a_held_values) = true) (b_held_values : Binds K d_held_values ["held"] []) (m_held_values : mg "held_values" = some (.ref a_held_values))
    {a_case_at : Addr} {d_case_at : FuncData} (G_case_at : FnOk P w K mg base CX0 k a_case_at d_case_at ["machine", "content", "entry"] (sp_case_at K T n)) (k_case_at : PySem.W.keepIn K (.ref a_case_at) = true) (b_case_at : Binds K d_case_at ["machine", "content", "entry"] []) (m_case_at : mg "case_at" = some (.ref a_case_at))
    {a_type_of : Addr} {d_type_of : FuncData} (G_type_of : FnOk P w K mg base CX0 k a_type_of d_type_of ["content"] (sp_type_of K T)) (k_type_of : PySem.W.keepIn K (.ref a_type_of) = true) (b_type_of : Binds K d_type_of ["content"] []) (m_type_of : mg "type_of" = some (.ref a_type_of))
    {a_read : Addr} {d_read : FuncData} (G_read : FnOk P w K mg base CX0 k a_read d_read ["machine", "content", "entry"] (sp_read K T n)) (k_read : PySem.W.keepIn K (.ref a_read) = true) (b_read : Binds K d_read ["machine", "content", "entry"] []) (m_read : mg "read" = some (.ref a_read)) :
    FnOk P w K mg base CX0 (k + 1) f fd ["machine", "log"] (sp_trace K T n) := by
  refine F.ok sc_trace (fun vs H Q E h => ?_) (fun cdv A outer s H vs Q E hr h => ?_)
  · obtain ⟨xm, xl, m, es, rfl, _⟩ := h
    rfl
  obtain ⟨xm, xl, m, es, rfl, hm, hx, ok, few, tg, le, wd, q⟩ := h
  refine ⟨_, (pss_cons (ps_set (i := 2) sc_trace.nd rfl (.inl rfl) (pe_call G_beginning hr (by rfl) m_beginning k_beginning b_beginning .nil pass0 (pa_cons (pv 0) pa_nil)))
    (pss_cons (ps_set (i := 3) sc_trace.nd rfl (.inl rfl) (pe_lst pa_nil))
    (pss_cons (ps_for PassesOwn.never rfl (pi_tup (pv 1)) (pg_name (i := 4) sc_trace.nd rfl (.inl rfl))
      (pss_cons (ps_set (i := 5) sc_trace.nd rfl (.inl rfl) (pe_call G_spot_at hr (by rfl) m_spot_at k_spot_at b_spot_at .nil pass0 (pa_cons (pe_call G_held_values hr (by rfl) m_held_values k_held_values b_held_values .nil pass0 (pa_cons (pe_ix ix_tup (pv 2) pe_int (fun _ _ => rfl)) pa_nil)) (pa_cons (pe_ix ix_tup (pv 4) pe_int (fun _ _ => rfl)) pa_nil))))
      (pss_cons (ps_expr (pe_bm PySem.F.plainAttrs_list PySem.F.slot_list_append PySem.F.type_list_append mt_append (pv 3) (pa_cons (pe_tup (pa_cons (pe_call G_case_at hr (by rfl) m_case_at k_case_at b_case_at .nil pass0 (pa_cons (pv 0) (pa_cons (pv 2) (pa_cons (pv 4) pa_nil)))) (pa_cons (pe_call G_type_of hr (by rfl) m_type_of k_type_of b_type_of .nil pass0 (pa_cons (pv 2) pa_nil)) (pa_cons (pv 5) pa_nil)))) pa_nil)))
      (pss_one (ps_set (i := 2) sc_trace.nd rfl (.inl rfl) (pe_ix ix_tup (pe_call G_read hr (by rfl) m_read k_read b_read .nil pass0 (pa_cons (pv 0) (pa_cons (pv 2) (pa_cons (pv 4) pa_nil)))) pe_int (fun _ _ => rfl)))))))
    (pss_one (ps_ret (pe_callTy call_tuple_of (by rfl) m_tuple (by decide +kernel) (pa_cons (pv 3) pa_nil))))))), ?_⟩
  obtain ⟨al, zs, rfl, sql, atz⟩ := at_tup.mp hx
  have zl : zs.length = es.length := atz.len
  refine ⟨_, rfl, xm, m, rfl, hm, by omega, fun vc H1 at1 ex1 => ?_⟩
  have wd1 := ex1.wd wd
  have hm1 := hm.ext ex1
  have sql1 := ex1.sqT sql
  have atz1 := Ats.ext ex1 atz
  have oc := okCt_beg ok
  generalize ec : ((0, List.replicate m.regs none) : Ct) = c0 at *
  have at1' : At K H1 vc (encCt c0.1 c0.2) := by rw [← ec]; exact at1
  refine ⟨Nat.zero_le _, fun L nL => ?_⟩
  have xL := Ex.new (T := T) (ms := []) (o := HO.lst []) nL
  refine ⟨_, rfl, al, rfl, ⟨_, xL.sqT sql1⟩, for_tup (xs := zs) (fun i σ' H' => (∃ vc y4 y5, σ' = [some xm, some (.ref al), some vc, some (.ref L), y4, y5] ∧ At K H' vc (encCt (contM m c0 (es.take i)).1 (contM m c0 (es.take i)).2)) ∧ Col K T [] L H1 H' ((trL m c0 (es.take i)).map encT)) ⟨⟨vc, _, _, rfl, at1'.ext xL⟩, Col.start Ex.refl nL⟩ (fun i σ' H' _ z => z.2.1.sqT sql1) ?_ ?_⟩
  · rintro i x σ' H2 hi ⟨⟨vc, y4, y5, rfl, atc⟩, cl⟩
    have hi' : i < es.length := by rw [← zl]; exact (List.getElem?_eq_some_iff.mp hi).1
    obtain ⟨x', hx1, hx2⟩ := atz1.at (i := i) (a := es[i]) (List.getElem?_eq_getElem hi')
    rw [hi] at hx1
    cases hx1
    have te := tg _ (List.getElem_mem hi')
    have oci : okCt m (contM m c0 (es.take i)) := oc.cont ok fun e he => tg e (List.mem_of_mem_take he)
    have e1 : contM m c0 (es.take (i + 1)) = stepM m (contM m c0 (es.take i)) es[i] := by rw [take_snoc hi', contM_snoc]
    have e2 : trL m c0 (es.take (i + 1)) = trL m c0 (es.take i) ++ [trR m (contM m c0 (es.take i)) es[i]] := by rw [take_snoc hi', trL_snoc]
    have lp : ((trL m c0 (es.take i)).map encT).length ≤ 5000 := by rw [List.length_map, trL_len, List.length_take]; omega
    rw [e1, e2]
    generalize contM m c0 (es.take i) = c at *
    generalize trL m c0 (es.take i) = pre at *
    generalize es[i] = e at *
    obtain ⟨st, h⟩ := c
    have hlen : h.length = m.regs := oci.len
    have hst : st < m.steps.length := oci.st
    have ate := hx2.ext cl.1
    obtain ⟨ae, w1, w2, rfl, sqe, f1, f2⟩ := (show At K H2 x (.tup [.int e.1, .int e.2]) from ate).t2
    cases at_int.mp f2
    obtain ⟨ac, z1, hv, rfl, sqc, g1, hh⟩ := (show At K H2 vc (.tup [.int st, encH h]) from atc).t2
    obtain ⟨ah, rfl, sqh⟩ := at_encH.mp hh
    have wd2 := cl.1.wd wd1
    have hm2 := hm1.ext cl.1
    obtain ⟨_, ps, hL2, _⟩ := id cl
    refine ⟨_, rfl, ac, _, _, _, rfl, rfl, sqc, rfl, ah, h, rfl, .inr sqh, by omega, wd2, fun p H3 hp _ ex3 => ?_⟩
    refine ⟨_, rfl, ae, _, _, _, rfl, rfl, ex3.sqT sqe, rfl, p, h, e.2, rfl, hp, by omega, ex3.wd wd2, fun H4 ex4 => ?_⟩
    have x24 := ex3.trans ex4
    have hL4 := x24.lst (by simp) hL2
    refine ⟨_, rfl, .inl ⟨rfl, _, .inl (.inl hL4)⟩, _, rfl, _, rfl, _, rfl, xm, .ref ac, .ref ae, m, st, h, e, rfl, hm2.ext x24, atc.ext x24, ate.ext x24, x24.wd wd2, ok, hst, te, hlen, fun H5 ex5 => ?_⟩
    have x25 := x24.trans ex5
    refine ⟨_, rfl, .ref ac, st, h, rfl, atc.ext x25, by omega, x25.wd wd2, fun vt H6 att ex6 => ?_⟩
    have x26 := x25.trans ex6
    refine ⟨_, rfl, by show 3 ≤ sizeLine; decide, fun t nt => ?_⟩
    have x7 := Ex.new (T := T) (ms := []) (o := HO.tup [oN (idxC e.2 h (m.cases st e.1)), vt, V.int (spotN h e.2)]) nt
    obtain ⟨acc, k1, k2, k3⟩ := cl.put nL (by simp) wd1 (x26.trans x7) (x := .ref t) (d := encT (trR m (st, h) e)) (At.laid nt (Ats.mk at_encNo (Ats.mk att (Ats.mk (at_int.mpr rfl) Ats.mk_nil)))) lp
    refine ⟨L, _, _, rfl, rfl, k1, k2, ?_⟩
    have ex8 : Ex T [] H1 (upd (upd H6 t (.tup [oN (idxC e.2 h (m.cases st e.1)), vt, V.int (spotN h e.2)])) L (.lst (acc ++ [V.ref t]))) := k3.1
    have x28 : Ex T [L] H2 (upd (upd H6 t (.tup [oN (idxC e.2 h (m.cases st e.1)), vt, V.int (spotN h e.2)])) L (.lst (acc ++ [V.ref t]))) := ((x26.trans x7).nil).trans (Ex.write (by simp) k1)
    have atc8 := atc.ext x28
    have ate8 := ate.ext x28
    generalize upd (upd H6 t (.tup [oN (idxC e.2 h (m.cases st e.1)), vt, V.int (spotN h e.2)])) L (.lst (acc ++ [V.ref t])) = H8 at *
    refine ⟨_, rfl, _, rfl, _, rfl, xm, .ref ac, .ref ae, m, st, h, e, rfl, hm1.ext ex8, atc8, ate8, ex8.wd wd1, ok, hst, te, hlen, fun vr H9 atr ex9 => ?_⟩
    obtain ⟨ar, r1, r2, rfl, sqr, a1, a2⟩ := (show At K H9 vr (.tup [encCt (readM m st h e).1 (readM m st h e).2.1, encA (readM m st h e).2.2]) from atr).t2
    refine ⟨ar, _, _, _, rfl, rfl, sqr, rfl, ⟨r1, _, _, rfl, a1⟩, ?_⟩
    rw [List.map_append]
    exact ⟨k3.1.trans ex9, let ⟨_, ys, y1, y2⟩ := k3; ⟨ys, ex9.lst (by simp) y1, Ats.ext ex9 y2⟩⟩
  · rintro σ' H2 ⟨⟨vc, y4, y5, rfl, atc⟩, cl⟩
    rw [zl, List.take_length] at cl
    obtain ⟨exs, as0, hD0, ats0⟩ := cl
    refine ⟨_, rfl, L, _, rfl, .inl ⟨SqL.of hD0, fun l nl => q _ _ (At.laid nl ats0) ((ex1.trans exs).trans (Ex.new nl))⟩⟩

abbrev N_spots_along : List Str := ["machine", "log", "entry", "step"]
theorem sc_spots_along : FnScope N_spots_along ["machine", "log"] (defScope s_spots_along) := ⟨rfl, rfl, rfl, by decide +kernel, rfl, by decide +kernel, by decide +kernel⟩
def sp_spots_along (K : PySem.W.Frag) (T : List Addr) (n : Nat) : Sp := fun vs H Q _ => ∃ (xm xl : V) (m : M) (es : List (Nat × Int)), vs = [xm, xl] ∧ At K H xm (encM m) ∧ At K H xl (.tup (es.map encE)) ∧ okM n m ∧ m.regs < 64 ∧ (∀ e ∈ es, e.1 < m.tags) ∧ es.length ≤ 1000 ∧ Wd T H ∧
  ∀ v H', At K H' v (.tup ((spL m ((0, List.replicate m.regs none) : Ct) es).map encE)) → Ex T [] H H' → Q v H'
theorem ok_spots_along {f : Addr} {fd : FuncData} {k : Nat} {T : List Addr} {n : Nat} (F : Fun K "spots_along" "spots_along" s_spots_along f fd) (m_tuple : mg "tuple" = none) (m_zip : mg "zip" = none)
    {a_trace : Addr} {d_trace : FuncData} (G_trace : FnOk P w K mg base CX0 k a_trace d_trace ["machine", "log"] (sp_trace K T n)) (k_trace : PySem.W.keepIn K (.ref a_trace) = true) (b_trace : Binds K d_trace ["machine", "log"] []) (m_trace : mg "trace" = some (.ref a_trace)) :
    FnOk P w K mg base CX0 (k + 1) f fd ["machine", "log"] (sp_spots_along K T n) := by
  refine F.ok sc_spots_along (fun vs H Q E h => ?_) (fun cdv A outer s H vs Q E hr h => ?_)
  · obtain ⟨xm, xl, m, es, rfl, _⟩ := h
    rfl
  obtain ⟨xm, xl, m, es, rfl, hm, hx, ok, few, tg, le, wd, q⟩ := h
  refine ⟨_, (pss_one (ps_ret (pe_callTy call_tuple_of (by rfl) m_tuple (by decide +kernel) (pa_cons (pe_lc (own := [("entry", 2), ("step", 3)]) (g := (gTup K 2 (gCons (gName 2) (gCons (gName 3) gNil)))) (tt := tYes) rfl sc_spots_along.nd (RZ.pi_zipA (by rfl) m_zip (pa_cons (pv 1) (pa_cons (pe_call G_trace hr (by rfl) m_trace k_trace b_trace .nil pass0 (pa_cons (pv 0) (pa_cons (pv 1) pa_nil))) pa_nil))) (blkOk_by (N := N_spots_along) (sc := defScope s_spots_along) (by decide +kernel))
        (fun _ _ _ _ _ => (pg_tup rfl (pgs_cons (pg_name (i := 2) sc_spots_along.nd rfl (.inl rfl)) (pgs_cons (pg_name (i := 3) sc_spots_along.nd rfl (.inl rfl)) pgs_nil)))) (fun _ _ _ _ _ => pts_nil)
        (fun _ _ _ _ _ => (pe_tup (pa_cons (pe_ix (r := rIxT K) ix_tup (pv 2) pe_int (fun _ _ => rfl)) (pa_cons (pe_ix (r := rIxT K) ix_tup (pv 3) pe_int (fun _ _ => rfl)) pa_nil))))) pa_nil)))), ?_⟩
  obtain ⟨al, zs, rfl, sql, atz⟩ := at_tup.mp hx
  have zl : zs.length = es.length := atz.len
  refine ⟨_, rfl, _, rfl, _, rfl, xm, .ref al, m, es, rfl, hm, hx, ok, few, tg, le, wd, fun vt H1 att ex1 => ?_⟩
  obtain ⟨at_, ys, rfl, sqt, aty⟩ := at_tup.mp att
  have yl : ys.length = es.length := by rw [aty.len, trL_len]
  have sl := spL_len m es ((0, List.replicate m.regs none) : Ct)
  have wd1 := ex1.wd wd
  refine ⟨al, at_, zs, ys, rfl, .inr ⟨ex1.sqT sql, sqt, ?_⟩⟩
  refine fun D nD => lc_it (walk_zipT (n := es.length) (by rw [zl, yl, Nat.min_self])) (fun j H' => Col K T [] D H1 H' (((spL m ((0, List.replicate m.regs none) : Ct) es).take j).map encE)) (Col.start Ex.refl nD) (fun j H' _ z => ⟨(ex1.trans z.1).sqT sql, z.1.sqT sqt⟩) ?_ ?_
  · rintro j v H2 H3 hj cl ⟨p3, x, y, rfl, n3, rfl, gx, gy⟩
    obtain ⟨x', hx1, hx2⟩ := atz.at (i := j) (a := es[j]) (List.getElem?_eq_getElem hj)
    have hj2 : j < (trL m ((0, List.replicate m.regs none) : Ct) es).length := by rw [trL_len]; exact hj
    obtain ⟨y', hy1, hy2⟩ := aty.at (i := j) (a := (trL m ((0, List.replicate m.regs none) : Ct) es)[j]) (List.getElem?_eq_getElem hj2)
    rw [show zs[j]? = some x from gx] at hx1
    rw [show ys[j]? = some y from gy] at hy1
    cases hx1
    cases hy1
    have gs := spL_get m es ((0, List.replicate m.regs none) : Ct) j hj
    generalize (trL m ((0, List.replicate m.regs none) : Ct) es)[j] = tr at *
    generalize es[j] = e at *
    have x3 := Ex.new (T := T) (ms := []) (o := HO.tup [x, y]) n3
    have sq3 : SqT K (upd H2 p3 (.tup [x, y])) p3 [x, y] := SqT.of upd_same
    have x13 := cl.1.trans x3
    obtain ⟨ae, w1, w2, rfl, sqe, f1, f2⟩ := (show At K (upd H2 p3 (.tup [x, y])) x (.tup [.int e.1, .int e.2]) from (hx2.ext ex1).ext x13).t2
    cases at_int.mp f1
    obtain ⟨ar, r1, r2, r3, rfl, sqr, a1, a2, a3⟩ := (show At K (upd H2 p3 (.tup [.ref ae, y])) y (.tup [encNo tr.1, encCt tr.2.1.1 tr.2.1.2, .int tr.2.2]) from hy2.ext x13).t3
    cases at_int.mp a3
    refine ⟨p3, [_, _], rfl, sq3, rfl, _, [_], rfl, _, [], rfl, rfl, ?_⟩
    refine ⟨wipe2 (by decide), yesIf ⟨_, rfl, ae, _, _, _, rfl, rfl, sqe, rfl, _, rfl, ar, _, _, _, rfl, rfl, sqr, rfl, by show 2 ≤ sizeLine; decide, fun p np => ?_⟩⟩
    obtain ⟨acc, k1, k2, k3⟩ := cl.put nD (by simp) wd1 (x3.trans (Ex.new np)) (x := .ref p) (d := encE (e.1, tr.2.2)) (At.laid np (Ats.mk (at_int.mpr rfl) (Ats.mk (at_int.mpr rfl) Ats.mk_nil))) (take_len _ _ _ _ (by rw [sl]; omega))
    refine ⟨acc, k1, k2, ?_⟩
    rw [take_map] at k3
    · exact k3
    · exact gs
  · rintro H2 cl
    rw [← sl, List.take_length] at cl
    obtain ⟨exs, as0, hD0, ats0⟩ := cl
    exact ⟨D, _, rfl, .inl ⟨SqL.of hD0, fun l nl => q _ _ (At.laid nl ats0) ((ex1.trans exs).trans (Ex.new nl))⟩⟩

abbrev N_type_behind : List Str := ["machine", "spots", "kind", "tag", "spot"]
theorem sc_type_behind : FnScope N_type_behind ["machine", "spots"] (defScope s_type_behind) := ⟨rfl, rfl, rfl, by decide +kernel, rfl, by decide +kernel, by decide +kernel⟩
def sp_type_behind (K : PySem.W.Frag) (T : List Addr) (n : Nat) : Sp := fun vs H Q _ => ∃ (xm xl : V) (m : M) (ss : List (Nat × Int)), vs = [xm, xl] ∧ At K H xm (encM m) ∧ At K H xl (.tup (ss.map encE)) ∧ okM n m ∧ m.regs < 64 ∧ (∀ e ∈ ss, e.1 < m.tags) ∧ Wd T H ∧
  ∀ v H', At K H' v (encCt (tyL m (tyC ((0, List.replicate m.regs none) : Ct)) ss).1 (tyL m (tyC ((0, List.replicate m.regs none) : Ct)) ss).2) → Ex T [] H H' → Q v H'
theorem ok_type_behind {f : Addr} {fd : FuncData} {k : Nat} {T : List Addr} {n : Nat} (F : Fun K "type_behind" "type_behind" s_type_behind f fd)
    {a_type_of : Addr} {d_type_of : FuncData} (G_type_of : FnOk P w K mg base CX0 k a_type_of d_type_of ["content"] (sp_type_of K T)) (k_type_of : PySem.W.keepIn K (.ref a_type_of) = true) (b_type_of : Binds K d_type_of ["content"] []) (m_type_of : mg "type_of" = some (.ref a_type_of))
    {a_beginning : Addr} {d_beginning : FuncData} (G_beginning : FnOk P w K mg base CX0 k a_beginning d_beginning ["machine"] (sp_beginning K T)) (k_beginning : PySem.W.keepIn K (.ref a_beginning) = true) (b_beginning : Binds K d_beginning ["machine"] []) (m_beginning : mg "beginning" = some (.ref a_beginning))
    {a_step_of : Addr} {d_step_of : FuncData} (G_step_of : FnOk P w K mg base CX0 k a_step_of d_step_of ["machine", "kind", "tag", "spot"] (sp_step_of K T n)) (k_step_of : PySem.W.keepIn K (.ref a_step_of) = true) (b_step_of : Binds K d_step_of ["machine", "kind", "tag", "spot"] []) (m_step_of : mg "step_of" = some (.ref a_step_of)) :
    FnOk P w K mg base CX0 (k + 1) f fd ["machine", "spots"] (sp_type_behind K T n) := by
  refine F.ok sc_type_behind (fun vs H Q E h => ?_) (fun cdv A outer s H vs Q E hr h => ?_)
  · obtain ⟨xm, xl, m, ss, rfl, _⟩ := h
    rfl
  obtain ⟨xm, xl, m, ss, rfl, hm, hx, ok, few, tg, wd, q⟩ := h
  refine ⟨_, (pss_cons (ps_set (i := 2) sc_type_behind.nd rfl (.inl rfl) (pe_call G_type_of hr (by rfl) m_type_of k_type_of b_type_of .nil pass0 (pa_cons (pe_call G_beginning hr (by rfl) m_beginning k_beginning b_beginning .nil pass0 (pa_cons (pv 0) pa_nil)) pa_nil)))
    (pss_cons (ps_for PassesOwn.never rfl (pi_tup (pv 1)) (pg_tup rfl (pgs_cons (pg_name (i := 3) sc_type_behind.nd rfl (.inl rfl)) (pgs_cons (pg_name (i := 4) sc_type_behind.nd rfl (.inl rfl)) pgs_nil)))
      (pss_one (ps_set (i := 2) sc_type_behind.nd rfl (.inl rfl) (pe_ix ix_tup (pe_call G_step_of hr (by rfl) m_step_of k_step_of b_step_of .nil pass0 (pa_cons (pv 0) (pa_cons (pv 2) (pa_cons (pv 3) (pa_cons (pv 4) pa_nil))))) pe_int (fun _ _ => rfl)))))
    (pss_one (ps_ret (pv 2))))), ?_⟩
  obtain ⟨al, zs, rfl, sql, atz⟩ := at_tup.mp hx
  have zl : zs.length = ss.length := atz.len
  refine ⟨_, rfl, xm, m, rfl, hm, by omega, fun vc H1 at1 ex1 => ?_⟩
  refine ⟨vc, 0, List.replicate m.regs none, rfl, at1, by rw [List.length_replicate]; omega, ex1.wd wd, fun vt H2 at2 ex2 => ?_⟩
  have x12 := ex1.trans ex2
  have wd2 := x12.wd wd
  have hm2 := hm.ext x12
  have sql2 := x12.sqT sql
  have atz2 := Ats.ext x12 atz
  have oc0 : okCt m (tyC ((0, List.replicate m.regs none) : Ct)) := ⟨ok.some, by show (ranksH _).length = _; unfold ranksH; rw [mapH_len, List.length_replicate]⟩
  generalize ec : tyC ((0, List.replicate m.regs none) : Ct) = c0 at *
  have at2' : At K H2 vt (encCt c0.1 c0.2) := by rw [← ec]; exact at2
  have okt : ∀ i, i ≤ ss.length → okCt m (tyL m c0 (ss.take i)) := fun i => by
    induction i with
    | zero => exact fun _ => oc0
    | succ i ih =>
      intro hi
      rw [take_snoc (l := ss) (i := i) (by omega), tyL_snoc]
      have o := ih (by omega)
      have z := okCt.step (m := m) (c := ((tyL m c0 (ss.take i)).1, mapH (fun x => 2 * x + 1) (tyL m c0 (ss.take i)).2)) (e := ss[i]) ⟨o.st, by rw [mapH_len]; exact o.len⟩ ok (tg _ (List.getElem_mem (by omega)))
      exact ⟨z.st, by show (ranksH _).length = _; unfold ranksH; rw [mapH_len]; exact z.len⟩
  refine ⟨_, rfl, al, rfl, ⟨_, sql2⟩, for_tup (xs := zs) (fun i σ' H' => (∃ vt y3 y4, σ' = [some xm, some (.ref al), some vt, y3, y4] ∧ At K H' vt (encCt (tyL m c0 (ss.take i)).1 (tyL m c0 (ss.take i)).2)) ∧ Ex T [] H2 H') ⟨⟨vt, _, _, rfl, at2'⟩, Ex.refl⟩ (fun i σ' H' _ z => z.2.sqT sql2) ?_ ?_⟩
  · rintro i x σ' H3 hi ⟨⟨vt, y3, y4, rfl, att⟩, ex3⟩
    have hi' : i < ss.length := by rw [← zl]; exact (List.getElem?_eq_some_iff.mp hi).1
    obtain ⟨x', hx1, hx2⟩ := atz2.at (i := i) (a := ss[i]) (List.getElem?_eq_getElem hi')
    rw [hi] at hx1
    cases hx1
    have te := tg _ (List.getElem_mem hi')
    have o := okt i (by omega)
    have e1 : tyL m c0 (ss.take (i + 1)) = tyS m (tyL m c0 (ss.take i)) ss[i] := by rw [take_snoc hi', tyL_snoc]
    rw [e1]
    generalize tyL m c0 (ss.take i) = c at *
    generalize ss[i] = e at *
    obtain ⟨ae, w1, w2, rfl, sqe, f1, f2⟩ := (show At K H3 x (.tup [.int e.1, .int e.2]) from hx2.ext ex3).t2
    cases at_int.mp f1
    cases at_int.mp f2
    have hl : c.2.length = m.regs := o.len
    refine ⟨ae, [_, _], rfl, sqe, rfl, _, [_], rfl, _, [], rfl, rfl, ?_⟩
    refine ⟨_, rfl, _, rfl, _, rfl, _, rfl, xm, vt, m, c.1, c.2, e.1, e.2, rfl, hm2.ext ex3, att, ok, o.st, te, hl, by omega, ex3.wd wd2, fun vr H4 atr ex4 => ?_⟩
    obtain ⟨ar, r1, r2, rfl, sqr, a1, a2⟩ := (show At K H4 vr (.tup [_, _]) from atr).t2
    exact ⟨ar, _, _, _, rfl, rfl, sqr, rfl, ⟨r1, _, _, rfl, a1⟩, ex3.trans ex4⟩
  · rintro σ' H3 ⟨⟨vt, y3, y4, rfl, att⟩, ex3⟩
    rw [zl, List.take_length] at att
    exact ⟨_, rfl, q _ _ att (x12.trans ex3)⟩

abbrev N_log_of_spots : List Str := ["machine", "spots", "content", "top", "log", "tag", "spot", "entry"]
theorem sc_log_of_spots : FnScope N_log_of_spots ["machine", "spots"] (defScope s_log_of_spots) := ⟨rfl, rfl, rfl, by decide +kernel, rfl, by decide +kernel, by decide +kernel⟩
def sp_log_of_spots (K : PySem.W.Frag) (T : List Addr) (n : Nat) : Sp := fun vs H Q _ => ∃ (xm xl : V) (m : M) (ss : List (Nat × Int)), vs = [xm, xl] ∧ At K H xm (encM m) ∧ At K H xl (.tup (ss.map encE)) ∧ okM n m ∧ m.regs < 64 ∧ okSp m (tyC ((0, List.replicate m.regs none) : Ct)) ss ∧ ss.length ≤ 900 ∧ Wd T H ∧
  ∀ v H', At K H' v (.tup ((tightL (logL m (2 ^ (ss.length + 1)) ((0, List.replicate m.regs none) : Ct) ss)).map encE)) → Ex T [] H H' → Q v H'
theorem ok_log_of_spots {f : Addr} {fd : FuncData} {k : Nat} {T : List Addr} {n : Nat} (F : Fun K "log_of_spots" "log_of_spots" s_log_of_spots f fd) (m_len : mg "len" = none)
    {a_beginning : Addr} {d_beginning : FuncData} (G_beginning : FnOk P w K mg base CX0 k a_beginning d_beginning ["machine"] (sp_beginning K T)) (k_beginning : PySem.W.keepIn K (.ref a_beginning) = true) (b_beginning : Binds K d_beginning ["machine"] []) (m_beginning : mg "beginning" = some (.ref a_beginning))
    {a_top_for : Addr} {d_top_for : FuncData} (G_top_for : FnOk P w K mg base CX0 k a_top_for d_top_for ["many"] (sp_top_for)) (k_top_for : PySem.W.keepIn K (.ref a_top_for) = true) (b_top_for : Binds K d_top_for ["many"] []) (m_top_for : mg "top_for" = some (.ref a_top_for))
    {a_value_at : Addr} {d_value_at : FuncData} (G_value_at : FnOk P w K mg base CX0 k a_value_at d_value_at ["values", "spot", "top"] (sp_value_at K T)) (k_value_at : PySem.W.keepIn K (.ref a_value_at) = true) (b_value_at : Binds K d_value_at ["values", "spot", "top"] []) (m_value_at : mg "value_at" = some (.ref a_value_at))
    {a_held_values : Addr} {d_held_values : FuncData} (G_held_values : FnOk P w K mg base CX0 k a_held_values d_held_values ["held"] (sp_held_values K T)) (k_held_values : PySem.W.keepIn K (.ref a_held_values) = true) (b_held_values : Binds K d_held_values ["held"] []) (m_held_values : mg "held_values" = some (.ref a_held_values))
    {a_read : Addr} {d_read : FuncData} (G_read : FnOk P w K mg base CX0 k a_read d_read ["machine", "content", "entry"] (sp_read K T n)) (k_read : PySem.W.keepIn K (.ref a_read) = true) (b_read : Binds K d_read ["machine", "content", "entry"] []) (m_read : mg "read" = some (.ref a_read))
    {a_tight : Addr} {d_tight : FuncData} (G_tight : FnOk P w K mg base CX0 k a_tight d_tight ["log"] (sp_tight K T)) (k_tight : PySem.W.keepIn K (.ref a_tight) = true) (b_tight : Binds K d_tight ["log"] []) (m_tight : mg "tight" = some (.ref a_tight)) :
    FnOk P w K mg base CX0 (k + 1) f fd ["machine", "spots"] (sp_log_of_spots K T n) := by
  refine F.ok sc_log_of_spots (fun vs H Q E h => ?_) (fun cdv A outer s H vs Q E hr h => ?_)
  · obtain ⟨xm, xl, m, ss, rfl, _⟩ := h
    rfl
  obtain ⟨xm, xl, m, ss, rfl, hm, hx, ok, few, okS, le, wd, q⟩ := h
  refine ⟨_, (pss_cons (ps_set (i := 2) sc_log_of_spots.nd rfl (.inl rfl) (pe_call G_beginning hr (by rfl) m_beginning k_beginning b_beginning .nil pass0 (pa_cons (pv 0) pa_nil)))
    (pss_cons (ps_set (i := 3) sc_log_of_spots.nd rfl (.inl rfl) (pe_call G_top_for hr (by rfl) m_top_for k_top_for b_top_for .nil pass0 (pa_cons (pe_callB call_len_seq (by rfl) m_len PySem.boot_len (pa_cons (pv 1) pa_nil)) pa_nil)))
    (pss_cons (ps_set (i := 4) sc_log_of_spots.nd rfl (.inl rfl) (pe_lst pa_nil))
    (pss_cons (ps_for PassesOwn.never rfl (pi_tup (pv 1)) (pg_tup rfl (pgs_cons (pg_name (i := 5) sc_log_of_spots.nd rfl (.inl rfl)) (pgs_cons (pg_name (i := 6) sc_log_of_spots.nd rfl (.inl rfl)) pgs_nil)))
      (pss_cons (ps_set (i := 7) sc_log_of_spots.nd rfl (.inl rfl) (pe_tup (pa_cons (pv 5) (pa_cons (pe_call G_value_at hr (by rfl) m_value_at k_value_at b_value_at .nil pass0 (pa_cons (pe_call G_held_values hr (by rfl) m_held_values k_held_values b_held_values .nil pass0 (pa_cons (pe_ix ix_tup (pv 2) pe_int (fun _ _ => rfl)) pa_nil)) (pa_cons (pv 6) (pa_cons (pv 3) pa_nil)))) pa_nil))))
      (pss_cons (ps_set (i := 2) sc_log_of_spots.nd rfl (.inl rfl) (pe_ix ix_tup (pe_call G_read hr (by rfl) m_read k_read b_read .nil pass0 (pa_cons (pv 0) (pa_cons (pv 2) (pa_cons (pv 7) pa_nil)))) pe_int (fun _ _ => rfl)))
      (pss_one (ps_expr (pe_bm PySem.F.plainAttrs_list PySem.F.slot_list_append PySem.F.type_list_append mt_append (pv 4) (pa_cons (pv 7) pa_nil)))))))
    (pss_one (ps_ret (pe_call G_tight hr (by rfl) m_tight k_tight b_tight .nil pass0 (pa_cons (pv 4) pa_nil)))))))), ?_⟩
  obtain ⟨al, zs, rfl, sql, atz⟩ := at_tup.mp hx
  have zl : zs.length = ss.length := atz.len
  refine ⟨_, rfl, xm, m, rfl, hm, by omega, fun vc H1 at1 ex1 => ?_⟩
  have wd1 := ex1.wd wd
  have hm1 := hm.ext ex1
  have sql1 := ex1.sqT sql
  have atz1 := Ats.ext ex1 atz
  have oc := okCt_beg ok
  have es := okSp_at m ss (tyC ((0, List.replicate m.regs none) : Ct)) okS
  have lsp := log_spots m (2 ^ (ss.length + 1)) ss ((0, List.replicate m.regs none) : Ct) ss.length (Rm.start (h := List.replicate m.regs none) fun x hx => (List.mem_replicate.mp hx).2) (Nat.le_succ _) okS
  generalize ec : ((0, List.replicate m.regs none) : Ct) = c0 at *
  have at1' : At K H1 vc (encCt c0.1 c0.2) := by rw [← ec]; exact at1
  refine ⟨_, rfl, al, _, rfl, .inr sql1, zs.length, rfl, by omega, ?_⟩
  rw [zl]
  refine ⟨Nat.zero_le _, fun L nL => ?_⟩
  have xL := Ex.new (T := T) (ms := []) (o := HO.lst []) nL
  refine ⟨_, rfl, al, rfl, ⟨_, xL.sqT sql1⟩, for_tup (xs := zs) (fun i σ' H' => (∃ vc y5 y6 y7, σ' = [some xm, some (.ref al), some vc, some (.int (2 ^ (ss.length + 1))), some (.ref L), y5, y6, y7] ∧ At K H' vc (encCt (contM m c0 (logL m (2 ^ (ss.length + 1)) c0 (ss.take i))).1 (contM m c0 (logL m (2 ^ (ss.length + 1)) c0 (ss.take i))).2)) ∧ Col K T [] L H1 H' ((logL m (2 ^ (ss.length + 1)) c0 (ss.take i)).map encE)) ⟨⟨vc, _, _, _, rfl, at1'.ext xL⟩, Col.start Ex.refl nL⟩ (fun i σ' H' _ z => z.2.1.sqT sql1) ?_ ?_⟩
  · rintro i x σ' H2 hi ⟨⟨vc, y5, y6, y7, rfl, atc⟩, cl⟩
    have hi' : i < ss.length := by rw [← zl]; exact (List.getElem?_eq_some_iff.mp hi).1
    obtain ⟨x', hx1, hx2⟩ := atz1.at (i := i) (a := ss[i]) (List.getElem?_eq_getElem hi')
    rw [hi] at hx1
    cases hx1
    have oci : okCt m (contM m c0 (logL m (2 ^ (ss.length + 1)) c0 (ss.take i))) := oc.cont ok fun e he => by
      obtain ⟨s', hs', e1⟩ := logL_tag m _ _ _ e he
      rw [e1]
      obtain ⟨j, hj, rfl⟩ := List.getElem_of_mem (List.mem_of_mem_take hs')
      exact (es j hj).1
    have e1 : contM m c0 (logL m (2 ^ (ss.length + 1)) c0 (ss.take (i + 1))) = stepM m (contM m c0 (logL m (2 ^ (ss.length + 1)) c0 (ss.take i))) ((ss[i]).1, valA (kn (contM m c0 (logL m (2 ^ (ss.length + 1)) c0 (ss.take i))).2) (ss[i]).2 (2 ^ (ss.length + 1))) := by rw [take_snoc hi', logL_snoc, contM_snoc]
    have e2 : logL m (2 ^ (ss.length + 1)) c0 (ss.take (i + 1)) = logL m (2 ^ (ss.length + 1)) c0 (ss.take i) ++ [((ss[i]).1, valA (kn (contM m c0 (logL m (2 ^ (ss.length + 1)) c0 (ss.take i))).2) (ss[i]).2 (2 ^ (ss.length + 1)))] := by rw [take_snoc hi', logL_snoc]
    have lp : ((logL m (2 ^ (ss.length + 1)) c0 (ss.take i)).map encE).length ≤ 5000 := by rw [List.length_map, logL_len, List.length_take]; omega
    have tyi : tyL m (tyC c0) (ss.take i) = tyC (contM m c0 (logL m (2 ^ (ss.length + 1)) c0 (ss.take i))) := by
      rw [← ty_along]
      congr 1
      have := spL_take m i (logL m (2 ^ (ss.length + 1)) c0 ss) c0
      rw [lsp, logL_take] at this
      exact this
    have ei := es i hi'
    rw [tyi] at ei
    rw [e1, e2]
    generalize contM m c0 (logL m (2 ^ (ss.length + 1)) c0 (ss.take i)) = c at *
    generalize logL m (2 ^ (ss.length + 1)) c0 (ss.take i) = pre at *
    generalize ss[i] = e at *
    generalize (2 : Int) ^ (ss.length + 1) = top at *
    obtain ⟨st, h⟩ := c
    obtain ⟨te, s0, s1⟩ := ei
    have s1' : e.2 ≤ 2 * ((kn h).length : Nat) := by rw [← kn_ranks_len]; exact s1
    have hlen : h.length = m.regs := oci.len
    have hst : st < m.steps.length := oci.st
    have ate := hx2.ext cl.1
    obtain ⟨ae, w1, w2, rfl, sqe, f1, f2⟩ := (show At K H2 x (.tup [.int e.1, .int e.2]) from ate).t2
    cases at_int.mp f1
    cases at_int.mp f2
    obtain ⟨ac, z1, hv, rfl, sqc, g1, hh⟩ := (show At K H2 vc (.tup [.int st, encH h]) from atc).t2
    obtain ⟨ah, rfl, sqh⟩ := at_encH.mp hh
    have wd2 := cl.1.wd wd1
    have hm2 := hm1.ext cl.1
    refine ⟨ae, [_, _], rfl, sqe, rfl, _, [_], rfl, _, [], rfl, rfl, ?_⟩
    refine ⟨_, rfl, _, rfl, ac, _, _, _, rfl, rfl, sqc, rfl, ah, h, rfl, .inr sqh, by omega, wd2, fun p H3 hp lp3 ex3 => ?_⟩
    refine ⟨_, rfl, _, rfl, p, kn h, e.2, top, rfl, hp, by omega, s0, s1', ex3.wd wd2, fun H4 ex4 => ⟨by show 2 ≤ sizeLine; decide, fun t nt => ?_⟩⟩
    have x5 := Ex.new (T := T) (ms := []) (o := HO.tup [V.int (e.1 : Nat), V.int (valA (kn h) e.2 top)]) nt
    have x25 := (ex3.trans ex4).trans x5
    have att : At K (upd H4 t (.tup [V.int (e.1 : Nat), V.int (valA (kn h) e.2 top)])) (.ref t) (encE (e.1, valA (kn h) e.2 top)) := At.laid nt (Ats.mk (at_int.mpr rfl) (Ats.mk (at_int.mpr rfl) Ats.mk_nil))
    generalize upd H4 t (.tup [V.int (e.1 : Nat), V.int (valA (kn h) e.2 top)]) = H5 at *
    refine ⟨_, rfl, _, rfl, _, rfl, xm, .ref ac, .ref t, m, st, h, (e.1, valA (kn h) e.2 top), rfl, hm2.ext x25, atc.ext x25, att, x25.wd wd2, ok, hst, te, hlen, fun vr H6 atr ex6 => ?_⟩
    obtain ⟨ar, r1, r2, rfl, sqr, a1, a2⟩ := (show At K H6 vr (.tup [encCt (readM m st h (e.1, valA (kn h) e.2 top)).1 (readM m st h (e.1, valA (kn h) e.2 top)).2.1, encA (readM m st h (e.1, valA (kn h) e.2 top)).2.2]) from atr).t2
    refine ⟨ar, _, _, _, rfl, rfl, sqr, rfl, ?_⟩
    obtain ⟨_, ps, hL2, _⟩ := id cl
    have x26 := x25.trans ex6
    obtain ⟨acc, k1, k2, k3⟩ := cl.put nL (by simp) wd1 x26 (x := .ref t) (d := encE (e.1, valA (kn h) e.2 top)) (att.ext ex6) lp
    refine ⟨_, rfl, .inl ⟨rfl, _, .inl (.inl k1)⟩, _, rfl, L, _, _, rfl, rfl, k1, k2, ⟨r1, _, _, _, rfl, a1.ext (T := T) (ms := [L]) (Ex.write (by simp) k1)⟩, ?_⟩
    rw [List.map_append]
    exact k3
  · rintro σ' H2 ⟨⟨vc, y5, y6, y7, rfl, atc⟩, cl⟩
    rw [zl, List.take_length] at cl
    obtain ⟨exs, as0, hD0, ats0⟩ := cl
    have ll := logL_len m (2 ^ (ss.length + 1)) ss c0
    exact ⟨_, rfl, .ref L, logL m (2 ^ (ss.length + 1)) c0 ss, rfl, ⟨L, _, rfl, .inl (.inl (.inl hD0)), ats0⟩, by omega, Nat.le_trans (by have := srt_len (vals (logL m (2 ^ (ss.length + 1)) c0 ss)) ss.length; rw [List.take_of_length_le (by rw [vals_len, ll]; exact Nat.le_refl _)] at this; exact this) (by omega), exs.wd wd1, fun v H3 at3 ex3 => q v H3 at3 ((ex1.trans exs).trans ex3)⟩

abbrev N__law_at : List Str := ["place", "value", "held"]
theorem sc__law_at : FnScope N__law_at ["place", "value", "held"] (defScope s__law_at) := ⟨rfl, rfl, rfl, by decide +kernel, rfl, by decide +kernel, by decide +kernel⟩
theorem ok__law_at {f : Addr} {fd : FuncData} {k : Nat} (F : Fun K "_law_at" "_law_at" s__law_at f fd) : FnOk P w K mg base CX0 (k + 1) f fd ["place", "value", "held"] (sp__worth K) := by
  refine F.ok sc__law_at (fun vs H Q E h => ?_) (fun cdv A outer s H vs Q E hr h => ?_)
  · obtain ⟨p, v, hv, h, rfl, _⟩ := h
    rfl
  obtain ⟨p, v, hv, h, rfl, hh, h0, h1, q⟩ := h
  refine ⟨_, pss_cons (ps_if (pt_cmpR op_eq (pv 0) (pe_un un_neg pe_int) (nomark _)) (pss_one (ps_ret (pv 1))) pss_nil)
    (pss_cons (ps_if (pt_cmpR op_eq (pv 0) (pe_un un_neg pe_int) (nomark _)) (pss_one (ps_ret pe_non)) pss_nil)
    (pss_one (ps_ret (pe_ix ix_tup (pv 2) (pv 0) (fun _ _ => rfl))))), ?_⟩
  refine ⟨_, rfl, _, rfl, rfl, _, rfl, ite2 (fun c => ?_) (fun c => ?_)⟩
  · have e : p = -1 := by simpa using c
    subst e
    exact ⟨_, rfl, q⟩
  have n1 : p ≠ -1 := by simpa using c
  refine ⟨_, rfl, _, rfl, rfl, _, rfl, ite2 (fun c => ?_) (fun c => ?_)⟩
  · have e : p = -2 := by simpa using c
    subst e
    exact q
  have n2 : p ≠ -2 := by simpa using c
  obtain ⟨a, rfl, sq⟩ := at_encH.mp hh
  exact ⟨_, rfl, _, rfl, a, _, _, _, rfl, rfl, sq, oV_at (v := v) (by omega) h1, q⟩

abbrev N__law_holds : List Str := ["condition", "value", "held", "kind", "told", "one", "other"]
theorem sc__law_holds : FnScope N__law_holds ["condition", "value", "held"] (defScope s__law_holds) := ⟨rfl, rfl, rfl, by decide +kernel, rfl, by decide +kernel, by decide +kernel⟩

theorem ok__law_holds {f : Addr} {fd : FuncData} {k : Nat} {T : List Addr} (F : Fun K "_law_holds" "_law_holds" s__law_holds f fd) (m_int : mg "int" = none) (bF : Binds K fd ["condition", "value", "held"] []) (mF : mg "_law_holds" = some (.ref f))
    {a__law_at : Addr} {d__law_at : FuncData} (G__law_at : FnOk P w K mg base CX0 1 a__law_at d__law_at ["place", "value", "held"] (sp__worth K)) (k__law_at : PySem.W.keepIn K (.ref a__law_at) = true) (b__law_at : Binds K d__law_at ["place", "value", "held"] []) (m__law_at : mg "_law_at" = some (.ref a__law_at)) :
    ∀ n : Nat, FnOk P w K mg base CX0 (n + 2) f fd ["condition", "value", "held"] (sp_holds K T n) := by
  intro n
  induction n with
  | zero =>
    have no : ∀ vs H Q E, ¬ sp_holds K T 0 vs H Q E := fun vs H Q E h => by
      obtain ⟨x, hv, c, v, h, _, _, _, _, ⟨m, e, _⟩, _⟩ := h
      omega
    exact ⟨fun vs H Q E h => absurd h (no vs H Q E), fun A outer s H args us vs Q E _ _ _ _ h => absurd h (no vs H Q E)⟩
  | succ n ih =>
  refine F.ok sc__law_holds (fun vs H Q E h => ?_) (fun cdv A outer s H vs Q E hr h => ?_)
  · obtain ⟨x, hv, c, v, h, rfl, _⟩ := h
    rfl
  obtain ⟨x, hv, c, v, h, rfl, hx, hh, wd, ⟨n', en, ok⟩, q⟩ := h
  obtain rfl : n = n' := by omega
  have hr1 : Room 1 _ := hr.mono (by omega)
  refine ⟨_, (pss_cons (ps_set (i := 3) sc__law_holds.nd rfl (.inl rfl) (pe_ix ix_tup (pv 0) pe_int (fun _ _ => rfl)))
    (pss_cons (ps_if (pt_cmpR op_eq (pv 3) pe_str (nomark _))
      (pss_one (ps_ret (pe_not (pe_call ih hr (by rfl) mF F.kp bF .nil pass0 (pa_cons (pe_ix ix_tup (pv 0) pe_int (fun _ _ => rfl)) (pa_cons (pv 1) (pa_cons (pv 2) pa_nil)))))))
      pss_nil)
    (pss_cons (ps_if (pw_or (pt_cmpR op_eq (pv 3) pe_str (nomark _)) (pw_or1 (pt_cmpR op_eq (pv 3) pe_str (nomark _)))).pt
      (pss_cons (ps_setLc (i := 4) (own := [("one", 5)]) (g := (gName 5)) (tt := tYes) rfl sc__law_holds.nd rfl rfl (sw_true rfl rfl rfl (by decide +kernel)) (pi_tup (pe_ix ix_tup (pv 0) pe_int (fun _ _ => rfl))) (blkOk_by (N := N__law_holds) (sc := defScope s__law_holds) (by decide +kernel))
        (fun _ _ _ _ _ => (pg_name (i := 5) sc__law_holds.nd rfl (.inl rfl))) (fun _ _ _ _ _ => pts_nil)
        (fun _ _ _ _ _ => (pe_call ih hr (by rfl) mF F.kp bF .nil pass0 (pa_cons (pv 5) (pa_cons (pv 1) (pa_cons (pv 2) pa_nil))))))
      (pss_one (ps_ret (pe_ix ix_list (pe_lst (pa_cons (pe_cmpR op_in_seq pe_bl (pv 4) rfl) (pa_cons (pe_cmpR op_notIn_seq pe_bl (pv 4) rfl) pa_nil))) (pe_callTy call_int1 (by rfl) m_int (by decide +kernel) (pa_cons (pe_cmpR op_eq (pv 3) pe_str (nomark _)) pa_nil)) (fun _ _ => rfl)))))
      pss_nil)
    (pss_cons (ps_if (pw_or (pt_cmpR op_eq (pv 3) pe_str (nomark _)) (pw_or1 (pt_cmpR op_eq (pv 3) pe_str (nomark _)))).pt
      (pss_one (ps_ret (pe_cmpR op_eq (pv 3) pe_str (nomark _))))
      pss_nil)
    (pss_cons (ps_set (i := 5) sc__law_holds.nd rfl (.inl rfl) (pe_call G__law_at hr1 (by rfl) m__law_at k__law_at b__law_at .nil pass0 (pa_cons (pe_ix ix_tup (pv 0) pe_int (fun _ _ => rfl)) (pa_cons (pv 1) (pa_cons (pv 2) pa_nil)))))
    (pss_cons (ps_if (pt_cmpR op_eq (pv 3) pe_str (nomark _))
      (pss_one (ps_ret (pe_cmp (pc_isN (pv 5)) rfl)))
      pss_nil)
    (pss_cons (ps_set (i := 6) sc__law_holds.nd rfl (.inl rfl) (pe_call G__law_at hr1 (by rfl) m__law_at k__law_at b__law_at .nil pass0 (pa_cons (pe_ix ix_tup (pv 0) pe_int (fun _ _ => rfl)) (pa_cons (pv 1) (pa_cons (pv 2) pa_nil)))))
    (pss_cons (ps_if (pw_or (pt_cmp (pc_isN (pv 5)) rfl) (pw_or1 (pt_cmp (pc_isN (pv 6)) rfl))).pt
      (pss_one (ps_ret pe_bl))
      pss_nil)
    (pss_cons (ps_if (pt_cmpR op_eq (pv 3) pe_str (nomark _))
      (pss_one (ps_ret (pe_cmpR op_lt (pv 5) (pv 6) (nomark _))))
      pss_nil)
    (pss_one (ps_ret (pe_cmpR op_eq (pv 5) (pv 6) (nomark _))))))))))))), ?_⟩
  cases c with
  | all cs =>
    unfold encC at hx
    cases n with
    | zero => unfold okC at ok; exact ok.elim
    | succ n =>
    unfold okC at ok
    obtain ⟨a, x1, x2, rfl, sq, e1, e2⟩ := hx.t2
    cases at_str.mp e1
    obtain ⟨b, xs, rfl, sqb, ats⟩ := at_tup.mp e2
    have hl : xs.length = cs.length := by rw [ats.length, encCs_length]
    obtain ⟨oc, ok⟩ := ok
    refine ⟨_, rfl, a, _, _, _, rfl, rfl, sq, rfl, ?_⟩
    refine ⟨_, rfl, rfl, _, rfl, ifStrNe (by decide +kernel) ?_⟩
    refine ⟨_, rfl, rfl, _, rfl, ifStrEq (iteT ?_)⟩
    refine ⟨_, rfl, a, _, _, _, rfl, rfl, sq, rfl, b, rfl, ⟨_, sqb⟩, fun D nD => lc_tup (xs := xs) (fun i H' => Ex T [] H H' ∧ H' D = some (.lst (((cs.take i).map (hold v h)).map V.bl))) ⟨Ex.new nD, upd_same⟩ (fun i H' _ ⟨e, _⟩ => e.sqT sqb) ?_ ?_⟩
    · rintro i x H' hi ⟨ex, hd⟩
      have hi' : i < cs.length := by rw [← hl]; exact (List.getElem?_eq_some_iff.mp hi).1
      obtain ⟨x', hx1, hx2⟩ := part_at ats hi'
      rw [hi] at hx1
      cases hx1
      refine ⟨wipe1, yesIf ⟨_, rfl, _, rfl, _, rfl, _, hv, cs[i], v, h, rfl, hx2.ext ex, hh.ext ex, ex.wd wd, ⟨n, rfl, okCs_get ok (List.getElem?_eq_getElem hi')⟩, fun H3 ex3 => ⟨_, ex3.keep _ _ (by simp) hd (fun ps e => by cases e), ?_, (ex.trans ex3).put nD wd, ?_⟩⟩⟩
      · rw [List.length_map, List.length_map, List.length_take]
        exact Nat.lt_of_le_of_lt (Nat.le_trans (Nat.min_le_left _ _) (Nat.le_of_lt hi')) (Nat.lt_of_le_of_lt oc (by decide))
      · rw [upd_same, List.take_add_one, List.getElem?_eq_getElem hi', List.map_append, List.map_append]
        rfl
    · rintro H1 ⟨ex, hd⟩
      rw [hl, List.take_length] at hd
      refine ⟨_, rfl, D, _, rfl, .inl (SqL.of hd), rfl, flat_bls _, _, rfl, D, _, rfl, .inl (SqL.of hd), rfl, flat_bls _, by show 2 ≤ sizeLine; decide, fun l nl => ?_⟩
      refine ⟨_, rfl, rfl, .inr ⟨_, rfl, ?_⟩⟩
      rw [show decide (V.str "all" = V.str "all") = true from decide_eq_true rfl]
      refine ⟨l, _, _, _, rfl, rfl, SqL.of upd_same, rfl, ?_⟩
      rw [if_pos rfl, inV_false, Bool.not_not, holdA_all]
      have q' := q
      unfold hold at q'
      exact q' _ (ex.trans (Ex.new nl))
  | any cs =>
    unfold encC at hx
    cases n with
    | zero => unfold okC at ok; exact ok.elim
    | succ n =>
    unfold okC at ok
    obtain ⟨a, x1, x2, rfl, sq, e1, e2⟩ := hx.t2
    cases at_str.mp e1
    obtain ⟨b, xs, rfl, sqb, ats⟩ := at_tup.mp e2
    have hl : xs.length = cs.length := by rw [ats.length, encCs_length]
    obtain ⟨oc, ok⟩ := ok
    refine ⟨_, rfl, a, _, _, _, rfl, rfl, sq, rfl, ?_⟩
    refine ⟨_, rfl, rfl, _, rfl, ifStrNe (by decide +kernel) ?_⟩
    refine ⟨_, rfl, rfl, _, rfl, ifStrNe (by decide +kernel) ⟨_, rfl, rfl, _, rfl, ifStrEq ?_⟩⟩
    refine ⟨_, rfl, a, _, _, _, rfl, rfl, sq, rfl, b, rfl, ⟨_, sqb⟩, fun D nD => lc_tup (xs := xs) (fun i H' => Ex T [] H H' ∧ H' D = some (.lst (((cs.take i).map (hold v h)).map V.bl))) ⟨Ex.new nD, upd_same⟩ (fun i H' _ ⟨e, _⟩ => e.sqT sqb) ?_ ?_⟩
    · rintro i x H' hi ⟨ex, hd⟩
      have hi' : i < cs.length := by rw [← hl]; exact (List.getElem?_eq_some_iff.mp hi).1
      obtain ⟨x', hx1, hx2⟩ := part_at ats hi'
      rw [hi] at hx1
      cases hx1
      refine ⟨wipe1, yesIf ⟨_, rfl, _, rfl, _, rfl, _, hv, cs[i], v, h, rfl, hx2.ext ex, hh.ext ex, ex.wd wd, ⟨n, rfl, okCs_get ok (List.getElem?_eq_getElem hi')⟩, fun H3 ex3 => ⟨_, ex3.keep _ _ (by simp) hd (fun ps e => by cases e), ?_, (ex.trans ex3).put nD wd, ?_⟩⟩⟩
      · rw [List.length_map, List.length_map, List.length_take]
        exact Nat.lt_of_le_of_lt (Nat.le_trans (Nat.min_le_left _ _) (Nat.le_of_lt hi')) (Nat.lt_of_le_of_lt oc (by decide))
      · rw [upd_same, List.take_add_one, List.getElem?_eq_getElem hi', List.map_append, List.map_append]
        rfl
    · rintro H1 ⟨ex, hd⟩
      rw [hl, List.take_length] at hd
      refine ⟨_, rfl, D, _, rfl, .inl (SqL.of hd), rfl, flat_bls _, _, rfl, D, _, rfl, .inl (SqL.of hd), rfl, flat_bls _, by show 2 ≤ sizeLine; decide, fun l nl => ?_⟩
      refine ⟨_, rfl, rfl, .inr ⟨_, rfl, ?_⟩⟩
      rw [decStr, show decide (("any" : Str) = "all") = false by decide +kernel]
      refine ⟨l, _, _, _, rfl, rfl, SqL.of upd_same, rfl, ?_⟩
      rw [if_neg Bool.false_ne_true, inV_true, holdE_any]
      have q' := q
      unfold hold at q'
      exact q' _ (ex.trans (Ex.new nl))
  | nt c =>
    unfold encC at hx
    cases n with
    | zero => unfold okC at ok; exact ok.elim
    | succ n =>
    unfold okC at ok
    obtain ⟨a, x1, x2, rfl, sq, e1, e2⟩ := hx.t2
    cases at_str.mp e1
    refine ⟨_, rfl, a, _, _, _, rfl, rfl, sq, rfl, ?_⟩
    refine ⟨_, rfl, rfl, _, rfl, ifStrEq ?_⟩
    refine ⟨_, rfl, a, _, _, _, rfl, rfl, sq, rfl, _, rfl, _, rfl, x2, hv, c, v, h, rfl, e2, hh, wd, ⟨n, rfl, ok⟩, fun H3 ex3 => ⟨_, rfl, ?_⟩⟩
    have q' := q H3 ex3
    unfold hold at q'
    exact q'
  | tru =>
    unfold encC at hx
    obtain ⟨a, x1, rfl, sq, e1⟩ := hx.t1
    cases at_str.mp e1
    refine ⟨_, rfl, a, _, _, _, rfl, rfl, sq, rfl, ?_⟩
    refine ⟨_, rfl, rfl, _, rfl, ifStrNe (by decide +kernel) ?_⟩
    refine ⟨_, rfl, rfl, _, rfl, ifStrNe (by decide +kernel) ⟨_, rfl, rfl, _, rfl, ifStrNe (by decide +kernel) ?_⟩⟩
    refine ⟨_, rfl, rfl, _, rfl, ifStrEq (iteT ?_)⟩
    refine ⟨_, rfl, rfl, ?_⟩
    rw [decStr, show decide (("true" : Str) = "true") = true by decide +kernel]
    exact q _ Ex.refl
  | fls =>
    unfold encC at hx
    obtain ⟨a, x1, rfl, sq, e1⟩ := hx.t1
    cases at_str.mp e1
    refine ⟨_, rfl, a, _, _, _, rfl, rfl, sq, rfl, ?_⟩
    refine ⟨_, rfl, rfl, _, rfl, ifStrNe (by decide +kernel) ?_⟩
    refine ⟨_, rfl, rfl, _, rfl, ifStrNe (by decide +kernel) ⟨_, rfl, rfl, _, rfl, ifStrNe (by decide +kernel) ?_⟩⟩
    refine ⟨_, rfl, rfl, _, rfl, ifStrNe (by decide +kernel) ⟨_, rfl, rfl, _, rfl, ifStrEq ?_⟩⟩
    refine ⟨_, rfl, rfl, ?_⟩
    rw [decStr, show decide (("false" : Str) = "true") = false by decide +kernel]
    exact q _ Ex.refl
  | emp a' =>
    unfold encC at hx
    unfold okC plOk at ok
    obtain ⟨a, x1, x2, rfl, sq, e1, e2⟩ := hx.t2
    cases at_str.mp e1
    cases at_int.mp e2
    refine ⟨_, rfl, a, _, _, _, rfl, rfl, sq, rfl, ?_⟩
    refine ⟨_, rfl, rfl, _, rfl, ifStrNe (by decide +kernel) ?_⟩
    refine ⟨_, rfl, rfl, _, rfl, ifStrNe (by decide +kernel) ⟨_, rfl, rfl, _, rfl, ifStrNe (by decide +kernel) ?_⟩⟩
    refine ⟨_, rfl, rfl, _, rfl, ifStrNe (by decide +kernel) ⟨_, rfl, rfl, _, rfl, ifStrNe (by decide +kernel) ?_⟩⟩
    refine ⟨_, rfl, a, _, _, _, rfl, rfl, sq, rfl, _, rfl, _, rfl, a', v, hv, h, rfl, hh, by omega, ok.2, ?_⟩
    refine ⟨_, rfl, rfl, _, rfl, ifStrEq ?_⟩
    have q' := q _ Ex.refl
    unfold hold at q'
    have e3 : decide (oV (worth v h a') = V.non) = (worth v h a').isNone := by cases worth v h a' <;> rfl
    refine ⟨_, rfl, ?_⟩
    show Q (.bl (decide (oV (worth v h a') = V.non))) _
    rw [e3]
    exact q'
  | less a' b' =>
    unfold encC at hx
    unfold okC plOk at ok
    obtain ⟨a, x1, x2, x3, rfl, sq, e1, e2, e3⟩ := hx.t3
    cases at_str.mp e1
    cases at_int.mp e2
    cases at_int.mp e3
    refine ⟨_, rfl, a, _, _, _, rfl, rfl, sq, rfl, ?_⟩
    refine ⟨_, rfl, rfl, _, rfl, ifStrNe (by decide +kernel) ?_⟩
    refine ⟨_, rfl, rfl, _, rfl, ifStrNe (by decide +kernel) ⟨_, rfl, rfl, _, rfl, ifStrNe (by decide +kernel) ?_⟩⟩
    refine ⟨_, rfl, rfl, _, rfl, ifStrNe (by decide +kernel) ⟨_, rfl, rfl, _, rfl, ifStrNe (by decide +kernel) ?_⟩⟩
    refine ⟨_, rfl, a, _, _, _, rfl, rfl, sq, rfl, _, rfl, _, rfl, a', v, hv, h, rfl, hh, by omega, ok.1.2, ?_⟩
    refine ⟨_, rfl, rfl, _, rfl, ifStrNe (by decide +kernel) ?_⟩
    refine ⟨_, rfl, a, _, _, _, rfl, rfl, sq, rfl, _, rfl, _, rfl, b', v, hv, h, rfl, hh, by omega, ok.2.2, ?_⟩
    have q' : ∀ H', Ex T [] H H' → Q (V.bl (ltO (worth v h a') (worth v h b'))) H' := fun H' e => by
      have z := q H' e
      unfold hold at z
      exact z
    refine ⟨_, rfl, _, rfl, ?_⟩
    generalize worth v h a' = wa at q' ⊢
    generalize worth v h b' = wb at q' ⊢
    cases wa with
    | none => exact iteT (q' _ Ex.refl)
    | some x =>
      refine iteF ⟨_, rfl, _, rfl, ?_⟩
      cases wb with
      | none => exact iteT (q' _ Ex.refl)
      | some y =>
        refine iteF ?_
        refine ⟨_, rfl, rfl, _, rfl, ifStrEq ?_⟩
        exact ⟨_, rfl, _, rfl, _, _, rfl, rfl, q' _ Ex.refl⟩
  | same a' b' =>
    unfold encC at hx
    unfold okC plOk at ok
    obtain ⟨a, x1, x2, x3, rfl, sq, e1, e2, e3⟩ := hx.t3
    cases at_str.mp e1
    cases at_int.mp e2
    cases at_int.mp e3
    refine ⟨_, rfl, a, _, _, _, rfl, rfl, sq, rfl, ?_⟩
    refine ⟨_, rfl, rfl, _, rfl, ifStrNe (by decide +kernel) ?_⟩
    refine ⟨_, rfl, rfl, _, rfl, ifStrNe (by decide +kernel) ⟨_, rfl, rfl, _, rfl, ifStrNe (by decide +kernel) ?_⟩⟩
    refine ⟨_, rfl, rfl, _, rfl, ifStrNe (by decide +kernel) ⟨_, rfl, rfl, _, rfl, ifStrNe (by decide +kernel) ?_⟩⟩
    refine ⟨_, rfl, a, _, _, _, rfl, rfl, sq, rfl, _, rfl, _, rfl, a', v, hv, h, rfl, hh, by omega, ok.1.2, ?_⟩
    refine ⟨_, rfl, rfl, _, rfl, ifStrNe (by decide +kernel) ?_⟩
    refine ⟨_, rfl, a, _, _, _, rfl, rfl, sq, rfl, _, rfl, _, rfl, b', v, hv, h, rfl, hh, by omega, ok.2.2, ?_⟩
    have q' : ∀ H', Ex T [] H H' → Q (V.bl (eqO (worth v h a') (worth v h b'))) H' := fun H' e => by
      have z := q H' e
      unfold hold at z
      exact z
    refine ⟨_, rfl, _, rfl, ?_⟩
    generalize worth v h a' = wa at q' ⊢
    generalize worth v h b' = wb at q' ⊢
    cases wa with
    | none => exact iteT (q' _ Ex.refl)
    | some x =>
      refine iteF ⟨_, rfl, _, rfl, ?_⟩
      cases wb with
      | none => exact iteT (q' _ Ex.refl)
      | some y =>
        refine iteF ?_
        refine ⟨_, rfl, rfl, _, rfl, ifStrNe (by decide +kernel) ?_⟩
        have e4 : decide (V.int x = V.int y) = eqO (some x) (some y) := by
          show decide (V.int x = V.int y) = decide (x = y)
          by_cases hxy : x = y
          · rw [hxy, decide_eq_true rfl, decide_eq_true rfl]
          · rw [decide_eq_false hxy, decide_eq_false fun e => hxy (V.int.inj e)]
        refine ⟨_, rfl, _, rfl, rfl, ?_⟩
        show Q (.bl (decide (V.int x = V.int y))) _
        rw [e4]
        exact q' _ Ex.refl

theorem sc__law_beginning : FnScope ["machine"] ["machine"] (defScope s__law_beginning) := ⟨rfl, rfl, rfl, by decide +kernel, rfl, by decide +kernel, by decide +kernel⟩
theorem ok__law_beginning {f : Addr} {fd : FuncData} {T : List Addr} {k : Nat} (F : Fun K "_law_beginning" "_law_beginning" s__law_beginning f fd) :
    FnOk P w K mg base CX0 (k + 1) f fd ["machine"] (sp_beginning K T) := by
  refine F.ok sc__law_beginning (fun vs H Q E h => ?_) (fun cdv A outer s H vs Q E hr h => ?_)
  · obtain ⟨xm, m, rfl, _⟩ := h
    rfl
  obtain ⟨xm, m, rfl, hm, hr0, q⟩ := h
  refine ⟨_, pss_one (ps_ret (pe_tup (pa_cons pe_int (pa_cons (pe_op Tm.op_repN (pe_tup (pa_cons pe_non pa_nil)) (pe_ix ix_tup (pv 0) pe_int (fun _ _ => rfl))) pa_nil)))), ?_⟩
  obtain ⟨am, y1, y2, y3, rfl, sqm, h1, h2, h3⟩ := hm.t3
  cases at_int.mp h2
  refine ⟨by show 1 ≤ sizeLine; decide, fun p np => ⟨_, rfl, am, _, _, _, rfl, rfl, (Ex.new (T := T) (ms := []) np).sqT sqm, rfl, p, (m.regs : Int), [.non], rfl, rfl, SqT.of upd_same, by simp, by omega, by omega, by show 1 ≤ 1000; decide, fun l H' hH sq => ⟨by show 2 ≤ sizeLine; decide, fun l2 nl2 => ?_⟩⟩⟩
  have e1 : Ex T [] H H' := by
    rcases hH with rfl | ⟨n2, rfl⟩
    · exact Ex.new np
    · exact (Ex.new np).trans (Ex.new n2)
  exact q _ _ (At.laid nl2 (Ats.mk (at_int.mpr rfl) (Ats.mk (rep_non sq) Ats.mk_nil))) (e1.trans (Ex.new nl2))

abbrev N__law_ranks : List Str := ["held", "values", "ranks", "value"]
theorem sc__law_ranks : FnScope N__law_ranks ["held"] (defScope s__law_ranks) := ⟨rfl, rfl, rfl, by decide +kernel, rfl, by decide +kernel, by decide +kernel⟩
def sp__law_ranks (K : PySem.W.Frag) (T : List Addr) : Sp := fun vs H Q _ => ∃ (x : V) (h : List (Option Int)), vs = [x] ∧ At K H x (encH h) ∧ h.length < 64 ∧ Wd T H ∧
  ∀ v H', At K H' v (encH (ranksH h)) → Ex T [] H H' → Q v H'
theorem ok__law_ranks {f : Addr} {fd : FuncData} {k : Nat} {T : List Addr} (F : Fun K "_law_ranks" "_law_ranks" s__law_ranks f fd) (m_sorted : mg "sorted" = none) (m_set : mg "set" = none) (m_tuple : mg "tuple" = none) :
    FnOk P w K mg base CX0 (k + 1) f fd ["held"] (sp__law_ranks K T) := by
  refine F.ok sc__law_ranks (fun vs H Q E h => ?_) (fun cdv A outer s H vs Q E hr h => ?_)
  · obtain ⟨x, h, rfl, _⟩ := h
    rfl
  obtain ⟨x, h, rfl, hx, few, wd, q⟩ := h
  refine ⟨_, (C8.pss_cut (ps_set (i := 1) sc__law_ranks.nd rfl (.inl rfl) (pe_callB (cr_sortedSet rfl) (by rfl) m_sorted boot_sorted (pa_cons (pe_callTy cr_setI (by rfl) m_set (by decide +kernel) (pa_cons (pe_lc (own := [("value", 3)]) (g := (gName 3)) (tt := _) rfl sc__law_ranks.nd (pi_tup (pv 0)) (blkOk_by (N := N__law_ranks) (sc := defScope s__law_ranks) (by decide +kernel))
        (fun _ _ _ _ _ => (pg_name (i := 3) sc__law_ranks.nd rfl (.inl rfl))) (fun _ _ _ _ _ => pts_one (pt_cmp (pc_notN (pv 3)) rfl))
        (fun _ _ _ _ _ => (pv 3))) pa_nil)) pa_nil)))
    (pss_cons (ps_set (i := 2) sc__law_ranks.nd rfl (.inl rfl) (pe_lst pa_nil))
    (pss_cons (ps_for PassesOwn.never rfl (pi_tup (pv 0)) (pg_name (i := 3) sc__law_ranks.nd rfl (.inl rfl))
      (pss_one (ps_if (pt_cmp (pc_isN (pv 3)) rfl)
        (pss_one (ps_expr (pe_bm PySem.F.plainAttrs_list PySem.F.slot_list_append PySem.F.type_list_append mt_append (pv 2) (pa_cons pe_non pa_nil))))
        (pss_one (ps_expr (pe_bm PySem.F.plainAttrs_list PySem.F.slot_list_append PySem.F.type_list_append mt_append (pv 2) (pa_cons (pe_bm PySem.F.plainAttrs_list PySem.F.slot_list_index PySem.F.type_list_index mt_index (pv 1) (pa_cons (pv 3) pa_nil)) pa_nil)))))))
    (pss_one (ps_ret (pe_callTy call_tuple_of (by rfl) m_tuple (by decide +kernel) (pa_cons (pv 2) pa_nil))))))), ?_⟩
  obtain ⟨ah, rfl, sq⟩ := at_encH.mp hx
  refine ⟨fun σ' H' => ∃ (pk : Addr), σ' = [some (.ref ah), some (.ref pk), none, none] ∧ H' pk = some (.lst ((kn h).map V.int)) ∧ H pk = none ∧ Ex T [] H H', ?_, ?_⟩
  · refine ⟨_, rfl, ah, rfl, ⟨_, sq⟩, fun Z nZ => lc_tup (xs := h.map oV) (fun i H' => Ex T [] H H' ∧ H' Z = some (.lst ((((h.take i).filterMap id).map V.int)))) ⟨Ex.new nZ, upd_same⟩ (fun i H' _ z => z.1.sqT sq) ?_ ?_⟩
    · rintro i x H' hi ⟨ex, hD⟩
      have hi' : i < h.length := by have := (List.getElem?_eq_some_iff.mp hi).1; rw [List.length_map] at this; exact this
      rw [List.getElem?_map, List.getElem?_eq_getElem hi'] at hi
      cases hi
      have et : h.take (i + 1) = h.take i ++ [h[i]] := by rw [List.take_add_one, List.getElem?_eq_getElem hi']; rfl
      refine ⟨wipe1, _, rfl, _, rfl, ?_⟩
      cases hO : h[i] with
      | none =>
        refine iteF ⟨ex, ?_⟩
        rw [hD, et, hO, List.filterMap_append]
        simp
      | some z =>
        refine iteT ⟨_, rfl, _, hD, ?_, ex.put nZ wd, ?_⟩
        · rw [List.length_map]
          refine small5000 (Nat.le_trans (List.length_filterMap_le _ _) ?_)
          rw [List.length_take]
          omega
        · rw [upd_same, et, hO, List.filterMap_append, List.map_append]
          rfl
    rintro H1 ⟨ex1, hD⟩
    rw [List.length_map, List.take_length] at hD
    have lv : (h.filterMap id).length ≤ h.length := List.length_filterMap_le _ _
    have lb : h.length + 1 < scanBound := Nat.lt_of_le_of_lt (show h.length + 1 ≤ 64 by omega) (by decide)
    refine ⟨Z, h.filterMap id, rfl, SqL.of hD, by omega, fun ps c nps lc => ?_⟩
    refine ⟨ps, _, c, rfl, upd_same, by omega, fun ks pk srt mem lk npk => ?_⟩
    have ex2 := ex1.trans (Ex.new (o := SetO w ps (fun j => decide (j ∈ h.filterMap id)) c) nps)
    have ek : ks = kn h := srt_unique srt (kn_sorted h) fun y => by
      rw [mem y, mem_kn, decide_eq_true_iff]
      simp
    rw [ek]
    exact ⟨pk, rfl, upd_same, ex2.free npk, ex2.trans (Ex.new npk)⟩
  rintro σ1 H2 ⟨pk, rfl, hk, pk0, e1⟩
  refine ⟨Nat.zero_le _, fun F0 nF => ?_⟩
  have exF := e1.trans (Ex.new (o := .lst []) nF)
  refine ⟨_, rfl, ah, rfl, ⟨_, exF.sqT sq⟩, for_tup (xs := h.map oV) (fun i σ' H' => (∃ y3, σ' = [some (.ref ah), some (.ref pk), some (.ref F0), y3]) ∧ Ex T [] H2 H' ∧ H' F0 = some (.lst (((ranksH h).take i).map oV))) ⟨⟨_, rfl⟩, Ex.new nF, upd_same⟩ (fun i σ' H' _ z => (e1.trans z.2.1).sqT sq) ?_ ?_⟩
  · rintro i x σ' H' hi ⟨⟨y3, rfl⟩, ex, hF⟩
    have hi' : i < h.length := by have := (List.getElem?_eq_some_iff.mp hi).1; rw [List.length_map] at this; exact this
    rw [List.getElem?_map, List.getElem?_eq_getElem hi'] at hi
    cases hi
    have lF : (((ranksH h).take i).map oV).length < sizeLine := by rw [List.length_map, List.length_take]; exact small5000 (by omega)
    have er : (ranksH h).take (i + 1) = (ranksH h).take i ++ [h[i].map (rkF h)] := by
      rw [List.take_add_one]
      unfold ranksH mapH
      rw [List.getElem?_map, List.getElem?_eq_getElem hi']
      rfl
    refine ⟨_, rfl, _, rfl, ?_⟩
    cases hO : h[i] with
    | none =>
      rw [hO] at er
      refine iteT ⟨_, rfl, .inl ⟨rfl, _, .inl (.inl hF)⟩, F0, _, _, rfl, rfl, hF, lF, ⟨_, rfl⟩, ex.put nF (e1.wd wd), ?_⟩
      rw [upd_same, er, List.map_append]
      rfl
    | some v =>
      rw [hO] at er
      obtain ⟨j, hj, ej, cj⟩ := cnt_of (kn_sorted h) (mem_kn.mpr (show some v ∈ h from hO ▸ List.getElem_mem _))
      have hk' := ex.lst (by simp) hk
      refine iteF ⟨_, rfl, .inl ⟨rfl, _, .inl (.inl hF)⟩, _, rfl, .inl ⟨rfl, _, .inl (.inl hk')⟩, _, rfl, pk, _, _, j, .int v, rfl, rfl, SqL.of hk', rfl, by simp [flatV], by rw [List.getElem?_map, List.getElem?_eq_getElem hj, ej]; rfl, decide_eq_true rfl, fun m z' hm hz => ?_, ?_⟩
      · rw [List.getElem?_map, List.getElem?_eq_getElem (by omega)] at hz
        cases hz
        have := (at_lt (kn_sorted h) (show m < (kn h).length by omega) hj).mpr hm
        rw [ej] at this
        exact decide_eq_false (by omega)
      · refine ⟨F0, _, _, rfl, rfl, hF, lF, ⟨_, rfl⟩, ex.put nF (e1.wd wd), ?_⟩
        rw [upd_same, er, List.map_append]
        show _ = some (HO.lst (_ ++ [V.int (rkF h v)]))
        unfold rkF
        rw [cj]
  · rintro σ' H3 ⟨⟨y3, rfl⟩, ex, hF⟩
    rw [List.length_map, show h.length = (ranksH h).length by unfold ranksH; rw [mapH_len], List.take_length] at hF
    refine ⟨_, rfl, F0, _, rfl, .inl ⟨SqL.of hF, fun l nl => ?_⟩⟩
    exact q _ _ (at_encH.mpr ⟨l, rfl, SqT.of upd_same⟩) ((e1.trans ex).trans (Ex.new nl))

abbrev N__law_read : List Str := ["machine", "content", "entry", "held", "case", "answer", "said", "source"]
theorem sc__law_read : FnScope N__law_read ["machine", "content", "entry"] (defScope s__law_read) := ⟨rfl, rfl, rfl, by decide +kernel, rfl, by decide +kernel, by decide +kernel⟩
theorem ok__law_read {f g gw : Addr} {fd gd gwd : FuncData} {T : List Addr} {n k : Nat} (F : Fun K "_law_read" "_law_read" s__law_read f fd) (mt : mg "tuple" = none)
    (G : FnOk P w K mg base CX0 k g gd ["condition", "value", "held"] (sp_holds K T (n + 1))) (kG : PySem.W.keepIn K (.ref g) = true) (bG : Binds K gd ["condition", "value", "held"] []) (mG : mg "_law_holds" = some (.ref g))
    (W : FnOk P w K mg base CX0 k gw gwd ["place", "value", "held"] (sp__worth K)) (kW : PySem.W.keepIn K (.ref gw) = true) (bW : Binds K gwd ["place", "value", "held"] []) (mW : mg "_law_at" = some (.ref gw)) :
    FnOk P w K mg base CX0 (k + 1) f fd ["machine", "content", "entry"] (sp_read K T n) := by
  refine F.ok sc__law_read (fun vs H Q E h => ?_) (fun cdv A outer s H vs Q E hr h => ?_)
  · obtain ⟨xm, xc, xe, m, st, h, e, rfl, _⟩ := h
    rfl
  obtain ⟨xm, xc, xe, m, st, h, e, rfl, hm, hc, he, wd, ok, hst, htg, hlen, q⟩ := h
  refine ⟨_, C8.pss_cut (ps_set (i := 3) sc__law_read.nd rfl (.inr rfl) (pe_ix ix_tup (pv 1) pe_int (fun _ _ => rfl)))
    (pss_cons (ps_for PassesOwn.never rfl (pi_tup (pe_ix ix_tup (pe_ix ix_tup (pe_ix ix_tup (pv 0) pe_int (fun _ _ => rfl)) (pe_ix ix_tup (pv 1) pe_int (fun _ _ => rfl)) (fun _ _ => rfl)) (pe_ix ix_tup (pv 2) pe_int (fun _ _ => rfl)) (fun _ _ => rfl))) (pg_name (i := 4) sc__law_read.nd rfl (.inl rfl))
      (pss_one (ps_if (pt_val (pe_call G hr (by rfl) mG kG bG .nil pass0 (pa_cons (pe_ix ix_tup (pv 4) pe_int (fun _ _ => rfl)) (pa_cons (pe_ix ix_tup (pv 2) pe_int (fun _ _ => rfl)) (pa_cons (pv 3) pa_nil)))))
        (C8.pss_cut (ps_set (i := 5) sc__law_read.nd rfl (.inl rfl) (pe_callTy call_tuple_of (by rfl) mt (by decide +kernel) (pa_cons
          (pe_lc (own := [("said", 6)]) (g := gName 6) (tt := tYes) rfl sc__law_read.nd (pi_tup (pe_ix ix_tup (pv 4) pe_int (fun _ _ => rfl))) (blkOk_by (N := N__law_read) (sc := defScope s__law_read) (by decide +kernel))
            (fun _ _ _ _ _ => pg_name (i := 6) sc__law_read.nd rfl (.inl rfl)) (fun _ _ _ _ _ => pts_nil)
            (fun _ _ _ _ _ => pe_tup (pa_cons (pe_ix (r := rIxT K) ix_tup (pv 6) pe_int (fun _ _ => rfl)) (pa_cons (pe_call W hr (by rfl) mW kW bW .nil pass0 (pa_cons (pe_ix (r := rIxT K) ix_tup (pv 6) pe_int (fun _ _ => rfl)) (pa_cons (pe_ix (r := rIxT K) ix_tup (pv 2) pe_int (fun _ _ => rfl)) (pa_cons (pv 3) pa_nil)))) pa_nil)))) pa_nil)))
        (pss_one (ps_ret (pe_tup (pa_cons (pe_tup (pa_cons (pe_ix ix_tup (pv 4) pe_int (fun _ _ => rfl)) (pa_cons (pe_callTy call_tuple_of (by rfl) mt (by decide +kernel) (pa_cons
          (pe_lc (own := [("source", 7)]) (g := gName 7) (tt := tYes) rfl sc__law_read.nd (pi_tup (pe_ix ix_tup (pv 4) pe_int (fun _ _ => rfl))) (blkOk_by (N := N__law_read) (sc := defScope s__law_read) (by decide +kernel))
            (fun _ _ _ _ _ => pg_name (i := 7) sc__law_read.nd rfl (.inl rfl)) (fun _ _ _ _ _ => pts_nil)
            (fun _ _ _ _ _ => pe_call W hr (by rfl) mW kW bW .nil pass0 (pa_cons (pv 7) (pa_cons (pe_ix (r := rIxT K) ix_tup (pv 2) pe_int (fun _ _ => rfl)) (pa_cons (pv 3) pa_nil))))) pa_nil)) pa_nil))) (pa_cons (pv 5) pa_nil))))))
        pss_nil)))
    (pss_one (ps_ret (pe_tup (pa_cons (pv 1) (pa_cons (pe_tup pa_nil) pa_nil)))))), ?_⟩
  obtain ⟨am, y1, y2, y3, rfl, sqm, h1, h2, h3⟩ := hm.t3
  cases at_int.mp h1
  cases at_int.mp h2
  obtain ⟨as', xs, rfl, sqs, ats⟩ := at_tup.mp h3
  obtain ⟨ac, z1, hv, rfl, sqc, g1, hh⟩ := hc.t2
  cases at_int.mp g1
  obtain ⟨ae, w1, w2, rfl, sqe, f1, f2⟩ := he.t2
  cases at_int.mp f1
  cases at_int.mp f2
  obtain ⟨s', hs1, hs2, clen, okc⟩ := M.cases_at ok hst htg
  obtain ⟨xst, hx1, hx2⟩ := ats.at hs1
  obtain ⟨ast, xts, rfl, sqst, atst⟩ := at_tup.mp hx2
  obtain ⟨xcs, hc1, hc2⟩ := atst.at hs2
  obtain ⟨acs, ys, rfl, sqcs, atcs⟩ := at_tup.mp hc2
  have yl := atcs.len
  refine ⟨fun σ' H' => σ' = [some (.ref am), some (.ref ac), some (.ref ae), some hv, none, none, none, none] ∧ H = H', ⟨_, rfl, ac, _, _, _, rfl, rfl, sqc, rfl, rfl, rfl⟩, ?_⟩
  rintro _ _ ⟨rfl, rfl⟩
  refine ⟨_, rfl, am, _, _, _, rfl, rfl, sqm, rfl, _, rfl, ac, _, _, _, rfl, rfl, sqc, rfl, as', _, _, _, rfl, rfl, sqs, at_natI hx1, _, rfl, ae, _, _, _, rfl, rfl, sqe, rfl, ast, _, _, _, rfl, rfl, sqst, at_natI hc1, acs, rfl, ⟨_, sqcs⟩, ?_⟩
  refine for_tup (xs := ys) (fun i σ' H' => (∃ y4 y5, σ' = [some (.ref am), some (.ref ac), some (.ref ae), some hv, y4, y5, none, none]) ∧ Ex T [] H H' ∧ ∀ j c, j < i → (m.cases st e.1)[j]? = some c → holdC e.2 h c = false) ⟨⟨_, _, rfl⟩, Ex.refl, fun j c hj _ => absurd hj (by omega)⟩ (fun i σ' H' _ z => z.2.1.sqT sqcs) ?_ ?_
  · rintro i x σ' H' hxi ⟨⟨y4, y5, rfl⟩, ex, hno⟩
    have hi' : i < (m.cases st e.1).length := by rw [← yl]; exact (List.getElem?_eq_some_iff.mp hxi).1
    obtain ⟨x', hx1', hx2'⟩ := atcs.at (List.getElem?_eq_getElem hi')
    rw [hxi] at hx1'
    cases hx1'
    obtain ⟨acase, c1, c2, c3, c4, rfl, sqcase, d1, d2, d3, d4⟩ := (hx2'.ext ex).t4
    have okci := okc _ (List.getElem_mem hi')
    refine ⟨_, rfl, acase, _, _, _, rfl, rfl, sqcase, rfl, _, rfl, ae, _, _, _, rfl, rfl, ex.sqT sqe, rfl, _, rfl, c1, hv, _, e.2, h, rfl, d1, hh.ext ex, ex.wd wd, ⟨n, rfl, by rw [hlen]; exact okci.cond⟩, fun H3 ex3 => ⟨_, rfl, ?_⟩⟩
    cases hb : hold e.2 h (m.cases st e.1)[i].cond with
    | false =>
      refine iteF ⟨⟨_, _, rfl⟩, ex.trans ex3, fun j c hj hjc => ?_⟩
      by_cases ej : j = i
      · subst ej
        rw [List.getElem?_eq_getElem hi'] at hjc
        cases hjc
        exact hb
      · exact hno j c (by omega) hjc
    | true =>
      refine iteT ?_
      have ei := idxC_drop e.2 h _ hno (List.getElem?_eq_getElem hi') hb
      have er : readM m st h e = ((m.cases st e.1)[i].nxt, keptC e.2 h (m.cases st e.1)[i], saidC e.2 h (m.cases st e.1)[i]) := by
        rcases idxC_find e.2 h (m.cases st e.1) with ⟨e1, e2⟩ | ⟨j, c, e1, hj, e2⟩
        · rw [ei] at e1
          cases e1
        · rw [ei] at e1
          cases e1
          rw [List.getElem?_eq_getElem hi'] at hj
          cases hj
          unfold readM
          rw [e2]
      have q' := fun v H' a b => q v H' (by rw [er]; exact a) b
      clear q er ei hno hb hx2'
      have ex' := ex.trans ex3
      have d2 := d2.ext ex3
      have d3 := d3.ext ex3
      have d4 := d4.ext ex3
      have sqcase := ex3.sqT sqcase
      have sqe := ex'.sqT sqe
      have hh := hh.ext ex'
      have wd := ex'.wd wd
      clear ex3 ex hxi d1
      generalize (m.cases st e.1)[i] = c at okci q' d2 d3 d4
      cases at_int.mp d4
      obtain ⟨amv, mvs, rfl, sqmv, atmv⟩ := at_tup.mp d2
      obtain ⟨asy, sys, rfl, sqsy, atsy⟩ := at_tup.mp d3
      have lsay : sys.length = c.says.length := atsy.len
      have lmv : mvs.length = c.moves.length := atmv.len
      refine ⟨fun σ' H' => ∃ (l : V) (y4 y6 y7 : Option V), σ' = [some (.ref am), some (.ref ac), some (.ref ae), some hv, some (.ref acase), some l, y6, y7] ∧ Ex T [] H3 H' ∧ At K H' l (encA (saidC e.2 h c)), ?_, ?_⟩
      · refine ⟨_, rfl, acase, _, _, _, rfl, rfl, sqcase, rfl, asy, rfl, ⟨_, sqsy⟩, fun D nD => lc_tup (xs := sys) (fun i H' => Col K T [] D H3 H' (((saidC e.2 h c).take i).map encA1)) (Col.start Ex.refl nD) (fun i H' _ c' => c'.1.sqT sqsy) ?_ ?_⟩
        · rintro i x H' hi cl
          have hi' : i < c.says.length := by rw [← lsay]; exact (List.getElem?_eq_some_iff.mp hi).1
          obtain ⟨x', hx1', hx2'⟩ := atsy.at (List.getElem?_eq_getElem hi')
          rw [hi] at hx1'
          cases hx1'
          obtain ⟨ap, p1, p2, rfl, sqp, q1, q2⟩ := (hx2'.ext cl.1).t2
          cases at_int.mp q1
          cases at_int.mp q2
          have sb := okci.say _ (List.getElem_mem hi')
          refine ⟨wipe1, yesIf ⟨_, rfl, ap, _, _, _, rfl, rfl, sqp, rfl, _, rfl, ap, _, _, _, rfl, rfl, sqp, rfl, _, rfl, ae, _, _, _, rfl, rfl, cl.1.sqT sqe, rfl, _, rfl, _, e.2, hv, h, rfl, hh.ext cl.1, sb.2.1, by omega, by show 2 ≤ sizeLine; decide, fun p np => ?_⟩⟩
          obtain ⟨acc, k1, k2, k3⟩ := cl.put nD (by simp) wd (Ex.new np) (x := .ref p) (d := encA1 (c.says[i].1, worth e.2 h c.says[i].2)) (At.laid np (Ats.mk (at_int.mpr rfl) (Ats.mk (at_encO.mpr rfl) Ats.mk_nil))) (take_len _ _ _ _ (by unfold saidC; rw [List.length_map]; have := okci.slen; omega))
          refine ⟨acc, k1, k2, ?_⟩
          rw [take_map] at k3
          · exact k3
          · unfold saidC
            rw [List.getElem?_map, List.getElem?_eq_getElem hi']
            rfl
        · rintro H2 cl
          rw [lsay, show c.says.length = (saidC e.2 h c).length by unfold saidC; rw [List.length_map], List.take_length] at cl
          obtain ⟨exs, as0, hD0, ats0⟩ := cl
          refine ⟨D, _, rfl, .inl ⟨SqL.of hD0, fun l nl => ?_⟩⟩
          exact ⟨_, none, _, _, rfl, exs.trans (Ex.new nl), At.laid nl ats0⟩
      rintro σ' Hs ⟨ls, y4', y6, y7, rfl, exl, hS⟩
      refine ⟨_, rfl, acase, _, _, _, rfl, rfl, exl.sqT sqcase, rfl, _, rfl, acase, _, _, _, rfl, rfl, exl.sqT sqcase, rfl, amv, rfl, ⟨_, exl.sqT sqmv⟩, fun D2 nD2 => lc_tup (xs := mvs) (fun i H' => Col K T [] D2 Hs H' (((keptC e.2 h c).take i).map encO)) (Col.start Ex.refl nD2) (fun i H' _ c' => (exl.trans c'.1).sqT sqmv) ?_ ?_⟩
      · rintro i x H' hi cl
        have hi' : i < c.moves.length := by rw [← lmv]; exact (List.getElem?_eq_some_iff.mp hi).1
        obtain ⟨x', hx1', hx2'⟩ := atmv.at (List.getElem?_eq_getElem hi')
        rw [hi] at hx1'
        cases hx1'
        cases at_int.mp hx2'
        have sb := okci.mv _ (List.getElem_mem hi')
        refine ⟨wipe1, yesIf ⟨_, rfl, _, rfl, ae, _, _, _, rfl, rfl, (exl.trans cl.1).sqT sqe, rfl, _, rfl, _, e.2, hv, h, rfl, hh.ext (exl.trans cl.1), sb.1, by omega, ?_⟩⟩
        obtain ⟨acc, k1, k2, k3⟩ := cl.put nD2 (by simp) (exl.wd wd) Ex.refl (d := encO (worth e.2 h c.moves[i])) (at_encO.mpr rfl) (take_len _ _ _ _ (by unfold keptC; rw [List.length_map, okci.mlen]; have := ok.rmax; omega))
        refine ⟨acc, k1, k2, ?_⟩
        rw [take_map] at k3
        · exact k3
        · unfold keptC
          rw [List.getElem?_map, List.getElem?_eq_getElem hi']
          rfl
      · rintro H5 cl
        rw [lmv, show c.moves.length = (keptC e.2 h c).length by unfold keptC; rw [List.length_map], List.take_length] at cl
        obtain ⟨exk, ks0, hK0, atk0⟩ := cl
        refine ⟨D2, _, rfl, .inl ⟨SqL.of hK0, fun l2 nl2 => ?_⟩⟩
        refine ⟨by show 2 ≤ sizeLine; decide, fun l3 nl3 => ⟨_, rfl, by show 2 ≤ sizeLine; decide, fun l4 nl4 => ?_⟩⟩
        have e2' : Ex T [] H5 (upd H5 l2 (.tup ks0)) := Ex.new nl2
        have e3' : Ex T [] (upd H5 l2 (.tup ks0)) (upd (upd H5 l2 (.tup ks0)) l3 (.tup [.int (c.nxt : Nat), .ref l2])) := Ex.new nl3
        refine q' _ _ ?_ ((((((ex'.trans exl).trans exk).trans e2').trans e3')).trans (Ex.new nl4))
        exact At.laid nl4 (Ats.mk (At.laid nl3 (Ats.mk (at_int.mpr rfl) (Ats.mk (At.laid nl2 atk0) Ats.mk_nil))) (Ats.mk (((hS.ext exk).ext e2').ext e3') Ats.mk_nil))
  · rintro σ' H' ⟨⟨y4, y5, rfl⟩, ex, hno⟩
    refine ⟨_, rfl, by show 0 ≤ sizeLine; decide, fun p np => ⟨by show 2 ≤ sizeLine; decide, fun p2 np2 => ?_⟩⟩
    have exA : Ex T [] H' (upd H' p (.tup [])) := Ex.new np
    refine q _ _ ?_ ((ex.trans exA).trans (Ex.new np2))
    have er : readM m st h e = (st, h, []) := by
      have z := idxC_none e.2 h (m.cases st e.1) (fun j c hj => hno j c (by have := (List.getElem?_eq_some_iff.mp hj).1; omega) hj)
      rcases idxC_find e.2 h (m.cases st e.1) with ⟨e1, e2⟩ | ⟨j, c, e1, hj, e2⟩
      · unfold readM
        rw [e2]
      · rw [z] at e1
        cases e1
    rw [er]
    exact At.laid np2 (Ats.mk ((hc.ext ex).ext exA) (Ats.mk (At.laid np Ats.mk_nil) Ats.mk_nil))

abbrev N__law_take : List Str := ["draws", "many"]
theorem sc__law_take : FnScope N__law_take ["draws", "many"] (defScope s__law_take) := ⟨rfl, rfl, rfl, by decide +kernel, rfl, by decide +kernel, by decide +kernel⟩
def sp__law_take (T : List Addr) : Sp := fun vs H Q _ => ∃ (dr : Addr) (m : Int), vs = [.ref dr, .int m] ∧ 0 < m ∧ Dr H dr ∧ ∀ x H', 0 ≤ x → x < m → Ex T [dr] H H' → Dr H' dr → Q (.int x) H'
theorem ok__law_take {f : Addr} {fd : FuncData} {k : Nat} {T : List Addr} (F : Fun K "_law_take" "_law_take" s__law_take f fd) (ml : mg "len" = none) (mi : mg "int" = none) :
    FnOk P w K mg base CX0 (k + 1) f fd ["draws", "many"] (sp__law_take T) := by
  refine F.ok sc__law_take (fun vs H Q E h => ?_) (fun cdv A outer s H vs Q E hr h => ?_)
  · obtain ⟨dr, m, rfl, _⟩ := h
    rfl
  obtain ⟨dr, m, rfl, hm, ⟨ds, hd⟩, q⟩ := h
  refine ⟨_, pss_cons (ps_if (pt_cmpR op_eq (pe_callB call_len_seq (by rfl) ml PySem.boot_len (pa_cons (pv 0) pa_nil)) pe_int (nomark _)) (pss_one (ps_ret pe_int)) pss_nil)
    (pss_one (ps_ret (pe_op op_mod (pe_callTy call_int1 (by rfl) mi (by decide +kernel) (pa_cons (pe_bm0 PySem.F.plainAttrs_list PySem.F.slot_list_pop PySem.F.type_list_pop mt_pop (pv 0)) pa_nil)) (pv 1)))), ?_⟩
  refine ⟨_, rfl, dr, _, rfl, .inl (SqL.of hd), rfl, _, rfl, ite2 (fun c => ?_) (fun c => ?_)⟩
  · exact q 0 H (Int.le_refl 0) hm Ex.refl ⟨ds, hd⟩
  have hl : 0 < ds.length := by
    rw [List.length_map] at c
    cases ds with
    | nil => exact absurd rfl c
    | cons => exact Nat.succ_pos _
  have e1 : (ds.map V.int)[(ds.map V.int).length - 1]? = some (.int (ds.getD (ds.length - 1) 0)) := by
    rw [List.length_map, List.getElem?_map, List.getD_eq_getElem?_getD, List.getElem?_eq_getElem (by omega)]
    rfl
  refine ⟨_, rfl, .inl ⟨rfl, _, .inl (.inl hd)⟩, dr, _, _, rfl, rfl, hd, e1, .inl ⟨_, rfl, _, rfl, _, _, rfl, rfl, hm, ?_⟩⟩
  exact q _ _ (Int.emod_nonneg _ (by omega)) (Int.emod_lt_of_pos _ hm) (Ex.write (by simp) hd) ⟨ds.dropLast, by rw [upd_same, List.map_dropLast]⟩

abbrev N__law_draws : List Str := ["script", "many", "cells", "rest", "draws", "k", "at", "once", "cell"]
theorem sc__law_draws : FnScope N__law_draws ["script", "many"] (defScope s__law_draws) := ⟨rfl, rfl, rfl, by decide +kernel, rfl, by decide +kernel, by decide +kernel⟩
def sp__law_draws (K : PySem.W.Frag) (T : List Addr) : Sp := fun vs H Q _ => ∃ (a : Addr) (ns : List Int) (many : Int), vs = [.ref a, .int many] ∧ SqL K H a (ns.map V.int) ∧ ns.length ≤ 63 ∧ 0 ≤ many ∧ many ≤ 5000 ∧ Wd T H ∧
  ∀ (r : Addr) (H' : Hp), H r = none → Ex T [] H H' → Dr H' r → Q (.ref r) H'
theorem ok__law_draws {f : Addr} {fd : FuncData} {k : Nat} {T : List Addr} (F : Fun K "_law_draws" "_law_draws" s__law_draws f fd) (ml : mg "len" = none) (mi : mg "int" = none) (mli : mg "list" = none) (mr : mg "range" = none) :
    FnOk P w K mg base CX0 (k + 1) f fd ["script", "many"] (sp__law_draws K T) := by
  refine F.ok sc__law_draws (fun vs H Q E h => ?_) (fun cdv A outer s H vs Q E hr h => ?_)
  · obtain ⟨a, ns, many, rfl, _⟩ := h
    rfl
  obtain ⟨a, ns, many, rfl, hS, h63, m0, m1, wd, q⟩ := h
  refine ⟨_, pss_cons (ps_setLc (i := 2) (own := [("cell", 8)]) (g := gName 8) (tt := tYes) rfl sc__law_draws.nd rfl rfl (sw_true rfl rfl rfl (by decide +kernel)) (pi_list (pv 0)) (blkOk_by (N := N__law_draws) (sc := defScope s__law_draws) (by decide +kernel))
      (fun _ _ _ _ _ => pg_name (i := 8) sc__law_draws.nd rfl (.inl rfl)) (fun _ _ _ _ _ => pts_nil) (fun _ _ _ _ _ => pe_callTy call_int1 (by rfl) mi (by decide +kernel) (pa_cons (pv 8) pa_nil)))
    (C8.pss_cut (ps_if (pt_cmpR op_eq (pe_callB call_len_seq (by rfl) ml PySem.boot_len (pa_cons (pv 2) pa_nil)) pe_int (nomark _))
      (pss_one (ps_expr (pe_bm PySem.F.plainAttrs_list PySem.F.slot_list_append PySem.F.type_list_append mt_append (pv 2) (pa_cons pe_int pa_nil)))) pss_nil)
    (pss_cons (ps_set (i := 3) sc__law_draws.nd rfl (.inl rfl) (pe_callTy call_list_of (by rfl) mli (by decide +kernel) (pa_cons (pv 2) pa_nil)))
    (pss_cons (ps_set (i := 4) sc__law_draws.nd rfl (.inl rfl) (pe_lst pa_nil))
    (pss_cons (ps_for PassesOwn.never rfl (pi_range1 rfl mr (pa_cons (pv 1) pa_nil)) (pg_name (i := 5) sc__law_draws.nd rfl (.inl rfl))
      (pss_cons (ps_set (i := 6) sc__law_draws.nd rfl (.inl rfl) (pe_op op_mod (pv 5) (pe_callB call_len_seq (by rfl) ml PySem.boot_len (pa_cons (pv 2) pa_nil))))
      (pss_one (ps_if (pt_cmpR op_ge (pe_ix ix_list (pv 2) (pv 6) (fun _ _ => rfl)) (pe_op op_pow pe_int pe_int) (nomark _))
        (pss_cons (ps_expr (pe_bm PySem.F.plainAttrs_list PySem.F.slot_list_append PySem.F.type_list_append mt_append (pv 4) (pa_cons (pe_op op_mod (pe_callTy call_int1 (by rfl) mi (by decide +kernel) (pa_cons (pe_ix ix_list (pv 3) (pv 6) (fun _ _ => rfl)) pa_nil)) pe_int) pa_nil)))
        (pss_one (ps_asg (pe_op op_fdiv (pe_ix ix_list (pv 3) (pv 6) (fun _ _ => rfl)) pe_int) (pg_sub (pv 3) (pv 6) set_list))))
        (pss_cons (ps_set (i := 7) sc__law_draws.nd rfl (.inl rfl) (pe_op op_mod (pe_callTy call_int1 (by rfl) mi (by decide +kernel) (pa_cons (pe_op op_add (pe_op op_add (pe_op op_mul (pe_ix ix_list (pv 2) (pv 6) (fun _ _ => rfl)) pe_int) (pe_op op_mul (pv 5) pe_int)) pe_int) pa_nil)) pe_int))
        (pss_one (ps_expr (pe_bm PySem.F.plainAttrs_list PySem.F.slot_list_append PySem.F.type_list_append mt_append (pv 4) (pa_cons (pe_op op_mod (pe_callTy call_int1 (by rfl) mi (by decide +kernel) (pa_cons (pe_op op_add (pe_op op_add (pe_op op_mul (pv 7) (pv 7)) (pe_op op_mul pe_int (pv 7))) (pv 5)) pa_nil)) pe_int) pa_nil)))))))))
    (pss_cons (ps_expr (pe_bm0 PySem.F.plainAttrs_list PySem.F.slot_list_reverse PySem.F.type_list_reverse mt_reverse (pv 4)))
    (pss_one (ps_ret (pv 4)))))))), ?_⟩
  refine ⟨_, rfl, a, rfl, ⟨_, hS⟩, fun D nD => lc_list (xs := ns.map V.int) (fun i H' => Ex T [] H H' ∧ H' D = some (.lst ((ns.take i).map V.int))) ⟨Ex.new nD, upd_same⟩ (fun i H' _ ⟨e, _⟩ => e.sqL (by simp) hS) ?_ ?_⟩
  · rintro i x H' hi ⟨ex, hd⟩
    rw [List.getElem?_map] at hi
    cases e : ns[i]? with
    | none => rw [e] at hi; cases hi
    | some z =>
      rw [e] at hi
      cases hi
      refine ⟨rfl, ?_⟩
      refine yesIf ?_
      refine ⟨_, rfl, .inl ⟨z, rfl, _, hd, ?_, ex.put nD wd, ?_⟩⟩
      · rw [List.length_map, List.length_take]
        exact small5000 (by omega)
      · rw [upd_same, List.take_add_one, e, List.map_append]
        rfl
  rintro H1 ⟨ex1, hD⟩
  rw [List.length_map, List.take_length] at hD
  refine ⟨fun σ' H' => σ' = [some (.ref a), some (.int many), some (.ref D), none, none, none, none, none, none] ∧ ∃ zs : List Int, Ex T [] H H' ∧ H' D = some (.lst (zs.map V.int)) ∧ 0 < zs.length ∧ zs.length ≤ 64, ?_, ?_⟩
  · refine ⟨_, rfl, D, _, rfl, .inl (SqL.of hD), rfl, _, rfl, ite2 (fun c => ?_) (fun c => ?_)⟩
    · refine ⟨_, rfl, .inl ⟨rfl, _, SqL.of hD⟩, D, _, _, rfl, rfl, hD, ?_, rfl, ns ++ [0], ex1.put nD wd, ?_, ?_, ?_⟩
      · rw [List.length_map]
        exact small5000 (by omega)
      · rw [upd_same, iv_snoc]
      · rw [List.length_append]; exact Nat.succ_pos _
      · rw [List.length_append]; show ns.length + 1 ≤ 64; omega
    · refine ⟨rfl, ns, ex1, hD, ?_, by omega⟩
      rw [List.length_map] at c
      cases ns with
      | nil => exact absurd rfl c
      | cons => exact Nat.succ_pos _
  rintro σ' H2 ⟨rfl, zs, ex2, hD, hz0, hz1⟩
  refine ⟨_, rfl, D, _, rfl, .inl (SqL.of hD), fun R nR => ?_⟩
  have ex3 : Ex T [] H (upd H2 R (.lst (zs.map V.int))) := ex2.trans (Ex.new nR)
  refine ⟨Nat.zero_le _, fun W nW => ?_⟩
  have ex4 : Ex T [] H (upd (upd H2 R (.lst (zs.map V.int))) W (.lst [])) := ex3.trans (Ex.new nW)
  have nR0 : H R = none := ex2.free nR
  have nW0 : H W = none := ex3.free nW
  have nDR : D ≠ R := ne_of_none hD nR
  have hD3 : (upd H2 R (.lst (zs.map V.int))) D = some (.lst (zs.map V.int)) := by rw [upd_ne nDR]; exact hD
  have nDW : D ≠ W := ne_of_none hD3 nW
  have nRW : R ≠ W := ne_of_none upd_same nW
  refine ⟨_, rfl, many, rfl, by omega, by omega, for_range (lo := 0) (n := many.toNat) (fun i σ' H' => (∃ y5 y6 y7, σ' = [some (.ref a), some (.int many), some (.ref D), some (.ref R), some (.ref W), y5, y6, y7, none]) ∧ Ex T [] H H' ∧ H' D = some (.lst (zs.map V.int)) ∧
    (∃ rs : List Int, H' R = some (.lst (rs.map V.int)) ∧ rs.length = zs.length) ∧ ∃ ds : List Int, H' W = some (.lst (ds.map V.int)) ∧ ds.length ≤ i) ?_ ?_ ?_⟩
  · refine ⟨⟨_, _, _, rfl⟩, ex4, ?_, ⟨zs, ?_, rfl⟩, [], upd_same, Nat.le_refl _⟩
    · rw [upd_ne nDW]; exact hD3
    · rw [upd_ne nRW, upd_same]
  · rintro i σ' H' hi ⟨⟨y5, y6, y7, rfl⟩, ex, hD, ⟨rs, hR, hrl⟩, ds, hW, hdl⟩
    have hm : (((zs.map V.int).length : Nat) : Int) = zs.length := by rw [List.length_map]
    have hat0 : 0 ≤ (0 + (i : Int)) % (((zs.map V.int).length : Nat) : Int) := Int.emod_nonneg _ (by omega)
    have hat1 : (0 + (i : Int)) % (((zs.map V.int).length : Nat) : Int) < zs.length := by
      have := Int.emod_lt_of_pos (0 + (i : Int)) (b := (((zs.map V.int).length : Nat) : Int)) (by omega)
      omega
    have sz : (ds.map V.int).length < sizeLine := by rw [List.length_map]; exact small5000 (by omega)
    refine ⟨_, rfl, _, rfl, D, _, rfl, .inl (SqL.of hD), _, _, rfl, rfl, by omega, ?_⟩
    refine ⟨_, rfl, _, rfl, D, _, _, _, rfl, rfl, SqL.of hD, iv_at hat0 hat1, _, _, rfl, rfl, ⟨by decide, by decide, by decide⟩, _, _, rfl, rfl, _, rfl, ite2 (fun c => ?_) (fun c => ?_)⟩
    · refine ⟨_, rfl, .inl ⟨rfl, _, .inl (.inl hW)⟩, _, rfl, _, rfl, R, _, _, _, rfl, rfl, SqL.of hR, iv_at hat0 (by rw [hrl]; exact hat1), .inl ⟨_, rfl, _, _, rfl, rfl, (by show (0 : Int) < 1000; decide), W, _, _, rfl, rfl, hW, sz, ?_⟩⟩
      have hR1 : (upd H' W (.lst (ds.map V.int ++ [.int (rs.getD ((0 + (i : Int)) % (((zs.map V.int).length : Nat) : Int)).toNat 0 % 1000)]))) R = some (.lst (rs.map V.int)) := by rw [upd_ne nRW]; exact hR
      refine ⟨_, rfl, _, rfl, R, _, _, _, rfl, rfl, SqL.of hR1, iv_at hat0 (by rw [hrl]; exact hat1), _, _, rfl, rfl, ⟨by decide, by decide⟩, _, rfl, _, rfl, R, _, _, _, rfl, rfl, hR1, ix_nat hat0 (by rw [show (rs.map V.int).length = zs.length from (List.length_map _).trans hrl]; exact hat1), ?_⟩
      refine ⟨⟨_, _, _, rfl⟩, (ex.put nW0 wd).put nR0 wd, ?_, ⟨_, by rw [upd_same, iv_set], by rw [List.length_set]; exact hrl⟩, _, by rw [upd_ne (Ne.symm nRW), upd_same, iv_snoc], by rw [List.length_append]; exact Nat.succ_le_succ hdl⟩
      rw [upd_ne nDR, upd_ne nDW]
      exact hD
    · refine ⟨_, rfl, _, rfl, D, _, _, _, rfl, rfl, SqL.of hD, iv_at hat0 hat1, _, _, rfl, rfl, .inr ⟨by decide, by decide⟩, _, rfl, _, _, rfl, rfl, .inr ⟨by decide, by decide⟩, _, _, rfl, rfl, _, _, rfl, rfl, .inl ⟨_, rfl, _, _, rfl, rfl, (by show (0 : Int) < 2147483647; decide), ?_⟩⟩
      have o0 : 0 ≤ (zs.getD ((0 + (i : Int)) % (((zs.map V.int).length : Nat) : Int)).toNat 0 * 48271 + (0 + (i : Int)) * 69621 + 11) % 2147483647 := Int.emod_nonneg _ (by decide)
      have o1 : (zs.getD ((0 + (i : Int)) % (((zs.map V.int).length : Nat) : Int)).toNat 0 * 48271 + (0 + (i : Int)) * 69621 + 11) % 2147483647 < 2147483647 := Int.emod_lt_of_pos _ (by decide)
      refine ⟨_, rfl, .inl ⟨rfl, _, .inl (.inl hW)⟩, _, rfl, _, rfl, _, _, rfl, rfl, .inl ⟨?_, ?_⟩, _, rfl, _, _, rfl, rfl, .inl ⟨by decide, by decide⟩, _, _, rfl, rfl, _, rfl, _, _, rfl, rfl, .inl ⟨_, rfl, _, _, rfl, rfl, (by show (0 : Int) < 1000003; decide), W, _, _, rfl, rfl, hW, sz, ?_⟩⟩
      · exact Int.lt_of_lt_of_le (by decide) o0
      · exact Int.lt_trans o1 (by decide)
      refine ⟨⟨_, _, _, rfl⟩, ex.put nW0 wd, ?_, ⟨rs, ?_, hrl⟩, _, by rw [upd_same, iv_snoc], by rw [List.length_append]; exact Nat.succ_le_succ hdl⟩
      · rw [upd_ne nDW]; exact hD
      · rw [upd_ne nRW]; exact hR
  · rintro σ' H' ⟨⟨y5, y6, y7, rfl⟩, ex, hD, ⟨rs, hR, hrl⟩, ds, hW, hdl⟩
    refine ⟨_, rfl, .inl ⟨rfl, _, .inl (.inl hW)⟩, W, _, rfl, rfl, hW, _, rfl, ?_⟩
    exact q W _ nW0 (ex.put nW0 wd) ⟨ds.reverse, by rw [upd_same, List.map_reverse]⟩

abbrev N__law_condition : List Str := ["draws", "registers", "depth", "places", "one", "other", "kind", "row", "k"]
theorem sc__law_condition : FnScope N__law_condition ["draws", "registers", "depth"] (defScope s__law_condition) := ⟨rfl, rfl, rfl, by decide +kernel, rfl, by decide +kernel, by decide +kernel⟩
def plV (r : Nat) : List V := V.int (-1) :: V.int (-1) :: rgV 0 (r : Int)
theorem plV_len (r : Nat) : (plV r).length = r + 2 := by unfold plV; rw [List.length_cons, List.length_cons, rgV_length]; omega
theorem plV_at {r : Nat} {y : Int} (h0 : 0 ≤ y) (h1 : y < ((plV r).length : Nat)) : ∃ z, atI (plV r) y = some (.int z) ∧ plOk r z := by
  obtain ⟨v, hv, hat⟩ := menu_at h0 h1
  unfold plV at hv
  rcases List.mem_cons.mp hv with rfl | hv
  · exact ⟨-1, hat, by decide, by omega⟩
  rcases List.mem_cons.mp hv with rfl | hv
  · exact ⟨-1, hat, by decide, by omega⟩
  · unfold rgV at hv
    obtain ⟨j, hj, rfl⟩ := List.mem_map.mp hv
    have := List.mem_range.mp hj
    exact ⟨_, hat, by omega, by omega⟩
def sp__law_condition (K : PySem.W.Frag) (T : List Addr) (n : Nat) : Sp := fun vs H Q _ => ∃ (dr : Addr) (r m : Nat) (d : Int), vs = [.ref dr, .int r, .int d] ∧ n = m + 1 ∧ d ≤ m + 1 ∧ r ≤ 1000 ∧ Wd T H ∧ Dr H dr ∧
  ∀ v H' c, At K H' v (encC c) → okC r (m + 1) c → Ex T [dr] H H' → Dr H' dr → Q v H'
theorem ok__law_condition {f : Addr} {fd : FuncData} {k : Nat} {T : List Addr} (F : Fun K "_law_condition" "_law_condition" s__law_condition f fd) (m_list : mg "list" = none) (m_range : mg "range" = none) (m_len : mg "len" = none) (m_tuple : mg "tuple" = none) (bF : Binds K fd ["draws", "registers", "depth"] []) (mF : mg "_law_condition" = some (.ref f))
    {a__law_take : Addr} {d__law_take : FuncData} (G__law_take : FnOk P w K mg base CX0 2 a__law_take d__law_take ["draws", "many"] (sp__law_take T)) (k__law_take : PySem.W.keepIn K (.ref a__law_take) = true) (b__law_take : Binds K d__law_take ["draws", "many"] []) (m__law_take : mg "_law_take" = some (.ref a__law_take)) :
    ∀ n : Nat, FnOk P w K mg base CX0 (n + 2) f fd ["draws", "registers", "depth"] (sp__law_condition K T n) := by
  intro n
  induction n with
  | zero =>
    have no : ∀ vs H Q E, ¬ sp__law_condition K T 0 vs H Q E := fun vs H Q E h => by
      obtain ⟨dr, r, m, d, _, e, _⟩ := h
      omega
    exact ⟨fun vs H Q E h => absurd h (no vs H Q E), fun A outer s H args us vs Q E _ _ _ _ h => absurd h (no vs H Q E)⟩
  | succ n ih =>
  refine F.ok sc__law_condition (fun vs H Q E h => ?_) (fun cdv A outer s H vs Q E hr h => ?_)
  · obtain ⟨dr, r, m, d, rfl, _⟩ := h
    rfl
  obtain ⟨dr, r, m, d, rfl, em, hdm, hr0, wd, hd, q⟩ := h
  obtain rfl : n = m := by omega
  have hr2 : Room 2 _ := hr.mono (by omega)
  refine ⟨_, (C8.pss_cut (ps_set (i := 3) sc__law_condition.nd rfl (.inl rfl) (pe_op op_cat (pe_lst (pa_cons (pe_un un_neg pe_int) (pa_cons (pe_un un_neg pe_int) pa_nil))) (pe_listRg rfl (by rfl) m_list (prg_1 (by rfl) m_range (pv 1)))))
    (C8.pss_cut (ps_set (i := 4) sc__law_condition.nd rfl (.inl rfl) (pe_ix ix_list (pv 3) (pe_call G__law_take hr2 (by rfl) m__law_take k__law_take b__law_take .nil pass0 (pa_cons (pv 0) (pa_cons (pe_callB call_len_seq (by rfl) m_len PySem.boot_len (pa_cons (pv 3) pa_nil)) pa_nil))) (fun _ _ => rfl)))
    (C8.pss_cut (ps_set (i := 5) sc__law_condition.nd rfl (.inl rfl) (pe_ix ix_list (pv 3) (pe_call G__law_take hr2 (by rfl) m__law_take k__law_take b__law_take .nil pass0 (pa_cons (pv 0) (pa_cons (pe_callB call_len_seq (by rfl) m_len PySem.boot_len (pa_cons (pv 3) pa_nil)) pa_nil))) (fun _ _ => rfl)))
    (pss_cons (ps_set (i := 6) sc__law_condition.nd rfl (.inl rfl) (pe_call G__law_take hr2 (by rfl) m__law_take k__law_take b__law_take .nil pass0 (pa_cons (pv 0) (pa_cons pe_int pa_nil))))
    (C8.pss_cut (ps_if (pw_or (pt_cmpR op_lt (pv 6) pe_int (nomark _)) (pw_or1 (pw_and (pt_cmpR op_lt (pv 2) pe_int (nomark _)) (pw_and1 (pt_cmpR op_gt (pv 6) pe_int (nomark _)))).pt)).pt
      (pss_one (ps_ret (pe_tup (pa_cons pe_str (pa_cons (pv 4) (pa_cons (pv 5) pa_nil))))))
      pss_nil)
    (pss_cons (ps_if (pt_cmpR op_eq (pv 6) pe_int (nomark _))
      (pss_one (ps_ret (pe_tup (pa_cons pe_str (pa_cons (pv 4) (pa_cons (pv 5) pa_nil))))))
      pss_nil)
    (pss_cons (ps_if (pt_cmpR op_eq (pv 6) pe_int (nomark _))
      (pss_one (ps_ret (pe_tup (pa_cons pe_str (pa_cons (pv 4) pa_nil)))))
      pss_nil)
    (pss_cons (ps_if (pt_cmpR op_eq (pv 6) pe_int (nomark _))
      (pss_one (ps_ret (pe_ix ix_list (pe_lst (pa_cons (pe_tup (pa_cons pe_str pa_nil)) (pa_cons (pe_tup (pa_cons pe_str pa_nil)) (pa_cons (pe_tup (pa_cons pe_str pa_nil)) pa_nil)))) (pe_call G__law_take hr2 (by rfl) m__law_take k__law_take b__law_take .nil pass0 (pa_cons (pv 0) (pa_cons pe_int pa_nil))) (fun _ _ => rfl))))
      pss_nil)
    (pss_cons (ps_if (pt_cmpR op_eq (pv 6) pe_int (nomark _))
      (pss_one (ps_ret (pe_tup (pa_cons pe_str (pa_cons (pe_call ih hr (by rfl) mF F.kp bF .nil pass0 (pa_cons (pv 0) (pa_cons (pv 1) (pa_cons (pe_op op_sub (pv 2) pe_int) pa_nil)))) pa_nil)))))
      pss_nil)
    (pss_cons (ps_set (i := 7) sc__law_condition.nd rfl (.inl rfl) (pe_lst pa_nil))
    (pss_cons (ps_for PassesOwn.never rfl (pi_range1 rfl m_range (pa_cons (pe_call G__law_take hr2 (by rfl) m__law_take k__law_take b__law_take .nil pass0 (pa_cons (pv 0) (pa_cons pe_int pa_nil))) pa_nil)) (pg_name (i := 8) sc__law_condition.nd rfl (.inl rfl))
      (pss_one (ps_expr (pe_bm PySem.F.plainAttrs_list PySem.F.slot_list_append PySem.F.type_list_append mt_append (pv 7) (pa_cons (pe_call ih hr (by rfl) mF F.kp bF .nil pass0 (pa_cons (pv 0) (pa_cons (pv 1) (pa_cons (pe_op op_sub (pv 2) pe_int) pa_nil)))) pa_nil)))))
    (pss_one (ps_ret (pe_tup (pa_cons (pe_ix ix_list (pe_lst (pa_cons pe_str (pa_cons pe_str pa_nil))) (pe_call G__law_take hr2 (by rfl) m__law_take k__law_take b__law_take .nil pass0 (pa_cons (pv 0) (pa_cons pe_int pa_nil))) (fun _ _ => rfl)) (pa_cons (pe_callTy call_tuple_of (by rfl) m_tuple (by decide +kernel) (pa_cons (pv 7) pa_nil)) pa_nil)))))))))))))))), ?_⟩
  refine ⟨fun σ' H' => ∃ pp, σ' = [some (.ref dr), some (.int r), some (.int d), some (.ref pp), none, none, none, none, none] ∧ H' pp = some (.lst (plV r)) ∧ pp ≠ dr ∧ Ex T [dr] H H' ∧ Dr H' dr, ?_, ?_⟩
  · refine ⟨_, rfl, _, rfl, by show 2 ≤ sizeLine; decide, fun p1 n1 => ⟨_, rfl, _, rfl, RgOk.of_le (by decide) (by omega) (by omega) (by omega), fun p2 n2 => ⟨p1, p2, _, _, rfl, rfl, (upd_ne (fun e => by rw [e, upd_same] at n2; cases n2)).trans upd_same, upd_same, ?_, fun p3 n3 => ?_⟩⟩⟩
    · rw [rgV_length]
      show 2 + _ ≤ sizeLine
      unfold sizeLine
      omega
    · exact ⟨p3, rfl, upd_same, ((hd.new n1).new n2).ne n3, ((Ex.new n1).trans (Ex.new n2)).trans (Ex.new n3), ((hd.new n1).new n2).new n3⟩
  rintro σ1 H1 ⟨pp, rfl, hpp, npp, ex1, hd1⟩
  refine ⟨fun σ' H' => ∃ one, σ' = [some (.ref dr), some (.int r), some (.int d), some (.ref pp), some (.int one), none, none, none, none] ∧ plOk r one ∧ H' pp = some (.lst (plV r)) ∧ Ex T [dr] H H' ∧ Dr H' dr, ?_, ?_⟩
  · refine ⟨_, rfl, _, rfl, _, rfl, pp, _, rfl, .inl (SqL.of hpp), dr, _, rfl, by rw [plV_len]; omega, hd1, fun y H2 y0 y1 ex2 hd2 => ?_⟩
    obtain ⟨z, hz, pz⟩ := plV_at y0 y1
    have h2 := ex2.lst (by simpa using npp) hpp
    exact ⟨pp, _, _, _, rfl, rfl, SqL.of h2, hz, z, rfl, pz, h2, ex1.trans ex2, hd2⟩
  clear hpp ex1 hd1
  rintro σ1 H1 ⟨one, rfl, o1, hpp, ex1, hd1⟩
  refine ⟨fun σ' H' => ∃ other, σ' = [some (.ref dr), some (.int r), some (.int d), some (.ref pp), some (.int one), some (.int other), none, none, none] ∧ plOk r other ∧ Ex T [dr] H H' ∧ Dr H' dr, ?_, ?_⟩
  · refine ⟨_, rfl, _, rfl, _, rfl, pp, _, rfl, .inl (SqL.of hpp), dr, _, rfl, by rw [plV_len]; omega, hd1, fun y H2 y0 y1 ex2 hd2 => ?_⟩
    obtain ⟨z, hz, pz⟩ := plV_at y0 y1
    have h2 := ex2.lst (by simpa using npp) hpp
    exact ⟨pp, _, _, _, rfl, rfl, SqL.of h2, hz, z, rfl, pz, ex1.trans ex2, hd2⟩
  clear hpp ex1 hd1
  rintro σ1 H2 ⟨other, rfl, o2, ex2, hd2⟩
  refine ⟨_, rfl, dr, 11, rfl, by decide, hd2, fun kind H3 k0 k1 ex3' hd3 => ?_⟩
  have ex := ex2.trans ex3'
  have less : ∀ p, H3 p = none → Q (.ref p) (upd H3 p (.tup [.str "less", .int one, .int other])) := fun p np => q _ _ _ (new_less np) (okC_less o1 o2) (ex.trans (Ex.new np)) (hd3.new np)
  refine ⟨fun σ' H' => σ' = [some (.ref dr), some (.int r), some (.int d), some (.ref pp), some (.int one), some (.int other), some (.int kind), none, none] ∧ H' = H3 ∧ 6 ≤ kind ∧ (kind ≤ 8 ∨ 2 ≤ d), ?_, ?_⟩
  · refine ⟨_, rfl, _, _, rfl, rfl, _, rfl, ite2 (fun c => ?_) (fun c => ?_)⟩
    · exact iteT ⟨_, rfl, _, rfl, by show 3 ≤ sizeLine; decide, less⟩
    have c5 : 6 ≤ kind := by have := of_decide_eq_false (Bool.eq_false_iff.mpr c); omega
    refine ⟨_, rfl, _, _, rfl, rfl, _, rfl, ite2 (fun cd => ?_) (fun cd => ?_)⟩
    · refine ⟨_, rfl, _, _, rfl, rfl, _, rfl, ?_⟩
      by_cases ck : (8 : Int) < kind
      · rw [decide_eq_true ck]
        exact iteT ⟨_, rfl, _, rfl, by show 3 ≤ sizeLine; decide, less⟩
      · rw [decide_eq_false ck]
        exact iteF ⟨rfl, rfl, c5, .inl (by omega)⟩
    · have cd' : ¬ d < 2 := of_decide_eq_false (Bool.eq_false_iff.mpr cd)
      exact iteF ⟨rfl, rfl, c5, .inr (by omega)⟩
  rintro σ' H' ⟨rfl, rfl, c5, cor⟩
  refine ⟨_, rfl, rfl, _, rfl, ite2 (fun c => ?_) (fun c => ?_)⟩
  · exact ⟨_, rfl, _, rfl, by show 3 ≤ sizeLine; decide, fun p np => q _ _ _ (new_same np) (okC_same o1 o2) (ex.trans (Ex.new np)) (hd3.new np)⟩
  have c6 : kind ≠ 6 := by simpa using c
  refine ⟨_, rfl, rfl, _, rfl, ite2 (fun c => ?_) (fun c => ?_)⟩
  · exact ⟨_, rfl, by show 2 ≤ sizeLine; decide, fun p np => q _ _ _ (new_emp np) (okC_emp o1) (ex.trans (Ex.new np)) (hd3.new np)⟩
  have c7 : kind ≠ 7 := by simpa using c
  refine ⟨_, rfl, rfl, _, rfl, ite2 (fun c => ?_) (fun c => ?_)⟩
  · refine ⟨by show 1 ≤ sizeLine; decide, fun p1 np1 => ?_⟩
    refine ⟨by show 1 ≤ sizeLine; decide, fun p2 np2 => ?_⟩
    refine ⟨by show 1 ≤ sizeLine; decide, fun p3 np3 => ?_⟩
    refine ⟨by show 3 ≤ sizeLine; decide, fun l nl => ?_⟩
    have a1 := new_tru (K := K) np1
    have x1 := Ex.new (T := T) (ms := [dr]) (o := .tup [.str "true"]) np1
    have d1 := hd3.new (o := .tup [.str "true"]) np1
    generalize upd H' p1 (.tup [.str "true"]) = K1 at *
    have a2 := new_tru (K := K) np2
    have x2 := Ex.new (T := T) (ms := [dr]) (o := .tup [.str "true"]) np2
    have d2 := d1.new (o := .tup [.str "true"]) np2
    generalize upd K1 p2 (.tup [.str "true"]) = K2 at *
    have a3 := new_fls (K := K) np3
    have x3 := Ex.new (T := T) (ms := [dr]) (o := .tup [.str "false"]) np3
    have d3 := d2.new (o := .tup [.str "false"]) np3
    generalize upd K2 p3 (.tup [.str "false"]) = K3 at *
    have nel : l ≠ dr := d3.ne nl
    refine ⟨_, rfl, dr, 3, rfl, by decide, d3.new nl, fun y H4 y0 y1 ex4 hd4 => ?_⟩
    have hl4 : H4 l = some (.lst [.ref p1, .ref p2, .ref p3]) := ex4.lst (by simpa using nel) upd_same
    have x5 := (Ex.new (T := T) (ms := [dr]) (o := .lst [.ref p1, .ref p2, .ref p3]) nl).trans ex4
    have exT : Ex T [dr] H H4 := (((ex.trans x1).trans x2).trans x3).trans x5
    have yc : y = 0 ∨ y = 1 ∨ y = 2 := by omega
    rcases yc with rfl | rfl | rfl
    · exact ⟨l, _, _, _, rfl, rfl, SqL.of hl4, rfl, q _ _ _ (a1.ext ((x2.trans x3).trans x5)) okC_tru exT hd4⟩
    · exact ⟨l, _, _, _, rfl, rfl, SqL.of hl4, rfl, q _ _ _ (a2.ext (x3.trans x5)) okC_tru exT hd4⟩
    · exact ⟨l, _, _, _, rfl, rfl, SqL.of hl4, rfl, q _ _ _ (a3.ext x5) okC_fls exT hd4⟩
  have c8 : kind ≠ 8 := by simpa using c
  have d1 : 2 ≤ d := by omega
  cases n with
  | zero => omega
  | succ n =>
  refine ⟨_, rfl, rfl, _, rfl, ite2 (fun c => ?_) (fun c => ?_)⟩
  · refine ⟨_, rfl, _, rfl, _, rfl, _, _, rfl, rfl, dr, r, n, d - 1, rfl, rfl, by omega, hr0, ex.wd wd, hd3, fun v H4 c4 at4 ok4 ex4 hd4 => ?_⟩
    refine ⟨by show 2 ≤ sizeLine; decide, fun l nl => ?_⟩
    exact q _ _ _ (new_nt nl at4) (okC_nt ok4) ((ex.trans ex4).trans (Ex.new nl)) (hd4.new nl)
  -- row
  refine ⟨Nat.zero_le _, fun Z nZ => ?_⟩
  have nZd := hd3.ne nZ
  have Z0 := ex.free nZ
  refine ⟨_, rfl, dr, 3, rfl, by decide, hd3.new nZ, fun j H4 j0 j1 ex4 hd4 => ?_⟩
  have cl0 : Col K T [dr] Z H H4 (encCs []) := by unfold encCs; exact (Col.start ex nZ).ext (by simpa using nZd) ex4
  refine ⟨j, rfl, by omega, by omega, for_range (lo := 0) (n := j.toNat) (fun i σ' H5 => (∃ y8, σ' = [some (.ref dr), some (.int r), some (.int d), some (.ref pp), some (.int one), some (.int other), some (.int kind), some (.ref Z), y8]) ∧ Dr H5 dr ∧ ∃ cs : List C, Col K T [dr] Z H H5 (encCs cs) ∧ cs.length = i ∧ okCs r (n + 1) cs) ⟨⟨_, rfl⟩, hd4, [], cl0, rfl, okCs_nil⟩ ?_ ?_⟩
  · rintro i σ' H5 hi ⟨⟨y8, rfl⟩, hd5, cs, cl, hl, oks⟩
    obtain ⟨ex5, xs, hZ5, ats5⟩ := id cl
    refine ⟨_, rfl, .inl ⟨rfl, _, .inl (.inl hZ5)⟩, _, rfl, _, rfl, _, rfl, _, _, rfl, rfl, dr, r, n, d - 1, rfl, rfl, by omega, hr0, ex5.wd wd, hd5, fun v H6 c6' at6 ok6 ex6 hd6 => ?_⟩
    obtain ⟨acc, z1, z2, z3⟩ := cl.put Z0 (by simpa using nZd) wd ex6 (d := encC c6') at6 (by rw [encCs_length]; omega)
    refine ⟨Z, _, _, rfl, rfl, z1, z2, ⟨_, rfl⟩, hd6.put nZd.symm, cs ++ [c6'], ?_, by rw [List.length_append]; exact congrArg (· + 1) hl, okCs_snoc oks ok6⟩
    rw [encCs_snoc]
    exact z3
  · rintro σ' H5 ⟨⟨y8, rfl⟩, hd5, cs, ⟨ex5, xs, hZ5, ats5⟩, hl, oks⟩
    refine ⟨by show 2 ≤ sizeLine; decide, fun l5 nl5 => ?_⟩
    refine ⟨_, rfl, dr, 2, rfl, by decide, hd5.new nl5, fun y H7 y0 y1 ex7 hd7 => ?_⟩
    have h7 : H7 l5 = some (.lst [.str "all", .str "any"]) := ex7.lst (by simpa using hd5.ne nl5) upd_same
    have x7 := (Ex.new (T := T) (ms := [dr]) (o := .lst [.str "all", .str "any"]) nl5).trans ex7
    have hZ7 := x7.lst (by simpa using nZd) hZ5
    have ats7 := Ats.ext x7 ats5
    have x57 := ex5.trans x7
    have yc : y = 0 ∨ y = 1 := by omega
    rcases yc with rfl | rfl
    · refine ⟨l5, _, _, .str "all", rfl, rfl, SqL.of h7, rfl, _, rfl, Z, _, rfl, .inl ⟨SqL.of hZ7, fun l6 nl6 => ⟨by show 2 ≤ sizeLine; decide, fun l7 nl7 => ?_⟩⟩⟩
      exact q _ _ _ (new_all nl7 (At.laid nl6 ats7)) (okC_all (by omega) oks) ((x57.trans (Ex.new nl6)).trans (Ex.new nl7)) ((hd7.new nl6).new nl7)
    · refine ⟨l5, _, _, .str "any", rfl, rfl, SqL.of h7, rfl, _, rfl, Z, _, rfl, .inl ⟨SqL.of hZ7, fun l6 nl6 => ⟨by show 2 ≤ sizeLine; decide, fun l7 nl7 => ?_⟩⟩⟩
      exact q _ _ _ (new_any nl7 (At.laid nl6 ats7)) (okC_any (by omega) oks) ((x57.trans (Ex.new nl6)).trans (Ex.new nl7)) ((hd7.new nl6).new nl7)

abbrev N__law_case : List Str := ["draws", "registers", "standings", "sources", "moves", "i", "says", "j"]
theorem sc__law_case : FnScope N__law_case ["draws", "registers", "standings"] (defScope s__law_case) := ⟨rfl, rfl, rfl, by decide +kernel, rfl, by decide +kernel, by decide +kernel⟩
def srV (r : Nat) : List V := rgV 0 (r : Int) ++ [V.int (-1), V.int (-1), V.int (-2)]
theorem srV_len (r : Nat) : (srV r).length = r + 3 := by unfold srV; rw [List.length_append, rgV_length]; show _ + 3 = _; omega
theorem srV_at {r : Nat} {y : Int} (h0 : 0 ≤ y) (h1 : y < ((srV r).length : Nat)) : ∃ z, atI (srV r) y = some (.int z) ∧ -2 ≤ z ∧ z < r := by
  obtain ⟨v, hv, hat⟩ := menu_at h0 h1
  unfold srV at hv
  rcases List.mem_append.mp hv with hv | hv
  · unfold rgV at hv
    obtain ⟨j, hj, rfl⟩ := List.mem_map.mp hv
    have := List.mem_range.mp hj
    exact ⟨_, hat, by omega, by omega⟩
  · simp only [List.mem_cons, List.not_mem_nil, or_false] at hv
    rcases hv with rfl | rfl | rfl
    · exact ⟨-1, hat, by decide, by omega⟩
    · exact ⟨-1, hat, by decide, by omega⟩
    · exact ⟨-2, hat, by decide, by omega⟩
def sp__law_case (K : PySem.W.Frag) (T : List Addr) : Sp := fun vs H Q _ => ∃ (dr : Addr) (r S : Nat), vs = [.ref dr, .int r, .int S] ∧ 1 ≤ S ∧ r ≤ 1000 ∧ Wd T H ∧ Dr H dr ∧
  ∀ v H' cs, At K H' v (encCase cs) → okCase r S 2 cs → cs.says.length ≤ 8 → Ex T [dr] H H' → Dr H' dr → Q v H'
theorem ok__law_case {f : Addr} {fd : FuncData} {k : Nat} {T : List Addr} (F : Fun K "_law_case" "_law_case" s__law_case f fd) (m_list : mg "list" = none) (m_range : mg "range" = none) (m_len : mg "len" = none) (m_tuple : mg "tuple" = none)
    {a__law_take : Addr} {d__law_take : FuncData} (G__law_take : FnOk P w K mg base CX0 k a__law_take d__law_take ["draws", "many"] (sp__law_take T)) (k__law_take : PySem.W.keepIn K (.ref a__law_take) = true) (b__law_take : Binds K d__law_take ["draws", "many"] []) (m__law_take : mg "_law_take" = some (.ref a__law_take))
    {a__law_condition : Addr} {d__law_condition : FuncData} (G__law_condition : FnOk P w K mg base CX0 k a__law_condition d__law_condition ["draws", "registers", "depth"] (sp__law_condition K T 2)) (k__law_condition : PySem.W.keepIn K (.ref a__law_condition) = true) (b__law_condition : Binds K d__law_condition ["draws", "registers", "depth"] []) (m__law_condition : mg "_law_condition" = some (.ref a__law_condition)) :
    FnOk P w K mg base CX0 (k + 1) f fd ["draws", "registers", "standings"] (sp__law_case K T) := by
  refine F.ok sc__law_case (fun vs H Q E h => ?_) (fun cdv A outer s H vs Q E hr h => ?_)
  · obtain ⟨dr, r, S, rfl, _⟩ := h
    rfl
  obtain ⟨dr, r, S, rfl, S1, hr0, wd, hd, q⟩ := h
  refine ⟨_, (C8.pss_cut (ps_set (i := 3) sc__law_case.nd rfl (.inl rfl) (pe_op op_cat (pe_listRg rfl (by rfl) m_list (prg_1 (by rfl) m_range (pv 1))) (pe_lst (pa_cons (pe_un un_neg pe_int) (pa_cons (pe_un un_neg pe_int) (pa_cons (pe_un un_neg pe_int) pa_nil))))))
    (C8.pss_cut (ps_set (i := 4) sc__law_case.nd rfl (.inl rfl) (pe_lst pa_nil))
    (C8.pss_cut (ps_for PassesOwn.never rfl (pi_range1 rfl m_range (pa_cons (pv 1) pa_nil)) (pg_name (i := 5) sc__law_case.nd rfl (.inl rfl))
      (pss_one (ps_expr (pe_bm PySem.F.plainAttrs_list PySem.F.slot_list_append PySem.F.type_list_append mt_append (pv 4) (pa_cons (pe_ix ix_list (pe_lst (pa_cons (pv 5) (pa_cons (pv 5) (pa_cons (pe_un un_neg pe_int) (pa_cons (pe_un un_neg pe_int) (pa_cons (pe_ix ix_list (pv 3) (pe_call G__law_take hr (by rfl) m__law_take k__law_take b__law_take .nil pass0 (pa_cons (pv 0) (pa_cons (pe_callB call_len_seq (by rfl) m_len PySem.boot_len (pa_cons (pv 3) pa_nil)) pa_nil))) (fun _ _ => rfl)) pa_nil)))))) (pe_call G__law_take hr (by rfl) m__law_take k__law_take b__law_take .nil pass0 (pa_cons (pv 0) (pa_cons pe_int pa_nil))) (fun _ _ => rfl)) pa_nil)))))
    (C8.pss_cut (ps_set (i := 6) sc__law_case.nd rfl (.inl rfl) (pe_lst pa_nil))
    (pss_cons (ps_for PassesOwn.never rfl (pi_range1 rfl m_range (pa_cons (pe_ix ix_list (pe_lst (pa_cons pe_int (pa_cons pe_int (pa_cons pe_int (pa_cons pe_int (pa_cons pe_int (pa_cons pe_int pa_nil))))))) (pe_call G__law_take hr (by rfl) m__law_take k__law_take b__law_take .nil pass0 (pa_cons (pv 0) (pa_cons pe_int pa_nil))) (fun _ _ => rfl)) pa_nil)) (pg_name (i := 7) sc__law_case.nd rfl (.inl rfl))
      (pss_one (ps_expr (pe_bm PySem.F.plainAttrs_list PySem.F.slot_list_append PySem.F.type_list_append mt_append (pv 6) (pa_cons (pe_tup (pa_cons (pe_ix ix_list (pe_lst (pa_cons pe_int (pa_cons pe_int (pa_cons pe_int (pa_cons pe_int (pa_cons pe_int (pa_cons pe_int pa_nil))))))) (pe_call G__law_take hr (by rfl) m__law_take k__law_take b__law_take .nil pass0 (pa_cons (pv 0) (pa_cons pe_int pa_nil))) (fun _ _ => rfl)) (pa_cons (pe_ix ix_list (pv 3) (pe_call G__law_take hr (by rfl) m__law_take k__law_take b__law_take .nil pass0 (pa_cons (pv 0) (pa_cons (pe_callB call_len_seq (by rfl) m_len PySem.boot_len (pa_cons (pv 3) pa_nil)) pa_nil))) (fun _ _ => rfl)) pa_nil))) pa_nil)))))
    (pss_one (ps_ret (pe_tup (pa_cons (pe_call G__law_condition hr (by rfl) m__law_condition k__law_condition b__law_condition .nil pass0 (pa_cons (pv 0) (pa_cons (pv 1) (pa_cons pe_int pa_nil)))) (pa_cons (pe_callTy call_tuple_of (by rfl) m_tuple (by decide +kernel) (pa_cons (pv 4) pa_nil)) (pa_cons (pe_callTy call_tuple_of (by rfl) m_tuple (by decide +kernel) (pa_cons (pv 6) pa_nil)) (pa_cons (pe_call G__law_take hr (by rfl) m__law_take k__law_take b__law_take .nil pass0 (pa_cons (pv 0) (pa_cons (pv 2) pa_nil))) pa_nil)))))))))))), ?_⟩
  refine ⟨fun σ' H' => ∃ ps, σ' = [some (.ref dr), some (.int r), some (.int S), some (.ref ps), none, none, none, none] ∧ H' ps = some (.lst (srV r)) ∧ ps ≠ dr ∧ H ps = none ∧ Ex T [dr] H H' ∧ Dr H' dr, ?_, ?_⟩
  · refine ⟨_, rfl, _, rfl, RgOk.of_le (by decide) (by omega) (by omega) (by omega), fun p2 n2 => ⟨_, rfl, _, rfl, _, rfl, by show 3 ≤ sizeLine; decide, fun p1 n1 => ⟨p2, p1, _, _, rfl, rfl, (upd_ne (fun e => by rw [← e, upd_same] at n1; cases n1)).trans upd_same, upd_same, ?_, fun p3 n3 => ?_⟩⟩⟩
    · rw [rgV_length]
      show _ + 3 ≤ sizeLine
      unfold sizeLine
      omega
    · exact ⟨p3, rfl, upd_same, ((hd.new n2).new n1).ne n3, ((Ex.new (T := T) (ms := [dr]) n2).trans (Ex.new n1)).free n3, ((Ex.new n2).trans (Ex.new n1)).trans (Ex.new n3), ((hd.new n2).new n1).new n3⟩
  rintro σ1 H1 ⟨ps, rfl, hps, nps, ps0, ex1, hd1⟩
  refine ⟨fun σ' H' => ∃ M, σ' = [some (.ref dr), some (.int r), some (.int S), some (.ref ps), some (.ref M), none, none, none] ∧ H' M = some (.lst []) ∧ M ≠ dr ∧ M ≠ ps ∧ H M = none ∧ H' ps = some (.lst (srV r)) ∧ Ex T [dr] H H' ∧ Dr H' dr, ?_, ?_⟩
  · exact ⟨Nat.zero_le _, fun M nM => ⟨M, rfl, upd_same, hd1.ne nM, (fun e => by rw [e, hps] at nM; cases nM), ex1.free nM, (upd_ne (fun e => by rw [← e, hps] at nM; cases nM)).trans hps, ex1.trans (Ex.new nM), hd1.new nM⟩⟩
  clear hps ex1 hd1
  rintro σ1 H1 ⟨M, rfl, hM, nMd, nMp, M0, hps, ex1, hd1⟩
  refine ⟨fun σ' H' => ∃ y6 mv, σ' = [some (.ref dr), some (.int r), some (.int S), some (.ref ps), some (.ref M), y6, none, none] ∧ H' M = some (.lst ((mv : List Int).map V.int)) ∧ mv.length = r ∧ (∀ s ∈ mv, -2 ≤ s ∧ s < r) ∧ H' ps = some (.lst (srV r)) ∧ Ex T [dr] H H' ∧ Dr H' dr, ?_, ?_⟩
  · refine ⟨_, rfl, r, rfl, by omega, by omega, for_range (lo := 0) (n := r) (fun i σ' H' => ∃ y6 mv, σ' = [some (.ref dr), some (.int r), some (.int S), some (.ref ps), some (.ref M), y6, none, none] ∧ H' M = some (.lst ((mv : List Int).map V.int)) ∧ mv.length = i ∧ (∀ s ∈ mv, -2 ≤ s ∧ s < r) ∧ H' ps = some (.lst (srV r)) ∧ Ex T [dr] H H' ∧ Dr H' dr) ⟨_, [], rfl, hM, rfl, (fun s hs => by cases hs), hps, ex1, hd1⟩ ?_ ?_⟩
    · rintro i σ' H2 hi ⟨y6, mv, rfl, hM, hl, hmv, hps, ex2, hd2⟩
      refine ⟨_, rfl, .inl ⟨rfl, _, .inl (.inl hM)⟩, _, rfl, _, rfl, _, rfl, _, rfl, _, rfl, _, rfl, _, rfl, ps, _, rfl, .inl (SqL.of hps), dr, _, rfl, by rw [srV_len]; omega, hd2, fun y H3 y0 y1 ex3 hd3 => ?_⟩
      obtain ⟨z, hz, z0, z1⟩ := srV_at y0 y1
      have hps3 := ex3.lst (by simpa using nps) hps
      refine ⟨ps, _, _, _, rfl, rfl, SqL.of hps3, hz, by show 5 ≤ sizeLine; decide, fun l nl => ⟨_, rfl, dr, 5, rfl, by decide, hd3.new nl, fun y' H4 w0 w1 ex4 hd4 => ?_⟩⟩
      have x34 := ((ex3.trans (Ex.new (o := .lst [.int (0 + (i : Nat)), .int (0 + (i : Nat)), .int (-1), .int (-1), .int z]) nl)).trans ex4)
      have hl4 : H4 l = some (.lst (([0 + (i : Int), 0 + (i : Int), -1, -1, z] : List Int).map V.int)) := ex4.lst (by simpa using hd3.ne nl) upd_same
      obtain ⟨v, hv, hat⟩ := menu_at (xs := ([0 + (i : Int), 0 + (i : Int), -1, -1, z] : List Int).map V.int) w0 w1
      obtain ⟨u, hu, rfl⟩ := List.mem_map.mp hv
      have hu' : -2 ≤ u ∧ u < r := by
        simp only [List.mem_cons, List.not_mem_nil, or_false] at hu
        omega
      have hM4 := x34.lst (by simpa using nMd) hM
      refine ⟨l, _, _, _, rfl, rfl, SqL.of hl4, hat, M, _, _, rfl, rfl, hM4, by rw [List.length_map]; exact small5000 (by omega), _, mv ++ [u], rfl, by rw [upd_same, iv_snoc], by rw [List.length_append, hl]; rfl, fun s hs => ?_, (upd_ne nMp.symm).trans (x34.lst (by simpa using nps) hps), (ex2.trans x34).put M0 wd, hd4.put nMd.symm⟩
      rcases List.mem_append.mp hs with h | h
      · exact hmv s h
      · obtain rfl := List.mem_singleton.mp h
        exact hu'
    · rintro σ' H2 ⟨y6, mv, rfl, hM, hl, hmv, hps, ex2, hd2⟩
      exact ⟨y6, mv, rfl, hM, hl, hmv, hps, ex2, hd2⟩
  clear hM hps ex1 hd1
  rintro σ1 H1 ⟨y6, mv, rfl, hM, hl, hmv, hps, ex1, hd1⟩
  refine ⟨fun σ' H' => ∃ Z, σ' = [some (.ref dr), some (.int r), some (.int S), some (.ref ps), some (.ref M), y6, some (.ref Z), none] ∧ H' Z = some (.lst []) ∧ Z ≠ dr ∧ Z ≠ ps ∧ Z ≠ M ∧ H Z = none ∧ H' M = some (.lst (mv.map V.int)) ∧ H' ps = some (.lst (srV r)) ∧ Ex T [dr] H H' ∧ Dr H' dr, ?_, ?_⟩
  · refine ⟨Nat.zero_le _, fun Z nZ => ?_⟩
    have zp : Z ≠ ps := fun e => by rw [e, hps] at nZ; cases nZ
    have zm : Z ≠ M := fun e => by rw [e, hM] at nZ; cases nZ
    exact ⟨Z, rfl, upd_same, hd1.ne nZ, zp, zm, ex1.free nZ, (upd_ne zm.symm).trans hM, (upd_ne zp.symm).trans hps, ex1.trans (Ex.new nZ), hd1.new nZ⟩
  clear hM hps ex1 hd1
  rintro σ1 H1 ⟨Z, rfl, hZ, nZd, nZp, nZm, Z0, hM, hps, ex1, hd1⟩
  refine ⟨by show 6 ≤ sizeLine; decide, fun p np => ⟨_, rfl, dr, 6, rfl, by decide, hd1.new np, fun y H2 y0 y1 ex2 hd2 => ?_⟩⟩
  obtain ⟨v, hv, hat⟩ := menu_at (xs := ([0, 0, 1, 1, 2, 4] : List Int).map V.int) y0 y1
  obtain ⟨z, hz, rfl⟩ := List.mem_map.mp hv
  simp only [List.mem_cons, List.not_mem_nil, or_false] at hz
  have z0 : 0 ≤ z := by omega
  have z8 : z ≤ 8 := by omega
  have x12 := (Ex.new (T := T) (ms := [dr]) (o := .lst (([0, 0, 1, 1, 2, 4] : List Int).map V.int)) np).trans ex2
  refine ⟨p, _, _, _, rfl, rfl, SqL.of (ex2.lst (by simpa using hd1.ne np) upd_same), hat, z, rfl, by omega, by omega, for_range (lo := 0) (n := z.toNat) (fun i σ' H' => ∃ y8 sy, σ' = [some (.ref dr), some (.int r), some (.int S), some (.ref ps), some (.ref M), y6, some (.ref Z), y8] ∧ Col K T [dr] Z H H' ((sy : List (Int × Int)).map encSay) ∧ sy.length = i ∧ (∀ p ∈ sy, 0 ≤ p.1 ∧ -2 ≤ p.2 ∧ p.2 < r) ∧ H' M = some (.lst (mv.map V.int)) ∧ H' ps = some (.lst (srV r)) ∧ Dr H' dr) ⟨_, [], rfl, ⟨ex1.trans x12, [], x12.lst (by simpa using nZd) hZ, Ats.mk_nil⟩, rfl, (fun s hs => by cases hs), x12.lst (by simpa using nMd) hM, x12.lst (by simpa using nps) hps, hd2⟩ ?_ ?_⟩
  · rintro i σ' H3 hi ⟨y8, sy, rfl, cl, hls, hsy, hM, hps, hd3⟩
    obtain ⟨ex3, xs, hZ3, ats3⟩ := id cl
    refine ⟨_, rfl, .inl ⟨rfl, _, .inl (.inl hZ3)⟩, by show 6 ≤ sizeLine; decide, fun l nl => ⟨_, rfl, dr, 6, rfl, by decide, hd3.new nl, fun y' H4 w0 w1 ex4 hd4 => ?_⟩⟩
    have x34 := ((Ex.new (T := T) (ms := [dr]) (o := .lst [.int 0, .int 0, .int 1, .int 1, .int 2, .int 7]) nl).trans ex4)
    have hl4 : H4 l = some (.lst (([0, 0, 1, 1, 2, 7] : List Int).map V.int)) := ex4.lst (by simpa using hd3.ne nl) upd_same
    obtain ⟨v, hv, hat⟩ := menu_at (xs := ([0, 0, 1, 1, 2, 7] : List Int).map V.int) w0 w1
    obtain ⟨u, hu, rfl⟩ := List.mem_map.mp hv
    have hu' : 0 ≤ u := by
      simp only [List.mem_cons, List.not_mem_nil, or_false] at hu
      rcases hu with rfl | rfl | rfl | rfl | rfl | rfl <;> decide
    have hps4 := x34.lst (by simpa using nps) hps
    refine ⟨l, _, _, _, rfl, rfl, SqL.of hl4, hat, _, rfl, _, rfl, _, rfl, ps, _, rfl, .inl (SqL.of hps4), dr, _, rfl, by rw [srV_len]; omega, hd4, fun y2 H5 v0 v1 ex5 hd5 => ?_⟩
    obtain ⟨s, hs, s0, s1⟩ := srV_at v0 v1
    have hps5 := ex5.lst (by simpa using nps) hps4
    refine ⟨ps, _, _, _, rfl, rfl, SqL.of hps5, hs, by show 2 ≤ sizeLine; decide, fun l2 nl2 => ?_⟩
    have x36 := (x34.trans ex5).trans (Ex.new (o := .tup [.int u, .int s]) nl2)
    obtain ⟨acc, k1, k2, k3⟩ := cl.put Z0 (by simpa using nZd) wd x36 (d := encSay (u, s)) (x := .ref l2) (At.laid nl2 (Ats.mk (at_int.mpr rfl) (Ats.mk (at_int.mpr rfl) Ats.mk_nil))) (by rw [List.length_map]; omega)
    refine ⟨Z, _, _, rfl, rfl, k1, k2, _, sy ++ [(u, s)], rfl, ?_, by rw [List.length_append, hls]; rfl, fun p' hp => ?_, (upd_ne nZm.symm).trans (x36.lst (by simpa using nMd) hM), (upd_ne nZp.symm).trans (x36.lst (by simpa using nps) hps), (hd5.new nl2).put nZd.symm⟩
    · rw [List.map_append]
      exact k3
    · rcases List.mem_append.mp hp with h | h
      · exact hsy p' h
      · obtain rfl := List.mem_singleton.mp h
        exact ⟨hu', s0, s1⟩
  · rintro σ' H3 ⟨y8, sy, rfl, cl, hls, hsy, hM, hps, hd3⟩
    obtain ⟨ex3, xs, hZ3, ats3⟩ := cl
    refine ⟨_, rfl, _, rfl, dr, r, 1, 2, rfl, rfl, by decide, hr0, ex3.wd wd, hd3, fun vc H4 c atc okc ex4 hd4 => ?_⟩
    have hM4 := ex4.lst (by simpa using nMd) hM
    have hZ4 := ex4.lst (by simpa using nZd) hZ3
    have ats4 := Ats.ext ex4 ats3
    refine ⟨_, rfl, M, _, rfl, .inl ⟨SqL.of hM4, fun l nl => ?_⟩⟩
    have x5 := Ex.new (T := T) (ms := [dr]) (o := .tup (mv.map V.int)) nl
    have aM : At K (upd H4 l (.tup (mv.map V.int))) (.ref l) (.tup (mv.map D.int)) := At.laid nl (ats_int.mpr rfl)
    have d5 := hd4.new (o := .tup (mv.map V.int)) nl
    have z5 := x5.lst (by simpa using nZd) hZ4
    generalize upd H4 l (.tup (mv.map V.int)) = H5 at *
    refine ⟨_, rfl, Z, _, rfl, .inl ⟨SqL.of z5, fun l2 nl2 => ?_⟩⟩
    have x6 := Ex.new (T := T) (ms := [dr]) (o := .tup xs) nl2
    have aS : At K (upd H5 l2 (.tup xs)) (.ref l2) (.tup (sy.map encSay)) := At.laid nl2 (ats4.ext x5)
    have d6 := d5.new (o := .tup xs) nl2
    generalize upd H5 l2 (.tup xs) = H6 at *
    refine ⟨_, rfl, _, rfl, dr, S, rfl, by omega, d6, fun y9 H7 u0 u1 ex7 hd7 => ⟨by show 4 ≤ sizeLine; decide, fun l3 nl3 => ?_⟩⟩
    obtain ⟨y9, rfl⟩ := Int.eq_ofNat_of_zero_le u0
    have x47 := (x5.trans x6).trans ex7
    refine q _ _ ⟨c, mv, sy, y9⟩ (At.laid nl3 (Ats.mk (atc.ext x47) (Ats.mk (aM.ext (x6.trans ex7)) (Ats.mk (aS.ext ex7) (Ats.mk (at_int.mpr rfl) Ats.mk_nil))))) ⟨okc, hl, hmv, hsy, by show sy.length ≤ 1000; omega, by show y9 < S; omega⟩ (by show sy.length ≤ 8; omega) (((ex3.trans ex4).trans x47).trans (Ex.new nl3)) (hd7.new nl3)

abbrev N__law_machine : List Str := ["draws", "tags", "registers", "standings", "steps", "s", "rows", "t", "cases", "k"]
theorem sc__law_machine : FnScope N__law_machine ["draws", "tags", "registers", "standings"] (defScope s__law_machine) := ⟨rfl, rfl, rfl, by decide +kernel, rfl, by decide +kernel, by decide +kernel⟩
def sp__law_machine (K : PySem.W.Frag) (T : List Addr) : Sp := fun vs H Q _ => ∃ (dr : Addr) (t r S : Nat), vs = [.ref dr, .int t, .int r, .int S] ∧ 1 ≤ t ∧ t ≤ 100 ∧ r ≤ 60 ∧ 1 ≤ S ∧ S ≤ 100 ∧ Wd T H ∧ Dr H dr ∧
  ∀ v H' m, At K H' v (encM m) → okM 2 m → wid 3 m → m.regs = r → m.tags = t → Ex T [dr] H H' → Dr H' dr → Q v H'
theorem ok__law_machine {f : Addr} {fd : FuncData} {k : Nat} {T : List Addr} (F : Fun K "_law_machine" "_law_machine" s__law_machine f fd) (m_range : mg "range" = none) (m_tuple : mg "tuple" = none)
    {a__law_take : Addr} {d__law_take : FuncData} (G__law_take : FnOk P w K mg base CX0 k a__law_take d__law_take ["draws", "many"] (sp__law_take T)) (k__law_take : PySem.W.keepIn K (.ref a__law_take) = true) (b__law_take : Binds K d__law_take ["draws", "many"] []) (m__law_take : mg "_law_take" = some (.ref a__law_take))
    {a__law_case : Addr} {d__law_case : FuncData} (G__law_case : FnOk P w K mg base CX0 k a__law_case d__law_case ["draws", "registers", "standings"] (sp__law_case K T)) (k__law_case : PySem.W.keepIn K (.ref a__law_case) = true) (b__law_case : Binds K d__law_case ["draws", "registers", "standings"] []) (m__law_case : mg "_law_case" = some (.ref a__law_case)) :
    FnOk P w K mg base CX0 (k + 1) f fd ["draws", "tags", "registers", "standings"] (sp__law_machine K T) := by
  refine F.ok sc__law_machine (fun vs H Q E h => ?_) (fun cdv A outer s H vs Q E hr h => ?_)
  · obtain ⟨dr, t, r, S, rfl, _⟩ := h
    rfl
  obtain ⟨dr, t, r, S, rfl, t1, t2, hr0, S1, S2, wd, hd, q⟩ := h
  refine ⟨_, (pss_cons (ps_set (i := 4) sc__law_machine.nd rfl (.inl rfl) (pe_lst pa_nil))
    (pss_cons (ps_for PassesOwn.never rfl (pi_range1 rfl m_range (pa_cons (pv 3) pa_nil)) (pg_name (i := 5) sc__law_machine.nd rfl (.inl rfl))
      (C8.pss_cut (ps_set (i := 6) sc__law_machine.nd rfl (.inl rfl) (pe_lst pa_nil))
      (pss_cons (ps_for PassesOwn.never rfl (pi_range1 rfl m_range (pa_cons (pv 1) pa_nil)) (pg_name (i := 7) sc__law_machine.nd rfl (.inl rfl))
        (C8.pss_cut (ps_set (i := 8) sc__law_machine.nd rfl (.inl rfl) (pe_lst pa_nil))
        (pss_cons (ps_for PassesOwn.never rfl (pi_range1 rfl m_range (pa_cons (pe_ix ix_list (pe_lst (pa_cons pe_int (pa_cons pe_int (pa_cons pe_int (pa_cons pe_int (pa_cons pe_int (pa_cons pe_int pa_nil))))))) (pe_call G__law_take hr (by rfl) m__law_take k__law_take b__law_take .nil pass0 (pa_cons (pv 0) (pa_cons pe_int pa_nil))) (fun _ _ => rfl)) pa_nil)) (pg_name (i := 9) sc__law_machine.nd rfl (.inl rfl))
          (pss_one (ps_expr (pe_bm PySem.F.plainAttrs_list PySem.F.slot_list_append PySem.F.type_list_append mt_append (pv 8) (pa_cons (pe_call G__law_case hr (by rfl) m__law_case k__law_case b__law_case .nil pass0 (pa_cons (pv 0) (pa_cons (pv 2) (pa_cons (pv 3) pa_nil)))) pa_nil)))))
        (pss_one (ps_expr (pe_bm PySem.F.plainAttrs_list PySem.F.slot_list_append PySem.F.type_list_append mt_append (pv 6) (pa_cons (pe_callTy call_tuple_of (by rfl) m_tuple (by decide +kernel) (pa_cons (pv 8) pa_nil)) pa_nil)))))))
      (pss_one (ps_expr (pe_bm PySem.F.plainAttrs_list PySem.F.slot_list_append PySem.F.type_list_append mt_append (pv 4) (pa_cons (pe_callTy call_tuple_of (by rfl) m_tuple (by decide +kernel) (pa_cons (pv 6) pa_nil)) pa_nil)))))))
    (pss_one (ps_ret (pe_tup (pa_cons (pv 1) (pa_cons (pv 2) (pa_cons (pe_callTy call_tuple_of (by rfl) m_tuple (by decide +kernel) (pa_cons (pv 4) pa_nil)) pa_nil)))))))), ?_⟩
  refine ⟨Nat.zero_le _, fun A0 nA => ?_⟩
  have nAd := hd.ne nA
  refine ⟨_, rfl, S, rfl, by omega, by omega, for_range (lo := 0) (n := S) (fun i σ' H' => (∃ y5 y6 y7 y8 y9, σ' = [some (.ref dr), some (.int t), some (.int r), some (.int S), some (.ref A0), y5, y6, y7, y8, y9]) ∧ Dr H' dr ∧ ∃ ss : List (List (List Case)), Col K T [dr] A0 H H' (ss.map encSt) ∧ ss.length = i ∧ ∀ s ∈ ss, s.length = t ∧ ∀ cs ∈ s, cs.length ≤ 3 ∧ ∀ c ∈ cs, okCase r S 2 c) ⟨⟨_, _, _, _, _, rfl⟩, hd.new nA, [], Col.start Ex.refl nA, rfl, fun s hs => by cases hs⟩ ?_ ?_⟩
  · rintro i σ' H3 hi ⟨⟨y5, y6, y7, y8, y9, rfl⟩, hd3, ss, cl, hl, hss⟩
    have wd3 := cl.1.wd wd
    refine ⟨fun σ' H' => ∃ B, σ' = [some (.ref dr), some (.int t), some (.int r), some (.int S), some (.ref A0), some (.int (0 + (i : Nat))), some (.ref B), y7, y8, y9] ∧ B ≠ dr ∧ H3 B = none ∧ Col K T [dr] B H3 H' [] ∧ Dr H' dr, ?_, ?_⟩
    · exact ⟨Nat.zero_le _, fun B nB => ⟨B, rfl, hd3.ne nB, nB, Col.start Ex.refl nB, hd3.new nB⟩⟩
    rintro σ1 H4 ⟨B, rfl, nBd, B0, clB, hd4⟩
    refine ⟨_, rfl, t, rfl, by omega, by omega, for_range (lo := 0) (n := t) (fun j σ' H' => (∃ y7 y8 y9, σ' = [some (.ref dr), some (.int t), some (.int r), some (.int S), some (.ref A0), some (.int (0 + (i : Nat))), some (.ref B), y7, y8, y9]) ∧ Dr H' dr ∧ ∃ s : List (List Case), Col K T [dr] B H3 H' (s.map encCases) ∧ s.length = j ∧ ∀ cs ∈ s, cs.length ≤ 3 ∧ ∀ c ∈ cs, okCase r S 2 c) ⟨⟨_, _, _, rfl⟩, hd4, [], clB, rfl, fun s hs => by cases hs⟩ ?_ ?_⟩
    · rintro j σ' H5 hj ⟨⟨y7, y8, y9, rfl⟩, hd5, s, clS, hls, hs⟩
      have wd5 := clS.1.wd wd3
      refine ⟨fun σ' H' => ∃ Z, σ' = [some (.ref dr), some (.int t), some (.int r), some (.int S), some (.ref A0), some (.int (0 + (i : Nat))), some (.ref B), some (.int (0 + (j : Nat))), some (.ref Z), y9] ∧ Z ≠ dr ∧ H5 Z = none ∧ Col K T [dr] Z H5 H' [] ∧ Dr H' dr, ?_, ?_⟩
      · exact ⟨Nat.zero_le _, fun Z nZ => ⟨Z, rfl, hd5.ne nZ, nZ, Col.start Ex.refl nZ, hd5.new nZ⟩⟩
      rintro σ1 H6 ⟨Z, rfl, nZd, Z0, clZ, hd6⟩
      refine ⟨by show 6 ≤ sizeLine; decide, fun p np => ⟨_, rfl, dr, 6, rfl, by decide, hd6.new np, fun y H7 y0 y1 ex7 hd7 => ?_⟩⟩
      obtain ⟨v, hv, hat⟩ := menu_at (xs := ([1, 1, 2, 2, 3, 0] : List Int).map V.int) y0 y1
      obtain ⟨z, hz, rfl⟩ := List.mem_map.mp hv
      simp only [List.mem_cons, List.not_mem_nil, or_false] at hz
      have z0 : 0 ≤ z := by omega
      have z3 : z ≤ 3 := by omega
      have x67 := (Ex.new (T := T) (ms := [dr]) (o := .lst (([1, 1, 2, 2, 3, 0] : List Int).map V.int)) np).trans ex7
      refine ⟨p, _, _, _, rfl, rfl, SqL.of (ex7.lst (by simpa using hd6.ne np) upd_same), hat, z, rfl, by omega, by omega, for_range (lo := 0) (n := z.toNat) (fun k σ' H' => (∃ y9, σ' = [some (.ref dr), some (.int t), some (.int r), some (.int S), some (.ref A0), some (.int (0 + (i : Nat))), some (.ref B), some (.int (0 + (j : Nat))), some (.ref Z), y9]) ∧ Dr H' dr ∧ ∃ cs : List Case, Col K T [dr] Z H5 H' (cs.map encCase) ∧ cs.length = k ∧ ∀ c ∈ cs, okCase r S 2 c) ⟨⟨_, rfl⟩, hd7, [], clZ.ext (by simpa using nZd) x67, rfl, fun s hs => by cases hs⟩ ?_ ?_⟩
      · rintro k σ' H8 hk ⟨⟨y9, rfl⟩, hd8, cs, clC, hlc, hcs⟩
        have wd8 := clC.1.wd wd5
        obtain ⟨_, as0, hZ8, ats8⟩ := id clC
        refine ⟨_, rfl, .inl ⟨rfl, _, .inl (.inl hZ8)⟩, _, rfl, _, rfl, _, rfl, dr, r, S, rfl, S1, by omega, wd8, hd8, fun vk H10 ck atk okk _ ex10 hd10 => ?_⟩
        obtain ⟨acc, k1, k2, k3⟩ := clC.put Z0 (by simpa using nZd) wd5 ex10 (d := encCase ck) atk (by rw [List.length_map]; omega)
        refine ⟨Z, _, _, rfl, rfl, k1, k2, ⟨_, rfl⟩, hd10.put nZd.symm, cs ++ [ck], ?_, by rw [List.length_append, hlc]; rfl, fun c' hc' => ?_⟩
        · rw [List.map_append]
          exact k3
        · rcases List.mem_append.mp hc' with h | h
          · exact hcs c' h
          · obtain rfl := List.mem_singleton.mp h
            exact okk
      · rintro σ' H8 ⟨⟨y9, rfl⟩, hd8, cs, ⟨ex8, as0, hZ8, ats8⟩, hlc, hcs⟩
        obtain ⟨_, bs0, hB5, atsB⟩ := id clS
        have hB8 := ex8.lst (by simpa using nBd) hB5
        refine ⟨_, rfl, .inl ⟨rfl, _, .inl (.inl hB8)⟩, _, rfl, Z, _, rfl, .inl ⟨SqL.of hZ8, fun l nl => ?_⟩⟩
        obtain ⟨acc, k1, k2, k3⟩ := clS.put B0 (by simpa using nBd) wd3 (ex8.trans (Ex.new nl)) (x := .ref l) (d := encCases cs) (At.laid nl ats8) (by rw [List.length_map]; omega)
        refine ⟨B, _, _, rfl, rfl, k1, k2, ⟨_, _, _, rfl⟩, (hd8.new nl).put nBd.symm, s ++ [cs], ?_, by rw [List.length_append, hls]; rfl, fun c' hc' => ?_⟩
        · rw [List.map_append]
          exact k3
        · rcases List.mem_append.mp hc' with h | h
          · exact hs c' h
          · obtain rfl := List.mem_singleton.mp h
            exact ⟨by omega, hcs⟩
    · rintro σ' H8 ⟨⟨y7, y8, y9, rfl⟩, hd8, s, ⟨ex8, bs0, hB8, atsB⟩, hls, hs⟩
      obtain ⟨_, as0, hA3, atsA⟩ := id cl
      have hA8 := ex8.lst (by simpa using nAd) hA3
      refine ⟨_, rfl, .inl ⟨rfl, _, .inl (.inl hA8)⟩, _, rfl, B, _, rfl, .inl ⟨SqL.of hB8, fun l nl => ?_⟩⟩
      obtain ⟨acc, k1, k2, k3⟩ := cl.put nA (by simpa using nAd) wd (ex8.trans (Ex.new nl)) (x := .ref l) (d := encSt s) (At.laid nl atsB) (by rw [List.length_map]; omega)
      refine ⟨A0, _, _, rfl, rfl, k1, k2, ⟨_, _, _, _, _, rfl⟩, (hd8.new nl).put nAd.symm, ss ++ [s], ?_, by rw [List.length_append, hl]; rfl, fun c' hc' => ?_⟩
      · rw [List.map_append]
        exact k3
      · rcases List.mem_append.mp hc' with h | h
        · exact hss c' h
        · obtain rfl := List.mem_singleton.mp h
          exact ⟨hls, hs⟩
  · rintro σ' H3 ⟨⟨y5, y6, y7, y8, y9, rfl⟩, hd3, ss, ⟨ex3, as0, hA3, atsA⟩, hl, hss⟩
    refine ⟨_, rfl, _, rfl, _, rfl, A0, _, rfl, .inl ⟨SqL.of hA3, fun l nl => ⟨by show 3 ≤ sizeLine; decide, fun l2 nl2 => ?_⟩⟩⟩
    refine q _ _ ⟨t, r, ss⟩ (At.laid nl2 (Ats.mk (at_int.mpr rfl) (Ats.mk (at_int.mpr rfl) (Ats.mk (At.laid nl atsA) Ats.mk_nil)))) ⟨t1, by show t ≤ 1000; omega, by show r ≤ 1000; omega, by show 0 < ss.length; omega, by show ss.length ≤ 1000; omega, fun s hs => (hss s hs).1, fun s hs cs hcs => ?_⟩ (fun s hs cs hcs => ((hss s hs).2 cs hcs).1) rfl rfl ((ex3.trans (Ex.new nl)).trans (Ex.new nl2)) ((hd3.new nl).new nl2)
    have := (hss s hs).2 cs hcs
    refine ⟨by omega, fun c hc => ?_⟩
    show okCase r ss.length 2 c
    rw [hl]
    exact this.2 c hc

abbrev N__law_cell : List Str := ["script", "k"]
theorem sc__law_cell : FnScope N__law_cell ["script", "k"] (defScope s__law_cell) := ⟨rfl, rfl, rfl, by decide +kernel, rfl, by decide +kernel, by decide +kernel⟩
def sp__law_cell (K : PySem.W.Frag) : Sp := fun vs H Q _ => ∃ (sa : Addr) (ns : List Int) (k : Nat), vs = [.ref sa, .int k] ∧ SqL K H sa (ns.map V.int) ∧ ∀ z, Q (.int z) H
theorem ok__law_cell {f : Addr} {fd : FuncData} {k : Nat}  (F : Fun K "_law_cell" "_law_cell" s__law_cell f fd) (m_len : mg "len" = none) (m_int : mg "int" = none) :
    FnOk P w K mg base CX0 (k + 1) f fd ["script", "k"] (sp__law_cell K) := by
  refine F.ok sc__law_cell (fun vs H Q E h => ?_) (fun cdv A outer s H vs Q E hr h => ?_)
  · obtain ⟨sa, ns, k, rfl, _⟩ := h
    rfl
  obtain ⟨sa, ns, k, rfl, sq, q⟩ := h
  refine ⟨_, (pss_cons (ps_if (pt_cmpR op_lt (pv 1) (pe_callB call_len_seq (by rfl) m_len PySem.boot_len (pa_cons (pv 0) pa_nil)) (nomark _))
      (pss_one (ps_ret (pe_callTy call_int1 (by rfl) m_int (by decide +kernel) (pa_cons (pe_ix ix_list (pv 0) (pv 1) (fun _ _ => rfl)) pa_nil))))
      pss_nil)
    (pss_one (ps_ret pe_int))), ?_⟩
  refine ⟨_, rfl, _, rfl, sa, _, rfl, .inl sq, _, _, rfl, rfl, _, rfl, ite2 (fun c => ?_) (fun c => ?_)⟩
  · have c' : (k : Int) < ((ns.map V.int).length : Nat) := of_decide_eq_true c
    rw [List.length_map] at c'
    have hk : k < ns.length := by omega
    exact ⟨_, rfl, _, rfl, sa, _, _, _, rfl, rfl, sq, atI_nat (show (ns.map V.int)[k]? = some (V.int ns[k]) by rw [List.getElem?_map, List.getElem?_eq_getElem hk]; rfl), .inl ⟨_, rfl, q _⟩⟩
  · exact q 0

abbrev N__law_same : List Str := ["actual", "due", "k"]
theorem sc__law_same : FnScope N__law_same ["actual", "due"] (defScope s__law_same) := ⟨rfl, rfl, rfl, by decide +kernel, rfl, by decide +kernel, by decide +kernel⟩
/-- both are the same datum: True -/
def sp__law_same (K : PySem.W.Frag) (n : Nat) : Sp := fun vs H Q _ => ∃ (x y : V) (d : D), vs = [x, y] ∧ At K H x d ∧ At K H y d ∧ (∃ m, n = m + 1 ∧ nbD m d) ∧ Q (.bl true) H
theorem ok__law_same {f : Addr} {fd : FuncData} {k : Nat}  (F : Fun K "_law_same" "_law_same" s__law_same f fd) (m_isinstance : mg "isinstance" = none) (m_tuple : mg "tuple" = none) (m_len : mg "len" = none) (m_range : mg "range" = none) (m_str : mg "str" = none) (m_int : mg "int" = none) (m_bool : mg "bool" = none) (bF : Binds K fd ["actual", "due"] []) (mF : mg "_law_same" = some (.ref f)) :
    ∀ n : Nat, FnOk P w K mg base CX0 (n + 1) f fd ["actual", "due"] (sp__law_same K n) := by
  intro n
  induction n with
  | zero =>
    have no : ∀ vs H Q E, ¬ sp__law_same K 0 vs H Q E := fun vs H Q E h => by
      obtain ⟨x, y, d, _, _, _, ⟨m, e, _⟩, _⟩ := h
      omega
    exact ⟨fun vs H Q E h => absurd h (no vs H Q E), fun A outer s H args us vs Q E _ _ _ _ h => absurd h (no vs H Q E)⟩
  | succ n ih =>
  refine F.ok sc__law_same (fun vs H Q E h => ?_) (fun cdv A outer s H vs Q E hr h => ?_)
  · obtain ⟨x, y, d, rfl, _⟩ := h
    rfl
  obtain ⟨x, y, d, rfl, hx, hy, ⟨m, em, od⟩, q⟩ := h
  obtain rfl : n = m := by omega
  refine ⟨_, (pss_cons (ps_if (pt_val (pe_callB call_isi (by rfl) m_isinstance (by decide +kernel) (pa_cons (pv 1) (pa_cons (pe_bltn (v := .ty "tuple") (by rfl) m_tuple (by decide +kernel) rfl) pa_nil))))
      (pss_cons (ps_if (pw_or (pt_not (pt_val (pe_callB call_isi (by rfl) m_isinstance (by decide +kernel) (pa_cons (pv 0) (pa_cons (pe_bltn (v := .ty "tuple") (by rfl) m_tuple (by decide +kernel) rfl) pa_nil))))) (pw_or1 (pt_cmpR op_ne (pe_callB call_len_seq (by rfl) m_len PySem.boot_len (pa_cons (pv 0) pa_nil)) (pe_callB call_len_seq (by rfl) m_len PySem.boot_len (pa_cons (pv 1) pa_nil)) (nomark _)))).pt
        (pss_one (ps_ret pe_bl))
        pss_nil)
      (pss_cons (ps_for PassesOwn.never rfl (pi_range1 rfl m_range (pa_cons (pe_callB call_len_seq (by rfl) m_len PySem.boot_len (pa_cons (pv 1) pa_nil)) pa_nil)) (pg_name (i := 2) sc__law_same.nd rfl (.inl rfl))
        (pss_one (ps_if (pt_not (pt_val (pe_call ih hr (by rfl) mF F.kp bF .nil pass0 (pa_cons (pe_ix ix_tup (pv 0) (pv 2) (fun _ _ => rfl)) (pa_cons (pe_ix ix_tup (pv 1) (pv 2) (fun _ _ => rfl)) pa_nil)))))
          (pss_one (ps_ret pe_bl))
          pss_nil)))
      (pss_one (ps_ret pe_bl))))
      pss_nil)
    (pss_cons (ps_if (pt_cmp (pc_isN (pv 1)) rfl)
      (pss_one (ps_ret (pe_cmp (pc_isN (pv 0)) rfl)))
      pss_nil)
    (pss_cons (ps_if (pt_val (pe_callB call_isi (by rfl) m_isinstance (by decide +kernel) (pa_cons (pv 1) (pa_cons (pe_bltn (v := .ty "str") (by rfl) m_str (by decide +kernel) rfl) pa_nil))))
      (pss_one (ps_ret (pe_and (pe_callB call_isi (by rfl) m_isinstance (by decide +kernel) (pa_cons (pv 0) (pa_cons (pe_bltn (v := .ty "str") (by rfl) m_str (by decide +kernel) rfl) pa_nil))) (pe_one (pe_cmpR op_eq (pv 0) (pv 1) (nomark _))))))
      pss_nil)
    (pss_one (ps_ret (pe_and (pe_callB call_isi (by rfl) m_isinstance (by decide +kernel) (pa_cons (pv 0) (pa_cons (pe_bltn (v := .ty "int") (by rfl) m_int (by decide +kernel) rfl) pa_nil))) (pe_and (pe_not (pe_callB call_isi (by rfl) m_isinstance (by decide +kernel) (pa_cons (pv 0) (pa_cons (pe_bltn (v := .ty "bool") (by rfl) m_bool (by decide +kernel) rfl) pa_nil)))) (pe_one (pe_cmpR op_eq (pv 0) (pv 1) (nomark _)))))))))), ?_⟩
  cases d with
  | tup ds =>
    obtain ⟨a, xs, rfl, sa, ra⟩ := at_tup.mp hx
    obtain ⟨b, ys, rfl, sb, rb⟩ := at_tup.mp hy
    have la := ra.length
    have lb := rb.length
    refine ⟨_, rfl, _, _, _, _, true, rfl, .ty "tuple", ty_sqT sb, kit_ty (by decide +kernel), _, rfl, iteT ?_⟩
    refine ⟨_, rfl, _, _, _, _, true, rfl, .ty "tuple", ty_sqT sa, kit_ty (by decide +kernel), _, rfl, iteF ?_⟩
    refine ⟨_, rfl, a, _, rfl, .inr sa, _, rfl, b, _, rfl, .inr sb, rfl, _, rfl, ?_⟩
    rw [show decide (V.int ((xs.length : Nat) : Int) = V.int ((ys.length : Nat) : Int)) = true from decide_eq_true (by rw [la, lb])]
    refine iteF ?_
    cases n with
    | zero => unfold nbD at od; exact od.elim
    | succ n =>
    unfold nbD at od
    obtain ⟨ol, od⟩ := od
    refine ⟨_, rfl, b, _, rfl, .inr sb, _, rfl, by omega, by omega, for_range (lo := 0) (n := ys.length) (fun i σ' H' => (∃ y2, σ' = [some (.ref a), some (.ref b), y2]) ∧ H' = H) ?_ ?_ ?_⟩
    · exact ⟨⟨_, rfl⟩, rfl⟩
    · rintro i σ' H' hi ⟨⟨y2, rfl⟩, rfl⟩
      obtain ⟨x1, hx1, hx2⟩ := ra.get (List.getElem?_eq_getElem (i := i) (by omega))
      obtain ⟨y1, hy1, hy2⟩ := rb.get (List.getElem?_eq_getElem (i := i) (by omega))
      exact ⟨_, rfl, _, rfl, a, _, _, _, rfl, rfl, sa, nat_at hx1, _, rfl, _, rfl, b, _, _, _, rfl, rfl, sb, nat_at hy1, x1, y1, _, rfl, hx2, hy2, ⟨n, rfl, nbDs_get od (List.getElem?_eq_getElem (i := i) (by omega))⟩, _, rfl, iteF ⟨⟨_, rfl⟩, rfl⟩⟩
    · rintro σ' H' ⟨⟨y2, rfl⟩, rfl⟩
      exact q
  | non =>
    cases at_non.mp hx
    cases at_non.mp hy
    refine ⟨_, rfl, _, _, _, _, false, rfl, .ty "tuple", .base (.non), kit_ty (by decide +kernel), _, rfl, iteF ?_⟩
    exact ⟨_, rfl, _, rfl, iteT ⟨_, rfl, q⟩⟩
  | str z =>
    cases at_str.mp hx
    cases at_str.mp hy
    refine ⟨_, rfl, _, _, _, _, false, rfl, .ty "tuple", .base (.str z), kit_ty (by decide +kernel), _, rfl, iteF ?_⟩
    refine ⟨_, rfl, _, rfl, iteF ?_⟩
    refine ⟨_, rfl, _, _, _, _, true, rfl, .ty "str", .base (.str z), kit_ty (by decide +kernel), _, rfl, iteT ?_⟩
    refine ⟨_, rfl, _, _, _, _, true, rfl, .ty "str", .base (.str z), kit_ty (by decide +kernel), _, rfl, iteT ?_⟩
    refine ⟨_, rfl, _, rfl, rfl, ?_⟩
    rw [decide_eq_true rfl]
    exact q
  | bl z => cases n <;> (unfold nbD at od; exact od.elim)
  | int z =>
    cases at_int.mp hx
    cases at_int.mp hy
    refine ⟨_, rfl, _, _, _, _, false, rfl, .ty "tuple", .base (.int z), kit_ty (by decide +kernel), _, rfl, iteF ?_⟩
    refine ⟨_, rfl, _, rfl, iteF ?_⟩
    refine ⟨_, rfl, _, _, _, _, false, rfl, .ty "str", .base (.int z), kit_ty (by decide +kernel), _, rfl, iteF ?_⟩
    refine ⟨_, rfl, _, _, _, _, true, rfl, .ty "int", .base (.int z), kit_ty (by decide +kernel), _, rfl, iteT ?_⟩
    refine ⟨_, rfl, _, _, _, _, false, rfl, .ty "bool", .base (.int z), kit_ty (by decide +kernel), _, rfl, _, rfl, iteT ?_⟩
    refine ⟨_, rfl, _, rfl, rfl, ?_⟩
    rw [decide_eq_true rfl]
    exact q

abbrev N__law_is_integer : List Str := ["value"]
theorem sc__law_is_integer : FnScope N__law_is_integer ["value"] (defScope s__law_is_integer) := ⟨rfl, rfl, rfl, by decide +kernel, rfl, by decide +kernel, by decide +kernel⟩
def sp__law_is_integer : Sp := fun vs H Q _ => ∃ (z : Int), vs = [.int z] ∧ Q (.bl true) H
theorem ok__law_is_integer {f : Addr} {fd : FuncData} {k : Nat}  (F : Fun K "_law_is_integer" "_law_is_integer" s__law_is_integer f fd) (m_isinstance : mg "isinstance" = none) (m_int : mg "int" = none) (m_bool : mg "bool" = none) :
    FnOk P w K mg base CX0 (k + 1) f fd ["value"] (sp__law_is_integer ) := by
  refine F.ok sc__law_is_integer (fun vs H Q E h => ?_) (fun cdv A outer s H vs Q E hr h => ?_)
  · obtain ⟨z, rfl, _⟩ := h
    rfl
  obtain ⟨z, rfl, q⟩ := h
  refine ⟨_, (pss_one (ps_ret (pe_and (pe_callB call_isi (by rfl) m_isinstance (by decide +kernel) (pa_cons (pv 0) (pa_cons (pe_bltn (v := .ty "int") (by rfl) m_int (by decide +kernel) rfl) pa_nil))) (pe_one (pe_not (pe_callB call_isi (by rfl) m_isinstance (by decide +kernel) (pa_cons (pv 0) (pa_cons (pe_bltn (v := .ty "bool") (by rfl) m_bool (by decide +kernel) rfl) pa_nil)))))))), ?_⟩
  refine ⟨_, rfl, _, _, _, _, true, rfl, .ty "int", .base (.int z), kit_ty (by decide +kernel), _, rfl, iteT ?_⟩
  exact ⟨_, rfl, _, _, _, _, false, rfl, .ty "bool", .base (.int z), kit_ty (by decide +kernel), _, rfl, q⟩

abbrev N__law_spot : List Str := ["held", "value", "values", "other"]
theorem sc__law_spot : FnScope N__law_spot ["held", "value"] (defScope s__law_spot) := ⟨rfl, rfl, rfl, by decide +kernel, rfl, by decide +kernel, by decide +kernel⟩
def sp__law_spot (K : PySem.W.Frag) (T : List Addr) : Sp := fun vs H Q _ => ∃ (x : V) (h : List (Option Int)) (v : Int), vs = [x, .int v] ∧ At K H x (encH h) ∧ h.length < 64 ∧ Wd T H ∧
  ∀ H', Ex T [] H H' → Q (.int (spotN h v)) H'
theorem ok__law_spot {f : Addr} {fd : FuncData} {k : Nat} {T : List Addr} (F : Fun K "_law_spot" "_law_spot" s__law_spot f fd) (m_sorted : mg "sorted" = none) (m_set : mg "set" = none) (m_len : mg "len" = none) (m_int : mg "int" = none) :
    FnOk P w K mg base CX0 (k + 1) f fd ["held", "value"] (sp__law_spot K T) := by
  refine F.ok sc__law_spot (fun vs H Q E h => ?_) (fun cdv A outer s H vs Q E hr h => ?_)
  · obtain ⟨x, h, v, rfl, _⟩ := h
    rfl
  obtain ⟨x, h, v, rfl, hx, few, wd, q⟩ := h
  refine ⟨_, (C8.pss_cut (ps_set (i := 2) sc__law_spot.nd rfl (.inl rfl) (pe_callB (cr_sortedSet rfl) (by rfl) m_sorted boot_sorted (pa_cons (pe_callTy cr_setI (by rfl) m_set (by decide +kernel) (pa_cons (pe_lc (own := [("other", 3)]) (g := (gName 3)) (tt := _) rfl sc__law_spot.nd (pi_tup (pv 0)) (blkOk_by (N := N__law_spot) (sc := defScope s__law_spot) (by decide +kernel))
        (fun _ _ _ _ _ => (pg_name (i := 3) sc__law_spot.nd rfl (.inl rfl))) (fun _ _ _ _ _ => pts_one (pt_cmp (pc_notN (pv 3)) rfl))
        (fun _ _ _ _ _ => (pv 3))) pa_nil)) pa_nil)))
    (pss_one (ps_ret (pe_op op_add (pe_op op_mul pe_int (pe_callB call_len_seq (by rfl) m_len PySem.boot_len (pa_cons (pe_lc (own := [("other", 3)]) (g := (gName 3)) (tt := _) rfl sc__law_spot.nd (pi_list (pv 2)) (blkOk_by (N := N__law_spot) (sc := defScope s__law_spot) (by decide +kernel))
        (fun _ _ _ _ _ => (pg_name (i := 3) sc__law_spot.nd rfl (.inl rfl))) (fun _ _ _ _ _ => pts_one (pt_cmpR op_lt (pv 3) (pv 1) (nomark _)))
        (fun _ _ _ _ _ => (pv 3))) pa_nil))) (pe_callTy call_int1 (by rfl) m_int (by decide +kernel) (pa_cons (pe_cmpR op_in_seq (pv 1) (pv 2) rfl) pa_nil)))))), ?_⟩
  obtain ⟨ah, rfl, sq⟩ := at_encH.mp hx
  refine ⟨fun σ' H' => ∃ (pk : Addr), σ' = [some (.ref ah), some (.int v), some (.ref pk), none] ∧ H' pk = some (.lst ((kn h).map V.int)) ∧ H pk = none ∧ Ex T [] H H', ?_, ?_⟩
  · refine ⟨_, rfl, ah, rfl, ⟨_, sq⟩, fun Z nZ => lc_tup (xs := h.map oV) (fun i H' => Ex T [] H H' ∧ H' Z = some (.lst ((((h.take i).filterMap id).map V.int)))) ⟨Ex.new nZ, upd_same⟩ (fun i H' _ z => z.1.sqT sq) ?_ ?_⟩
    · rintro i x H' hi ⟨ex, hD⟩
      have hi' : i < h.length := by have := (List.getElem?_eq_some_iff.mp hi).1; rw [List.length_map] at this; exact this
      rw [List.getElem?_map, List.getElem?_eq_getElem hi'] at hi
      cases hi
      have et : h.take (i + 1) = h.take i ++ [h[i]] := by rw [List.take_add_one, List.getElem?_eq_getElem hi']; rfl
      refine ⟨wipe1, _, rfl, _, rfl, ?_⟩
      cases hO : h[i] with
      | none =>
        refine iteF ⟨ex, ?_⟩
        rw [hD, et, hO, List.filterMap_append]
        simp
      | some z =>
        refine iteT ⟨_, rfl, _, hD, ?_, ex.put nZ wd, ?_⟩
        · rw [List.length_map]
          refine small5000 (Nat.le_trans (List.length_filterMap_le _ _) ?_)
          rw [List.length_take]
          omega
        · rw [upd_same, et, hO, List.filterMap_append, List.map_append]
          rfl
    rintro H1 ⟨ex1, hD⟩
    rw [List.length_map, List.take_length] at hD
    have lv : (h.filterMap id).length ≤ h.length := List.length_filterMap_le _ _
    have lb : h.length + 1 < scanBound := Nat.lt_of_le_of_lt (show h.length + 1 ≤ 64 by omega) (by decide)
    refine ⟨Z, h.filterMap id, rfl, SqL.of hD, by omega, fun ps c nps lc => ?_⟩
    refine ⟨ps, _, c, rfl, upd_same, by omega, fun ks pk srt mem lk npk => ?_⟩
    have ex2 := ex1.trans (Ex.new (o := SetO w ps (fun j => decide (j ∈ h.filterMap id)) c) nps)
    have ek : ks = kn h := srt_unique srt (kn_sorted h) fun y => by
      rw [mem y, mem_kn, decide_eq_true_iff]
      simp
    rw [ek]
    exact ⟨pk, rfl, upd_same, ex2.free npk, ex2.trans (Ex.new npk)⟩
  rintro σ1 H2 ⟨pk, rfl, hk, pk0, e1⟩
  have kl := kn_len h
  refine ⟨_, rfl, pk, rfl, ⟨_, SqL.of hk⟩, fun Z nZ => lc_list (xs := (kn h).map V.int) (fun i H' => Ex T [] H2 H' ∧ H' Z = some (.lst ((((kn h).take i).filter fun k => decide (k < v)).map V.int))) ⟨Ex.new nZ, upd_same⟩ (fun i H' _ z => z.1.sqL (by simp) (SqL.of hk)) ?_ ?_⟩
  · rintro i x H' hi ⟨ex, hD⟩
    have hi' : i < (kn h).length := by have := (List.getElem?_eq_some_iff.mp hi).1; rw [List.length_map] at this; exact this
    rw [List.getElem?_map, List.getElem?_eq_getElem hi'] at hi
    cases hi
    have et : (kn h).take (i + 1) = (kn h).take i ++ [(kn h)[i]] := by rw [List.take_add_one, List.getElem?_eq_getElem hi']; rfl
    refine ⟨wipe1, _, rfl, _, rfl, _, _, rfl, rfl, _, rfl, ?_⟩
    by_cases c : (kn h)[i] < v
    · rw [decide_eq_true c]
      refine iteT ⟨_, rfl, _, hD, ?_, ex.put nZ (e1.wd wd), ?_⟩
      · rw [List.length_map]
        refine small5000 (Nat.le_trans (List.length_filter_le _ _) ?_)
        rw [List.length_take]
        omega
      · rw [upd_same, et, List.filter_append, List.map_append, List.filter_cons, if_pos (decide_eq_true c)]
        rfl
    · rw [decide_eq_false c]
      refine iteF ⟨ex, ?_⟩
      rw [hD, et, List.filter_append, List.filter_cons, if_neg (by rw [decide_eq_false c]; decide)]
      simp
  · rintro H3 ⟨ex, hD⟩
    rw [List.length_map, List.take_length] at hD
    have hk' := ex.lst (by simp) hk
    refine ⟨Z, _, rfl, .inl (SqL.of hD), _, _, rfl, rfl, .inl ⟨by decide, by decide⟩, _, rfl, _, rfl, pk, _, rfl, .inl (SqL.of hk'), rfl, by simp [flatV], .inr ⟨_, rfl, _, _, rfl, rfl, ?_⟩⟩
    have z := q H3 (e1.trans ex)
    unfold spotN Dv.cnt at z
    rw [inV_int, List.length_map]
    by_cases c : v ∈ kn h
    · rw [if_pos c] at z
      rw [decide_eq_true c]
      exact z
    · rw [if_neg c] at z
      rw [decide_eq_false c]
      exact z

abbrev N__law_case_number : List Str := ["machine", "content", "entry", "cases", "k"]
theorem sc__law_case_number : FnScope N__law_case_number ["machine", "content", "entry"] (defScope s__law_case_number) := ⟨rfl, rfl, rfl, by decide +kernel, rfl, by decide +kernel, by decide +kernel⟩

theorem ok__law_case_number {f : Addr} {fd : FuncData} {k : Nat} {T : List Addr} {n : Nat} (F : Fun K "_law_case_number" "_law_case_number" s__law_case_number f fd) (m_range : mg "range" = none) (m_len : mg "len" = none)
    {a__law_holds : Addr} {d__law_holds : FuncData} (G__law_holds : FnOk P w K mg base CX0 k a__law_holds d__law_holds ["condition", "value", "held"] (sp_holds K T (n + 1))) (k__law_holds : PySem.W.keepIn K (.ref a__law_holds) = true) (b__law_holds : Binds K d__law_holds ["condition", "value", "held"] []) (m__law_holds : mg "_law_holds" = some (.ref a__law_holds)) :
    FnOk P w K mg base CX0 (k + 1) f fd ["machine", "content", "entry"] (sp_case_at K T n) := by
  refine F.ok sc__law_case_number (fun vs H Q E h => ?_) (fun cdv A outer s H vs Q E hr h => ?_)
  · obtain ⟨xm, xc, xe, m, st, h, e, rfl, _⟩ := h
    rfl
  obtain ⟨xm, xc, xe, m, st, h, e, rfl, hm, hc, he, wd, ok, hst, htg, hlen, q⟩ := h
  refine ⟨_, (pss_cons (ps_set (i := 3) sc__law_case_number.nd rfl (.inl rfl) (pe_ix ix_tup (pe_ix ix_tup (pe_ix ix_tup (pv 0) pe_int (fun _ _ => rfl)) (pe_ix ix_tup (pv 1) pe_int (fun _ _ => rfl)) (fun _ _ => rfl)) (pe_ix ix_tup (pv 2) pe_int (fun _ _ => rfl)) (fun _ _ => rfl)))
    (pss_cons (ps_for PassesOwn.never rfl (pi_range1 rfl m_range (pa_cons (pe_callB call_len_seq (by rfl) m_len PySem.boot_len (pa_cons (pv 3) pa_nil)) pa_nil)) (pg_name (i := 4) sc__law_case_number.nd rfl (.inl rfl))
      (pss_one (ps_if (pt_val (pe_call G__law_holds hr (by rfl) m__law_holds k__law_holds b__law_holds .nil pass0 (pa_cons (pe_ix ix_tup (pe_ix ix_tup (pv 3) (pv 4) (fun _ _ => rfl)) pe_int (fun _ _ => rfl)) (pa_cons (pe_ix ix_tup (pv 2) pe_int (fun _ _ => rfl)) (pa_cons (pe_ix ix_tup (pv 1) pe_int (fun _ _ => rfl)) pa_nil)))))
        (pss_one (ps_ret (pv 4)))
        pss_nil)))
    (pss_one (ps_ret pe_non)))), ?_⟩
  obtain ⟨am, y1, y2, y3, rfl, sqm, h1, h2, h3⟩ := hm.t3
  cases at_int.mp h1
  cases at_int.mp h2
  obtain ⟨as', xs, rfl, sqs, ats⟩ := at_tup.mp h3
  obtain ⟨ac, z1, hv, rfl, sqc, g1, hh⟩ := hc.t2
  cases at_int.mp g1
  obtain ⟨ae, w1, w2, rfl, sqe, f1, f2⟩ := he.t2
  cases at_int.mp f1
  cases at_int.mp f2
  obtain ⟨s', hs1, hs2, clen, okc⟩ := M.cases_at ok hst htg
  obtain ⟨xst, hx1, hx2⟩ := ats.at hs1
  obtain ⟨ast, xts, rfl, sqst, atst⟩ := at_tup.mp hx2
  obtain ⟨xcs, hc1, hc2⟩ := atst.at hs2
  obtain ⟨acs, ys, rfl, sqcs, atcs⟩ := at_tup.mp hc2
  have yl := atcs.len
  refine ⟨_, rfl, am, _, _, _, rfl, rfl, sqm, rfl, _, rfl, ac, _, _, _, rfl, rfl, sqc, rfl, as', _, _, _, rfl, rfl, sqs, at_natI hx1, _, rfl, ae, _, _, _, rfl, rfl, sqe, rfl, ast, _, _, _, rfl, rfl, sqst, at_natI hc1, ?_⟩
  refine ⟨_, rfl, acs, ys, rfl, .inr sqcs, ys.length, rfl, by omega, by omega, for_range (lo := 0) (n := ys.length) (fun i σ' H' => (∃ y4, σ' = [some (.ref am), some (.ref ac), some (.ref ae), some (.ref acs), y4]) ∧ Ex T [] H H' ∧ ∀ j c, j < i → (m.cases st e.1)[j]? = some c → holdC e.2 h c = false) ⟨⟨_, rfl⟩, Ex.refl, fun j c hj _ => absurd hj (by omega)⟩ ?_ ?_⟩
  · rintro i σ' H' hi ⟨⟨y4, rfl⟩, ex, hno⟩
    have hi' : i < (m.cases st e.1).length := by omega
    obtain ⟨x, hx1', hx2'⟩ := atcs.at (List.getElem?_eq_getElem hi')
    obtain ⟨acase, c1, c2, c3, c4, rfl, sqcase, d1, d2, d3, d4⟩ := (hx2'.ext ex).t4
    have okci := okc _ (List.getElem_mem hi')
    refine ⟨_, rfl, _, rfl, acs, _, _, _, rfl, rfl, ex.sqT sqcs, nat_at hx1', acase, _, _, _, rfl, rfl, sqcase, rfl, _, rfl, ae, _, _, _, rfl, rfl, ex.sqT sqe, rfl, _, rfl, ac, _, _, _, rfl, rfl, ex.sqT sqc, rfl, c1, hv, _, e.2, h, rfl, d1, hh.ext ex, ex.wd wd, ⟨n, rfl, by rw [hlen]; exact okci.cond⟩, fun H3 ex3 => ⟨_, rfl, ?_⟩⟩
    cases hb : hold e.2 h (m.cases st e.1)[i].cond with
    | true =>
      refine iteT ⟨_, rfl, ?_⟩
      have z := q H3 (ex.trans ex3)
      rw [idxC_drop e.2 h _ hno (List.getElem?_eq_getElem hi') hb] at z
      have e0 : V.int (0 + (i : Nat)) = oN (some i) := by rw [Int.zero_add]; rfl
      rw [e0]
      exact z
    | false =>
      refine iteF ⟨⟨_, rfl⟩, ex.trans ex3, fun j c hj hjc => ?_⟩
      by_cases ej : j = i
      · subst ej
        rw [List.getElem?_eq_getElem hi'] at hjc
        cases hjc
        exact hb
      · exact hno j c (by omega) hjc
  · rintro σ' H' ⟨⟨y4, rfl⟩, ex, hno⟩
    have z := q H' ex
    rw [idxC_none e.2 h _ fun j c hj => hno j c (by have := (List.getElem?_eq_some_iff.mp hj).1; omega) hj] at z
    exact z

abbrev N__law_trace : List Str := ["machine", "log", "content", "found", "entry", "kind"]
theorem sc__law_trace : FnScope N__law_trace ["machine", "log"] (defScope s__law_trace) := ⟨rfl, rfl, rfl, by decide +kernel, rfl, by decide +kernel, by decide +kernel⟩
def sp__law_trace (K : PySem.W.Frag) (T : List Addr) (n : Nat) : Sp := fun vs H Q _ => ∃ (xm xl : V) (m : M) (es : List (Nat × Int)), vs = [xm, xl] ∧ At K H xm (encM m) ∧ Lg K H xl es ∧ okM n m ∧ m.regs < 64 ∧ (∀ e ∈ es, e.1 < m.tags) ∧ es.length ≤ 1000 ∧ Wd T H ∧
  ∀ p v w H', SqT K H' p [v, w] → At K H' v (.tup ((trL m ((0, List.replicate m.regs none) : Ct) es).map encT)) → At K H' w (encCt (tyC (contM m ((0, List.replicate m.regs none) : Ct) es)).1 (tyC (contM m ((0, List.replicate m.regs none) : Ct) es)).2) → Ex T [] H H' → Q (.ref p) H'
theorem ok__law_trace {f : Addr} {fd : FuncData} {k : Nat} {T : List Addr} {n : Nat} (F : Fun K "_law_trace" "_law_trace" s__law_trace f fd) (m_tuple : mg "tuple" = none)
    {a__law_beginning : Addr} {d__law_beginning : FuncData} (G__law_beginning : FnOk P w K mg base CX0 k a__law_beginning d__law_beginning ["machine"] (sp_beginning K T)) (k__law_beginning : PySem.W.keepIn K (.ref a__law_beginning) = true) (b__law_beginning : Binds K d__law_beginning ["machine"] []) (m__law_beginning : mg "_law_beginning" = some (.ref a__law_beginning))
    {a__law_ranks : Addr} {d__law_ranks : FuncData} (G__law_ranks : FnOk P w K mg base CX0 k a__law_ranks d__law_ranks ["held"] (sp__law_ranks K T)) (k__law_ranks : PySem.W.keepIn K (.ref a__law_ranks) = true) (b__law_ranks : Binds K d__law_ranks ["held"] []) (m__law_ranks : mg "_law_ranks" = some (.ref a__law_ranks))
    {a__law_case_number : Addr} {d__law_case_number : FuncData} (G__law_case_number : FnOk P w K mg base CX0 k a__law_case_number d__law_case_number ["machine", "content", "entry"] (sp_case_at K T n)) (k__law_case_number : PySem.W.keepIn K (.ref a__law_case_number) = true) (b__law_case_number : Binds K d__law_case_number ["machine", "content", "entry"] []) (m__law_case_number : mg "_law_case_number" = some (.ref a__law_case_number))
    {a__law_spot : Addr} {d__law_spot : FuncData} (G__law_spot : FnOk P w K mg base CX0 k a__law_spot d__law_spot ["held", "value"] (sp__law_spot K T)) (k__law_spot : PySem.W.keepIn K (.ref a__law_spot) = true) (b__law_spot : Binds K d__law_spot ["held", "value"] []) (m__law_spot : mg "_law_spot" = some (.ref a__law_spot))
    {a__law_read : Addr} {d__law_read : FuncData} (G__law_read : FnOk P w K mg base CX0 k a__law_read d__law_read ["machine", "content", "entry"] (sp_read K T n)) (k__law_read : PySem.W.keepIn K (.ref a__law_read) = true) (b__law_read : Binds K d__law_read ["machine", "content", "entry"] []) (m__law_read : mg "_law_read" = some (.ref a__law_read)) :
    FnOk P w K mg base CX0 (k + 1) f fd ["machine", "log"] (sp__law_trace K T n) := by
  refine F.ok sc__law_trace (fun vs H Q E h => ?_) (fun cdv A outer s H vs Q E hr h => ?_)
  · obtain ⟨xm, xl, m, es, rfl, _⟩ := h
    rfl
  obtain ⟨xm, xl, m, es, rfl, hm, ⟨al, zs, rfl, hsq, atz⟩, ok, few, tg, le, wd, q⟩ := h
  refine ⟨_, (pss_cons (ps_set (i := 2) sc__law_trace.nd rfl (.inl rfl) (pe_call G__law_beginning hr (by rfl) m__law_beginning k__law_beginning b__law_beginning .nil pass0 (pa_cons (pv 0) pa_nil)))
    (pss_cons (ps_set (i := 3) sc__law_trace.nd rfl (.inl rfl) (pe_lst pa_nil))
    (pss_cons (ps_for PassesOwn.never rfl (pi_or (pi_list (pv 1)) (pi_tup (pv 1))) (pg_name (i := 4) sc__law_trace.nd rfl (.inl rfl))
      (pss_cons (ps_set (i := 5) sc__law_trace.nd rfl (.inl rfl) (pe_tup (pa_cons (pe_ix ix_tup (pv 2) pe_int (fun _ _ => rfl)) (pa_cons (pe_call G__law_ranks hr (by rfl) m__law_ranks k__law_ranks b__law_ranks .nil pass0 (pa_cons (pe_ix ix_tup (pv 2) pe_int (fun _ _ => rfl)) pa_nil)) pa_nil))))
      (pss_cons (ps_expr (pe_bm PySem.F.plainAttrs_list PySem.F.slot_list_append PySem.F.type_list_append mt_append (pv 3) (pa_cons (pe_tup (pa_cons (pe_call G__law_case_number hr (by rfl) m__law_case_number k__law_case_number b__law_case_number .nil pass0 (pa_cons (pv 0) (pa_cons (pv 2) (pa_cons (pv 4) pa_nil)))) (pa_cons (pv 5) (pa_cons (pe_call G__law_spot hr (by rfl) m__law_spot k__law_spot b__law_spot .nil pass0 (pa_cons (pe_ix ix_tup (pv 2) pe_int (fun _ _ => rfl)) (pa_cons (pe_ix ix_tup (pv 4) pe_int (fun _ _ => rfl)) pa_nil))) pa_nil)))) pa_nil)))
      (pss_one (ps_set (i := 2) sc__law_trace.nd rfl (.inl rfl) (pe_ix ix_tup (pe_call G__law_read hr (by rfl) m__law_read k__law_read b__law_read .nil pass0 (pa_cons (pv 0) (pa_cons (pv 2) (pa_cons (pv 4) pa_nil)))) pe_int (fun _ _ => rfl)))))))
    (pss_one (ps_ret (pe_tup (pa_cons (pe_callTy call_tuple_of (by rfl) m_tuple (by decide +kernel) (pa_cons (pv 3) pa_nil)) (pa_cons (pe_tup (pa_cons (pe_ix ix_tup (pv 2) pe_int (fun _ _ => rfl)) (pa_cons (pe_call G__law_ranks hr (by rfl) m__law_ranks k__law_ranks b__law_ranks .nil pass0 (pa_cons (pe_ix ix_tup (pv 2) pe_int (fun _ _ => rfl)) pa_nil)) pa_nil))) pa_nil)))))))), ?_⟩
  have zl : zs.length = es.length := by rw [atz.length, List.length_map]
  refine ⟨_, rfl, xm, m, rfl, hm, by omega, fun vc H1 at1 ex1 => ?_⟩
  have wd1 := ex1.wd wd
  have hm1 := hm.ext ex1
  have atz1 := Ats.ext ex1 atz
  have oc := okCt_beg ok
  generalize ec : ((0, List.replicate m.regs none) : Ct) = c0 at *
  have at1' : At K H1 vc (encCt c0.1 c0.2) := by rw [← ec]; exact at1
  refine ⟨Nat.zero_le _, fun L nL => ?_⟩
  have xL := Ex.new (T := T) (ms := []) (o := HO.lst []) nL
  rcases hsq with hq | hq
  · have sql1 := ex1.sqL (by simp) hq
    refine .inl ⟨_, rfl, al, rfl, ⟨_, xL.sqL (by simp) sql1⟩, for_list (xs := zs) (fun i σ' H' => (∃ vc y4 y5, σ' = [some xm, some (.ref al), some vc, some (.ref L), y4, y5] ∧ At K H' vc (encCt (contM m c0 (es.take i)).1 (contM m c0 (es.take i)).2)) ∧ Col K T [] L H1 H' ((trL m c0 (es.take i)).map encT)) ⟨⟨vc, _, _, rfl, at1'.ext xL⟩, Col.start Ex.refl nL⟩ (fun i σ' H' _ z => z.2.1.sqL (by simp) sql1) ?_ ?_⟩
    · rintro i x σ' H2 hi ⟨⟨vc, y4, y5, rfl, atc⟩, cl⟩
      have hi' : i < es.length := by rw [← zl]; exact (List.getElem?_eq_some_iff.mp hi).1
      obtain ⟨x', hx1, hx2⟩ := atz1.at (i := i) (a := es[i]) (List.getElem?_eq_getElem hi')
      rw [hi] at hx1
      cases hx1
      have te := tg _ (List.getElem_mem hi')
      have oci : okCt m (contM m c0 (es.take i)) := oc.cont ok fun e he => tg e (List.mem_of_mem_take he)
      have e1 : contM m c0 (es.take (i + 1)) = stepM m (contM m c0 (es.take i)) es[i] := by rw [take_snoc hi', contM_snoc]
      have e2 : trL m c0 (es.take (i + 1)) = trL m c0 (es.take i) ++ [trR m (contM m c0 (es.take i)) es[i]] := by rw [take_snoc hi', trL_snoc]
      have lp : ((trL m c0 (es.take i)).map encT).length ≤ 5000 := by rw [List.length_map, trL_len, List.length_take]; omega
      rw [e1, e2]
      generalize contM m c0 (es.take i) = c at *
      generalize trL m c0 (es.take i) = pre at *
      generalize es[i] = e at *
      obtain ⟨st, h⟩ := c
      have hlen : h.length = m.regs := oci.len
      have hst : st < m.steps.length := oci.st
      have ate := hx2.ext cl.1
      obtain ⟨ae, w1, w2, rfl, sqe, f1, f2⟩ := (show At K H2 x (.tup [.int e.1, .int e.2]) from ate).t2
      cases at_int.mp f2
      obtain ⟨ac, z1, hv, rfl, sqc, g1, hh⟩ := (show At K H2 vc (.tup [.int st, encH h]) from atc).t2
      cases at_int.mp g1
      have wd2 := cl.1.wd wd1
      have hm2 := hm1.ext cl.1
      obtain ⟨_, ps, hL2, _⟩ := id cl
      refine ⟨_, rfl, ac, _, _, _, rfl, rfl, sqc, rfl, _, rfl, ac, _, _, _, rfl, rfl, sqc, rfl, hv, h, rfl, hh, by omega, wd2, fun vr3 H3 at3 ex3 => ⟨by show 2 ≤ sizeLine; decide, fun kp nkp => ?_⟩⟩
      have x4 := Ex.new (T := T) (ms := []) (o := HO.tup [V.int (st : Nat), vr3]) nkp
      have atk : At K (upd H3 kp (.tup [V.int (st : Nat), vr3])) (.ref kp) (encCt st (ranksH h)) := At.laid nkp (Ats.mk (at_int.mpr rfl) (Ats.mk at3 Ats.mk_nil))
      have x24 := ex3.trans x4
      generalize upd H3 kp (.tup [V.int (st : Nat), vr3]) = H4 at *
      have hL4 := x24.lst (by simp) hL2
      refine ⟨_, rfl, .inl ⟨rfl, _, .inl (.inl hL4)⟩, _, rfl, _, rfl, _, rfl, xm, .ref ac, .ref ae, m, st, h, e, rfl, hm2.ext x24, atc.ext x24, ate.ext x24, x24.wd wd2, ok, hst, te, hlen, fun H5 ex5 => ?_⟩
      have x25 := x24.trans ex5
      refine ⟨_, rfl, _, rfl, ac, _, _, _, rfl, rfl, x25.sqT sqc, rfl, _, rfl, ae, _, _, _, rfl, rfl, x25.sqT sqe, rfl, hv, h, e.2, rfl, hh.ext x25, by omega, x25.wd wd2, fun H6 ex6 => ?_⟩
      have x26 := x25.trans ex6
      refine ⟨by show 3 ≤ sizeLine; decide, fun t nt => ?_⟩
      have x7 := Ex.new (T := T) (ms := []) (o := HO.tup [oN (idxC e.2 h (m.cases st e.1)), .ref kp, V.int (spotN h e.2)]) nt
      obtain ⟨acc, k1, k2, k3⟩ := cl.put nL (by simp) wd1 (x26.trans x7) (x := .ref t) (d := encT (trR m (st, h) e)) (At.laid nt (Ats.mk at_encNo (Ats.mk ((atk.ext ex5).ext ex6) (Ats.mk (at_int.mpr rfl) Ats.mk_nil)))) lp
      refine ⟨L, _, _, rfl, rfl, k1, k2, ?_⟩
      have ex8 := k3.1
      have x28 : Ex T [L] H2 (upd (upd H6 t (.tup [oN (idxC e.2 h (m.cases st e.1)), .ref kp, V.int (spotN h e.2)])) L (.lst (acc ++ [V.ref t]))) := ((x26.trans x7).nil).trans (Ex.write (by simp) k1)
      have atc8 := atc.ext x28
      have ate8 := ate.ext x28
      generalize upd (upd H6 t (.tup [oN (idxC e.2 h (m.cases st e.1)), .ref kp, V.int (spotN h e.2)])) L (.lst (acc ++ [V.ref t])) = H8 at *
      refine ⟨_, rfl, _, rfl, _, rfl, xm, .ref ac, .ref ae, m, st, h, e, rfl, hm1.ext ex8, atc8, ate8, ex8.wd wd1, ok, hst, te, hlen, fun vr H9 atr ex9 => ?_⟩
      obtain ⟨ar, r1, r2, rfl, sqr, a1, a2⟩ := (show At K H9 vr (.tup [encCt (readM m st h e).1 (readM m st h e).2.1, encA (readM m st h e).2.2]) from atr).t2
      refine ⟨ar, _, _, _, rfl, rfl, sqr, rfl, ⟨r1, _, _, rfl, a1⟩, ?_⟩
      rw [List.map_append]
      exact ⟨k3.1.trans ex9, let ⟨_, ys, y1, y2⟩ := k3; ⟨ys, ex9.lst (by simp) y1, Ats.ext ex9 y2⟩⟩
    · rintro σ' H2 ⟨⟨vc, y4, y5, rfl, atc⟩, cl⟩
      rw [zl, List.take_length] at cl atc
      obtain ⟨exs, as0, hD0, ats0⟩ := cl
      have oce := oc.cont ok tg
      generalize contM m c0 es = c at *
      obtain ⟨st, h⟩ := c
      have hlen : h.length = m.regs := oce.len
      obtain ⟨ac, z1, hv, rfl, sqc, g1, hh⟩ := (show At K H2 vc (.tup [.int st, encH h]) from atc).t2
      cases at_int.mp g1
      refine ⟨_, rfl, L, _, rfl, .inl ⟨SqL.of hD0, fun l nl => ?_⟩⟩
      have x3 := Ex.new (T := T) (ms := []) (o := HO.tup as0) nl
      have atl3 := At.laid (K := K) nl ats0
      generalize upd H2 l (.tup as0) = H3 at *
      have x03 := (ex1.trans exs).trans x3
      refine ⟨_, rfl, ac, _, _, _, rfl, rfl, x3.sqT sqc, rfl, _, rfl, ac, _, _, _, rfl, rfl, x3.sqT sqc, rfl, hv, h, rfl, hh.ext x3, by omega, x03.wd wd, fun v4 H4 at4 ex4 => ⟨by show 2 ≤ sizeLine; decide, fun p np => ⟨by show 2 ≤ sizeLine; decide, fun p2 np2 => ?_⟩⟩⟩
      have y5 := Ex.new (T := T) (ms := []) (o := HO.tup [V.int (st : Nat), v4]) np
      have y6 := Ex.new (T := T) (ms := []) (o := HO.tup [V.ref l, V.ref p]) np2
      exact q p2 (.ref l) (.ref p) _ (SqT.of upd_same) (((atl3.ext ex4).ext y5).ext y6) ((At.laid np (Ats.mk (at_int.mpr rfl) (Ats.mk at4 Ats.mk_nil))).ext y6) (((x03.trans ex4).trans y5).trans y6)
  · have sql1 := ex1.sqT hq
    refine .inr ⟨_, rfl, al, rfl, ⟨_, xL.sqT sql1⟩, for_tup (xs := zs) (fun i σ' H' => (∃ vc y4 y5, σ' = [some xm, some (.ref al), some vc, some (.ref L), y4, y5] ∧ At K H' vc (encCt (contM m c0 (es.take i)).1 (contM m c0 (es.take i)).2)) ∧ Col K T [] L H1 H' ((trL m c0 (es.take i)).map encT)) ⟨⟨vc, _, _, rfl, at1'.ext xL⟩, Col.start Ex.refl nL⟩ (fun i σ' H' _ z => z.2.1.sqT sql1) ?_ ?_⟩
    · rintro i x σ' H2 hi ⟨⟨vc, y4, y5, rfl, atc⟩, cl⟩
      have hi' : i < es.length := by rw [← zl]; exact (List.getElem?_eq_some_iff.mp hi).1
      obtain ⟨x', hx1, hx2⟩ := atz1.at (i := i) (a := es[i]) (List.getElem?_eq_getElem hi')
      rw [hi] at hx1
      cases hx1
      have te := tg _ (List.getElem_mem hi')
      have oci : okCt m (contM m c0 (es.take i)) := oc.cont ok fun e he => tg e (List.mem_of_mem_take he)
      have e1 : contM m c0 (es.take (i + 1)) = stepM m (contM m c0 (es.take i)) es[i] := by rw [take_snoc hi', contM_snoc]
      have e2 : trL m c0 (es.take (i + 1)) = trL m c0 (es.take i) ++ [trR m (contM m c0 (es.take i)) es[i]] := by rw [take_snoc hi', trL_snoc]
      have lp : ((trL m c0 (es.take i)).map encT).length ≤ 5000 := by rw [List.length_map, trL_len, List.length_take]; omega
      rw [e1, e2]
      generalize contM m c0 (es.take i) = c at *
      generalize trL m c0 (es.take i) = pre at *
      generalize es[i] = e at *
      obtain ⟨st, h⟩ := c
      have hlen : h.length = m.regs := oci.len
      have hst : st < m.steps.length := oci.st
      have ate := hx2.ext cl.1
      obtain ⟨ae, w1, w2, rfl, sqe, f1, f2⟩ := (show At K H2 x (.tup [.int e.1, .int e.2]) from ate).t2
      cases at_int.mp f2
      obtain ⟨ac, z1, hv, rfl, sqc, g1, hh⟩ := (show At K H2 vc (.tup [.int st, encH h]) from atc).t2
      cases at_int.mp g1
      have wd2 := cl.1.wd wd1
      have hm2 := hm1.ext cl.1
      obtain ⟨_, ps, hL2, _⟩ := id cl
      refine ⟨_, rfl, ac, _, _, _, rfl, rfl, sqc, rfl, _, rfl, ac, _, _, _, rfl, rfl, sqc, rfl, hv, h, rfl, hh, by omega, wd2, fun vr3 H3 at3 ex3 => ⟨by show 2 ≤ sizeLine; decide, fun kp nkp => ?_⟩⟩
      have x4 := Ex.new (T := T) (ms := []) (o := HO.tup [V.int (st : Nat), vr3]) nkp
      have atk : At K (upd H3 kp (.tup [V.int (st : Nat), vr3])) (.ref kp) (encCt st (ranksH h)) := At.laid nkp (Ats.mk (at_int.mpr rfl) (Ats.mk at3 Ats.mk_nil))
      have x24 := ex3.trans x4
      generalize upd H3 kp (.tup [V.int (st : Nat), vr3]) = H4 at *
      have hL4 := x24.lst (by simp) hL2
      refine ⟨_, rfl, .inl ⟨rfl, _, .inl (.inl hL4)⟩, _, rfl, _, rfl, _, rfl, xm, .ref ac, .ref ae, m, st, h, e, rfl, hm2.ext x24, atc.ext x24, ate.ext x24, x24.wd wd2, ok, hst, te, hlen, fun H5 ex5 => ?_⟩
      have x25 := x24.trans ex5
      refine ⟨_, rfl, _, rfl, ac, _, _, _, rfl, rfl, x25.sqT sqc, rfl, _, rfl, ae, _, _, _, rfl, rfl, x25.sqT sqe, rfl, hv, h, e.2, rfl, hh.ext x25, by omega, x25.wd wd2, fun H6 ex6 => ?_⟩
      have x26 := x25.trans ex6
      refine ⟨by show 3 ≤ sizeLine; decide, fun t nt => ?_⟩
      have x7 := Ex.new (T := T) (ms := []) (o := HO.tup [oN (idxC e.2 h (m.cases st e.1)), .ref kp, V.int (spotN h e.2)]) nt
      obtain ⟨acc, k1, k2, k3⟩ := cl.put nL (by simp) wd1 (x26.trans x7) (x := .ref t) (d := encT (trR m (st, h) e)) (At.laid nt (Ats.mk at_encNo (Ats.mk ((atk.ext ex5).ext ex6) (Ats.mk (at_int.mpr rfl) Ats.mk_nil)))) lp
      refine ⟨L, _, _, rfl, rfl, k1, k2, ?_⟩
      have ex8 := k3.1
      have x28 : Ex T [L] H2 (upd (upd H6 t (.tup [oN (idxC e.2 h (m.cases st e.1)), .ref kp, V.int (spotN h e.2)])) L (.lst (acc ++ [V.ref t]))) := ((x26.trans x7).nil).trans (Ex.write (by simp) k1)
      have atc8 := atc.ext x28
      have ate8 := ate.ext x28
      generalize upd (upd H6 t (.tup [oN (idxC e.2 h (m.cases st e.1)), .ref kp, V.int (spotN h e.2)])) L (.lst (acc ++ [V.ref t])) = H8 at *
      refine ⟨_, rfl, _, rfl, _, rfl, xm, .ref ac, .ref ae, m, st, h, e, rfl, hm1.ext ex8, atc8, ate8, ex8.wd wd1, ok, hst, te, hlen, fun vr H9 atr ex9 => ?_⟩
      obtain ⟨ar, r1, r2, rfl, sqr, a1, a2⟩ := (show At K H9 vr (.tup [encCt (readM m st h e).1 (readM m st h e).2.1, encA (readM m st h e).2.2]) from atr).t2
      refine ⟨ar, _, _, _, rfl, rfl, sqr, rfl, ⟨r1, _, _, rfl, a1⟩, ?_⟩
      rw [List.map_append]
      exact ⟨k3.1.trans ex9, let ⟨_, ys, y1, y2⟩ := k3; ⟨ys, ex9.lst (by simp) y1, Ats.ext ex9 y2⟩⟩
    · rintro σ' H2 ⟨⟨vc, y4, y5, rfl, atc⟩, cl⟩
      rw [zl, List.take_length] at cl atc
      obtain ⟨exs, as0, hD0, ats0⟩ := cl
      have oce := oc.cont ok tg
      generalize contM m c0 es = c at *
      obtain ⟨st, h⟩ := c
      have hlen : h.length = m.regs := oce.len
      obtain ⟨ac, z1, hv, rfl, sqc, g1, hh⟩ := (show At K H2 vc (.tup [.int st, encH h]) from atc).t2
      cases at_int.mp g1
      refine ⟨_, rfl, L, _, rfl, .inl ⟨SqL.of hD0, fun l nl => ?_⟩⟩
      have x3 := Ex.new (T := T) (ms := []) (o := HO.tup as0) nl
      have atl3 := At.laid (K := K) nl ats0
      generalize upd H2 l (.tup as0) = H3 at *
      have x03 := (ex1.trans exs).trans x3
      refine ⟨_, rfl, ac, _, _, _, rfl, rfl, x3.sqT sqc, rfl, _, rfl, ac, _, _, _, rfl, rfl, x3.sqT sqc, rfl, hv, h, rfl, hh.ext x3, by omega, x03.wd wd, fun v4 H4 at4 ex4 => ⟨by show 2 ≤ sizeLine; decide, fun p np => ⟨by show 2 ≤ sizeLine; decide, fun p2 np2 => ?_⟩⟩⟩
      have y5 := Ex.new (T := T) (ms := []) (o := HO.tup [V.int (st : Nat), v4]) np
      have y6 := Ex.new (T := T) (ms := []) (o := HO.tup [V.ref l, V.ref p]) np2
      exact q p2 (.ref l) (.ref p) _ (SqT.of upd_same) (((atl3.ext ex4).ext y5).ext y6) ((At.laid np (Ats.mk (at_int.mpr rfl) (Ats.mk at4 Ats.mk_nil))).ext y6) (((x03.trans ex4).trans y5).trans y6)

abbrev N__law_drawn_spots : List Str := ["draws", "machine", "content", "spots", "k", "ranks", "many", "entry", "held", "rank"]
theorem sc__law_drawn_spots : FnScope N__law_drawn_spots ["draws", "machine"] (defScope s__law_drawn_spots) := ⟨rfl, rfl, rfl, by decide +kernel, rfl, by decide +kernel, by decide +kernel⟩
def sp__law_drawn_spots (K : PySem.W.Frag) (T : List Addr) (n : Nat) : Sp := fun vs H Q _ => ∃ (dr : Addr) (xm : V) (m : M), vs = [.ref dr, xm] ∧ At K H xm (encM m) ∧ okM n m ∧ m.regs < 64 ∧ Wd T H ∧ Dr H dr ∧
  ∀ v H' ss, At K H' v (.tup (ss.map encE)) → okSp m (tyC ((0, List.replicate m.regs none) : Ct)) ss → ss.length ≤ 25 → Ex T [dr] H H' → Dr H' dr → Q v H'
theorem ok__law_drawn_spots {f : Addr} {fd : FuncData} {k : Nat} {T : List Addr} {n : Nat} (F : Fun K "_law_drawn_spots" "_law_drawn_spots" s__law_drawn_spots f fd) (m_range : mg "range" = none) (m_len : mg "len" = none) (m_set : mg "set" = none) (m_tuple : mg "tuple" = none)
    {a__law_beginning : Addr} {d__law_beginning : FuncData} (G__law_beginning : FnOk P w K mg base CX0 k a__law_beginning d__law_beginning ["machine"] (sp_beginning K T)) (k__law_beginning : PySem.W.keepIn K (.ref a__law_beginning) = true) (b__law_beginning : Binds K d__law_beginning ["machine"] []) (m__law_beginning : mg "_law_beginning" = some (.ref a__law_beginning))
    {a__law_take : Addr} {d__law_take : FuncData} (G__law_take : FnOk P w K mg base CX0 k a__law_take d__law_take ["draws", "many"] (sp__law_take T)) (k__law_take : PySem.W.keepIn K (.ref a__law_take) = true) (b__law_take : Binds K d__law_take ["draws", "many"] []) (m__law_take : mg "_law_take" = some (.ref a__law_take))
    {a__law_ranks : Addr} {d__law_ranks : FuncData} (G__law_ranks : FnOk P w K mg base CX0 k a__law_ranks d__law_ranks ["held"] (sp__law_ranks K T)) (k__law_ranks : PySem.W.keepIn K (.ref a__law_ranks) = true) (b__law_ranks : Binds K d__law_ranks ["held"] []) (m__law_ranks : mg "_law_ranks" = some (.ref a__law_ranks))
    {a__law_read : Addr} {d__law_read : FuncData} (G__law_read : FnOk P w K mg base CX0 k a__law_read d__law_read ["machine", "content", "entry"] (sp_read K T n)) (k__law_read : PySem.W.keepIn K (.ref a__law_read) = true) (b__law_read : Binds K d__law_read ["machine", "content", "entry"] []) (m__law_read : mg "_law_read" = some (.ref a__law_read)) :
    FnOk P w K mg base CX0 (k + 1) f fd ["draws", "machine"] (sp__law_drawn_spots K T n) := by
  refine F.ok sc__law_drawn_spots (fun vs H Q E h => ?_) (fun cdv A outer s H vs Q E hr h => ?_)
  · obtain ⟨dr, xm, m, rfl, _⟩ := h
    rfl
  obtain ⟨dr, xm, m, rfl, hm, ok, few, wd, hd, q⟩ := h
  refine ⟨_, (pss_cons (ps_set (i := 2) sc__law_drawn_spots.nd rfl (.inl rfl) (pe_call G__law_beginning hr (by rfl) m__law_beginning k__law_beginning b__law_beginning .nil pass0 (pa_cons (pv 1) pa_nil)))
    (pss_cons (ps_set (i := 3) sc__law_drawn_spots.nd rfl (.inl rfl) (pe_lst pa_nil))
    (pss_cons (ps_for PassesOwn.never rfl (pi_range1 rfl m_range (pa_cons (pe_call G__law_take hr (by rfl) m__law_take k__law_take b__law_take .nil pass0 (pa_cons (pv 0) (pa_cons pe_int pa_nil))) pa_nil)) (pg_name (i := 4) sc__law_drawn_spots.nd rfl (.inl rfl))
      (pss_cons (ps_set (i := 5) sc__law_drawn_spots.nd rfl (.inl rfl) (pe_call G__law_ranks hr (by rfl) m__law_ranks k__law_ranks b__law_ranks .nil pass0 (pa_cons (pe_ix ix_tup (pv 2) pe_int (fun _ _ => rfl)) pa_nil)))
      (pss_cons (ps_set (i := 6) sc__law_drawn_spots.nd rfl (.inl rfl) (pe_lenSetD (by rfl) m_len (by rfl) m_set (pe_lc (own := [("rank", 9)]) (g := (gName 9)) (tt := _) rfl sc__law_drawn_spots.nd (pi_tup (pv 5)) (blkOk_by (N := N__law_drawn_spots) (sc := defScope s__law_drawn_spots) (by decide +kernel))
        (fun _ _ _ _ _ => (pg_name (i := 9) sc__law_drawn_spots.nd rfl (.inl rfl))) (fun _ _ _ _ _ => pts_one (pt_cmp (pc_notN (pv 9)) rfl))
        (fun _ _ _ _ _ => (pv 9)))))
      (pss_cons (ps_set (i := 7) sc__law_drawn_spots.nd rfl (.inl rfl) (pe_tup (pa_cons (pe_call G__law_take hr (by rfl) m__law_take k__law_take b__law_take .nil pass0 (pa_cons (pv 0) (pa_cons (pe_ix ix_tup (pv 1) pe_int (fun _ _ => rfl)) pa_nil))) (pa_cons (pe_call G__law_take hr (by rfl) m__law_take k__law_take b__law_take .nil pass0 (pa_cons (pv 0) (pa_cons (pe_op op_add (pe_op op_mul pe_int (pv 6)) pe_int) pa_nil))) pa_nil))))
      (pss_cons (ps_expr (pe_bm PySem.F.plainAttrs_list PySem.F.slot_list_append PySem.F.type_list_append mt_append (pv 3) (pa_cons (pv 7) pa_nil)))
      (pss_cons (ps_set (i := 8) sc__law_drawn_spots.nd rfl (.inl rfl) (pe_callTy call_tuple_of (by rfl) m_tuple (by decide +kernel) (pa_cons (pe_lc (own := [("rank", 9)]) (g := (gName 9)) (tt := tYes) rfl sc__law_drawn_spots.nd (pi_tup (pv 5)) (blkOk_by (N := N__law_drawn_spots) (sc := defScope s__law_drawn_spots) (by decide +kernel))
        (fun _ _ _ _ _ => (pg_name (i := 9) sc__law_drawn_spots.nd rfl (.inl rfl))) (fun _ _ _ _ _ => pts_nil)
        (fun _ _ _ _ _ => (pe_ifExp (pt_cmp (pc_isN (pv 9)) rfl) pe_non (pe_op op_add (pe_op op_mul pe_int (pv 9)) pe_int)))) pa_nil)))
      (pss_one (ps_set (i := 2) sc__law_drawn_spots.nd rfl (.inl rfl) (pe_ix ix_tup (pe_call G__law_read hr (by rfl) m__law_read k__law_read b__law_read .nil pass0 (pa_cons (pv 1) (pa_cons (pe_tup (pa_cons (pe_ix ix_tup (pv 2) pe_int (fun _ _ => rfl)) (pa_cons (pv 8) pa_nil))) (pa_cons (pv 7) pa_nil)))) pe_int (fun _ _ => rfl))))))))))
    (pss_one (ps_ret (pe_callTy call_tuple_of (by rfl) m_tuple (by decide +kernel) (pa_cons (pv 3) pa_nil))))))), ?_⟩
  refine ⟨_, rfl, xm, m, rfl, hm, by omega, fun vc H1 at1 ex1 => ?_⟩
  have hd1 : Dr H1 dr := let ⟨ds, z⟩ := hd; ⟨ds, ex1.lst (by simp) z⟩
  have oc := okCt_beg ok
  generalize ec : ((0, List.replicate m.regs none) : Ct) = c0 at *
  have at1' : At K H1 vc (encCt c0.1 c0.2) := by rw [← ec]; exact at1
  refine ⟨Nat.zero_le _, fun L nL => ?_⟩
  have nLd := hd1.ne nL
  have L0 : H L = none := ex1.free nL
  have x01 : Ex T [dr] H H1 := ex1.nil
  have xL := Ex.new (T := T) (ms := [dr]) (o := HO.lst []) nL
  refine ⟨_, rfl, dr, 26, rfl, by decide, hd1.new nL, fun z H2 z0 z1 ex2 hd2 => ?_⟩
  have cl0 : Col K T [dr] L H H2 (([] : List (Nat × Int)).map encE) := (Col.start x01 nL).ext (by simpa using nLd) ex2
  refine ⟨z, rfl, by omega, by omega, for_range (lo := 0) (n := z.toNat) (fun i σ' H' => (∃ vc y4 y5 y6 y7 y8, σ' = [some (.ref dr), some xm, some vc, some (.ref L), y4, y5, y6, y7, y8, none] ∧ ∃ c ss, At K H' vc (encCt c.1 c.2) ∧ okCt m c ∧ tyC c = tyL m (tyC c0) ss ∧ okSp m (tyC c0) ss ∧ ss.length = i ∧ Col K T [dr] L H H' (ss.map encE)) ∧ Dr H' dr) ⟨⟨vc, _, _, _, _, _, rfl, c0, [], (at1'.ext xL).ext ex2, oc, rfl, trivial, rfl, cl0⟩, hd2⟩ ?_ ?_⟩
  · rintro i σ' H3 hi ⟨⟨vc, y4, y5, y6, y7, y8, rfl, c, ss, atc, oc, tc, os, hl, cl⟩, hd3⟩
    obtain ⟨st, h⟩ := c
    have hlen : h.length = m.regs := oc.len
    have hst : st < m.steps.length := oc.st
    have wd3 := cl.1.wd wd
    have hm3 := hm.ext cl.1
    obtain ⟨am, m1, m2, m3, rfl, sqm, g1', g2', g3'⟩ := hm3.t3
    cases at_int.mp g1'
    obtain ⟨ac, w1, hv, rfl, sqc, g1, hh⟩ := (show At K H3 vc (.tup [.int st, encH h]) from atc).t2
    cases at_int.mp g1
    refine ⟨_, rfl, ac, _, _, _, rfl, rfl, sqc, rfl, hv, h, rfl, hh, by omega, wd3, fun vr H4 at4 ex4 => ?_⟩
    have kr := kn_ranks_len h
    have rl : (ranksH h).length = h.length := by unfold ranksH; rw [mapH_len]
    have tcR : (tyL m (tyC c0) ss).2 = ranksH h := by rw [← tc]; rfl
    generalize hrk : ranksH h = rk at *
    obtain ⟨ar, rfl, sqr⟩ := at_encH.mp at4
    have wd4 := ex4.wd wd3
    refine ⟨_, rfl, ar, rfl, ⟨_, sqr⟩, fun Z nZ => lc_tup (xs := rk.map oV) (fun i H' => Ex T [] H4 H' ∧ H' Z = some (.lst ((((rk.take i).filterMap id).map V.int)))) ⟨Ex.new nZ, upd_same⟩ (fun i H' _ z => z.1.sqT sqr) ?_ ?_⟩
    · rintro i x H' hi ⟨ex, hD⟩
      have hi' : i < rk.length := by have := (List.getElem?_eq_some_iff.mp hi).1; rw [List.length_map] at this; exact this
      rw [List.getElem?_map, List.getElem?_eq_getElem hi'] at hi
      cases hi
      have et : rk.take (i + 1) = rk.take i ++ [rk[i]] := by rw [List.take_add_one, List.getElem?_eq_getElem hi']; rfl
      refine ⟨wipe1, _, rfl, _, rfl, ?_⟩
      cases hO : rk[i] with
      | none =>
        refine iteF ⟨ex, ?_⟩
        rw [hD, et, hO, List.filterMap_append]
        simp
      | some z =>
        refine iteT ⟨_, rfl, _, hD, ?_, ex.put nZ wd4, ?_⟩
        · rw [List.length_map]
          refine small5000 (Nat.le_trans (List.length_filterMap_le _ _) ?_)
          rw [List.length_take]
          omega
        · rw [upd_same, et, hO, List.filterMap_append, List.map_append]
          rfl
    rintro H5 ⟨ex5, hD⟩
    rw [List.length_map, List.take_length] at hD
    refine ⟨Z, rk.filterMap id, rfl, SqL.of hD, by have := List.length_filterMap_le id rk; omega, ?_⟩
    have ekn : (srt (rk.filterMap id)).length = (kn rk).length := rfl
    rw [ekn]
    generalize hmany : (kn rk).length = many at *
    have x35 : Ex T [dr] H3 H5 := (ex4.trans ex5).nil
    have hd5 : Dr H5 dr := let ⟨ds, z⟩ := hd3; ⟨ds, (ex4.trans ex5).lst (by simp) z⟩
    refine ⟨_, rfl, _, rfl, am, _, _, _, rfl, rfl, x35.sqT sqm, rfl, dr, _, rfl, by have := ok.tags; omega, hd5, fun y1 H6 y10 y11 ex6 hd6 => ?_⟩
    refine ⟨_, rfl, _, rfl, _, _, rfl, rfl, .inl ⟨by decide, by decide⟩, _, _, rfl, rfl, dr, _, rfl, by omega, hd6, fun y2 H7 y20 y21 ex7 hd7 => ⟨by show 2 ≤ sizeLine; decide, fun t nt => ?_⟩⟩
    obtain ⟨y1, rfl⟩ := Int.eq_ofNat_of_zero_le y10
    have yt : y1 < m.tags := by omega
    have x8 := Ex.new (T := T) (ms := [dr]) (o := HO.tup [V.int (y1 : Nat), V.int y2]) nt
    have x38 := ((x35.trans ex6).trans ex7).trans x8
    have att : At K (upd H7 t (.tup [V.int (y1 : Nat), V.int y2])) (.ref t) (encE (y1, y2)) := At.laid nt (Ats.mk (at_int.mpr rfl) (Ats.mk (at_int.mpr rfl) Ats.mk_nil))
    have hd8 := hd7.new (o := HO.tup [V.int (y1 : Nat), V.int y2]) nt
    generalize upd H7 t (.tup [V.int (y1 : Nat), V.int y2]) = H8 at *
    obtain ⟨acc, k1, k2, k3⟩ := cl.put L0 (by simpa using nLd) wd x38 (x := .ref t) (d := encE (y1, y2)) att (by rw [List.length_map]; omega)
    refine ⟨_, rfl, .inl ⟨rfl, _, .inl (.inl k1)⟩, _, rfl, L, _, _, rfl, rfl, k1, k2, ?_⟩
    have xw : Ex T [L] H8 (upd H8 L (.lst (acc ++ [V.ref t]))) := Ex.write (by simp) k1
    have hd9 : Dr (upd H8 L (.lst (acc ++ [V.ref t]))) dr := hd8.put nLd.symm
    have sqr9 := xw.sqT ((((ex5.nil (ms := [dr])).trans ex6).trans ex7).trans x8 |>.sqT sqr)
    have att9 := att.ext xw
    have atc9 := (atc.ext x38).ext xw
    have sqc9 := xw.sqT (x38.sqT sqc)
    have hm9 := hm.ext k3.1
    have wd9 := k3.1.wd wd
    generalize upd H8 L (.lst (acc ++ [V.ref t])) = H9 at *
    refine ⟨_, rfl, ar, rfl, ⟨_, sqr9⟩, fun W nW => lc_tup (xs := rk.map oV) (fun i H' => Col K T [] W H9 H' (((mapH (fun x => 2 * x + 1) rk).take i).map encO)) (Col.start Ex.refl nW) (fun i H' _ z => z.1.sqT sqr9) ?_ ?_⟩
    · rintro i x H' hi cl5
      have hi' : i < rk.length := by have := (List.getElem?_eq_some_iff.mp hi).1; rw [List.length_map] at this; exact this
      rw [List.getElem?_map, List.getElem?_eq_getElem hi'] at hi
      cases hi
      have gi : (mapH (fun x => 2 * x + 1) rk)[i]? = some (rk[i].map fun x => 2 * x + 1) := by unfold mapH; rw [List.getElem?_map, List.getElem?_eq_getElem hi']; rfl
      have fin : ∀ o : Option Int, rk[i] = o → ∃ acc, H' W = some (.lst acc) ∧ acc.length < sizeLine ∧ Col K T [] W H9 (upd H' W (.lst (acc ++ [oV (o.map fun x => 2 * x + 1)]))) (((mapH (fun x => 2 * x + 1) rk).take (i + 1)).map encO) := fun o ho => by
        obtain ⟨acc, z1, z2, z3⟩ := cl5.put nW (by simp) wd9 Ex.refl (x := oV (o.map fun x => 2 * x + 1)) (d := encO (o.map fun x => 2 * x + 1)) (at_encO.mpr rfl) (take_len _ _ _ _ (by rw [mapH_len]; omega))
        refine ⟨acc, z1, z2, ?_⟩
        rw [take_map] at z3
        · exact z3
        · rw [gi, ho]
      refine ⟨wipe1, yesIf ⟨_, rfl, _, rfl, ?_⟩⟩
      cases hO : rk[i] with
      | none => exact iteT (fin none hO)
      | some v => exact iteF ⟨_, rfl, _, _, rfl, rfl, .inl ⟨by decide, by decide⟩, _, _, rfl, rfl, fin (some v) hO⟩
    · rintro HA cl5
      rw [List.length_map, show rk.length = (mapH (fun x => 2 * x + 1) rk).length by rw [mapH_len], List.take_length] at cl5
      obtain ⟨exA, as0, hW, atsW⟩ := cl5
      refine ⟨W, _, rfl, .inl ⟨SqL.of hW, fun l nl => ?_⟩⟩
      have xB := Ex.new (T := T) (ms := []) (o := HO.tup as0) nl
      have atl : At K (upd HA l (.tup as0)) (.ref l) (encH (mapH (fun x => 2 * x + 1) rk)) := At.laid nl atsW
      have xAB := exA.trans xB
      generalize upd HA l (.tup as0) = HB at *
      refine ⟨_, rfl, _, rfl, ac, _, _, _, rfl, rfl, xAB.sqT sqc9, rfl, _, rfl, by show 2 ≤ sizeLine; decide, fun p np => ?_⟩
      have xC := Ex.new (T := T) (ms := []) (o := HO.tup [V.int (st : Nat), V.ref l]) np
      have atp : At K (upd HB p (.tup [V.int (st : Nat), V.ref l])) (.ref p) (encCt st (mapH (fun x => 2 * x + 1) rk)) := At.laid np (Ats.mk (at_int.mpr rfl) (Ats.mk atl Ats.mk_nil))
      have xAC := xAB.trans xC
      generalize upd HB p (.tup [V.int (st : Nat), V.ref l]) = HC at *
      refine ⟨_, rfl, _, .ref p, .ref t, m, st, mapH (fun x => 2 * x + 1) rk, (y1, y2), rfl, hm9.ext xAC, atp, att9.ext xAC, xAC.wd wd9, ok, hst, yt, by rw [mapH_len]; omega, fun vr2 HD atD exD => ?_⟩
      obtain ⟨av, r1, r2, rfl, sqv, a1, a2⟩ := (show At K HD vr2 (.tup [encCt (readM m st (mapH (fun x => 2 * x + 1) rk) (y1, y2)).1 (readM m st (mapH (fun x => 2 * x + 1) rk) (y1, y2)).2.1, encA (readM m st (mapH (fun x => 2 * x + 1) rk) (y1, y2)).2.2]) from atD).t2
      have xAD := xAC.trans exD
      have hdD : Dr HD dr := let ⟨ds, z⟩ := hd9; ⟨ds, xAD.lst (by simp) z⟩
      refine ⟨av, _, _, _, rfl, rfl, sqv, rfl, ⟨r1, _, _, _, _, _, rfl, stepM m (st, mapH (fun x => 2 * x + 1) rk) (y1, y2), ss ++ [(y1, y2)], a1, okCt.step (m := m) (c := (st, mapH (fun x => 2 * x + 1) rk)) ⟨hst, by show (mapH _ rk).length = _; rw [mapH_len]; omega⟩ ok yt, ?_, okSp_snoc m (y1, y2) ss _ os ⟨yt, y20, by rw [tcR, hmany]; show y2 ≤ _; omega⟩, by rw [List.length_append, hl]; rfl, ?_⟩, hdD⟩
      · rw [tyL_snoc, ← tc]
        unfold tyS tyC
        dsimp only
        rw [hrk]
        rfl
      · rw [List.map_append]
        exact k3.ext (by simp [nLd]) (xAD.nil)
  · rintro σ' H3 ⟨⟨vc, y4, y5, y6, y7, y8, rfl, c, ss, atc, oc, tc, os, hl, ⟨ex3, as0, hL3, ats3⟩⟩, hd3⟩
    exact ⟨_, rfl, L, _, rfl, .inl ⟨SqL.of hL3, fun l nl => q _ _ ss (At.laid nl ats3) os (by omega) (ex3.trans (Ex.new nl)) (hd3.new nl)⟩⟩

abbrev N__law_narrowing : List Str := ["draws", "steps", "between"]
theorem sc__law_narrowing : FnScope N__law_narrowing ["draws"] (defScope s__law_narrowing) := ⟨rfl, rfl, rfl, by decide +kernel, rfl, by decide +kernel, by decide +kernel⟩
theorem flat_one {α : Type} (a : α) : ∀ n : Nat, (List.replicate n [a]).flatten = List.replicate n a
  | 0 => rfl
  | n + 1 => by rw [List.replicate_succ, List.flatten_cons, flat_one a n]; rfl
theorem narM_ok : okM 2 narM := by
  have ok0 := (show ∀ cs ∈ ([[(⟨(.emp 0), [(-1), (-2)], [(0, (-1))], 0⟩ : Case), (⟨(.less 0 (-1)), [0, (-1)], [], 1⟩ : Case)]] : List (List Case)), cs.length ≤ 4 ∧ ∀ c ∈ cs, okCase 2 3 2 c from (List.forall_mem_cons.mpr ⟨⟨by show 2 ≤ 4; decide, (List.forall_mem_cons.mpr ⟨⟨(okC_emp ⟨by omega, by omega⟩), rfl, (List.forall_mem_cons.mpr ⟨by show (-2 : Int) ≤ (-1) ∧ (-1) < ((2 : Nat) : Int); omega, (List.forall_mem_cons.mpr ⟨by show (-2 : Int) ≤ (-2) ∧ (-2) < ((2 : Nat) : Int); omega, (List.forall_mem_nil _)⟩)⟩), (List.forall_mem_cons.mpr ⟨(by show (0 : Int) ≤ 0 ∧ (-2 : Int) ≤ (-1) ∧ (-1) < ((2 : Nat) : Int); omega), (List.forall_mem_nil _)⟩), by show 1 ≤ 1000; decide, by show 0 < 3; decide⟩, (List.forall_mem_cons.mpr ⟨⟨(okC_less ⟨by omega, by omega⟩ ⟨by omega, by omega⟩), rfl, (List.forall_mem_cons.mpr ⟨by show (-2 : Int) ≤ 0 ∧ 0 < ((2 : Nat) : Int); omega, (List.forall_mem_cons.mpr ⟨by show (-2 : Int) ≤ (-1) ∧ (-1) < ((2 : Nat) : Int); omega, (List.forall_mem_nil _)⟩)⟩), (List.forall_mem_nil _), by show 0 ≤ 1000; decide, by show 1 < 3; decide⟩, (List.forall_mem_nil _)⟩)⟩)⟩, (List.forall_mem_nil _)⟩))
  have ok1 := (show ∀ cs ∈ ([[(⟨(.all [(.less 0 (-1)), (.less (-1) 1)]), [(-1), 1], [], 2⟩ : Case)]] : List (List Case)), cs.length ≤ 4 ∧ ∀ c ∈ cs, okCase 2 3 2 c from (List.forall_mem_cons.mpr ⟨⟨by show 1 ≤ 4; decide, (List.forall_mem_cons.mpr ⟨⟨(okC_all (by show 2 ≤ 100000; decide) (okCs_cons (okC_less ⟨by omega, by omega⟩ ⟨by omega, by omega⟩) (okCs_cons (okC_less ⟨by omega, by omega⟩ ⟨by omega, by omega⟩) okCs_nil))), rfl, (List.forall_mem_cons.mpr ⟨by show (-2 : Int) ≤ (-1) ∧ (-1) < ((2 : Nat) : Int); omega, (List.forall_mem_cons.mpr ⟨by show (-2 : Int) ≤ 1 ∧ 1 < ((2 : Nat) : Int); omega, (List.forall_mem_nil _)⟩)⟩), (List.forall_mem_nil _), by show 0 ≤ 1000; decide, by show 2 < 3; decide⟩, (List.forall_mem_nil _)⟩)⟩, (List.forall_mem_nil _)⟩))
  have ok2 := (show ∀ cs ∈ ([[(⟨(.all [(.less 0 (-1)), (.less (-1) 1)]), [0, (-1)], [], 1⟩ : Case)]] : List (List Case)), cs.length ≤ 4 ∧ ∀ c ∈ cs, okCase 2 3 2 c from (List.forall_mem_cons.mpr ⟨⟨by show 1 ≤ 4; decide, (List.forall_mem_cons.mpr ⟨⟨(okC_all (by show 2 ≤ 100000; decide) (okCs_cons (okC_less ⟨by omega, by omega⟩ ⟨by omega, by omega⟩) (okCs_cons (okC_less ⟨by omega, by omega⟩ ⟨by omega, by omega⟩) okCs_nil))), rfl, (List.forall_mem_cons.mpr ⟨by show (-2 : Int) ≤ 0 ∧ 0 < ((2 : Nat) : Int); omega, (List.forall_mem_cons.mpr ⟨by show (-2 : Int) ≤ (-1) ∧ (-1) < ((2 : Nat) : Int); omega, (List.forall_mem_nil _)⟩)⟩), (List.forall_mem_nil _), by show 0 ≤ 1000; decide, by show 1 < 3; decide⟩, (List.forall_mem_nil _)⟩)⟩, (List.forall_mem_nil _)⟩))
  have h : ∀ s ∈ narM.steps, s.length = 1 ∧ ∀ cs ∈ s, cs.length ≤ 4 ∧ ∀ c ∈ cs, okCase 2 3 2 c := List.forall_mem_cons.mpr ⟨⟨rfl, ok0⟩, List.forall_mem_cons.mpr ⟨⟨rfl, ok1⟩, List.forall_mem_cons.mpr ⟨⟨rfl, ok2⟩, List.forall_mem_nil _⟩⟩⟩
  exact ⟨by decide, by decide, by decide, by decide, by decide, fun s hs => (h s hs).1, fun s hs cs hcs => ⟨Nat.le_trans ((h s hs).2 cs hcs).1 (by decide), ((h s hs).2 cs hcs).2⟩⟩
def sp__law_narrowing (K : PySem.W.Frag) (T : List Addr) : Sp := fun vs H Q _ => ∃ (dr : Addr), vs = [.ref dr] ∧ Wd T H ∧ Dr H dr ∧
  ∀ p v w n H', SqT K H' p [v, w] → At K H' v (encM narM) → At K H' w (.tup ((narS n).map encE)) → n ≤ 121 → Ex T [dr] H H' → Dr H' dr → Q (.ref p) H'
theorem ok__law_narrowing {f : Addr} {fd : FuncData} {k : Nat} {T : List Addr} (F : Fun K "_law_narrowing" "_law_narrowing" s__law_narrowing f fd) (m_tuple : mg "tuple" = none)
    {a__law_take : Addr} {d__law_take : FuncData} (G__law_take : FnOk P w K mg base CX0 k a__law_take d__law_take ["draws", "many"] (sp__law_take T)) (k__law_take : PySem.W.keepIn K (.ref a__law_take) = true) (b__law_take : Binds K d__law_take ["draws", "many"] []) (m__law_take : mg "_law_take" = some (.ref a__law_take)) :
    FnOk P w K mg base CX0 (k + 1) f fd ["draws"] (sp__law_narrowing K T) := by
  refine F.ok sc__law_narrowing (fun vs H Q E h => ?_) (fun cdv A outer s H vs Q E hr h => ?_)
  · obtain ⟨dr, rfl, _⟩ := h
    rfl
  obtain ⟨dr, rfl, wd, hd, q⟩ := h
  refine ⟨_, (pss_cons (ps_set (i := 1) sc__law_narrowing.nd rfl (.inl rfl) (pe_lst (pa_cons (pe_tup (pa_cons (pe_tup (pa_cons (pe_tup (pa_cons (pe_tup (pa_cons pe_str (pa_cons pe_int pa_nil))) (pa_cons (pe_tup (pa_cons (pe_un un_neg pe_int) (pa_cons (pe_un un_neg pe_int) pa_nil))) (pa_cons (pe_tup (pa_cons (pe_tup (pa_cons pe_int (pa_cons (pe_un un_neg pe_int) pa_nil))) pa_nil)) (pa_cons pe_int pa_nil))))) (pa_cons (pe_tup (pa_cons (pe_tup (pa_cons pe_str (pa_cons pe_int (pa_cons (pe_un un_neg pe_int) pa_nil)))) (pa_cons (pe_tup (pa_cons pe_int (pa_cons (pe_un un_neg pe_int) pa_nil))) (pa_cons (pe_tup pa_nil) (pa_cons pe_int pa_nil))))) pa_nil))) pa_nil)) pa_nil)))
    (pss_cons (ps_set (i := 2) sc__law_narrowing.nd rfl (.inl rfl) (pe_tup (pa_cons pe_str (pa_cons (pe_tup (pa_cons (pe_tup (pa_cons pe_str (pa_cons pe_int (pa_cons (pe_un un_neg pe_int) pa_nil)))) (pa_cons (pe_tup (pa_cons pe_str (pa_cons (pe_un un_neg pe_int) (pa_cons pe_int pa_nil)))) pa_nil))) pa_nil))))
    (pss_cons (ps_expr (pe_bm PySem.F.plainAttrs_list PySem.F.slot_list_append PySem.F.type_list_append mt_append (pv 1) (pa_cons (pe_tup (pa_cons (pe_tup (pa_cons (pe_tup (pa_cons (pv 2) (pa_cons (pe_tup (pa_cons (pe_un un_neg pe_int) (pa_cons pe_int pa_nil))) (pa_cons (pe_tup pa_nil) (pa_cons pe_int pa_nil))))) pa_nil)) pa_nil)) pa_nil)))
    (pss_cons (ps_expr (pe_bm PySem.F.plainAttrs_list PySem.F.slot_list_append PySem.F.type_list_append mt_append (pv 1) (pa_cons (pe_tup (pa_cons (pe_tup (pa_cons (pe_tup (pa_cons (pv 2) (pa_cons (pe_tup (pa_cons pe_int (pa_cons (pe_un un_neg pe_int) pa_nil))) (pa_cons (pe_tup pa_nil) (pa_cons pe_int pa_nil))))) pa_nil)) pa_nil)) pa_nil)))
    (pss_one (ps_ret (pe_tup (pa_cons (pe_tup (pa_cons pe_int (pa_cons pe_int (pa_cons (pe_callTy call_tuple_of (by rfl) m_tuple (by decide +kernel) (pa_cons (pv 1) pa_nil)) pa_nil)))) (pa_cons (pe_op op_catA (pe_tup (pa_cons (pe_tup (pa_cons pe_int (pa_cons pe_int pa_nil))) pa_nil)) (pe_op Tm.op_repN (pe_tup (pa_cons (pe_tup (pa_cons pe_int (pa_cons pe_int pa_nil))) pa_nil)) (pe_op op_add pe_int (pe_call G__law_take hr (by rfl) m__law_take k__law_take b__law_take .nil pass0 (pa_cons (pv 0) (pa_cons pe_int pa_nil)))))) pa_nil))))))))), ?_⟩
  have X : Ex T [dr] H H := Ex.refl
  refine ⟨by show 2 ≤ sizeLine; decide, fun p1 n1 => ?_⟩
  have a1 : At K (upd H p1 (.tup [.str "empty", .int 0])) (.ref p1) (encC (.emp 0)) := new_emp n1
  have x1 := Ex.new (T := T) (ms := [dr]) (o := (.tup [.str "empty", .int 0])) n1
  replace hd := hd.new (o := (.tup [.str "empty", .int 0])) n1
  replace X := X.trans x1
  clear x1
  generalize upd H p1 (.tup [.str "empty", .int 0]) = K1 at *
  refine ⟨_, rfl, _, rfl, by show 2 ≤ sizeLine; decide, fun p2 n2 => ?_⟩
  have a2 : At K (upd K1 p2 (.tup [.int (-1), .int (-2)])) (.ref p2) (.tup (([(-1), (-2)] : List Int).map D.int)) := At.laid n2 (Ats.mk (at_int.mpr rfl) (Ats.mk (at_int.mpr rfl) Ats.mk_nil))
  have x2 := Ex.new (T := T) (ms := [dr]) (o := (.tup [.int (-1), .int (-2)])) n2
  replace hd := hd.new (o := (.tup [.int (-1), .int (-2)])) n2
  replace X := X.trans x2
  replace a1 := a1.ext x2
  clear x2
  generalize upd K1 p2 (.tup [.int (-1), .int (-2)]) = K2 at *
  refine ⟨_, rfl, by show 2 ≤ sizeLine; decide, fun p3 n3 => ?_⟩
  have a3 : At K (upd K2 p3 (.tup [.int 0, .int (-1)])) (.ref p3) (encSay (0, (-1))) := At.laid n3 (Ats.mk (at_int.mpr rfl) (Ats.mk (at_int.mpr rfl) Ats.mk_nil))
  have x3 := Ex.new (T := T) (ms := [dr]) (o := (.tup [.int 0, .int (-1)])) n3
  replace hd := hd.new (o := (.tup [.int 0, .int (-1)])) n3
  replace X := X.trans x3
  replace a1 := a1.ext x3
  replace a2 := a2.ext x3
  clear x3
  generalize upd K2 p3 (.tup [.int 0, .int (-1)]) = K3 at *
  refine ⟨by show 1 ≤ sizeLine; decide, fun p4 n4 => ?_⟩
  have a4 : At K (upd K3 p4 (.tup [.ref p3])) (.ref p4) (.tup (([(0, (-1))] : List (Int × Int)).map encSay)) := At.laid n4 (Ats.mk a3 Ats.mk_nil)
  have x4 := Ex.new (T := T) (ms := [dr]) (o := (.tup [.ref p3])) n4
  replace hd := hd.new (o := (.tup [.ref p3])) n4
  replace X := X.trans x4
  replace a1 := a1.ext x4
  replace a2 := a2.ext x4
  clear x4
  generalize upd K3 p4 (.tup [.ref p3]) = K4 at *
  refine ⟨by show 4 ≤ sizeLine; decide, fun p5 n5 => ?_⟩
  have a5 : At K (upd K4 p5 (.tup [.ref p1, .ref p2, .ref p4, .int ((0 : Nat) : Int)])) (.ref p5) (encCase (⟨(.emp 0), [(-1), (-2)], [(0, (-1))], 0⟩ : Case)) := At.laid n5 (Ats.mk a1 (Ats.mk a2 (Ats.mk a4 (Ats.mk (at_int.mpr rfl) Ats.mk_nil))))
  have x5 := Ex.new (T := T) (ms := [dr]) (o := (.tup [.ref p1, .ref p2, .ref p4, .int ((0 : Nat) : Int)])) n5
  replace hd := hd.new (o := (.tup [.ref p1, .ref p2, .ref p4, .int ((0 : Nat) : Int)])) n5
  replace X := X.trans x5
  clear x5
  generalize upd K4 p5 (.tup [.ref p1, .ref p2, .ref p4, .int ((0 : Nat) : Int)]) = K5 at *
  refine ⟨_, rfl, by show 3 ≤ sizeLine; decide, fun p6 n6 => ?_⟩
  have a6 : At K (upd K5 p6 (.tup [.str "less", .int 0, .int (-1)])) (.ref p6) (encC (.less 0 (-1))) := new_less n6
  have x6 := Ex.new (T := T) (ms := [dr]) (o := (.tup [.str "less", .int 0, .int (-1)])) n6
  replace hd := hd.new (o := (.tup [.str "less", .int 0, .int (-1)])) n6
  replace X := X.trans x6
  replace a5 := a5.ext x6
  clear x6
  generalize upd K5 p6 (.tup [.str "less", .int 0, .int (-1)]) = K6 at *
  refine ⟨_, rfl, by show 2 ≤ sizeLine; decide, fun p7 n7 => ?_⟩
  have a7 : At K (upd K6 p7 (.tup [.int 0, .int (-1)])) (.ref p7) (.tup (([0, (-1)] : List Int).map D.int)) := At.laid n7 (Ats.mk (at_int.mpr rfl) (Ats.mk (at_int.mpr rfl) Ats.mk_nil))
  have x7 := Ex.new (T := T) (ms := [dr]) (o := (.tup [.int 0, .int (-1)])) n7
  replace hd := hd.new (o := (.tup [.int 0, .int (-1)])) n7
  replace X := X.trans x7
  replace a5 := a5.ext x7
  replace a6 := a6.ext x7
  clear x7
  generalize upd K6 p7 (.tup [.int 0, .int (-1)]) = K7 at *
  refine ⟨by show 0 ≤ sizeLine; decide, fun p8 n8 => ?_⟩
  have a8 : At K (upd K7 p8 (.tup [])) (.ref p8) (.tup (([] : List (Int × Int)).map encSay)) := At.laid n8 Ats.mk_nil
  have x8 := Ex.new (T := T) (ms := [dr]) (o := (.tup [])) n8
  replace hd := hd.new (o := (.tup [])) n8
  replace X := X.trans x8
  replace a5 := a5.ext x8
  replace a6 := a6.ext x8
  replace a7 := a7.ext x8
  clear x8
  generalize upd K7 p8 (.tup []) = K8 at *
  refine ⟨by show 4 ≤ sizeLine; decide, fun p9 n9 => ?_⟩
  have a9 : At K (upd K8 p9 (.tup [.ref p6, .ref p7, .ref p8, .int ((1 : Nat) : Int)])) (.ref p9) (encCase (⟨(.less 0 (-1)), [0, (-1)], [], 1⟩ : Case)) := At.laid n9 (Ats.mk a6 (Ats.mk a7 (Ats.mk a8 (Ats.mk (at_int.mpr rfl) Ats.mk_nil))))
  have x9 := Ex.new (T := T) (ms := [dr]) (o := (.tup [.ref p6, .ref p7, .ref p8, .int ((1 : Nat) : Int)])) n9
  replace hd := hd.new (o := (.tup [.ref p6, .ref p7, .ref p8, .int ((1 : Nat) : Int)])) n9
  replace X := X.trans x9
  replace a5 := a5.ext x9
  clear x9
  generalize upd K8 p9 (.tup [.ref p6, .ref p7, .ref p8, .int ((1 : Nat) : Int)]) = K9 at *
  refine ⟨by show 2 ≤ sizeLine; decide, fun p10 n10 => ?_⟩
  have a10 : At K (upd K9 p10 (.tup [.ref p5, .ref p9])) (.ref p10) (encCases [(⟨(.emp 0), [(-1), (-2)], [(0, (-1))], 0⟩ : Case), (⟨(.less 0 (-1)), [0, (-1)], [], 1⟩ : Case)]) := At.laid n10 (Ats.mk a5 (Ats.mk a9 Ats.mk_nil))
  have x10 := Ex.new (T := T) (ms := [dr]) (o := (.tup [.ref p5, .ref p9])) n10
  replace hd := hd.new (o := (.tup [.ref p5, .ref p9])) n10
  replace X := X.trans x10
  clear x10
  generalize upd K9 p10 (.tup [.ref p5, .ref p9]) = K10 at *
  refine ⟨by show 1 ≤ sizeLine; decide, fun p11 n11 => ?_⟩
  have a11 : At K (upd K10 p11 (.tup [.ref p10])) (.ref p11) (encSt [[(⟨(.emp 0), [(-1), (-2)], [(0, (-1))], 0⟩ : Case), (⟨(.less 0 (-1)), [0, (-1)], [], 1⟩ : Case)]]) := At.laid n11 (Ats.mk a10 Ats.mk_nil)
  have x11 := Ex.new (T := T) (ms := [dr]) (o := (.tup [.ref p10])) n11
  replace hd := hd.new (o := (.tup [.ref p10])) n11
  replace X := X.trans x11
  clear x11
  generalize upd K10 p11 (.tup [.ref p10]) = K11 at *
  refine ⟨by show 1 ≤ sizeLine; decide, fun L nL => ?_⟩
  have L0 : H L = none := X.free nL
  have xL := Ex.new (T := T) (ms := [dr]) (o := HO.lst [.ref p11]) nL
  have ls : LsAt dr (upd K11 L (.lst [.ref p11])) L [.ref p11] := ⟨hd.ne nL, upd_same⟩
  replace hd := hd.new (o := HO.lst [.ref p11]) nL
  replace X := X.trans xL
  replace a11 := a11.ext xL
  clear xL
  generalize upd K11 L (.lst [.ref p11]) = KL0 at *
  refine ⟨_, rfl, by show 3 ≤ sizeLine; decide, fun p12 n12 => ?_⟩
  have a12 : At K (upd KL0 p12 (.tup [.str "less", .int 0, .int (-1)])) (.ref p12) (encC (.less 0 (-1))) := new_less n12
  have x12 := Ex.new (T := T) (ms := [dr]) (o := (.tup [.str "less", .int 0, .int (-1)])) n12
  replace hd := hd.new (o := (.tup [.str "less", .int 0, .int (-1)])) n12
  replace X := X.trans x12
  replace a11 := a11.ext x12
  replace ls := ls.ext x12
  clear x12
  generalize upd KL0 p12 (.tup [.str "less", .int 0, .int (-1)]) = K12 at *
  refine ⟨_, rfl, by show 3 ≤ sizeLine; decide, fun p13 n13 => ?_⟩
  have a13 : At K (upd K12 p13 (.tup [.str "less", .int (-1), .int 1])) (.ref p13) (encC (.less (-1) 1)) := new_less n13
  have x13 := Ex.new (T := T) (ms := [dr]) (o := (.tup [.str "less", .int (-1), .int 1])) n13
  replace hd := hd.new (o := (.tup [.str "less", .int (-1), .int 1])) n13
  replace X := X.trans x13
  replace a11 := a11.ext x13
  replace ls := ls.ext x13
  replace a12 := a12.ext x13
  clear x13
  generalize upd K12 p13 (.tup [.str "less", .int (-1), .int 1]) = K13 at *
  refine ⟨by show 2 ≤ sizeLine; decide, fun p14 n14 => ?_⟩
  have a14 : At K (upd K13 p14 (.tup [.ref p12, .ref p13])) (.ref p14) (.tup (encCs [(.less 0 (-1)), (.less (-1) 1)])) := At.laid n14 (ats_c2 a12 a13)
  have x14 := Ex.new (T := T) (ms := [dr]) (o := (.tup [.ref p12, .ref p13])) n14
  replace hd := hd.new (o := (.tup [.ref p12, .ref p13])) n14
  replace X := X.trans x14
  replace a11 := a11.ext x14
  replace ls := ls.ext x14
  clear x14
  generalize upd K13 p14 (.tup [.ref p12, .ref p13]) = K14 at *
  refine ⟨by show 2 ≤ sizeLine; decide, fun p15 n15 => ?_⟩
  have a15 : At K (upd K14 p15 (.tup [.str "all", .ref p14])) (.ref p15) (encC (.all [(.less 0 (-1)), (.less (-1) 1)])) := new_all n15 a14
  have x15 := Ex.new (T := T) (ms := [dr]) (o := (.tup [.str "all", .ref p14])) n15
  replace hd := hd.new (o := (.tup [.str "all", .ref p14])) n15
  replace X := X.trans x15
  replace a11 := a11.ext x15
  replace ls := ls.ext x15
  clear x15
  generalize upd K14 p15 (.tup [.str "all", .ref p14]) = K15 at *
  refine ⟨_, rfl, .inl ⟨rfl, _, .inl (.inl ls.at_)⟩, _, rfl, _, rfl, by show 2 ≤ sizeLine; decide, fun p16 n16 => ?_⟩
  have a16 : At K (upd K15 p16 (.tup [.int (-1), .int 1])) (.ref p16) (.tup (([(-1), 1] : List Int).map D.int)) := At.laid n16 (Ats.mk (at_int.mpr rfl) (Ats.mk (at_int.mpr rfl) Ats.mk_nil))
  have x16 := Ex.new (T := T) (ms := [dr]) (o := (.tup [.int (-1), .int 1])) n16
  replace hd := hd.new (o := (.tup [.int (-1), .int 1])) n16
  replace X := X.trans x16
  replace ls := ls.ext x16
  replace a15 := a15.ext x16
  replace a11 := a11.ext x16
  clear x16
  generalize upd K15 p16 (.tup [.int (-1), .int 1]) = K16 at *
  refine ⟨by show 0 ≤ sizeLine; decide, fun p17 n17 => ?_⟩
  have a17 : At K (upd K16 p17 (.tup [])) (.ref p17) (.tup (([] : List (Int × Int)).map encSay)) := At.laid n17 Ats.mk_nil
  have x17 := Ex.new (T := T) (ms := [dr]) (o := (.tup [])) n17
  replace hd := hd.new (o := (.tup [])) n17
  replace X := X.trans x17
  replace ls := ls.ext x17
  replace a15 := a15.ext x17
  replace a11 := a11.ext x17
  replace a16 := a16.ext x17
  clear x17
  generalize upd K16 p17 (.tup []) = K17 at *
  refine ⟨by show 4 ≤ sizeLine; decide, fun p18 n18 => ?_⟩
  have a18 : At K (upd K17 p18 (.tup [.ref p15, .ref p16, .ref p17, .int ((2 : Nat) : Int)])) (.ref p18) (encCase (⟨(.all [(.less 0 (-1)), (.less (-1) 1)]), [(-1), 1], [], 2⟩ : Case)) := At.laid n18 (Ats.mk a15 (Ats.mk a16 (Ats.mk a17 (Ats.mk (at_int.mpr rfl) Ats.mk_nil))))
  have x18 := Ex.new (T := T) (ms := [dr]) (o := (.tup [.ref p15, .ref p16, .ref p17, .int ((2 : Nat) : Int)])) n18
  replace hd := hd.new (o := (.tup [.ref p15, .ref p16, .ref p17, .int ((2 : Nat) : Int)])) n18
  replace X := X.trans x18
  replace ls := ls.ext x18
  replace a15 := a15.ext x18
  replace a11 := a11.ext x18
  clear x18
  generalize upd K17 p18 (.tup [.ref p15, .ref p16, .ref p17, .int ((2 : Nat) : Int)]) = K18 at *
  refine ⟨by show 1 ≤ sizeLine; decide, fun p19 n19 => ?_⟩
  have a19 : At K (upd K18 p19 (.tup [.ref p18])) (.ref p19) (encCases [(⟨(.all [(.less 0 (-1)), (.less (-1) 1)]), [(-1), 1], [], 2⟩ : Case)]) := At.laid n19 (Ats.mk a18 Ats.mk_nil)
  have x19 := Ex.new (T := T) (ms := [dr]) (o := (.tup [.ref p18])) n19
  replace hd := hd.new (o := (.tup [.ref p18])) n19
  replace X := X.trans x19
  replace ls := ls.ext x19
  replace a15 := a15.ext x19
  replace a11 := a11.ext x19
  clear x19
  generalize upd K18 p19 (.tup [.ref p18]) = K19 at *
  refine ⟨by show 1 ≤ sizeLine; decide, fun p20 n20 => ?_⟩
  have a20 : At K (upd K19 p20 (.tup [.ref p19])) (.ref p20) (encSt [[(⟨(.all [(.less 0 (-1)), (.less (-1) 1)]), [(-1), 1], [], 2⟩ : Case)]]) := At.laid n20 (Ats.mk a19 Ats.mk_nil)
  have x20 := Ex.new (T := T) (ms := [dr]) (o := (.tup [.ref p19])) n20
  replace hd := hd.new (o := (.tup [.ref p19])) n20
  replace X := X.trans x20
  replace ls := ls.ext x20
  replace a15 := a15.ext x20
  replace a11 := a11.ext x20
  clear x20
  generalize upd K19 p20 (.tup [.ref p19]) = K20 at *
  refine ⟨L, _, _, rfl, rfl, ls.at_, by show 1 < sizeLine; decide, ?_⟩
  have xw0 : Ex T [L] K20 (upd K20 L (.lst ([.ref p11] ++ [.ref p20]))) := Ex.write (by simp) ls.at_
  replace X : Ex T [dr] H (upd K20 L (.lst ([.ref p11] ++ [.ref p20]))) := X.put L0 wd
  replace hd : Dr (upd K20 L (.lst ([.ref p11] ++ [.ref p20]))) dr := hd.put ls.ne.symm
  replace a11 := a11.ext xw0
  replace a20 := a20.ext xw0
  replace a15 := a15.ext xw0
  replace ls : LsAt dr (upd K20 L (.lst ([.ref p11] ++ [.ref p20]))) L [.ref p11, .ref p20] := ⟨ls.ne, upd_same⟩
  clear xw0
  generalize upd K20 L (.lst ([.ref p11] ++ [.ref p20])) = KW0 at *
  refine ⟨_, rfl, .inl ⟨rfl, _, .inl (.inl ls.at_)⟩, _, rfl, _, rfl, by show 2 ≤ sizeLine; decide, fun p21 n21 => ?_⟩
  have a21 : At K (upd KW0 p21 (.tup [.int 0, .int (-1)])) (.ref p21) (.tup (([0, (-1)] : List Int).map D.int)) := At.laid n21 (Ats.mk (at_int.mpr rfl) (Ats.mk (at_int.mpr rfl) Ats.mk_nil))
  have x21 := Ex.new (T := T) (ms := [dr]) (o := (.tup [.int 0, .int (-1)])) n21
  replace hd := hd.new (o := (.tup [.int 0, .int (-1)])) n21
  replace X := X.trans x21
  replace ls := ls.ext x21
  replace a15 := a15.ext x21
  replace a11 := a11.ext x21
  replace a20 := a20.ext x21
  clear x21
  generalize upd KW0 p21 (.tup [.int 0, .int (-1)]) = K21 at *
  refine ⟨by show 0 ≤ sizeLine; decide, fun p22 n22 => ?_⟩
  have a22 : At K (upd K21 p22 (.tup [])) (.ref p22) (.tup (([] : List (Int × Int)).map encSay)) := At.laid n22 Ats.mk_nil
  have x22 := Ex.new (T := T) (ms := [dr]) (o := (.tup [])) n22
  replace hd := hd.new (o := (.tup [])) n22
  replace X := X.trans x22
  replace ls := ls.ext x22
  replace a15 := a15.ext x22
  replace a11 := a11.ext x22
  replace a20 := a20.ext x22
  replace a21 := a21.ext x22
  clear x22
  generalize upd K21 p22 (.tup []) = K22 at *
  refine ⟨by show 4 ≤ sizeLine; decide, fun p23 n23 => ?_⟩
  have a23 : At K (upd K22 p23 (.tup [.ref p15, .ref p21, .ref p22, .int ((1 : Nat) : Int)])) (.ref p23) (encCase (⟨(.all [(.less 0 (-1)), (.less (-1) 1)]), [0, (-1)], [], 1⟩ : Case)) := At.laid n23 (Ats.mk a15 (Ats.mk a21 (Ats.mk a22 (Ats.mk (at_int.mpr rfl) Ats.mk_nil))))
  have x23 := Ex.new (T := T) (ms := [dr]) (o := (.tup [.ref p15, .ref p21, .ref p22, .int ((1 : Nat) : Int)])) n23
  replace hd := hd.new (o := (.tup [.ref p15, .ref p21, .ref p22, .int ((1 : Nat) : Int)])) n23
  replace X := X.trans x23
  replace ls := ls.ext x23
  replace a15 := a15.ext x23
  replace a11 := a11.ext x23
  replace a20 := a20.ext x23
  clear x23
  generalize upd K22 p23 (.tup [.ref p15, .ref p21, .ref p22, .int ((1 : Nat) : Int)]) = K23 at *
  refine ⟨by show 1 ≤ sizeLine; decide, fun p24 n24 => ?_⟩
  have a24 : At K (upd K23 p24 (.tup [.ref p23])) (.ref p24) (encCases [(⟨(.all [(.less 0 (-1)), (.less (-1) 1)]), [0, (-1)], [], 1⟩ : Case)]) := At.laid n24 (Ats.mk a23 Ats.mk_nil)
  have x24 := Ex.new (T := T) (ms := [dr]) (o := (.tup [.ref p23])) n24
  replace hd := hd.new (o := (.tup [.ref p23])) n24
  replace X := X.trans x24
  replace ls := ls.ext x24
  replace a15 := a15.ext x24
  replace a11 := a11.ext x24
  replace a20 := a20.ext x24
  clear x24
  generalize upd K23 p24 (.tup [.ref p23]) = K24 at *
  refine ⟨by show 1 ≤ sizeLine; decide, fun p25 n25 => ?_⟩
  have a25 : At K (upd K24 p25 (.tup [.ref p24])) (.ref p25) (encSt [[(⟨(.all [(.less 0 (-1)), (.less (-1) 1)]), [0, (-1)], [], 1⟩ : Case)]]) := At.laid n25 (Ats.mk a24 Ats.mk_nil)
  have x25 := Ex.new (T := T) (ms := [dr]) (o := (.tup [.ref p24])) n25
  replace hd := hd.new (o := (.tup [.ref p24])) n25
  replace X := X.trans x25
  replace ls := ls.ext x25
  replace a15 := a15.ext x25
  replace a11 := a11.ext x25
  replace a20 := a20.ext x25
  clear x25
  generalize upd K24 p25 (.tup [.ref p24]) = K25 at *
  refine ⟨L, _, _, rfl, rfl, ls.at_, by show 2 < sizeLine; decide, ?_⟩
  have xw1 : Ex T [L] K25 (upd K25 L (.lst ([.ref p11, .ref p20] ++ [.ref p25]))) := Ex.write (by simp) ls.at_
  replace X : Ex T [dr] H (upd K25 L (.lst ([.ref p11, .ref p20] ++ [.ref p25]))) := X.put L0 wd
  replace hd : Dr (upd K25 L (.lst ([.ref p11, .ref p20] ++ [.ref p25]))) dr := hd.put ls.ne.symm
  replace a11 := a11.ext xw1
  replace a20 := a20.ext xw1
  replace a25 := a25.ext xw1
  replace a15 := a15.ext xw1
  replace ls : LsAt dr (upd K25 L (.lst ([.ref p11, .ref p20] ++ [.ref p25]))) L [.ref p11, .ref p20, .ref p25] := ⟨ls.ne, upd_same⟩
  clear xw1
  generalize upd K25 L (.lst ([.ref p11, .ref p20] ++ [.ref p25])) = KW1 at *
  refine ⟨_, rfl, L, _, rfl, .inl ⟨SqL.of ls.at_, fun l nl => ?_⟩⟩
  have xS := Ex.new (T := T) (ms := [dr]) (o := HO.tup [.ref p11, .ref p20, .ref p25]) nl
  have aS : At K (upd KW1 l (.tup [.ref p11, .ref p20, .ref p25])) (.ref l) (.tup (narM.steps.map encSt)) := At.laid nl (Ats.mk a11 (Ats.mk a20 (Ats.mk a25 Ats.mk_nil)))
  replace hd := hd.new (o := HO.tup [.ref p11, .ref p20, .ref p25]) nl
  replace X := X.trans xS
  clear xS
  generalize upd KW1 l (.tup [.ref p11, .ref p20, .ref p25]) = M0 at *
  refine ⟨by show 3 ≤ sizeLine; decide, fun pm nm => ?_⟩
  have xM := Ex.new (T := T) (ms := [dr]) (o := HO.tup [V.int 1, V.int 2, V.ref l]) nm
  have aM : At K (upd M0 pm (.tup [V.int 1, V.int 2, V.ref l])) (.ref pm) (encM narM) := At.laid nm (Ats.mk (at_int.mpr rfl) (Ats.mk (at_int.mpr rfl) (Ats.mk aS Ats.mk_nil)))
  replace hd := hd.new (o := HO.tup [V.int 1, V.int 2, V.ref l]) nm
  replace X := X.trans xM
  clear xM
  generalize upd M0 pm (.tup [V.int 1, V.int 2, V.ref l]) = M1 at *
  refine ⟨by show 2 ≤ sizeLine; decide, fun p1 n1' => ⟨by show 1 ≤ sizeLine; decide, fun p2 n2' => ?_⟩⟩
  have y1 := Ex.new (T := T) (ms := [dr]) (o := HO.tup [V.int 0, V.int 0]) n1'
  have y2 := Ex.new (T := T) (ms := [dr]) (o := HO.tup [V.ref p1]) n2'
  have b2 : At K (upd (upd M1 p1 (.tup [V.int 0, V.int 0])) p2 (.tup [V.ref p1])) (.ref p2) (.tup [encE (0, 0)]) := At.laid n2' (Ats.mk (At.laid n1' (Ats.mk (at_int.mpr rfl) (Ats.mk (at_int.mpr rfl) Ats.mk_nil))) Ats.mk_nil)
  replace aM := (aM.ext y1).ext y2
  replace hd := (hd.new (o := HO.tup [V.int 0, V.int 0]) n1').new (o := HO.tup [V.ref p1]) n2'
  replace X := (X.trans y1).trans y2
  clear y1 y2
  generalize upd (upd M1 p1 (.tup [V.int 0, V.int 0])) p2 (.tup [V.ref p1]) = M2 at *
  refine ⟨by show 2 ≤ sizeLine; decide, fun p3 n3' => ⟨by show 1 ≤ sizeLine; decide, fun p4 n4' => ?_⟩⟩
  have y3 := Ex.new (T := T) (ms := [dr]) (o := HO.tup [V.int 0, V.int 2]) n3'
  have y4 := Ex.new (T := T) (ms := [dr]) (o := HO.tup [V.ref p3]) n4'
  have b3 : At K (upd (upd M2 p3 (.tup [V.int 0, V.int 2])) p4 (.tup [V.ref p3])) (.ref p3) (encE (0, 2)) := (At.laid n3' (Ats.mk (at_int.mpr rfl) (Ats.mk (at_int.mpr rfl) Ats.mk_nil))).ext y4
  have s4 : SqT K (upd (upd M2 p3 (.tup [V.int 0, V.int 2])) p4 (.tup [V.ref p3])) p4 [V.ref p3] := SqT.of upd_same
  replace aM := (aM.ext y3).ext y4
  replace b2 := (b2.ext y3).ext y4
  replace hd := (hd.new (o := HO.tup [V.int 0, V.int 2]) n3').new (o := HO.tup [V.ref p3]) n4'
  replace X := (X.trans y3).trans y4
  clear y3 y4
  generalize upd (upd M2 p3 (.tup [V.int 0, V.int 2])) p4 (.tup [V.ref p3]) = M3 at *
  refine ⟨_, rfl, dr, 120, rfl, by decide, hd, fun y M4 y0 y1 ex4 hd4 => ?_⟩
  obtain ⟨y, rfl⟩ := Int.eq_ofNat_of_zero_le y0
  refine ⟨_, _, rfl, rfl, p4, _, [V.ref p3], rfl, rfl, ex4.sqT s4, by simp, by omega, by omega, by show 1 ≤ 1000; decide, fun pr M5 hM5 sqr => ?_⟩
  have ex5 : Ex T [] M4 M5 := by
    rcases hM5 with rfl | ⟨n2, rfl⟩
    · exact Ex.refl
    · exact Ex.new n2
  have en : ((2 : Int) + (y : Nat)).toNat = y + 2 := by omega
  rw [en] at sqr
  have b3' := (b3.ext ex4).ext ex5
  have bR : At K M5 (.ref pr) (.tup ((List.replicate (y + 2) ((0 : Nat), (2 : Int))).map encE)) := by
    refine at_tup.mpr ⟨pr, _, rfl, sqr, ?_⟩
    rw [List.map_replicate, flat_one]
    exact ats_rep b3' _
  refine catT_at (T := T) ((b2.ext ex4).ext ex5) bR (by rw [List.length_map, List.length_replicate]; show 1 + _ ≤ _; omega) fun v M6 at6 ex6 => ⟨by show 2 ≤ sizeLine; decide, fun t nt => ?_⟩
  have x7 := Ex.new (T := T) (ms := []) (o := HO.tup [V.ref pm, v]) nt
  have x57 := (ex5.trans ex6).trans x7
  exact q t (.ref pm) v (y + 2) _ (SqT.of upd_same) ((aM.ext ex4).ext x57) (at6.ext x7) (by omega) ((X.trans ex4).trans x57.nil) (let ⟨ds, z⟩ := hd4; ⟨ds, x57.lst (by simp) z⟩)

theorem nb_ct {st : Nat} {h : List (Option Int)} (hl : h.length ≤ 1000) : nbD 2 (encCt st h) :=
  nb_tup (by simp) (nbDs_cons nb_int (nbDs_cons (nb_tup (by rw [List.length_map]; omega) (nbDs_map fun _ _ => nb_encO)) nbDs_nil))
theorem nb_encT {r : Option Nat × Ct × Int} (h : r.2.1.2.length ≤ 1000) : nbD 3 (encT r) := by
  unfold encT
  refine nb_tup (by simp) (nbDs_cons ?_ (nbDs_cons ?_ (nbDs_cons nb_int nbDs_nil)))
  · cases r.1 with
    | none => unfold encNo nbD; trivial
    | some n => exact nb_int
  · exact nb_ct h
theorem nb_rows {rs : List (Option Nat × Ct × Int)} (h : ∀ r ∈ rs, r.2.1.2.length ≤ 1000) (hl : rs.length ≤ 1000) : nbD 13 (.tup (rs.map encT)) :=
  nb_le (nb_tup (n := 3) (by rw [List.length_map]; omega) (nbDs_map fun r hr => nb_encT (h r hr))) (by decide)
theorem nb_spots {ss : List (Nat × Int)} (hl : ss.length ≤ 1000) : nbD 13 (.tup (ss.map encE)) :=
  nb_le (nb_tup (n := 1) (by rw [List.length_map]; omega) (nbDs_map fun e _ => nb_tup (by simp) (nbDs_cons nb_int (nbDs_cons nb_int nbDs_nil)))) (by decide)
theorem nb_type {c : Ct} (h : c.2.length ≤ 1000) : nbD 13 (encCt c.1 c.2) := nb_le (nb_ct h) (by decide)
theorem pl_ints : (l : List Int) → plDs 0 (l.map Dv.D.int)
  | [] => by unfold plDs; trivial
  | _ :: l => by
      rw [List.map_cons]
      unfold plDs
      exact ⟨by unfold plD; trivial, pl_ints l⟩
abbrev N_law : List Str := ["script", "draws", "registers", "machine", "far", "log", "k", "due", "kind", "spots", "actual", "entry", "values", "told"]
theorem sc_law : FnScope N_law ["script"] (defScope s_law) := ⟨rfl, rfl, rfl, by decide +kernel, rfl, by decide +kernel, by decide +kernel⟩
def sp_law (K : PySem.W.Frag) (T : List Addr) : Sp := fun vs H Q _ => ∃ (a : Addr) (ns : List Int), vs = [.ref a] ∧ SqL K H a (ns.map V.int) ∧ ns.length ≤ 63 ∧ Wd T H ∧ ∀ H', Q (.bl true) H'
theorem ok_law {f : Addr} {fd : FuncData} {k : Nat} {T : List Addr} (F : Fun K "law" "law" s_law f fd) (m_range : mg "range" = none) (m_tuple : mg "tuple" = none) (m_len : mg "len" = none) (m_isinstance : mg "isinstance" = none) (m_sorted : mg "sorted" = none) (m_set : mg "set" = none) (m_list : mg "list" = none)
    {a__law_draws : Addr} {d__law_draws : FuncData} (G__law_draws : FnOk P w K mg base CX0 k a__law_draws d__law_draws ["script", "many"] (sp__law_draws K T)) (k__law_draws : PySem.W.keepIn K (.ref a__law_draws) = true) (b__law_draws : Binds K d__law_draws ["script", "many"] []) (m__law_draws : mg "_law_draws" = some (.ref a__law_draws))
    {a__law_take : Addr} {d__law_take : FuncData} (G__law_take : FnOk P w K mg base CX0 k a__law_take d__law_take ["draws", "many"] (sp__law_take T)) (k__law_take : PySem.W.keepIn K (.ref a__law_take) = true) (b__law_take : Binds K d__law_take ["draws", "many"] []) (m__law_take : mg "_law_take" = some (.ref a__law_take))
    {a__law_machine : Addr} {d__law_machine : FuncData} (G__law_machine : FnOk P w K mg base CX0 k a__law_machine d__law_machine ["draws", "tags", "registers", "standings"] (sp__law_machine K T)) (k__law_machine : PySem.W.keepIn K (.ref a__law_machine) = true) (b__law_machine : Binds K d__law_machine ["draws", "tags", "registers", "standings"] []) (m__law_machine : mg "_law_machine" = some (.ref a__law_machine))
    {a__law_cell : Addr} {d__law_cell : FuncData} (G__law_cell : FnOk P w K mg base CX0 k a__law_cell d__law_cell ["script", "k"] (sp__law_cell K)) (k__law_cell : PySem.W.keepIn K (.ref a__law_cell) = true) (b__law_cell : Binds K d__law_cell ["script", "k"] []) (m__law_cell : mg "_law_cell" = some (.ref a__law_cell))
    {a__law_trace : Addr} {d__law_trace : FuncData} (G__law_trace : FnOk P w K mg base CX0 k a__law_trace d__law_trace ["machine", "log"] (sp__law_trace K T 2)) (k__law_trace : PySem.W.keepIn K (.ref a__law_trace) = true) (b__law_trace : Binds K d__law_trace ["machine", "log"] []) (m__law_trace : mg "_law_trace" = some (.ref a__law_trace))
    {a__law_same : Addr} {d__law_same : FuncData} (G__law_same : FnOk P w K mg base CX0 k a__law_same d__law_same ["actual", "due"] (sp__law_same K 14)) (k__law_same : PySem.W.keepIn K (.ref a__law_same) = true) (b__law_same : Binds K d__law_same ["actual", "due"] []) (m__law_same : mg "_law_same" = some (.ref a__law_same))
    {a_trace : Addr} {d_trace : FuncData} (G_trace : FnOk P w K mg base CX0 k a_trace d_trace ["machine", "log"] (sp_trace K T 2)) (k_trace : PySem.W.keepIn K (.ref a_trace) = true) (b_trace : Binds K d_trace ["machine", "log"] []) (m_trace : mg "trace" = some (.ref a_trace))
    {a_spots_along : Addr} {d_spots_along : FuncData} (G_spots_along : FnOk P w K mg base CX0 k a_spots_along d_spots_along ["machine", "log"] (sp_spots_along K T 2)) (k_spots_along : PySem.W.keepIn K (.ref a_spots_along) = true) (b_spots_along : Binds K d_spots_along ["machine", "log"] []) (m_spots_along : mg "spots_along" = some (.ref a_spots_along))
    {a_type_behind : Addr} {d_type_behind : FuncData} (G_type_behind : FnOk P w K mg base CX0 k a_type_behind d_type_behind ["machine", "spots"] (sp_type_behind K T 2)) (k_type_behind : PySem.W.keepIn K (.ref a_type_behind) = true) (b_type_behind : Binds K d_type_behind ["machine", "spots"] []) (m_type_behind : mg "type_behind" = some (.ref a_type_behind))
    {a__law_drawn_spots : Addr} {d__law_drawn_spots : FuncData} (G__law_drawn_spots : FnOk P w K mg base CX0 k a__law_drawn_spots d__law_drawn_spots ["draws", "machine"] (sp__law_drawn_spots K T 2)) (k__law_drawn_spots : PySem.W.keepIn K (.ref a__law_drawn_spots) = true) (b__law_drawn_spots : Binds K d__law_drawn_spots ["draws", "machine"] []) (m__law_drawn_spots : mg "_law_drawn_spots" = some (.ref a__law_drawn_spots))
    {a__law_narrowing : Addr} {d__law_narrowing : FuncData} (G__law_narrowing : FnOk P w K mg base CX0 k a__law_narrowing d__law_narrowing ["draws"] (sp__law_narrowing K T)) (k__law_narrowing : PySem.W.keepIn K (.ref a__law_narrowing) = true) (b__law_narrowing : Binds K d__law_narrowing ["draws"] []) (m__law_narrowing : mg "_law_narrowing" = some (.ref a__law_narrowing))
    {a_log_of_spots : Addr} {d_log_of_spots : FuncData} (G_log_of_spots : FnOk P w K mg base CX0 k a_log_of_spots d_log_of_spots ["machine", "spots"] (sp_log_of_spots K T 2)) (k_log_of_spots : PySem.W.keepIn K (.ref a_log_of_spots) = true) (b_log_of_spots : Binds K d_log_of_spots ["machine", "spots"] []) (m_log_of_spots : mg "log_of_spots" = some (.ref a_log_of_spots))
    {a__law_is_integer : Addr} {d__law_is_integer : FuncData} (G__law_is_integer : FnOk P w K mg base CX0 k a__law_is_integer d__law_is_integer ["value"] (sp__law_is_integer)) (k__law_is_integer : PySem.W.keepIn K (.ref a__law_is_integer) = true) (b__law_is_integer : Binds K d__law_is_integer ["value"] []) (m__law_is_integer : mg "_law_is_integer" = some (.ref a__law_is_integer)) :
    FnOk P w K mg base CX0 (k + 1) f fd ["script"] (sp_law K T) := by
  refine F.ok sc_law (fun vs H Q E h => ?_) (fun cdv A outer s H vs Q E hr h => ?_)
  · obtain ⟨a, ns, rfl, _⟩ := h
    rfl
  obtain ⟨a, ns, rfl, hS, h63, wd, q⟩ := h
  refine ⟨_, (pss_cons (ps_set (i := 1) sc_law.nd rfl (.inl rfl) (pe_call G__law_draws hr (by rfl) m__law_draws k__law_draws b__law_draws .nil pass0 (pa_cons (pv 0) (pa_cons pe_int pa_nil))))
    (pss_cons (ps_set (i := 2) sc_law.nd rfl (.inl rfl) (pe_ix ix_list (pe_lst (pa_cons pe_int (pa_cons pe_int (pa_cons pe_int (pa_cons pe_int (pa_cons pe_int pa_nil)))))) (pe_call G__law_take hr (by rfl) m__law_take k__law_take b__law_take .nil pass0 (pa_cons (pv 1) (pa_cons pe_int pa_nil))) (fun _ _ => rfl)))
    (pss_cons (ps_set (i := 3) sc_law.nd rfl (.inl rfl) (pe_call G__law_machine hr (by rfl) m__law_machine k__law_machine b__law_machine .nil pass0 (pa_cons (pv 1) (pa_cons (pe_op op_add pe_int (pe_call G__law_take hr (by rfl) m__law_take k__law_take b__law_take .nil pass0 (pa_cons (pv 1) (pa_cons pe_int pa_nil)))) (pa_cons (pv 2) (pa_cons (pe_op op_add pe_int (pe_call G__law_take hr (by rfl) m__law_take k__law_take b__law_take .nil pass0 (pa_cons (pv 1) (pa_cons pe_int pa_nil)))) pa_nil))))))
    (pss_cons (ps_set (i := 4) sc_law.nd rfl (.inl rfl) (pe_ix ix_list (pe_lst (pa_cons pe_int (pa_cons (pe_call G__law_cell hr (by rfl) m__law_cell k__law_cell b__law_cell .nil pass0 (pa_cons (pv 0) (pa_cons pe_int pa_nil))) pa_nil))) (pe_call G__law_take hr (by rfl) m__law_take k__law_take b__law_take .nil pass0 (pa_cons (pv 1) (pa_cons pe_int pa_nil))) (fun _ _ => rfl)))
    (pss_cons (ps_set (i := 5) sc_law.nd rfl (.inr rfl) (pe_lst pa_nil))
    (pss_cons (ps_for PassesOwn.never rfl (pi_range1 rfl m_range (pa_cons (pe_call G__law_take hr (by rfl) m__law_take k__law_take b__law_take .nil pass0 (pa_cons (pv 1) (pa_cons pe_int pa_nil))) pa_nil)) (pg_name (i := 6) sc_law.nd rfl (.inl rfl))
      (pss_one (ps_expr (pe_bm PySem.F.plainAttrs_list PySem.F.slot_list_append PySem.F.type_list_append mt_append (pv 5) (pa_cons (pe_tup (pa_cons (pe_call G__law_take hr (by rfl) m__law_take k__law_take b__law_take .nil pass0 (pa_cons (pv 1) (pa_cons (pe_ix ix_tup (pv 3) pe_int (fun _ _ => rfl)) pa_nil))) (pa_cons (pe_op op_add (pv 4) (pe_call G__law_take hr (by rfl) m__law_take k__law_take b__law_take .nil pass0 (pa_cons (pv 1) (pa_cons pe_int pa_nil)))) pa_nil))) pa_nil)))))
    (pss_cons (ps_asg (pe_call G__law_trace hr (by rfl) m__law_trace k__law_trace b__law_trace .nil pass0 (pa_cons (pv 3) (pa_cons (pv 5) pa_nil))) (pg_tup rfl (pgs_cons (pg_name (i := 7) sc_law.nd rfl (.inr rfl)) (pgs_cons (pg_name (i := 8) sc_law.nd rfl (.inl rfl)) pgs_nil))))
    (pss_cons (ps_if (pt_not (pt_val (pe_call G__law_same hr (by rfl) m__law_same k__law_same b__law_same .nil pass0 (pa_cons (pe_call G_trace hr (by rfl) m_trace k_trace b_trace .nil pass0 (pa_cons (pv 3) (pa_cons (pe_callTy call_tuple_of (by rfl) m_tuple (by decide +kernel) (pa_cons (pv 5) pa_nil)) pa_nil))) (pa_cons (pv 7) pa_nil)))))
      (pss_one (ps_ret pe_bl))
      pss_nil)
    (pss_cons (ps_set (i := 9) sc_law.nd rfl (.inl rfl) (pe_callTy call_tuple_of (by rfl) m_tuple (by decide +kernel) (pa_cons (pe_lc (own := [("k", 6)]) (g := (gName 6)) (tt := tYes) rfl sc_law.nd (pi_range1 rfl m_range (pa_cons (pe_callB call_len_seq (by rfl) m_len PySem.boot_len (pa_cons (pv 5) pa_nil)) pa_nil)) (blkOk_by (N := N_law) (sc := defScope s_law) (by decide +kernel))
        (fun _ _ _ _ _ => (pg_name (i := 6) sc_law.nd rfl (.inl rfl))) (fun _ _ _ _ _ => pts_nil)
        (fun _ _ _ _ _ => (pe_tup (pa_cons (pe_ix (r := rIxT K) ix_tup (pe_ix (r := rIxL K) ix_list (pv 5) (pv 6) (fun _ _ => rfl)) pe_int (fun _ _ => rfl)) (pa_cons (pe_ix (r := rIxT K) ix_tup (pe_ix (r := rIxT K) ix_tup (pv 7) (pv 6) (fun _ _ => rfl)) pe_int (fun _ _ => rfl)) pa_nil))))) pa_nil)))
    (pss_cons (ps_if (pw_or (pt_not (pt_val (pe_call G__law_same hr (by rfl) m__law_same k__law_same b__law_same .nil pass0 (pa_cons (pe_call G_spots_along hr (by rfl) m_spots_along k_spots_along b_spots_along .nil pass0 (pa_cons (pv 3) (pa_cons (pe_callTy call_tuple_of (by rfl) m_tuple (by decide +kernel) (pa_cons (pv 5) pa_nil)) pa_nil))) (pa_cons (pv 9) pa_nil))))) (pw_or1 (pt_not (pt_val (pe_call G__law_same hr (by rfl) m__law_same k__law_same b__law_same .nil pass0 (pa_cons (pe_call G_type_behind hr (by rfl) m_type_behind k_type_behind b_type_behind .nil pass0 (pa_cons (pv 3) (pa_cons (pv 9) pa_nil))) (pa_cons (pv 8) pa_nil))))))).pt
      (pss_one (ps_ret pe_bl))
      pss_nil)
    (pss_cons (ps_set (i := 9) sc_law.nd rfl (.inl rfl) (pe_call G__law_drawn_spots hr (by rfl) m__law_drawn_spots k__law_drawn_spots b__law_drawn_spots .nil pass0 (pa_cons (pv 1) (pa_cons (pv 3) pa_nil))))
    (C8.pss_cut (ps_if (pt_cmpR op_eq (pe_call G__law_take hr (by rfl) m__law_take k__law_take b__law_take .nil pass0 (pa_cons (pv 1) (pa_cons pe_int pa_nil))) pe_int (nomark _))
      (pss_one (ps_asg (pe_call G__law_narrowing hr (by rfl) m__law_narrowing k__law_narrowing b__law_narrowing .nil pass0 (pa_cons (pv 1) pa_nil)) (pg_tup rfl (pgs_cons (pg_name (i := 3) sc_law.nd rfl (.inl rfl)) (pgs_cons (pg_name (i := 9) sc_law.nd rfl (.inl rfl)) pgs_nil)))))
      pss_nil)
    (pss_cons (ps_set (i := 10) sc_law.nd rfl (.inr rfl) (pe_call G_log_of_spots hr (by rfl) m_log_of_spots k_log_of_spots b_log_of_spots .nil pass0 (pa_cons (pv 3) (pa_cons (pv 9) pa_nil))))
    (pss_cons (ps_if (pw_or (pt_not (pt_val (pe_callB call_isi (by rfl) m_isinstance (by decide +kernel) (pa_cons (pv 10) (pa_cons (pe_bltn (v := .ty "tuple") (by rfl) m_tuple (by decide +kernel) rfl) pa_nil))))) (pw_or1 (pt_cmpR op_ne (pe_callB call_len_seq (by rfl) m_len PySem.boot_len (pa_cons (pv 10) pa_nil)) (pe_callB call_len_seq (by rfl) m_len PySem.boot_len (pa_cons (pv 9) pa_nil)) (nomark _)))).pt
      (pss_one (ps_ret pe_bl))
      pss_nil)
    (pss_cons (ps_for PassesOwn.never rfl (pi_tup (pv 10)) (pg_name (i := 11) sc_law.nd rfl (.inl rfl))
      (pss_cons (ps_if (pw_or (pt_not (pt_val (pe_callB call_isi (by rfl) m_isinstance (by decide +kernel) (pa_cons (pv 11) (pa_cons (pe_bltn (v := .ty "tuple") (by rfl) m_tuple (by decide +kernel) rfl) pa_nil))))) (pw_or1 (pt_cmpR op_ne (pe_callB call_len_seq (by rfl) m_len PySem.boot_len (pa_cons (pv 11) pa_nil)) pe_int (nomark _)))).pt
        (pss_one (ps_ret pe_bl))
        pss_nil)
      (pss_one (ps_if (pw_or (pt_not (pt_val (pe_call G__law_is_integer hr (by rfl) m__law_is_integer k__law_is_integer b__law_is_integer .nil pass0 (pa_cons (pe_ix ix_tup (pv 11) pe_int (fun _ _ => rfl)) pa_nil)))) (pw_or1 (pt_not (pt_val (pe_call G__law_is_integer hr (by rfl) m__law_is_integer k__law_is_integer b__law_is_integer .nil pass0 (pa_cons (pe_ix ix_tup (pv 11) pe_int (fun _ _ => rfl)) pa_nil)))))).pt
        (pss_one (ps_ret pe_bl))
        pss_nil))))
    (pss_cons (ps_set (i := 12) sc_law.nd rfl (.inl rfl) (pe_callB (cr_sortedSetB rfl) (by rfl) m_sorted boot_sorted (pa_cons (pe_callTy cr_setI (by rfl) m_set (by decide +kernel) (pa_cons (pe_lc (own := [("entry", 11)]) (g := (gName 11)) (tt := tYes) rfl sc_law.nd (pi_tup (pv 10)) (blkOk_by (N := N_law) (sc := defScope s_law) (by decide +kernel))
        (fun _ _ _ _ _ => (pg_name (i := 11) sc_law.nd rfl (.inl rfl))) (fun _ _ _ _ _ => pts_nil)
        (fun _ _ _ _ _ => (pe_ix (r := rIxT K) ix_tup (pv 11) pe_int (fun _ _ => rfl)))) pa_nil)) pa_nil)))
    (pss_cons (ps_if (pt_cmpR (op_neD hr.units) (pv 12) (pe_listRg rfl (by rfl) m_list (prg_1 (by rfl) m_range (pe_callB call_len_seq (by rfl) m_len PySem.boot_len (pa_cons (pv 12) pa_nil)))) (nomark _))
      (pss_one (ps_ret pe_bl))
      pss_nil)
    (pss_cons (ps_asg (pe_call G__law_trace hr (by rfl) m__law_trace k__law_trace b__law_trace .nil pass0 (pa_cons (pv 3) (pa_cons (pv 10) pa_nil))) (pg_tup rfl (pgs_cons (pg_name (i := 13) sc_law.nd rfl (.inr rfl)) (pgs_cons (pg_name (i := 8) sc_law.nd rfl (.inl rfl)) pgs_nil))))
    (pss_cons (ps_if (pt_not (pt_val (pe_call G__law_same hr (by rfl) m__law_same k__law_same b__law_same .nil pass0 (pa_cons (pe_call G_type_behind hr (by rfl) m_type_behind k_type_behind b_type_behind .nil pass0 (pa_cons (pv 3) (pa_cons (pv 9) pa_nil))) (pa_cons (pv 8) pa_nil)))))
      (pss_one (ps_ret pe_bl))
      pss_nil)
    (pss_one (ps_ret (pe_cmpR (op_eqD hr.units) (pe_callTy call_tuple_of (by rfl) m_tuple (by decide +kernel) (pa_cons (pe_lc (own := [("k", 6)]) (g := (gName 6)) (tt := tYes) rfl sc_law.nd (pi_range1 rfl m_range (pa_cons (pe_callB call_len_seq (by rfl) m_len PySem.boot_len (pa_cons (pv 9) pa_nil)) pa_nil)) (blkOk_by (N := N_law) (sc := defScope s_law) (by decide +kernel))
        (fun _ _ _ _ _ => (pg_name (i := 6) sc_law.nd rfl (.inl rfl))) (fun _ _ _ _ _ => pts_nil)
        (fun _ _ _ _ _ => (pe_tup (pa_cons (pe_ix (r := rIxT K) ix_tup (pe_ix (r := rIxT K) ix_tup (pv 10) (pv 6) (fun _ _ => rfl)) pe_int (fun _ _ => rfl)) (pa_cons (pe_ix (r := rIxT K) ix_tup (pe_ix (r := rIxT K) ix_tup (pv 13) (pv 6) (fun _ _ => rfl)) pe_int (fun _ _ => rfl)) pa_nil))))) pa_nil)) (pv 9) (nomark _))))))))))))))))))))))), ?_⟩
  refine ⟨_, rfl, a, ns, 760, rfl, hS, h63, by decide, by decide, wd, fun dr H1 nd ex1 hd1 => ?_⟩
  have wd1 := ex1.wd wd
  refine ⟨by show 5 ≤ sizeLine; decide, fun p1 np1 => ⟨_, rfl, dr, 5, rfl, by decide, hd1.new np1, fun y H2 y0 y1 ex2 hd2 => ?_⟩⟩
  obtain ⟨v, hv, hat⟩ := menu_at (xs := ([0, 1, 2, 3, 6] : List Int).map V.int) y0 y1
  obtain ⟨rg, hrg, rfl⟩ := List.mem_map.mp hv
  obtain ⟨rg, rfl, rg6⟩ : ∃ r : Nat, rg = (r : Int) ∧ r ≤ 6 := by
    simp only [List.mem_cons, List.not_mem_nil, or_false] at hrg
    exact ⟨rg.toNat, by omega, by omega⟩
  have e12 := (Ex.new (T := T) (ms := [dr]) (o := HO.lst (([0, 1, 2, 3, 6] : List Int).map V.int)) np1).trans ex2
  refine ⟨p1, _, _, _, rfl, rfl, SqL.of (ex2.lst (by simpa using hd1.ne np1) upd_same), hat, ?_⟩
  clear hv hat hrg ex2
  refine ⟨_, rfl, _, rfl, dr, 3, rfl, by decide, hd2, fun t H3 t0 t1 ex3 hd3 => ⟨_, _, rfl, rfl, _, rfl, _, rfl, dr, 4, rfl, by decide, hd3, fun sg H4 sg0 sg1 ex4 hd4 => ⟨_, _, rfl, rfl, ?_⟩⟩⟩
  obtain ⟨t, rfl⟩ := Int.eq_ofNat_of_zero_le t0
  obtain ⟨sg, rfl⟩ := Int.eq_ofNat_of_zero_le sg0
  have e14 := (e12.trans ex3).trans ex4
  have wd4 := e14.wd wd1
  refine ⟨dr, 1 + t, rg, 1 + sg, by show [V.ref dr, V.int (1 + (t : Int)), V.int (rg : Nat), V.int (1 + (sg : Int))] = _; rw [show (1 : Int) + (t : Int) = ((1 + t : Nat) : Int) by omega, show (1 : Int) + (sg : Int) = ((1 + sg : Nat) : Int) by omega], by omega, by omega, by omega, by omega, by omega, wd4, hd4, fun vm H5 m at5 ok _ hrg htg ex5 hd5 => ?_⟩
  have few : m.regs < 64 := by omega
  have e15 := e14.trans ex5
  have wd5 := e15.wd wd1
  have sq5 := sqL_stay hS nd ex1 e15
  refine ⟨_, rfl, a, ns, 0, rfl, sq5, fun fz => ⟨by show 2 ≤ sizeLine; decide, fun p2 np2 => ⟨_, rfl, dr, 2, rfl, by decide, hd5.new np2, fun y H6 y0' y1' ex6 hd6 => ?_⟩⟩⟩
  obtain ⟨v, hv, hat⟩ := menu_at (xs := ([0, fz] : List Int).map V.int) y0' (show y < 2 from y1')
  obtain ⟨far, hfar, rfl⟩ := List.mem_map.mp hv
  have e56 := (Ex.new (T := T) (ms := [dr]) (o := HO.lst (([0, fz] : List Int).map V.int)) np2).trans ex6
  refine ⟨p2, _, _, _, rfl, rfl, SqL.of (ex6.lst (by simpa using hd5.ne np2) upd_same), hat, ?_⟩
  have at6 := at5.ext e56
  have wd6 := e56.wd wd5
  clear hv hat hfar ex6 e56 hd5 at5 sq5 e15 ex5 hd4 wd4 e14 ex4 hd3 ex3 e12 hd2 hd1 ex1 wd1 hS
  obtain ⟨am, m1, m2, m3, rfl, sqm, g1, g2, g3⟩ := at6.t3
  cases at_int.mp g1
  refine ⟨Nat.zero_le _, fun L nL => ?_⟩
  have nLd := hd6.ne nL
  have xL := Ex.new (T := T) (ms := [dr]) (o := HO.lst []) nL
  refine ⟨_, rfl, dr, 13, rfl, by decide, hd6.new nL, fun z H7 z0 z1 ex7 hd7 => ?_⟩
  have cl0 : Col K T [dr] L H6 H7 (([] : List (Nat × Int)).map encE) := (Col.start Ex.refl nL).ext (by simpa using nLd) ex7
  refine ⟨z, rfl, by omega, by omega, for_range (lo := 0) (n := z.toNat) (fun i σ' H' => (∃ y6, σ' = [some (.ref a), some (.ref dr), some (.int (rg : Nat)), some (.ref am), some (.int far), some (.ref L), y6, none, none, none, none, none, none, none]) ∧ Dr H' dr ∧ ∃ es : List (Nat × Int), Col K T [dr] L H6 H' (es.map encE) ∧ es.length = i ∧ ∀ e ∈ es, e.1 < m.tags) ⟨⟨_, rfl⟩, hd7, [], cl0, rfl, fun e he => by cases he⟩ ?_ ?_⟩
  · rintro i σ' H8 hi ⟨⟨y6, rfl⟩, hd8, es, cl, hl, tg⟩
    obtain ⟨_, ps, hL8, _⟩ := id cl
    refine ⟨_, rfl, .inl ⟨rfl, _, .inl (.inl hL8)⟩, _, rfl, _, rfl, am, _, _, _, rfl, rfl, cl.1.sqT sqm, rfl, dr, _, rfl, by have := ok.tags; omega, hd8, fun u1 H9 u10 u11 ex9 hd9 => ?_⟩
    refine ⟨_, rfl, _, rfl, dr, 6, rfl, by decide, hd9, fun u2 H10 u20 u21 ex10 hd10 => ⟨_, _, rfl, rfl, by show 2 ≤ sizeLine; decide, fun q1 nq1 => ?_⟩⟩
    obtain ⟨u1, rfl⟩ := Int.eq_ofNat_of_zero_le u10
    have x11 := Ex.new (T := T) (ms := [dr]) (o := HO.tup [V.int (u1 : Nat), V.int (far + u2)]) nq1
    obtain ⟨acc, k1, k2, k3⟩ := cl.put nL (by simpa using nLd) wd6 ((ex9.trans ex10).trans x11) (x := .ref q1) (d := encE (u1, far + u2)) (At.laid nq1 (Ats.mk (at_int.mpr rfl) (Ats.mk (at_int.mpr rfl) Ats.mk_nil))) (by rw [List.length_map]; omega)
    refine ⟨L, _, _, rfl, rfl, k1, k2, ⟨_, rfl⟩, (hd10.new nq1).put nLd.symm, es ++ [(u1, far + u2)], ?_, by rw [List.length_append, hl]; rfl, fun e he => ?_⟩
    · rw [List.map_append]
      exact k3
    · rcases List.mem_append.mp he with h | h
      · exact tg e h
      · rw [List.mem_singleton.mp h]
        show u1 < m.tags
        omega
  rintro σ' H8 ⟨⟨y6, rfl⟩, hd8, es, ⟨ex8, ps, hL8, ats8⟩, hl, tg⟩
  have le : es.length ≤ 13 := by omega
  have wd8 := ex8.wd wd6
  have atm := at6.ext ex8
  clear cl0 hd7 ex7 xL g1 g2 g3 sqm hd6
  have pl : ps.length = es.length := by rw [ats8.length, List.length_map]
  have oc := okCt_beg ok
  have regT := trL_regs ok es _ oc tg
  have sl := spL_len m es ((0, List.replicate m.regs none) : Ct)
  have tl := trL_len m es ((0, List.replicate m.regs none) : Ct)
  have sget := spL_get m es ((0, List.replicate m.regs none) : Ct)
  have stag : ∀ e ∈ spL m ((0, List.replicate m.regs none) : Ct) es, e.1 < m.tags := fun e he => by
    obtain ⟨e', h1, h2⟩ := spL_tag m es _ e he
    rw [h2]
    exact tg e' h1
  have tya := ty_along m es ((0, List.replicate m.regs none) : Ct)
  have oce := oc.cont ok tg
  have lenE : (tyC (contM m ((0, List.replicate m.regs none) : Ct) es)).2.length ≤ 1000 := by
    show (ranksH _).length ≤ _
    unfold ranksH
    rw [mapH_len]
    have : (contM m ((0, List.replicate m.regs none) : Ct) es).2.length = m.regs := oce.len
    omega
  refine ⟨_, rfl, _, rfl, .ref am, .ref L, m, es, rfl, atm, ⟨L, ps, rfl, .inl (.inl (.inl hL8)), ats8⟩, ok, few, tg, by omega, wd8, fun pT v wk9 H9 sqT9 atv atw ex9 => ?_⟩
  refine ⟨pT, [_, _], rfl, sqT9, rfl, _, [_], rfl, _, [], rfl, rfl, ?_⟩
  have hL9 := ex9.lst (by simp) hL8
  have ats9 := Ats.ext ex9 ats8
  have atm9 := atm.ext ex9
  have wd9 := ex9.wd wd8
  have hd9 : Dr H9 dr := let ⟨ds, z⟩ := hd8; ⟨ds, ex9.lst (by simp) z⟩
  clear hL8 ats8 atm wd8 hd8 sqT9
  obtain ⟨av, vs, rfl, sqv, atvs⟩ := at_tup.mp atv
  -- trace
  refine ⟨_, rfl, _, rfl, L, _, rfl, .inl ⟨SqL.of hL9, fun l1 nl1 => ?_⟩⟩
  have x10 := Ex.new (T := T) (ms := []) (o := HO.tup ps) nl1
  have atl1 : At K (upd H9 l1 (.tup ps)) (.ref l1) (.tup (es.map encE)) := At.laid nl1 ats9
  generalize upd H9 l1 (.tup ps) = H10 at *
  refine ⟨.ref am, .ref l1, m, es, rfl, atm9.ext x10, atl1, ok, few, tg, by omega, x10.wd wd9, fun v2 H11 at2 ex11 => ?_⟩
  have x911 := x10.trans ex11
  refine ⟨_, rfl, v2, .ref av, _, rfl, at2, atv.ext x911, ⟨13, rfl, nb_rows (fun r hr => by have := regT r hr; omega) (by omega)⟩, _, rfl, iteF ?_⟩
  have hL11 := x911.lst (by simp) hL9
  have sqv11 := x911.sqT sqv
  have atvs11 := Ats.ext x911 atvs
  have ats11 := Ats.ext x911 ats9
  have wd11 := x911.wd wd9
  -- spots
  refine ⟨_, rfl, L, _, rfl, .inl (SqL.of hL11), ps.length, rfl, by omega, by omega, fun D nD => lc_range (lo := 0) (n := ps.length) (fun j H' => Col K T [] D H11 H' (((spL m ((0, List.replicate m.regs none) : Ct) es).take j).map encE)) (Col.start Ex.refl nD) ?_ ?_⟩
  · rintro j H' hj cl
    have hj1 : j < es.length := by omega
    have hj2 : j < (trL m ((0, List.replicate m.regs none) : Ct) es).length := by omega
    obtain ⟨xe, hx1, hx2⟩ := ats11.get (i := j) (d := encE es[j]) (by rw [List.getElem?_map, List.getElem?_eq_getElem hj1]; rfl)
    obtain ⟨xt, ht1, ht2⟩ := atvs11.at (i := j) (List.getElem?_eq_getElem hj2)
    have gs := sget j hj1
    generalize (trL m ((0, List.replicate m.regs none) : Ct) es)[j] = tr at *
    generalize es[j] = e at *
    obtain ⟨ae, w1, w2, rfl, sqe, f1, f2⟩ := (show At K H' xe (.tup [.int e.1, .int e.2]) from hx2.ext cl.1).t2
    cases at_int.mp f1
    obtain ⟨ar, r1, r2, r3, rfl, sqr, a1, a2, a3⟩ := (show At K H' xt (.tup [encNo tr.1, encCt tr.2.1.1 tr.2.1.2, .int tr.2.2]) from ht2.ext cl.1).t3
    cases at_int.mp a3
    refine ⟨wipe1, yesIf ⟨_, rfl, _, rfl, L, _, _, _, rfl, rfl, SqL.of (cl.1.lst (by simp) hL11), nat_at hx1, ae, _, _, _, rfl, rfl, sqe, rfl, _, rfl, _, rfl, av, _, _, _, rfl, rfl, cl.1.sqT sqv11, nat_at ht1, ar, _, _, _, rfl, rfl, sqr, rfl, by show 2 ≤ sizeLine; decide, fun p np => ?_⟩⟩
    obtain ⟨acc, k1, k2, k3⟩ := cl.put nD (by simp) wd11 (Ex.new np) (x := .ref p) (d := encE (e.1, tr.2.2)) (At.laid np (Ats.mk (at_int.mpr rfl) (Ats.mk (at_int.mpr rfl) Ats.mk_nil))) (take_len _ _ _ _ (by omega))
    refine ⟨acc, k1, k2, ?_⟩
    rw [take_map] at k3
    · exact k3
    · exact gs
  rintro H12 ⟨ex12, ys, hD12, ats12⟩
  rw [pl, ← sl, List.take_length] at ats12
  refine ⟨D, _, rfl, .inl ⟨SqL.of hD12, fun l2 nl2 => ?_⟩⟩
  have x13 := Ex.new (T := T) (ms := []) (o := HO.tup ys) nl2
  have ats13 : At K (upd H12 l2 (.tup ys)) (.ref l2) (.tup ((spL m ((0, List.replicate m.regs none) : Ct) es).map encE)) := At.laid nl2 ats12
  generalize upd H12 l2 (.tup ys) = H13 at *
  have x913 := (x911.trans ex12).trans x13
  -- spots_along
  have hL13 := x913.lst (by simp) hL9
  refine ⟨_, rfl, _, rfl, L, _, rfl, .inl ⟨SqL.of hL13, fun l3 nl3 => ?_⟩⟩
  have x14 := Ex.new (T := T) (ms := []) (o := HO.tup ps) nl3
  have atl3 : At K (upd H13 l3 (.tup ps)) (.ref l3) (.tup (es.map encE)) := At.laid nl3 (Ats.ext x913 ats9)
  generalize upd H13 l3 (.tup ps) = H14 at *
  have x914 := x913.trans x14
  refine ⟨.ref am, .ref l3, m, es, rfl, atm9.ext x914, atl3, ok, few, tg, by omega, x914.wd wd9, fun v3 H15 at3 ex15 => ?_⟩
  have x915 := x914.trans ex15
  refine ⟨_, rfl, v3, .ref l2, _, rfl, at3, (ats13.ext x14).ext ex15, ⟨13, rfl, nb_spots (by omega)⟩, _, rfl, iteF ?_⟩
  refine ⟨_, rfl, _, rfl, .ref am, .ref l2, m, spL m ((0, List.replicate m.regs none) : Ct) es, rfl, atm9.ext x915, (ats13.ext x14).ext ex15, ok, few, stag, x915.wd wd9, fun v4 H16 at4 ex16 => ?_⟩
  rw [tya] at at4
  have x916 := x915.trans ex16
  refine ⟨_, rfl, v4, wk9, _, rfl, at4, atw.ext x916, ⟨13, rfl, nb_type lenE⟩, _, rfl, iteF ?_⟩
  have hd16 : Dr H16 dr := let ⟨ds, z⟩ := hd9; ⟨ds, x916.lst (by simp) z⟩
  have atm16 := atm9.ext x916
  have wd16 := x916.wd wd9
  clear at4 at3 at2 atl3 atl1 ats13 ats12 ats11 atvs11 atvs ats9 atv sqv sqv11 hL13 hL11 hL9 hD12 wd11 wd9 atm9 hd9 regT sl tl sget stag tya oce x14 x13 ex12 x911 x913 x914 x915 x916 ex15 ex16 x10 ex11 ex9 ex8 atw lenE oc tg pl
  -- drawn spots
  refine ⟨_, rfl, _, rfl, dr, .ref am, m, rfl, atm16, ok, few, wd16, hd16, fun vS H17 ss atS okS leS ex17 hd17 => ?_⟩
  have atm17 := atm16.ext ex17
  have wd17 := ex17.wd wd16
  refine ⟨fun σ' H' => ∃ x3 x9 m' ss', σ' = [some (.ref a), some (.ref dr), some (.int (rg : Nat)), some x3, some (.int far), some (.ref L), y6, some (.ref av), some wk9, some x9, none, none, none, none] ∧ At K H' x3 (encM m') ∧ okM 2 m' ∧ m'.regs < 64 ∧ At K H' x9 (.tup (ss'.map encE)) ∧ okSp m' (tyC ((0, List.replicate m'.regs none) : Ct)) ss' ∧ ss'.length ≤ 900 ∧ Wd T H', ?_, ?_⟩
  · refine ⟨_, rfl, dr, 6, rfl, by decide, hd17, fun y H18 y0 y1 ex18 hd18 => ⟨rfl, _, rfl, ite2 (fun _ => ?_) (fun _ => ?_)⟩⟩
    · refine ⟨_, rfl, dr, rfl, ex18.wd wd17, hd18, fun p v w' n H19 sq19 at19 at20 hn ex19 hd19 => ⟨p, [_, _], rfl, sq19, rfl, _, [_], rfl, _, [], rfl, rfl, v, w', narM, narS n, rfl, at19, narM_ok, by decide, at20, nar_ok n, ?_, ex19.wd (ex18.wd wd17)⟩⟩
      show (List.replicate n _).length + 1 ≤ 900
      rw [List.length_replicate]
      omega
    · exact ⟨.ref am, vS, m, ss, rfl, atm17.ext ex18, ok, few, atS.ext ex18, okS, by omega, ex18.wd wd17⟩
  clear atS okS leS ex17 hd17 atm17 wd17 atm16 wd16 hd16
  rintro σ1 H20 ⟨xm, xs, m', ss', rfl, atm, ok', few', ats, okS, les, wd20⟩
  refine ⟨_, rfl, _, rfl, xm, xs, m', ss', rfl, atm, ats, ok', few', okS, les, wd20, fun vA H21 atA ex21 => ?_⟩
  have atA' : At K H21 vA (.tup ((logT m' ss').map encE)) := atA
  have sp' := logT_spots okS
  have tg' := logT_tags okS
  have ll := logT_len m' ss'
  have lsrt := logT_srt m' ss'
  have oc' := okCt_beg ok'
  have sget := spL_get m' (logT m' ss') ((0, List.replicate m'.regs none) : Ct)
  have tl := trL_len m' (logT m' ss') ((0, List.replicate m'.regs none) : Ct)
  have tya := ty_along m' (logT m' ss') ((0, List.replicate m'.regs none) : Ct)
  rw [sp'] at tya sget
  have oce := oc'.cont ok' tg'
  have lenE : (tyC (contM m' ((0, List.replicate m'.regs none) : Ct) (logT m' ss'))).2.length ≤ 1000 := by
    show (ranksH _).length ≤ _
    unfold ranksH
    rw [mapH_len]
    have : (contM m' ((0, List.replicate m'.regs none) : Ct) (logT m' ss')).2.length = m'.regs := oce.len
    omega
  clear atA
  generalize logT m' ss' = fs at *
  obtain ⟨pa, zs, rfl, sqa, atz⟩ := at_tup.mp atA'
  have zl : zs.length = fs.length := atz.len
  have ats21 := ats.ext ex21
  have atm21 := atm.ext ex21
  have wd21 := ex21.wd wd20
  obtain ⟨pS, us, rfl, sqS, atu⟩ := at_tup.mp ats21
  have ul : us.length = ss'.length := atu.len
  refine ⟨_, rfl, _, _, _, _, true, rfl, .ty "tuple", ty_sqT sqa, kit_ty (by decide +kernel), _, rfl, iteF ?_⟩
  refine ⟨_, rfl, pa, _, rfl, .inr sqa, _, rfl, pS, _, rfl, .inr sqS, rfl, _, rfl, ?_⟩
  rw [show decide (V.int ((zs.length : Nat) : Int) = V.int ((us.length : Nat) : Int)) = true from decide_eq_true (by rw [zl, ul, ll])]
  refine iteF ⟨_, rfl, pa, rfl, ⟨_, sqa⟩, for_tup (xs := zs) (fun i σ' H' => (∃ y11, σ' = [some (.ref a), some (.ref dr), some (.int (rg : Nat)), some xm, some (.int far), some (.ref L), y6, some (.ref av), some wk9, some (.ref pS), some (.ref pa), y11, none, none]) ∧ H' = H21) ⟨⟨_, rfl⟩, rfl⟩ (fun i σ' H' _ z => by rw [z.2]; exact sqa) ?_ ?_⟩
  · rintro i x σ' H' hi ⟨⟨y11, rfl⟩, rfl⟩
    have hi' : i < fs.length := by rw [← zl]; exact (List.getElem?_eq_some_iff.mp hi).1
    obtain ⟨x', hx1, hx2⟩ := atz.at (i := i) (a := fs[i]) (List.getElem?_eq_getElem hi')
    rw [hi] at hx1
    cases hx1
    generalize fs[i] = e at *
    obtain ⟨ae, w1, w2, rfl, sqe, f1, f2⟩ := (show At K H' x (.tup [.int e.1, .int e.2]) from hx2).t2
    cases at_int.mp f1
    cases at_int.mp f2
    refine ⟨_, rfl, _, _, _, _, true, rfl, .ty "tuple", ty_sqT sqe, kit_ty (by decide +kernel), _, rfl, iteF ?_⟩
    refine ⟨_, rfl, ae, _, rfl, .inr sqe, rfl, _, rfl, iteF ?_⟩
    refine ⟨_, rfl, ae, _, _, _, rfl, rfl, sqe, rfl, _, rfl, _, rfl, iteF ?_⟩
    exact ⟨_, rfl, ae, _, _, _, rfl, rfl, sqe, rfl, _, rfl, _, rfl, iteF ⟨⟨_, rfl⟩, rfl⟩⟩
  rintro σ' H' ⟨⟨y11, rfl⟩, rfl⟩
  -- values
  refine ⟨_, rfl, pa, rfl, ⟨_, sqa⟩, fun Z nZ => lc_tup (xs := zs) (fun j H2 => Ex T [] H' H2 ∧ H2 Z = some (.lst (((vals fs).take j).map V.int))) ⟨Ex.new nZ, upd_same⟩ (fun j H2 _ z => z.1.sqT sqa) ?_ ?_⟩
  · rintro j y H2 hj ⟨ex2, hZ⟩
    have hj' : j < fs.length := by rw [← zl]; exact (List.getElem?_eq_some_iff.mp hj).1
    obtain ⟨y', hy1, hy2⟩ := atz.at (i := j) (a := fs[j]) (List.getElem?_eq_getElem hj')
    rw [hj] at hy1
    cases hy1
    have ev : (vals fs)[j]? = some (fs[j]).2 := by unfold vals; rw [List.getElem?_map, List.getElem?_eq_getElem hj']; rfl
    generalize fs[j] = e at *
    obtain ⟨ae, w1, w2, rfl, sqe, f1, f2⟩ := (show At K H2 y (.tup [.int e.1, .int e.2]) from hy2.ext ex2).t2
    cases at_int.mp f2
    refine ⟨wipe1, yesIf ⟨_, rfl, ae, _, _, _, rfl, rfl, sqe, rfl, _, hZ, by rw [List.length_map, List.length_take, vals_len]; exact small5000 (by omega), ex2.put nZ wd21, ?_⟩⟩
    rw [upd_same, List.take_add_one, ev, List.map_append]
    rfl
  rintro H22 ⟨ex22, hZ⟩
  rw [zl, ← vals_len, List.take_length] at hZ
  have lb : fs.length + 1 < scanBound := Nat.lt_of_le_of_lt (show fs.length + 1 ≤ 901 by omega) (by decide)
  refine ⟨Z, vals fs, rfl, SqL.of hZ, by rw [vals_len]; omega, fun pq c npq lc => ?_⟩
  rw [vals_len] at lc
  refine ⟨pq, _, c, rfl, upd_same, by omega, fun ks pk srtd mem lk npk => ?_⟩
  have x23 := Ex.new (T := T) (ms := []) (o := SetO (cxOf CX0 P w K mg base N_law "law" (defScope s_law) f cdv A outer s H E).nox.w pq (fun j => decide (j ∈ vals fs)) c) npq
  have ek : ks = srt (vals fs) := srt_eq srtd fun y => by rw [mem y, decide_eq_true_iff]
  rw [ek]
  have x24 := Ex.new (T := T) (ms := []) (o := HO.lst ((srt (vals fs)).map V.int)) npk
  have hpk : ∀ X : Hp, (upd X pk (.lst ((srt (vals fs)).map V.int))) pk = some (.lst ((srt (vals fs)).map V.int)) := fun X => upd_same
  have ex24 := (ex22.trans x23).trans x24
  have hpk24 := hpk (upd H22 pq (SetO (cxOf CX0 P w K mg base N_law "law" (defScope s_law) f cdv A outer s H E).nox.w pq (fun j => decide (j ∈ vals fs)) c))
  generalize upd (upd H22 pq (SetO (cxOf CX0 P w K mg base N_law "law" (defScope s_law) f cdv A outer s H E).nox.w pq (fun j => decide (j ∈ vals fs)) c)) pk (.lst ((srt (vals fs)).map V.int)) = H24 at *
  have sl2 : (srt (vals fs)).length ≤ 900 := by have := srt_len (vals fs) (vals fs).length; rw [List.take_length, vals_len] at this; omega
  refine ⟨_, rfl, _, rfl, pk, _, rfl, .inl (SqL.of hpk24), _, rfl, RgOk.of_le (by decide) (by rw [List.length_map]; omega) (by decide) (by rw [List.length_map]; omega), fun p2 n2 => ?_⟩
  have x25 := Ex.new (T := T) (ms := []) (o := HO.lst (rgV 0 (((srt (vals fs)).map V.int).length : Nat))) n2
  have e2 : (upd H24 p2 (.lst (rgV 0 (((srt (vals fs)).map V.int).length : Nat)))) p2 = some (.lst ((srt (vals fs)).map V.int)) := by
    rw [upd_same, List.length_map, rg_cast, ← lsrt]
  refine neD_lists (n := 0) (ds := (srt (vals fs)).map Dv.D.int) (SqL.of (x25.lst (by simp) hpk24)) (ats_int.mpr rfl) (SqL.of e2) (ats_int.mpr rfl) (pl_ints _) (by decide) ⟨_, rfl, iteF ?_⟩
  have ex25 := ex24.trans x25
  generalize upd H24 p2 (.lst (rgV 0 (((srt (vals fs)).map V.int).length : Nat))) = H25 at *
  have wd25 := ex25.wd wd21
  -- told
  refine ⟨_, rfl, _, rfl, xm, .ref pa, m', fs, rfl, atm21.ext ex25, Lg.tup (atA'.ext ex25), ok', few', tg', by omega, wd25, fun pT v w' H26 sqT26 atv atw ex26 => ?_⟩
  refine ⟨pT, [_, _], rfl, sqT26, rfl, _, [_], rfl, _, [], rfl, rfl, ?_⟩
  have ex2126 := ex25.trans ex26
  have wd26 := ex26.wd wd25
  obtain ⟨av2, vs, rfl, sqv, atvs⟩ := at_tup.mp atv
  refine ⟨_, rfl, _, rfl, xm, .ref pS, m', ss', rfl, atm21.ext ex2126, ats21.ext ex2126, ok', few', okSp_tags m' ss' _ okS, wd26, fun v4 H27 at4 ex27 => ?_⟩
  rw [tya] at at4
  refine ⟨_, rfl, v4, w', _, rfl, at4, atw.ext ex27, ⟨13, rfl, nb_type lenE⟩, _, rfl, iteF ?_⟩
  have ex2127 := ex2126.trans ex27
  have wd27 := ex27.wd wd26
  have sqS27 := ex2127.sqT sqS
  have sqa27 := ex2127.sqT sqa
  have atz27 := Ats.ext ex2127 atz
  have sqv27 := ex27.sqT sqv
  have atvs27 := Ats.ext ex27 atvs
  refine ⟨_, rfl, pS, _, rfl, .inr sqS27, us.length, rfl, by omega, by omega, fun D nD => lc_range (lo := 0) (n := us.length) (fun j H' => Col K T [] D H27 H' ((ss'.take j).map encE)) (Col.start Ex.refl nD) ?_ ?_⟩
  · rintro j H' hj cl
    have hj1 : j < fs.length := by omega
    have hj2 : j < (trL m' ((0, List.replicate m'.regs none) : Ct) fs).length := by omega
    obtain ⟨xe, hx1, hx2⟩ := atz27.at (i := j) (a := fs[j]) (List.getElem?_eq_getElem hj1)
    obtain ⟨xt, ht1, ht2⟩ := atvs27.at (i := j) (List.getElem?_eq_getElem hj2)
    have gs := sget j hj1
    generalize (trL m' ((0, List.replicate m'.regs none) : Ct) fs)[j] = tr at *
    generalize fs[j] = e at *
    obtain ⟨ae, w1, w2, rfl, sqe, f1, f2⟩ := (show At K H' xe (.tup [.int e.1, .int e.2]) from hx2.ext cl.1).t2
    cases at_int.mp f1
    obtain ⟨ar, r1, r2, r3, rfl, sqr, a1, a2, a3⟩ := (show At K H' xt (.tup [encNo tr.1, encCt tr.2.1.1 tr.2.1.2, .int tr.2.2]) from ht2.ext cl.1).t3
    cases at_int.mp a3
    refine ⟨wipe1, yesIf ⟨_, rfl, _, rfl, pa, _, _, _, rfl, rfl, cl.1.sqT sqa27, nat_at hx1, ae, _, _, _, rfl, rfl, sqe, rfl, _, rfl, _, rfl, av2, _, _, _, rfl, rfl, cl.1.sqT sqv27, nat_at ht1, ar, _, _, _, rfl, rfl, sqr, rfl, by show 2 ≤ sizeLine; decide, fun p np => ?_⟩⟩
    obtain ⟨acc, k1, k2, k3⟩ := cl.put nD (by simp) wd27 (Ex.new np) (x := .ref p) (d := encE (e.1, tr.2.2)) (At.laid np (Ats.mk (at_int.mpr rfl) (Ats.mk (at_int.mpr rfl) Ats.mk_nil))) (take_len _ _ _ _ (by omega))
    refine ⟨acc, k1, k2, ?_⟩
    rw [take_map] at k3
    · exact k3
    · exact gs
  rintro H28 ⟨ex28, ys, hD28, ats28⟩
  rw [ul, List.take_length] at ats28
  refine ⟨D, _, rfl, .inl ⟨SqL.of hD28, fun l2 nl2 => ?_⟩⟩
  have x29 := Ex.new (T := T) (ms := []) (o := HO.tup ys) nl2
  refine ⟨_, rfl, eqD_logs (At.laid nl2 ats28) ((ats21.ext ex2127).ext (ex28.trans x29)) ?_⟩
  rw [decide_eq_true rfl]
  exact q _

end
/-- tables of defs by name -/
def TabOf (mg : Str → Option Value) (h : Heap) (nm : Str) : Prop := ∃ a o fd c P, mg nm = some (.ref a) ∧ h.get? a = some o ∧ o.data = .func fd ∧ fd.code = .ref c ∧ h.IsCode c P #[] ∧ h.TableAt c P #[]
theorem walk_tabs {l : PySem.W.OpenLaw} {n k : Nat} {q : Program} {loose : List Str} {XP : (Str → Option Value) → Heap → Prop} {YP : World → Heap → Prop} {d : DefRec} {K : Params → PySem.W.Frag} {CX : World → CXT} {x : Str} (names : List Str)
    (hn : l.most = some n) (hn2 : n ≤ sizeLine) (hdf : d.params.defaults = []) (hr : Room k callerA) (hrec : (names.all fun nm => (recsOf q).any fun e => e.name == nm) = true) (hY : ∀ (w : World) (h : Heap), YP w h → (K w.params).In h)
    (F : ∀ (w : World) (mg : Str → Option Value) (fa : Addr) (h : Heap), YP w h → (K w.params).In h → h.Ns mainGlobals mg → mg d.name = some (.ref fa) → (∀ nm ∈ names, TabOf mg h nm) → LamX.LawAtS l w (K w.params) (CX w) k n x mg fa h)
    (hCX : ∀ (w : World) (H : Hp) (s : Shared) (e : Value) (s' : Shared), CX w [] H s (fun _ _ _ => False) e s' → False) :
    PySem.W.WalkO q loose XP YP l.row.toRowW d [] (fun f vs => PySem.call f vs) := by
  refine Att.attach_callB hn hdf fun w s₀ s₁ mg mb fa o pm cd doc a vs ns G Y ho hd hcd hmg hobj hints hlen hbits hg => ?_
  have KX := hY w _ Y
  have own : ∀ nm ∈ names, TabOf mg s₁.heap nm := fun nm hnm => by
    obtain ⟨dL, hm, hn1⟩ := List.any_eq_true.mp (List.all_eq_true.mp hrec nm hnm)
    have hn2 : dL.name = nm := beq_iff_eq.mp hn1
    obtain ⟨a', o', fd', c', P', h1, r⟩ := G.T.tab dL hm
    rw [hn2] at h1
    exact ⟨a', o', fd', c', P', h1, r⟩
  obtain ⟨fd, cs, sp, hT, nT, C, hb, hsp, hF⟩ := F w mg fa _ Y KX G.T.g hmg own
  exact LamX.law_callTs KX G.T.g G.T.b G.T.builtins G.T.nolimit hg hT nT C G.T.bmain hobj hints (Nat.le_trans hlen hn2) hr hF hb (fun H hH hS => hsp H a ns hlen hbits hH hS) fun H e s' => hCX w H s₁ e s'
/-- a def's table, found by its code object in the written part -/
theorem tab_at {K : PySem.W.Frag} {h : Heap} {mg : Str → Option Value} {nm : Str} {f c P : Addr} {oc e : Value} {od dd : Option Addr} {osl sl : Array (Option Value)} {fd : FuncData} {vs : Array Value} (X : K.In h) (t : TabOf mg h nm) (m : mg nm = some (.ref f))
    (l : K.lookup f = some ⟨oc, od, .func fd, osl⟩) (cd : fd.code = .ref c) (u : K.lookup c = some ⟨e, dd, .fields vs, sl⟩) (v : vs[11]? = some (.ref P)) :
    h.get? P = some { cls := .none, data := .fields #[] } ∧ PySem.W.CodeHd h c P := by
  obtain ⟨a', o', fd', c', P', h1, h2, h3, h4, h5, h6⟩ := t
  rw [m] at h1
  cases h1
  have g1 := X _ _ l
  rw [g1] at h2
  cases h2
  cases h3
  rw [cd] at h4
  cases h4
  have g2 := X _ _ u
  have hd := PySem.W.CodeHd.of h5 h6
  obtain ⟨⟨oc', vc, e1, _, e3, e4⟩, hP⟩ := h6
  rw [g2] at e1
  cases e1
  cases e3
  rw [v] at e4
  cases e4
  exact ⟨hP, hd⟩

theorem all_mk {l : PySem.W.OpenLaw} {w : World} {K : PySem.W.Frag} {h : Heap} {mg : Str → Option Value} {fa f__worth f_holds f_case_at f_read f_beginning f__numbered f_held_values f_ranks_of f_spots_held f_row_step f_type_of f_step_of f_tight f_spot_at f_value_at f_top_for f_trace f_spots_along f_type_behind f_log_of_spots f__law_at f__law_holds f__law_beginning f__law_ranks f__law_read f__law_take f__law_draws f__law_condition f__law_case f__law_machine f__law_cell f__law_same f__law_is_integer f__law_spot f__law_case_number f__law_trace f__law_drawn_spots f__law_narrowing f_law f_Step C_Step : Addr} (X : K.In h) (G : h.Ns mainGlobals mg) (hfa : mg "law" = some (.ref fa))
    {od__worth an__worth : Option Addr} {sl__worth : Array (Option Value)} {oc__worth kV__worth dc__worth pm__worth cd__worth ct__worth : Value}
    {od_holds an_holds : Option Addr} {sl_holds : Array (Option Value)} {oc_holds kV_holds dc_holds pm_holds ct_holds : Value}
    {c_holds P_holds : Addr} {e_holds : Value} {dd_holds : Option Addr} {vs_holds : Array Value} {ss_holds : Array (Option Value)}
    {od_case_at an_case_at : Option Addr} {sl_case_at : Array (Option Value)} {oc_case_at kV_case_at dc_case_at pm_case_at cd_case_at ct_case_at : Value}
    {od_read an_read : Option Addr} {sl_read : Array (Option Value)} {oc_read kV_read dc_read pm_read cd_read ct_read : Value}
    {od_beginning an_beginning : Option Addr} {sl_beginning : Array (Option Value)} {oc_beginning kV_beginning dc_beginning pm_beginning cd_beginning ct_beginning : Value}
    {od__numbered an__numbered : Option Addr} {sl__numbered : Array (Option Value)} {oc__numbered kV__numbered dc__numbered pm__numbered cd__numbered ct__numbered : Value}
    {od_held_values an_held_values : Option Addr} {sl_held_values : Array (Option Value)} {oc_held_values kV_held_values dc_held_values pm_held_values cd_held_values ct_held_values : Value}
    {od_ranks_of an_ranks_of : Option Addr} {sl_ranks_of : Array (Option Value)} {oc_ranks_of kV_ranks_of dc_ranks_of pm_ranks_of cd_ranks_of ct_ranks_of : Value}
    {od_spots_held an_spots_held : Option Addr} {sl_spots_held : Array (Option Value)} {oc_spots_held kV_spots_held dc_spots_held pm_spots_held cd_spots_held ct_spots_held : Value}
    {od_row_step an_row_step : Option Addr} {sl_row_step : Array (Option Value)} {oc_row_step kV_row_step dc_row_step pm_row_step cd_row_step ct_row_step : Value}
    {od_type_of an_type_of : Option Addr} {sl_type_of : Array (Option Value)} {oc_type_of kV_type_of dc_type_of pm_type_of cd_type_of ct_type_of : Value}
    {od_step_of an_step_of : Option Addr} {sl_step_of : Array (Option Value)} {oc_step_of kV_step_of dc_step_of pm_step_of cd_step_of ct_step_of : Value}
    {od_tight an_tight : Option Addr} {sl_tight : Array (Option Value)} {oc_tight kV_tight dc_tight pm_tight cd_tight ct_tight : Value}
    {od_spot_at an_spot_at : Option Addr} {sl_spot_at : Array (Option Value)} {oc_spot_at kV_spot_at dc_spot_at pm_spot_at cd_spot_at ct_spot_at : Value}
    {od_value_at an_value_at : Option Addr} {sl_value_at : Array (Option Value)} {oc_value_at kV_value_at dc_value_at pm_value_at cd_value_at ct_value_at : Value}
    {od_top_for an_top_for : Option Addr} {sl_top_for : Array (Option Value)} {oc_top_for kV_top_for dc_top_for pm_top_for cd_top_for ct_top_for : Value}
    {od_trace an_trace : Option Addr} {sl_trace : Array (Option Value)} {oc_trace kV_trace dc_trace pm_trace cd_trace ct_trace : Value}
    {od_spots_along an_spots_along : Option Addr} {sl_spots_along : Array (Option Value)} {oc_spots_along kV_spots_along dc_spots_along pm_spots_along cd_spots_along ct_spots_along : Value}
    {od_type_behind an_type_behind : Option Addr} {sl_type_behind : Array (Option Value)} {oc_type_behind kV_type_behind dc_type_behind pm_type_behind cd_type_behind ct_type_behind : Value}
    {od_log_of_spots an_log_of_spots : Option Addr} {sl_log_of_spots : Array (Option Value)} {oc_log_of_spots kV_log_of_spots dc_log_of_spots pm_log_of_spots cd_log_of_spots ct_log_of_spots : Value}
    {od__law_at an__law_at : Option Addr} {sl__law_at : Array (Option Value)} {oc__law_at kV__law_at dc__law_at pm__law_at cd__law_at ct__law_at : Value}
    {od__law_holds an__law_holds : Option Addr} {sl__law_holds : Array (Option Value)} {oc__law_holds kV__law_holds dc__law_holds pm__law_holds cd__law_holds ct__law_holds : Value}
    {od__law_beginning an__law_beginning : Option Addr} {sl__law_beginning : Array (Option Value)} {oc__law_beginning kV__law_beginning dc__law_beginning pm__law_beginning cd__law_beginning ct__law_beginning : Value}
    {od__law_ranks an__law_ranks : Option Addr} {sl__law_ranks : Array (Option Value)} {oc__law_ranks kV__law_ranks dc__law_ranks pm__law_ranks cd__law_ranks ct__law_ranks : Value}
    {od__law_read an__law_read : Option Addr} {sl__law_read : Array (Option Value)} {oc__law_read kV__law_read dc__law_read pm__law_read cd__law_read ct__law_read : Value}
    {od__law_take an__law_take : Option Addr} {sl__law_take : Array (Option Value)} {oc__law_take kV__law_take dc__law_take pm__law_take cd__law_take ct__law_take : Value}
    {od__law_draws an__law_draws : Option Addr} {sl__law_draws : Array (Option Value)} {oc__law_draws kV__law_draws dc__law_draws pm__law_draws cd__law_draws ct__law_draws : Value}
    {od__law_condition an__law_condition : Option Addr} {sl__law_condition : Array (Option Value)} {oc__law_condition kV__law_condition dc__law_condition pm__law_condition cd__law_condition ct__law_condition : Value}
    {od__law_case an__law_case : Option Addr} {sl__law_case : Array (Option Value)} {oc__law_case kV__law_case dc__law_case pm__law_case cd__law_case ct__law_case : Value}
    {od__law_machine an__law_machine : Option Addr} {sl__law_machine : Array (Option Value)} {oc__law_machine kV__law_machine dc__law_machine pm__law_machine cd__law_machine ct__law_machine : Value}
    {od__law_cell an__law_cell : Option Addr} {sl__law_cell : Array (Option Value)} {oc__law_cell kV__law_cell dc__law_cell pm__law_cell cd__law_cell ct__law_cell : Value}
    {od__law_same an__law_same : Option Addr} {sl__law_same : Array (Option Value)} {oc__law_same kV__law_same dc__law_same pm__law_same cd__law_same ct__law_same : Value}
    {od__law_is_integer an__law_is_integer : Option Addr} {sl__law_is_integer : Array (Option Value)} {oc__law_is_integer kV__law_is_integer dc__law_is_integer pm__law_is_integer cd__law_is_integer ct__law_is_integer : Value}
    {od__law_spot an__law_spot : Option Addr} {sl__law_spot : Array (Option Value)} {oc__law_spot kV__law_spot dc__law_spot pm__law_spot cd__law_spot ct__law_spot : Value}
    {od__law_case_number an__law_case_number : Option Addr} {sl__law_case_number : Array (Option Value)} {oc__law_case_number kV__law_case_number dc__law_case_number pm__law_case_number cd__law_case_number ct__law_case_number : Value}
    {od__law_trace an__law_trace : Option Addr} {sl__law_trace : Array (Option Value)} {oc__law_trace kV__law_trace dc__law_trace pm__law_trace cd__law_trace ct__law_trace : Value}
    {od__law_drawn_spots an__law_drawn_spots : Option Addr} {sl__law_drawn_spots : Array (Option Value)} {oc__law_drawn_spots kV__law_drawn_spots dc__law_drawn_spots pm__law_drawn_spots cd__law_drawn_spots ct__law_drawn_spots : Value}
    {od__law_narrowing an__law_narrowing : Option Addr} {sl__law_narrowing : Array (Option Value)} {oc__law_narrowing kV__law_narrowing dc__law_narrowing pm__law_narrowing cd__law_narrowing ct__law_narrowing : Value}
    {od_law an_law : Option Addr} {sl_law : Array (Option Value)} {oc_law kV_law dc_law pm_law cd_law ct_law : Value}
    {od_Step an_Step : Option Addr} {sl_Step : Array (Option Value)} {oc_Step kV_Step dc_Step pm_Step cd_Step ct_Step : Value}
    {t_NEW t_NOTHING : Tok}
    (TT : ∀ nm ∈ (["holds"] : List Str), TabOf mg h nm)
    (a__worth : PySem.W.nsIn K mainGlobals "_worth" = some (some (.ref f__worth))) (l__worth : K.lookup f__worth = some ⟨oc__worth, od__worth, .func (PySem.W.fnOf "_worth" "_worth" (defArgs s__worth) (defBody s__worth) (defScope s__worth) .none kV__worth dc__worth pm__worth an__worth cd__worth ct__worth), sl__worth⟩) (c__worth_ : PySem.W.codeIn K cd__worth "_worth" = true) (k__worth : PySem.W.keepIn K (.ref f__worth) = true)
    (a_holds : PySem.W.nsIn K mainGlobals "holds" = some (some (.ref f_holds))) (l_holds : K.lookup f_holds = some ⟨oc_holds, od_holds, .func (PySem.W.fnOf "holds" "holds" (defArgs s_holds) (defBody s_holds) (defScope s_holds) .none kV_holds dc_holds pm_holds an_holds (.ref c_holds) ct_holds), sl_holds⟩) (c_holds_ : PySem.W.codeIn K (.ref c_holds) "holds" = true) (k_holds : PySem.W.keepIn K (.ref f_holds) = true)
    (u_holds : K.lookup c_holds = some ⟨e_holds, dd_holds, .fields vs_holds, ss_holds⟩) (v_holds : vs_holds[11]? = some (.ref P_holds)) (w_holds : K.lookup P_holds = none)
    (a_case_at : PySem.W.nsIn K mainGlobals "case_at" = some (some (.ref f_case_at))) (l_case_at : K.lookup f_case_at = some ⟨oc_case_at, od_case_at, .func (PySem.W.fnOf "case_at" "case_at" (defArgs s_case_at) (defBody s_case_at) (defScope s_case_at) .none kV_case_at dc_case_at pm_case_at an_case_at cd_case_at ct_case_at), sl_case_at⟩) (c_case_at_ : PySem.W.codeIn K cd_case_at "case_at" = true) (k_case_at : PySem.W.keepIn K (.ref f_case_at) = true)
    (a_read : PySem.W.nsIn K mainGlobals "read" = some (some (.ref f_read))) (l_read : K.lookup f_read = some ⟨oc_read, od_read, .func (PySem.W.fnOf "read" "read" (defArgs s_read) (defBody s_read) (defScope s_read) .none kV_read dc_read pm_read an_read cd_read ct_read), sl_read⟩) (c_read_ : PySem.W.codeIn K cd_read "read" = true) (k_read : PySem.W.keepIn K (.ref f_read) = true)
    (a_beginning : PySem.W.nsIn K mainGlobals "beginning" = some (some (.ref f_beginning))) (l_beginning : K.lookup f_beginning = some ⟨oc_beginning, od_beginning, .func (PySem.W.fnOf "beginning" "beginning" (defArgs s_beginning) (defBody s_beginning) (defScope s_beginning) .none kV_beginning dc_beginning pm_beginning an_beginning cd_beginning ct_beginning), sl_beginning⟩) (c_beginning_ : PySem.W.codeIn K cd_beginning "beginning" = true) (k_beginning : PySem.W.keepIn K (.ref f_beginning) = true)
    (a__numbered : PySem.W.nsIn K mainGlobals "_numbered" = some (some (.ref f__numbered))) (l__numbered : K.lookup f__numbered = some ⟨oc__numbered, od__numbered, .func (PySem.W.fnOf "_numbered" "_numbered" (defArgs s__numbered) (defBody s__numbered) (defScope s__numbered) .none kV__numbered dc__numbered pm__numbered an__numbered cd__numbered ct__numbered), sl__numbered⟩) (c__numbered_ : PySem.W.codeIn K cd__numbered "_numbered" = true) (k__numbered : PySem.W.keepIn K (.ref f__numbered) = true)
    (a_held_values : PySem.W.nsIn K mainGlobals "held_values" = some (some (.ref f_held_values))) (l_held_values : K.lookup f_held_values = some ⟨oc_held_values, od_held_values, .func (PySem.W.fnOf "held_values" "held_values" (defArgs s_held_values) (defBody s_held_values) (defScope s_held_values) .none kV_held_values dc_held_values pm_held_values an_held_values cd_held_values ct_held_values), sl_held_values⟩) (c_held_values_ : PySem.W.codeIn K cd_held_values "held_values" = true) (k_held_values : PySem.W.keepIn K (.ref f_held_values) = true)
    (a_ranks_of : PySem.W.nsIn K mainGlobals "ranks_of" = some (some (.ref f_ranks_of))) (l_ranks_of : K.lookup f_ranks_of = some ⟨oc_ranks_of, od_ranks_of, .func (PySem.W.fnOf "ranks_of" "ranks_of" (defArgs s_ranks_of) (defBody s_ranks_of) (defScope s_ranks_of) .none kV_ranks_of dc_ranks_of pm_ranks_of an_ranks_of cd_ranks_of ct_ranks_of), sl_ranks_of⟩) (c_ranks_of_ : PySem.W.codeIn K cd_ranks_of "ranks_of" = true) (k_ranks_of : PySem.W.keepIn K (.ref f_ranks_of) = true)
    (a_spots_held : PySem.W.nsIn K mainGlobals "spots_held" = some (some (.ref f_spots_held))) (l_spots_held : K.lookup f_spots_held = some ⟨oc_spots_held, od_spots_held, .func (PySem.W.fnOf "spots_held" "spots_held" (defArgs s_spots_held) (defBody s_spots_held) (defScope s_spots_held) .none kV_spots_held dc_spots_held pm_spots_held an_spots_held cd_spots_held ct_spots_held), sl_spots_held⟩) (c_spots_held_ : PySem.W.codeIn K cd_spots_held "spots_held" = true) (k_spots_held : PySem.W.keepIn K (.ref f_spots_held) = true)
    (a_row_step : PySem.W.nsIn K mainGlobals "row_step" = some (some (.ref f_row_step))) (l_row_step : K.lookup f_row_step = some ⟨oc_row_step, od_row_step, .func (PySem.W.fnOf "row_step" "row_step" (defArgs s_row_step) (defBody s_row_step) (defScope s_row_step) .none kV_row_step dc_row_step pm_row_step an_row_step cd_row_step ct_row_step), sl_row_step⟩) (c_row_step_ : PySem.W.codeIn K cd_row_step "row_step" = true) (k_row_step : PySem.W.keepIn K (.ref f_row_step) = true)
    (a_type_of : PySem.W.nsIn K mainGlobals "type_of" = some (some (.ref f_type_of))) (l_type_of : K.lookup f_type_of = some ⟨oc_type_of, od_type_of, .func (PySem.W.fnOf "type_of" "type_of" (defArgs s_type_of) (defBody s_type_of) (defScope s_type_of) .none kV_type_of dc_type_of pm_type_of an_type_of cd_type_of ct_type_of), sl_type_of⟩) (c_type_of_ : PySem.W.codeIn K cd_type_of "type_of" = true) (k_type_of : PySem.W.keepIn K (.ref f_type_of) = true)
    (a_step_of : PySem.W.nsIn K mainGlobals "step_of" = some (some (.ref f_step_of))) (l_step_of : K.lookup f_step_of = some ⟨oc_step_of, od_step_of, .func (PySem.W.fnOf "step_of" "step_of" (defArgs s_step_of) (defBody s_step_of) (defScope s_step_of) .none kV_step_of dc_step_of pm_step_of an_step_of cd_step_of ct_step_of), sl_step_of⟩) (c_step_of_ : PySem.W.codeIn K cd_step_of "step_of" = true) (k_step_of : PySem.W.keepIn K (.ref f_step_of) = true)
    (a_tight : PySem.W.nsIn K mainGlobals "tight" = some (some (.ref f_tight))) (l_tight : K.lookup f_tight = some ⟨oc_tight, od_tight, .func (PySem.W.fnOf "tight" "tight" (defArgs s_tight) (defBody s_tight) (defScope s_tight) .none kV_tight dc_tight pm_tight an_tight cd_tight ct_tight), sl_tight⟩) (c_tight_ : PySem.W.codeIn K cd_tight "tight" = true) (k_tight : PySem.W.keepIn K (.ref f_tight) = true)
    (a_spot_at : PySem.W.nsIn K mainGlobals "spot_at" = some (some (.ref f_spot_at))) (l_spot_at : K.lookup f_spot_at = some ⟨oc_spot_at, od_spot_at, .func (PySem.W.fnOf "spot_at" "spot_at" (defArgs s_spot_at) (defBody s_spot_at) (defScope s_spot_at) .none kV_spot_at dc_spot_at pm_spot_at an_spot_at cd_spot_at ct_spot_at), sl_spot_at⟩) (c_spot_at_ : PySem.W.codeIn K cd_spot_at "spot_at" = true) (k_spot_at : PySem.W.keepIn K (.ref f_spot_at) = true)
    (a_value_at : PySem.W.nsIn K mainGlobals "value_at" = some (some (.ref f_value_at))) (l_value_at : K.lookup f_value_at = some ⟨oc_value_at, od_value_at, .func (PySem.W.fnOf "value_at" "value_at" (defArgs s_value_at) (defBody s_value_at) (defScope s_value_at) .none kV_value_at dc_value_at pm_value_at an_value_at cd_value_at ct_value_at), sl_value_at⟩) (c_value_at_ : PySem.W.codeIn K cd_value_at "value_at" = true) (k_value_at : PySem.W.keepIn K (.ref f_value_at) = true)
    (a_top_for : PySem.W.nsIn K mainGlobals "top_for" = some (some (.ref f_top_for))) (l_top_for : K.lookup f_top_for = some ⟨oc_top_for, od_top_for, .func (PySem.W.fnOf "top_for" "top_for" (defArgs s_top_for) (defBody s_top_for) (defScope s_top_for) .none kV_top_for dc_top_for pm_top_for an_top_for cd_top_for ct_top_for), sl_top_for⟩) (c_top_for_ : PySem.W.codeIn K cd_top_for "top_for" = true) (k_top_for : PySem.W.keepIn K (.ref f_top_for) = true)
    (a_trace : PySem.W.nsIn K mainGlobals "trace" = some (some (.ref f_trace))) (l_trace : K.lookup f_trace = some ⟨oc_trace, od_trace, .func (PySem.W.fnOf "trace" "trace" (defArgs s_trace) (defBody s_trace) (defScope s_trace) .none kV_trace dc_trace pm_trace an_trace cd_trace ct_trace), sl_trace⟩) (c_trace_ : PySem.W.codeIn K cd_trace "trace" = true) (k_trace : PySem.W.keepIn K (.ref f_trace) = true)
    (a_spots_along : PySem.W.nsIn K mainGlobals "spots_along" = some (some (.ref f_spots_along))) (l_spots_along : K.lookup f_spots_along = some ⟨oc_spots_along, od_spots_along, .func (PySem.W.fnOf "spots_along" "spots_along" (defArgs s_spots_along) (defBody s_spots_along) (defScope s_spots_along) .none kV_spots_along dc_spots_along pm_spots_along an_spots_along cd_spots_along ct_spots_along), sl_spots_along⟩) (c_spots_along_ : PySem.W.codeIn K cd_spots_along "spots_along" = true) (k_spots_along : PySem.W.keepIn K (.ref f_spots_along) = true)
    (a_type_behind : PySem.W.nsIn K mainGlobals "type_behind" = some (some (.ref f_type_behind))) (l_type_behind : K.lookup f_type_behind = some ⟨oc_type_behind, od_type_behind, .func (PySem.W.fnOf "type_behind" "type_behind" (defArgs s_type_behind) (defBody s_type_behind) (defScope s_type_behind) .none kV_type_behind dc_type_behind pm_type_behind an_type_behind cd_type_behind ct_type_behind), sl_type_behind⟩) (c_type_behind_ : PySem.W.codeIn K cd_type_behind "type_behind" = true) (k_type_behind : PySem.W.keepIn K (.ref f_type_behind) = true)
    (a_log_of_spots : PySem.W.nsIn K mainGlobals "log_of_spots" = some (some (.ref f_log_of_spots))) (l_log_of_spots : K.lookup f_log_of_spots = some ⟨oc_log_of_spots, od_log_of_spots, .func (PySem.W.fnOf "log_of_spots" "log_of_spots" (defArgs s_log_of_spots) (defBody s_log_of_spots) (defScope s_log_of_spots) .none kV_log_of_spots dc_log_of_spots pm_log_of_spots an_log_of_spots cd_log_of_spots ct_log_of_spots), sl_log_of_spots⟩) (c_log_of_spots_ : PySem.W.codeIn K cd_log_of_spots "log_of_spots" = true) (k_log_of_spots : PySem.W.keepIn K (.ref f_log_of_spots) = true)
    (a__law_at : PySem.W.nsIn K mainGlobals "_law_at" = some (some (.ref f__law_at))) (l__law_at : K.lookup f__law_at = some ⟨oc__law_at, od__law_at, .func (PySem.W.fnOf "_law_at" "_law_at" (defArgs s__law_at) (defBody s__law_at) (defScope s__law_at) .none kV__law_at dc__law_at pm__law_at an__law_at cd__law_at ct__law_at), sl__law_at⟩) (c__law_at_ : PySem.W.codeIn K cd__law_at "_law_at" = true) (k__law_at : PySem.W.keepIn K (.ref f__law_at) = true)
    (a__law_holds : PySem.W.nsIn K mainGlobals "_law_holds" = some (some (.ref f__law_holds))) (l__law_holds : K.lookup f__law_holds = some ⟨oc__law_holds, od__law_holds, .func (PySem.W.fnOf "_law_holds" "_law_holds" (defArgs s__law_holds) (defBody s__law_holds) (defScope s__law_holds) .none kV__law_holds dc__law_holds pm__law_holds an__law_holds cd__law_holds ct__law_holds), sl__law_holds⟩) (c__law_holds_ : PySem.W.codeIn K cd__law_holds "_law_holds" = true) (k__law_holds : PySem.W.keepIn K (.ref f__law_holds) = true)
    (a__law_beginning : PySem.W.nsIn K mainGlobals "_law_beginning" = some (some (.ref f__law_beginning))) (l__law_beginning : K.lookup f__law_beginning = some ⟨oc__law_beginning, od__law_beginning, .func (PySem.W.fnOf "_law_beginning" "_law_beginning" (defArgs s__law_beginning) (defBody s__law_beginning) (defScope s__law_beginning) .none kV__law_beginning dc__law_beginning pm__law_beginning an__law_beginning cd__law_beginning ct__law_beginning), sl__law_beginning⟩) (c__law_beginning_ : PySem.W.codeIn K cd__law_beginning "_law_beginning" = true) (k__law_beginning : PySem.W.keepIn K (.ref f__law_beginning) = true)
    (a__law_ranks : PySem.W.nsIn K mainGlobals "_law_ranks" = some (some (.ref f__law_ranks))) (l__law_ranks : K.lookup f__law_ranks = some ⟨oc__law_ranks, od__law_ranks, .func (PySem.W.fnOf "_law_ranks" "_law_ranks" (defArgs s__law_ranks) (defBody s__law_ranks) (defScope s__law_ranks) .none kV__law_ranks dc__law_ranks pm__law_ranks an__law_ranks cd__law_ranks ct__law_ranks), sl__law_ranks⟩) (c__law_ranks_ : PySem.W.codeIn K cd__law_ranks "_law_ranks" = true) (k__law_ranks : PySem.W.keepIn K (.ref f__law_ranks) = true)
    (a__law_read : PySem.W.nsIn K mainGlobals "_law_read" = some (some (.ref f__law_read))) (l__law_read : K.lookup f__law_read = some ⟨oc__law_read, od__law_read, .func (PySem.W.fnOf "_law_read" "_law_read" (defArgs s__law_read) (defBody s__law_read) (defScope s__law_read) .none kV__law_read dc__law_read pm__law_read an__law_read cd__law_read ct__law_read), sl__law_read⟩) (c__law_read_ : PySem.W.codeIn K cd__law_read "_law_read" = true) (k__law_read : PySem.W.keepIn K (.ref f__law_read) = true)
    (a__law_take : PySem.W.nsIn K mainGlobals "_law_take" = some (some (.ref f__law_take))) (l__law_take : K.lookup f__law_take = some ⟨oc__law_take, od__law_take, .func (PySem.W.fnOf "_law_take" "_law_take" (defArgs s__law_take) (defBody s__law_take) (defScope s__law_take) .none kV__law_take dc__law_take pm__law_take an__law_take cd__law_take ct__law_take), sl__law_take⟩) (c__law_take_ : PySem.W.codeIn K cd__law_take "_law_take" = true) (k__law_take : PySem.W.keepIn K (.ref f__law_take) = true)
    (a__law_draws : PySem.W.nsIn K mainGlobals "_law_draws" = some (some (.ref f__law_draws))) (l__law_draws : K.lookup f__law_draws = some ⟨oc__law_draws, od__law_draws, .func (PySem.W.fnOf "_law_draws" "_law_draws" (defArgs s__law_draws) (defBody s__law_draws) (defScope s__law_draws) .none kV__law_draws dc__law_draws pm__law_draws an__law_draws cd__law_draws ct__law_draws), sl__law_draws⟩) (c__law_draws_ : PySem.W.codeIn K cd__law_draws "_law_draws" = true) (k__law_draws : PySem.W.keepIn K (.ref f__law_draws) = true)
    (a__law_condition : PySem.W.nsIn K mainGlobals "_law_condition" = some (some (.ref f__law_condition))) (l__law_condition : K.lookup f__law_condition = some ⟨oc__law_condition, od__law_condition, .func (PySem.W.fnOf "_law_condition" "_law_condition" (defArgs s__law_condition) (defBody s__law_condition) (defScope s__law_condition) .none kV__law_condition dc__law_condition pm__law_condition an__law_condition cd__law_condition ct__law_condition), sl__law_condition⟩) (c__law_condition_ : PySem.W.codeIn K cd__law_condition "_law_condition" = true) (k__law_condition : PySem.W.keepIn K (.ref f__law_condition) = true)
    (a__law_case : PySem.W.nsIn K mainGlobals "_law_case" = some (some (.ref f__law_case))) (l__law_case : K.lookup f__law_case = some ⟨oc__law_case, od__law_case, .func (PySem.W.fnOf "_law_case" "_law_case" (defArgs s__law_case) (defBody s__law_case) (defScope s__law_case) .none kV__law_case dc__law_case pm__law_case an__law_case cd__law_case ct__law_case), sl__law_case⟩) (c__law_case_ : PySem.W.codeIn K cd__law_case "_law_case" = true) (k__law_case : PySem.W.keepIn K (.ref f__law_case) = true)
    (a__law_machine : PySem.W.nsIn K mainGlobals "_law_machine" = some (some (.ref f__law_machine))) (l__law_machine : K.lookup f__law_machine = some ⟨oc__law_machine, od__law_machine, .func (PySem.W.fnOf "_law_machine" "_law_machine" (defArgs s__law_machine) (defBody s__law_machine) (defScope s__law_machine) .none kV__law_machine dc__law_machine pm__law_machine an__law_machine cd__law_machine ct__law_machine), sl__law_machine⟩) (c__law_machine_ : PySem.W.codeIn K cd__law_machine "_law_machine" = true) (k__law_machine : PySem.W.keepIn K (.ref f__law_machine) = true)
    (a__law_cell : PySem.W.nsIn K mainGlobals "_law_cell" = some (some (.ref f__law_cell))) (l__law_cell : K.lookup f__law_cell = some ⟨oc__law_cell, od__law_cell, .func (PySem.W.fnOf "_law_cell" "_law_cell" (defArgs s__law_cell) (defBody s__law_cell) (defScope s__law_cell) .none kV__law_cell dc__law_cell pm__law_cell an__law_cell cd__law_cell ct__law_cell), sl__law_cell⟩) (c__law_cell_ : PySem.W.codeIn K cd__law_cell "_law_cell" = true) (k__law_cell : PySem.W.keepIn K (.ref f__law_cell) = true)
    (a__law_same : PySem.W.nsIn K mainGlobals "_law_same" = some (some (.ref f__law_same))) (l__law_same : K.lookup f__law_same = some ⟨oc__law_same, od__law_same, .func (PySem.W.fnOf "_law_same" "_law_same" (defArgs s__law_same) (defBody s__law_same) (defScope s__law_same) .none kV__law_same dc__law_same pm__law_same an__law_same cd__law_same ct__law_same), sl__law_same⟩) (c__law_same_ : PySem.W.codeIn K cd__law_same "_law_same" = true) (k__law_same : PySem.W.keepIn K (.ref f__law_same) = true)
    (a__law_is_integer : PySem.W.nsIn K mainGlobals "_law_is_integer" = some (some (.ref f__law_is_integer))) (l__law_is_integer : K.lookup f__law_is_integer = some ⟨oc__law_is_integer, od__law_is_integer, .func (PySem.W.fnOf "_law_is_integer" "_law_is_integer" (defArgs s__law_is_integer) (defBody s__law_is_integer) (defScope s__law_is_integer) .none kV__law_is_integer dc__law_is_integer pm__law_is_integer an__law_is_integer cd__law_is_integer ct__law_is_integer), sl__law_is_integer⟩) (c__law_is_integer_ : PySem.W.codeIn K cd__law_is_integer "_law_is_integer" = true) (k__law_is_integer : PySem.W.keepIn K (.ref f__law_is_integer) = true)
    (a__law_spot : PySem.W.nsIn K mainGlobals "_law_spot" = some (some (.ref f__law_spot))) (l__law_spot : K.lookup f__law_spot = some ⟨oc__law_spot, od__law_spot, .func (PySem.W.fnOf "_law_spot" "_law_spot" (defArgs s__law_spot) (defBody s__law_spot) (defScope s__law_spot) .none kV__law_spot dc__law_spot pm__law_spot an__law_spot cd__law_spot ct__law_spot), sl__law_spot⟩) (c__law_spot_ : PySem.W.codeIn K cd__law_spot "_law_spot" = true) (k__law_spot : PySem.W.keepIn K (.ref f__law_spot) = true)
    (a__law_case_number : PySem.W.nsIn K mainGlobals "_law_case_number" = some (some (.ref f__law_case_number))) (l__law_case_number : K.lookup f__law_case_number = some ⟨oc__law_case_number, od__law_case_number, .func (PySem.W.fnOf "_law_case_number" "_law_case_number" (defArgs s__law_case_number) (defBody s__law_case_number) (defScope s__law_case_number) .none kV__law_case_number dc__law_case_number pm__law_case_number an__law_case_number cd__law_case_number ct__law_case_number), sl__law_case_number⟩) (c__law_case_number_ : PySem.W.codeIn K cd__law_case_number "_law_case_number" = true) (k__law_case_number : PySem.W.keepIn K (.ref f__law_case_number) = true)
    (a__law_trace : PySem.W.nsIn K mainGlobals "_law_trace" = some (some (.ref f__law_trace))) (l__law_trace : K.lookup f__law_trace = some ⟨oc__law_trace, od__law_trace, .func (PySem.W.fnOf "_law_trace" "_law_trace" (defArgs s__law_trace) (defBody s__law_trace) (defScope s__law_trace) .none kV__law_trace dc__law_trace pm__law_trace an__law_trace cd__law_trace ct__law_trace), sl__law_trace⟩) (c__law_trace_ : PySem.W.codeIn K cd__law_trace "_law_trace" = true) (k__law_trace : PySem.W.keepIn K (.ref f__law_trace) = true)
    (a__law_drawn_spots : PySem.W.nsIn K mainGlobals "_law_drawn_spots" = some (some (.ref f__law_drawn_spots))) (l__law_drawn_spots : K.lookup f__law_drawn_spots = some ⟨oc__law_drawn_spots, od__law_drawn_spots, .func (PySem.W.fnOf "_law_drawn_spots" "_law_drawn_spots" (defArgs s__law_drawn_spots) (defBody s__law_drawn_spots) (defScope s__law_drawn_spots) .none kV__law_drawn_spots dc__law_drawn_spots pm__law_drawn_spots an__law_drawn_spots cd__law_drawn_spots ct__law_drawn_spots), sl__law_drawn_spots⟩) (c__law_drawn_spots_ : PySem.W.codeIn K cd__law_drawn_spots "_law_drawn_spots" = true) (k__law_drawn_spots : PySem.W.keepIn K (.ref f__law_drawn_spots) = true)
    (a__law_narrowing : PySem.W.nsIn K mainGlobals "_law_narrowing" = some (some (.ref f__law_narrowing))) (l__law_narrowing : K.lookup f__law_narrowing = some ⟨oc__law_narrowing, od__law_narrowing, .func (PySem.W.fnOf "_law_narrowing" "_law_narrowing" (defArgs s__law_narrowing) (defBody s__law_narrowing) (defScope s__law_narrowing) .none kV__law_narrowing dc__law_narrowing pm__law_narrowing an__law_narrowing cd__law_narrowing ct__law_narrowing), sl__law_narrowing⟩) (c__law_narrowing_ : PySem.W.codeIn K cd__law_narrowing "_law_narrowing" = true) (k__law_narrowing : PySem.W.keepIn K (.ref f__law_narrowing) = true)
    (a_law : PySem.W.nsIn K mainGlobals "law" = some (some (.ref f_law))) (l_law : K.lookup f_law = some ⟨oc_law, od_law, .func (PySem.W.fnOf "law" "law" (defArgs s_law) (defBody s_law) (defScope s_law) .none kV_law dc_law pm_law an_law cd_law ct_law), sl_law⟩) (c_law_ : PySem.W.codeIn K cd_law "law" = true) (k_law : PySem.W.keepIn K (.ref f_law) = true)
    (a_Step : PySem.W.nsIn K mainGlobals "Step" = some (some (.ref C_Step))) (g_Step : PySem.W.findIn K (.ref C_Step) "__init__" = some (some (.ref f_Step))) (i_Step : PySem.W.isFn K (.ref f_Step) = true) (l_Step : K.lookup f_Step = some ⟨oc_Step, od_Step, .func (PySem.W.fnOf "__init__" "Step.__init__" (defArgs s_Step_init) (defBody s_Step_init) (defScope s_Step_init) .none kV_Step dc_Step pm_Step an_Step cd_Step ct_Step), sl_Step⟩) (c_Step_ : PySem.W.codeIn K cd_Step "Step.__init__" = true) (k_Step : PySem.W.keepIn K (.ref f_Step) = true)
    (pg_Step : PySem.W.plainGet K C_Step Str.empty = true) (hd_Step : PySem.W.hasDictIn K C_Step = true) (po_Step : PySem.W.plainOver K C_Step = true) (sa_Step : PySem.W.findIn K (.ref C_Step) "__setattr__" = some (some (.builtin "object.__setattr__"))) (mk_Step : PySem.W.makesIn K C_Step = true) (kc_Step : PySem.W.keepIn K (.ref C_Step) = true)
    (n_Step_before : PySem.W.findIn K (.ref C_Step) "before" = some none)
    (n_Step_tag : PySem.W.findIn K (.ref C_Step) "tag" = some none)
    (n_Step_spot : PySem.W.findIn K (.ref C_Step) "spot" = some none)
    (n_Step_after : PySem.W.findIn K (.ref C_Step) "after" = some none)
    (n_Step_said : PySem.W.findIn K (.ref C_Step) "said" = some none)
    (n_Step_kept : PySem.W.findIn K (.ref C_Step) "kept" = some none)
    (z_NEW : PySem.W.nsIn K mainGlobals "NEW" = some (some (.int (-1) t_NEW)))
    (z_NOTHING : PySem.W.nsIn K mainGlobals "NOTHING" = some (some (.int (-2) t_NOTHING)))
    (z_all : PySem.W.nsIn K mainGlobals "all" = some none)
    (z_any : PySem.W.nsIn K mainGlobals "any" = some none)
    (z_len : PySem.W.nsIn K mainGlobals "len" = some none)
    (z_int : PySem.W.nsIn K mainGlobals "int" = some none)
    (z_list : PySem.W.nsIn K mainGlobals "list" = some none)
    (z_range : PySem.W.nsIn K mainGlobals "range" = some none)
    (z_tuple : PySem.W.nsIn K mainGlobals "tuple" = some none)
    (z_isinstance : PySem.W.nsIn K mainGlobals "isinstance" = some none)
    (z_str : PySem.W.nsIn K mainGlobals "str" = some none)
    (z_bool : PySem.W.nsIn K mainGlobals "bool" = some none)
    (z_enumerate : PySem.W.nsIn K mainGlobals "enumerate" = some none)
    (z_sorted : PySem.W.nsIn K mainGlobals "sorted" = some none)
    (z_set : PySem.W.nsIn K mainGlobals "set" = some none)
    (z_zip : PySem.W.nsIn K mainGlobals "zip" = some none)
    : LamX.LawAtS l w K CX0 60 63 "script" mg fa h := by
  have e := hfa.symm.trans (PySem.W.mg_of X G a_law)
  cases e
  have F__worth := fun_mk (st := s__worth) l__worth c__worth_ k__worth
  have b__worth := F__worth.binds (ps := ["source", "value", "held"]) fun _ _ _ _ _ _ us hl => match us, hl with | [_, _, _], _ => rfl
  have m__worth := PySem.W.mg_of X G a__worth
  have T_holds := funT_mk (st := s_holds) l_holds c_holds_ k_holds
  have F_holds := FunT.fn T_holds
  obtain ⟨tg_holds, hd_holds⟩ := tab_at X (TT "holds" (by simp)) (PySem.W.mg_of X G a_holds) l_holds rfl u_holds v_holds
  have b_holds := F_holds.binds (ps := ["condition", "value", "held"]) fun _ _ _ _ _ _ us hl => match us, hl with | [_, _, _], _ => rfl
  have m_holds := PySem.W.mg_of X G a_holds
  have F_case_at := fun_mk (st := s_case_at) l_case_at c_case_at_ k_case_at
  have b_case_at := F_case_at.binds (ps := ["machine", "content", "entry"]) fun _ _ _ _ _ _ us hl => match us, hl with | [_, _, _], _ => rfl
  have m_case_at := PySem.W.mg_of X G a_case_at
  have F_read := fun_mk (st := s_read) l_read c_read_ k_read
  have b_read := F_read.binds (ps := ["machine", "content", "entry"]) fun _ _ _ _ _ _ us hl => match us, hl with | [_, _, _], _ => rfl
  have m_read := PySem.W.mg_of X G a_read
  have F_beginning := fun_mk (st := s_beginning) l_beginning c_beginning_ k_beginning
  have b_beginning := F_beginning.binds (ps := ["machine"]) fun _ _ _ _ _ _ us hl => match us, hl with | [_], _ => rfl
  have m_beginning := PySem.W.mg_of X G a_beginning
  have F__numbered := fun_mk (st := s__numbered) l__numbered c__numbered_ k__numbered
  have b__numbered := F__numbered.binds (ps := ["values"]) fun _ _ _ _ _ _ us hl => match us, hl with | [_], _ => rfl
  have m__numbered := PySem.W.mg_of X G a__numbered
  have F_held_values := fun_mk (st := s_held_values) l_held_values c_held_values_ k_held_values
  have b_held_values := F_held_values.binds (ps := ["held"]) fun _ _ _ _ _ _ us hl => match us, hl with | [_], _ => rfl
  have m_held_values := PySem.W.mg_of X G a_held_values
  have F_ranks_of := fun_mk (st := s_ranks_of) l_ranks_of c_ranks_of_ k_ranks_of
  have b_ranks_of := F_ranks_of.binds (ps := ["held"]) fun _ _ _ _ _ _ us hl => match us, hl with | [_], _ => rfl
  have m_ranks_of := PySem.W.mg_of X G a_ranks_of
  have F_spots_held := fun_mk (st := s_spots_held) l_spots_held c_spots_held_ k_spots_held
  have b_spots_held := F_spots_held.binds (ps := ["ranks"]) fun _ _ _ _ _ _ us hl => match us, hl with | [_], _ => rfl
  have m_spots_held := PySem.W.mg_of X G a_spots_held
  have F_row_step := fun_mk (st := s_row_step) l_row_step c_row_step_ k_row_step
  have b_row_step := F_row_step.binds (ps := ["row", "joint", "tag", "spot"]) fun _ _ _ _ _ _ us hl => match us, hl with | [_, _, _, _], _ => rfl
  have m_row_step := PySem.W.mg_of X G a_row_step
  have F_type_of := fun_mk (st := s_type_of) l_type_of c_type_of_ k_type_of
  have b_type_of := F_type_of.binds (ps := ["content"]) fun _ _ _ _ _ _ us hl => match us, hl with | [_], _ => rfl
  have m_type_of := PySem.W.mg_of X G a_type_of
  have F_step_of := fun_mk (st := s_step_of) l_step_of c_step_of_ k_step_of
  have b_step_of := F_step_of.binds (ps := ["machine", "kind", "tag", "spot"]) fun _ _ _ _ _ _ us hl => match us, hl with | [_, _, _, _], _ => rfl
  have m_step_of := PySem.W.mg_of X G a_step_of
  have F_tight := fun_mk (st := s_tight) l_tight c_tight_ k_tight
  have b_tight := F_tight.binds (ps := ["log"]) fun _ _ _ _ _ _ us hl => match us, hl with | [_], _ => rfl
  have m_tight := PySem.W.mg_of X G a_tight
  have F_spot_at := fun_mk (st := s_spot_at) l_spot_at c_spot_at_ k_spot_at
  have b_spot_at := F_spot_at.binds (ps := ["values", "value"]) fun _ _ _ _ _ _ us hl => match us, hl with | [_, _], _ => rfl
  have m_spot_at := PySem.W.mg_of X G a_spot_at
  have F_value_at := fun_mk (st := s_value_at) l_value_at c_value_at_ k_value_at
  have b_value_at := F_value_at.binds (ps := ["values", "spot", "top"]) fun _ _ _ _ _ _ us hl => match us, hl with | [_, _, _], _ => rfl
  have m_value_at := PySem.W.mg_of X G a_value_at
  have F_top_for := fun_mk (st := s_top_for) l_top_for c_top_for_ k_top_for
  have b_top_for := F_top_for.binds (ps := ["many"]) fun _ _ _ _ _ _ us hl => match us, hl with | [_], _ => rfl
  have m_top_for := PySem.W.mg_of X G a_top_for
  have F_trace := fun_mk (st := s_trace) l_trace c_trace_ k_trace
  have b_trace := F_trace.binds (ps := ["machine", "log"]) fun _ _ _ _ _ _ us hl => match us, hl with | [_, _], _ => rfl
  have m_trace := PySem.W.mg_of X G a_trace
  have F_spots_along := fun_mk (st := s_spots_along) l_spots_along c_spots_along_ k_spots_along
  have b_spots_along := F_spots_along.binds (ps := ["machine", "log"]) fun _ _ _ _ _ _ us hl => match us, hl with | [_, _], _ => rfl
  have m_spots_along := PySem.W.mg_of X G a_spots_along
  have F_type_behind := fun_mk (st := s_type_behind) l_type_behind c_type_behind_ k_type_behind
  have b_type_behind := F_type_behind.binds (ps := ["machine", "spots"]) fun _ _ _ _ _ _ us hl => match us, hl with | [_, _], _ => rfl
  have m_type_behind := PySem.W.mg_of X G a_type_behind
  have F_log_of_spots := fun_mk (st := s_log_of_spots) l_log_of_spots c_log_of_spots_ k_log_of_spots
  have b_log_of_spots := F_log_of_spots.binds (ps := ["machine", "spots"]) fun _ _ _ _ _ _ us hl => match us, hl with | [_, _], _ => rfl
  have m_log_of_spots := PySem.W.mg_of X G a_log_of_spots
  have F__law_at := fun_mk (st := s__law_at) l__law_at c__law_at_ k__law_at
  have b__law_at := F__law_at.binds (ps := ["place", "value", "held"]) fun _ _ _ _ _ _ us hl => match us, hl with | [_, _, _], _ => rfl
  have m__law_at := PySem.W.mg_of X G a__law_at
  have F__law_holds := fun_mk (st := s__law_holds) l__law_holds c__law_holds_ k__law_holds
  have b__law_holds := F__law_holds.binds (ps := ["condition", "value", "held"]) fun _ _ _ _ _ _ us hl => match us, hl with | [_, _, _], _ => rfl
  have m__law_holds := PySem.W.mg_of X G a__law_holds
  have F__law_beginning := fun_mk (st := s__law_beginning) l__law_beginning c__law_beginning_ k__law_beginning
  have b__law_beginning := F__law_beginning.binds (ps := ["machine"]) fun _ _ _ _ _ _ us hl => match us, hl with | [_], _ => rfl
  have m__law_beginning := PySem.W.mg_of X G a__law_beginning
  have F__law_ranks := fun_mk (st := s__law_ranks) l__law_ranks c__law_ranks_ k__law_ranks
  have b__law_ranks := F__law_ranks.binds (ps := ["held"]) fun _ _ _ _ _ _ us hl => match us, hl with | [_], _ => rfl
  have m__law_ranks := PySem.W.mg_of X G a__law_ranks
  have F__law_read := fun_mk (st := s__law_read) l__law_read c__law_read_ k__law_read
  have b__law_read := F__law_read.binds (ps := ["machine", "content", "entry"]) fun _ _ _ _ _ _ us hl => match us, hl with | [_, _, _], _ => rfl
  have m__law_read := PySem.W.mg_of X G a__law_read
  have F__law_take := fun_mk (st := s__law_take) l__law_take c__law_take_ k__law_take
  have b__law_take := F__law_take.binds (ps := ["draws", "many"]) fun _ _ _ _ _ _ us hl => match us, hl with | [_, _], _ => rfl
  have m__law_take := PySem.W.mg_of X G a__law_take
  have F__law_draws := fun_mk (st := s__law_draws) l__law_draws c__law_draws_ k__law_draws
  have b__law_draws := F__law_draws.binds (ps := ["script", "many"]) fun _ _ _ _ _ _ us hl => match us, hl with | [_, _], _ => rfl
  have m__law_draws := PySem.W.mg_of X G a__law_draws
  have F__law_condition := fun_mk (st := s__law_condition) l__law_condition c__law_condition_ k__law_condition
  have b__law_condition := F__law_condition.binds (ps := ["draws", "registers", "depth"]) fun _ _ _ _ _ _ us hl => match us, hl with | [_, _, _], _ => rfl
  have m__law_condition := PySem.W.mg_of X G a__law_condition
  have F__law_case := fun_mk (st := s__law_case) l__law_case c__law_case_ k__law_case
  have b__law_case := F__law_case.binds (ps := ["draws", "registers", "standings"]) fun _ _ _ _ _ _ us hl => match us, hl with | [_, _, _], _ => rfl
  have m__law_case := PySem.W.mg_of X G a__law_case
  have F__law_machine := fun_mk (st := s__law_machine) l__law_machine c__law_machine_ k__law_machine
  have b__law_machine := F__law_machine.binds (ps := ["draws", "tags", "registers", "standings"]) fun _ _ _ _ _ _ us hl => match us, hl with | [_, _, _, _], _ => rfl
  have m__law_machine := PySem.W.mg_of X G a__law_machine
  have F__law_cell := fun_mk (st := s__law_cell) l__law_cell c__law_cell_ k__law_cell
  have b__law_cell := F__law_cell.binds (ps := ["script", "k"]) fun _ _ _ _ _ _ us hl => match us, hl with | [_, _], _ => rfl
  have m__law_cell := PySem.W.mg_of X G a__law_cell
  have F__law_same := fun_mk (st := s__law_same) l__law_same c__law_same_ k__law_same
  have b__law_same := F__law_same.binds (ps := ["actual", "due"]) fun _ _ _ _ _ _ us hl => match us, hl with | [_, _], _ => rfl
  have m__law_same := PySem.W.mg_of X G a__law_same
  have F__law_is_integer := fun_mk (st := s__law_is_integer) l__law_is_integer c__law_is_integer_ k__law_is_integer
  have b__law_is_integer := F__law_is_integer.binds (ps := ["value"]) fun _ _ _ _ _ _ us hl => match us, hl with | [_], _ => rfl
  have m__law_is_integer := PySem.W.mg_of X G a__law_is_integer
  have F__law_spot := fun_mk (st := s__law_spot) l__law_spot c__law_spot_ k__law_spot
  have b__law_spot := F__law_spot.binds (ps := ["held", "value"]) fun _ _ _ _ _ _ us hl => match us, hl with | [_, _], _ => rfl
  have m__law_spot := PySem.W.mg_of X G a__law_spot
  have F__law_case_number := fun_mk (st := s__law_case_number) l__law_case_number c__law_case_number_ k__law_case_number
  have b__law_case_number := F__law_case_number.binds (ps := ["machine", "content", "entry"]) fun _ _ _ _ _ _ us hl => match us, hl with | [_, _, _], _ => rfl
  have m__law_case_number := PySem.W.mg_of X G a__law_case_number
  have F__law_trace := fun_mk (st := s__law_trace) l__law_trace c__law_trace_ k__law_trace
  have b__law_trace := F__law_trace.binds (ps := ["machine", "log"]) fun _ _ _ _ _ _ us hl => match us, hl with | [_, _], _ => rfl
  have m__law_trace := PySem.W.mg_of X G a__law_trace
  have F__law_drawn_spots := fun_mk (st := s__law_drawn_spots) l__law_drawn_spots c__law_drawn_spots_ k__law_drawn_spots
  have b__law_drawn_spots := F__law_drawn_spots.binds (ps := ["draws", "machine"]) fun _ _ _ _ _ _ us hl => match us, hl with | [_, _], _ => rfl
  have m__law_drawn_spots := PySem.W.mg_of X G a__law_drawn_spots
  have F__law_narrowing := fun_mk (st := s__law_narrowing) l__law_narrowing c__law_narrowing_ k__law_narrowing
  have b__law_narrowing := F__law_narrowing.binds (ps := ["draws"]) fun _ _ _ _ _ _ us hl => match us, hl with | [_], _ => rfl
  have m__law_narrowing := PySem.W.mg_of X G a__law_narrowing
  have F_law := fun_mk (st := s_law) l_law c_law_ k_law
  have b_law := F_law.binds (ps := ["script"]) fun _ _ _ _ _ _ us hl => match us, hl with | [_], _ => rfl
  have m_law := PySem.W.mg_of X G a_law
  have F_Step := fun_mk (st := s_Step_init) l_Step c_Step_ k_Step
  have b_Step := F_Step.binds (ps := ["self", "before", "tag", "spot", "after", "said", "kept"]) fun _ _ _ _ _ _ us hl => match us, hl with | [_, _, _, _, _, _, _], _ => rfl
  have m_Step := PySem.W.mg_of X G a_Step
  have TC_Step : StepC K C_Step := ⟨⟨pg_Step, hd_Step, po_Step, sa_Step⟩, n_Step_before, n_Step_tag, n_Step_spot, n_Step_after, n_Step_said, n_Step_kept⟩
  have M_Step : Mk K C_Step f_Step := ⟨mk_Step, g_Step, i_Step, kc_Step⟩
  have m_NEW := PySem.W.mg_of X G z_NEW
  have m_NOTHING := PySem.W.mg_of X G z_NOTHING
  have m_all := PySem.W.mg_none_of X G z_all
  have m_any := PySem.W.mg_none_of X G z_any
  have m_len := PySem.W.mg_none_of X G z_len
  have m_int := PySem.W.mg_none_of X G z_int
  have m_list := PySem.W.mg_none_of X G z_list
  have m_range := PySem.W.mg_none_of X G z_range
  have m_tuple := PySem.W.mg_none_of X G z_tuple
  have m_isinstance := PySem.W.mg_none_of X G z_isinstance
  have m_str := PySem.W.mg_none_of X G z_str
  have m_bool := PySem.W.mg_none_of X G z_bool
  have m_enumerate := PySem.W.mg_none_of X G z_enumerate
  have m_sorted := PySem.W.mg_none_of X G z_sorted
  have m_set := PySem.W.mg_none_of X G z_set
  have m_zip := PySem.W.mg_none_of X G z_zip
  refine ⟨PySem.W.fnOf "law" "law" (defArgs s_law) (defBody s_law) (defScope s_law) .none kV_law dc_law pm_law an_law cd_law ct_law, [(c_holds, P_holds)], sp_law K [P_holds], ?_, ?_, ?_, fun s v => .of_eq rfl, fun H a ns hl hbits hT hS => ?_, fun base kb nb tb => ?_⟩
  · intro p hp
    simp only [List.mem_cons, List.not_mem_nil, or_false] at hp
    rw [hp]
    exact tg_holds
  · intro p hp
    simp only [List.mem_cons, List.not_mem_nil, or_false] at hp
    rw [hp]
    exact w_holds
  · intro p hp
    simp only [List.mem_cons, List.not_mem_nil, or_false] at hp
    rw [hp]
    exact hd_holds
  · refine ⟨a, ns, rfl, hS, hl, fun P hP => ?_, fun _ => rfl⟩
    simp only [List.mem_cons, List.not_mem_nil, or_false] at hP
    exact ⟨#[], by rw [hP]; exact hT (c_holds, P_holds) (by simp), trivial⟩
  have tb_holds : TabB base mg c_holds P_holds := let t := tb (c_holds, P_holds) (by simp); ⟨t.code, t.bm, t.gP⟩
  have h__worth : FnOk l.prog w K mg base CX0 1 f__worth _ ["source", "value", "held"] (sp__worth K) := ok__worth F__worth m_NEW m_NOTHING
  have h_holds := ok_holds (P := l.prog) (w := w) (base := base) (T := [P_holds]) (PT := P_holds) (by simp) T_holds b_holds m_holds tb_holds m_all m_any h__worth k__worth b__worth m__worth 3
  have h_case_at := ok_case_at (T := [P_holds]) (n := 2) F_case_at m_enumerate h_holds k_holds b_holds m_holds
  have h_read := ok_read (T := [P_holds]) (n := 2) F_read m_tuple h_case_at k_case_at b_case_at m_case_at (h__worth.mono (by decide)) k__worth b__worth m__worth
  have h_beginning : FnOk l.prog w K mg base CX0 1 f_beginning _ _ _ := ok_beginning (T := [P_holds]) F_beginning
  have h__numbered := ok__numbered (P := l.prog) (w := w) (K := K) (mg := mg) (base := base) (k := 0) (T := [P_holds]) F__numbered m_enumerate
  have h_held_values := ok_held_values (P := l.prog) (w := w) (K := K) (mg := mg) (base := base) (k := 0) (T := [P_holds]) F_held_values m_sorted
  have h_ranks_of := ok_ranks_of (P := l.prog) (w := w) (K := K) (mg := mg) (base := base) (k := 1) (T := [P_holds]) F_ranks_of m_tuple (h__numbered.mono (by decide)) k__numbered b__numbered m__numbered (h_held_values.mono (by decide)) k_held_values b_held_values m_held_values
  have h_spots_held := ok_spots_held (P := l.prog) (w := w) (K := K) (mg := mg) (base := base) (k := 0) (T := [P_holds]) F_spots_held m_tuple
  have h_Step := ok_Step (P := l.prog) (w := w) (K := K) (mg := mg) (base := base) (k := 0) F_Step TC_Step
  have h_row_step := ok_row_step (P := l.prog) (w := w) (K := K) (mg := mg) (base := base) (k := 8) (T := [P_holds]) (n := 2) F_row_step m_zip m_tuple M_Step (h_Step.mono (by decide)) m_Step b_Step (h_spots_held.mono (by decide)) k_spots_held b_spots_held m_spots_held (h_read.mono (by decide)) k_read b_read m_read (h_ranks_of.mono (by decide)) k_ranks_of b_ranks_of m_ranks_of (h_held_values.mono (by decide)) k_held_values b_held_values m_held_values
  have h_type_of := ok_type_of (P := l.prog) (w := w) (K := K) (mg := mg) (base := base) (k := 2) (T := [P_holds]) F_type_of (h_ranks_of.mono (by decide)) k_ranks_of b_ranks_of m_ranks_of
  have h_step_of := ok_step_of (P := l.prog) (w := w) (K := K) (mg := mg) (base := base) (k := 10) (T := [P_holds]) (n := 2) F_step_of TC_Step (h_row_step.mono (by decide)) k_row_step b_row_step m_row_step
  have h_tight := ok_tight (P := l.prog) (w := w) (K := K) (mg := mg) (base := base) (k := 1) (T := [P_holds]) F_tight m_sorted m_tuple (h__numbered.mono (by decide)) k__numbered b__numbered m__numbered
  have h_spot_at := ok_spot_at (P := l.prog) (w := w) (K := K) (mg := mg) (base := base) (k := 0) (T := [P_holds]) F_spot_at m_len
  have h_value_at := ok_value_at (P := l.prog) (w := w) (K := K) (mg := mg) (base := base) (k := 0) (T := [P_holds]) F_value_at
  have h_top_for := ok_top_for (P := l.prog) (w := w) (K := K) (mg := mg) (base := base) (k := 0) F_top_for
  have h_trace := ok_trace (P := l.prog) (w := w) (K := K) (mg := mg) (base := base) (k := 10) (T := [P_holds]) (n := 2) F_trace m_tuple (h_beginning.mono (by decide)) k_beginning b_beginning m_beginning (h_spot_at.mono (by decide)) k_spot_at b_spot_at m_spot_at (h_held_values.mono (by decide)) k_held_values b_held_values m_held_values (h_case_at.mono (by decide)) k_case_at b_case_at m_case_at (h_type_of.mono (by decide)) k_type_of b_type_of m_type_of (h_read.mono (by decide)) k_read b_read m_read
  have h_spots_along := ok_spots_along (P := l.prog) (w := w) (K := K) (mg := mg) (base := base) (k := 11) (T := [P_holds]) (n := 2) F_spots_along m_tuple m_zip (h_trace.mono (by decide)) k_trace b_trace m_trace
  have h_type_behind := ok_type_behind (P := l.prog) (w := w) (K := K) (mg := mg) (base := base) (k := 12) (T := [P_holds]) (n := 2) F_type_behind (h_type_of.mono (by decide)) k_type_of b_type_of m_type_of (h_beginning.mono (by decide)) k_beginning b_beginning m_beginning (h_step_of.mono (by decide)) k_step_of b_step_of m_step_of
  have h_log_of_spots := ok_log_of_spots (P := l.prog) (w := w) (K := K) (mg := mg) (base := base) (k := 10) (T := [P_holds]) (n := 2) F_log_of_spots m_len (h_beginning.mono (by decide)) k_beginning b_beginning m_beginning (h_top_for.mono (by decide)) k_top_for b_top_for m_top_for (h_value_at.mono (by decide)) k_value_at b_value_at m_value_at (h_held_values.mono (by decide)) k_held_values b_held_values m_held_values (h_read.mono (by decide)) k_read b_read m_read (h_tight.mono (by decide)) k_tight b_tight m_tight
  have h__law_at := ok__law_at (P := l.prog) (w := w) (K := K) (mg := mg) (base := base) (k := 0) F__law_at
  have h__law_holds := ok__law_holds (P := l.prog) (w := w) (K := K) (mg := mg) (base := base) (k := 0) (T := [P_holds]) F__law_holds m_int b__law_holds m__law_holds (h__law_at.mono (by decide)) k__law_at b__law_at m__law_at 3
  have h__law_beginning := ok__law_beginning (P := l.prog) (w := w) (K := K) (mg := mg) (base := base) (k := 0) (T := [P_holds]) F__law_beginning
  have h__law_ranks := ok__law_ranks (P := l.prog) (w := w) (K := K) (mg := mg) (base := base) (k := 0) (T := [P_holds]) F__law_ranks m_sorted m_set m_tuple
  have h__law_read := ok__law_read (P := l.prog) (w := w) (K := K) (mg := mg) (base := base) (k := 6) (T := [P_holds]) (n := 2) F__law_read m_tuple (h__law_holds.mono (by decide)) k__law_holds b__law_holds m__law_holds (h__law_at.mono (by decide)) k__law_at b__law_at m__law_at
  have h__law_take : FnOk l.prog w K mg base CX0 1 f__law_take _ _ _ := ok__law_take (T := [P_holds]) F__law_take m_len m_int
  have h__law_draws : FnOk l.prog w K mg base CX0 1 f__law_draws _ _ _ := ok__law_draws (T := [P_holds]) F__law_draws m_len m_int m_list m_range
  have h__law_condition := ok__law_condition (P := l.prog) (w := w) (K := K) (mg := mg) (base := base) (k := 0) (T := [P_holds]) F__law_condition m_list m_range m_len m_tuple b__law_condition m__law_condition (h__law_take.mono (by decide)) k__law_take b__law_take m__law_take 2
  have h__law_case := ok__law_case (P := l.prog) (w := w) (K := K) (mg := mg) (base := base) (k := 5) (T := [P_holds]) F__law_case m_list m_range m_len m_tuple (h__law_take.mono (by decide)) k__law_take b__law_take m__law_take (h__law_condition.mono (by decide)) k__law_condition b__law_condition m__law_condition
  have h__law_machine := ok__law_machine (P := l.prog) (w := w) (K := K) (mg := mg) (base := base) (k := 6) (T := [P_holds]) F__law_machine m_range m_tuple (h__law_take.mono (by decide)) k__law_take b__law_take m__law_take (h__law_case.mono (by decide)) k__law_case b__law_case m__law_case
  have h__law_cell := ok__law_cell (P := l.prog) (w := w) (K := K) (mg := mg) (base := base) (k := 0) F__law_cell m_len m_int
  have h__law_same := ok__law_same (P := l.prog) (w := w) (K := K) (mg := mg) (base := base) (k := 0) F__law_same m_isinstance m_tuple m_len m_range m_str m_int m_bool b__law_same m__law_same 14
  have h__law_is_integer := ok__law_is_integer (P := l.prog) (w := w) (K := K) (mg := mg) (base := base) (k := 0) F__law_is_integer m_isinstance m_int m_bool
  have h__law_spot := ok__law_spot (P := l.prog) (w := w) (K := K) (mg := mg) (base := base) (k := 0) (T := [P_holds]) F__law_spot m_sorted m_set m_len m_int
  have h__law_case_number := ok__law_case_number (P := l.prog) (w := w) (K := K) (mg := mg) (base := base) (k := 6) (T := [P_holds]) (n := 2) F__law_case_number m_range m_len (h__law_holds.mono (by decide)) k__law_holds b__law_holds m__law_holds
  have h__law_trace := ok__law_trace (P := l.prog) (w := w) (K := K) (mg := mg) (base := base) (k := 8) (T := [P_holds]) (n := 2) F__law_trace m_tuple (h__law_beginning.mono (by decide)) k__law_beginning b__law_beginning m__law_beginning (h__law_ranks.mono (by decide)) k__law_ranks b__law_ranks m__law_ranks (h__law_case_number.mono (by decide)) k__law_case_number b__law_case_number m__law_case_number (h__law_spot.mono (by decide)) k__law_spot b__law_spot m__law_spot (h__law_read.mono (by decide)) k__law_read b__law_read m__law_read
  have h__law_drawn_spots := ok__law_drawn_spots (P := l.prog) (w := w) (K := K) (mg := mg) (base := base) (k := 8) (T := [P_holds]) (n := 2) F__law_drawn_spots m_range m_len m_set m_tuple (h__law_beginning.mono (by decide)) k__law_beginning b__law_beginning m__law_beginning (h__law_take.mono (by decide)) k__law_take b__law_take m__law_take (h__law_ranks.mono (by decide)) k__law_ranks b__law_ranks m__law_ranks (h__law_read.mono (by decide)) k__law_read b__law_read m__law_read
  have h__law_narrowing := ok__law_narrowing (P := l.prog) (w := w) (K := K) (mg := mg) (base := base) (k := 1) (T := [P_holds]) F__law_narrowing m_tuple (h__law_take.mono (by decide)) k__law_take b__law_take m__law_take
  exact ok_law (k := 59) F_law m_range m_tuple m_len m_isinstance m_sorted m_set m_list (h__law_draws.mono (by decide)) k__law_draws b__law_draws m__law_draws (h__law_take.mono (by decide)) k__law_take b__law_take m__law_take (h__law_machine.mono (by decide)) k__law_machine b__law_machine m__law_machine (h__law_cell.mono (by decide)) k__law_cell b__law_cell m__law_cell (h__law_trace.mono (by decide)) k__law_trace b__law_trace m__law_trace (h__law_same.mono (by decide)) k__law_same b__law_same m__law_same (h_trace.mono (by decide)) k_trace b_trace m_trace (h_spots_along.mono (by decide)) k_spots_along b_spots_along m_spots_along (h_type_behind.mono (by decide)) k_type_behind b_type_behind m_type_behind (h__law_drawn_spots.mono (by decide)) k__law_drawn_spots b__law_drawn_spots m__law_drawn_spots (h__law_narrowing.mono (by decide)) k__law_narrowing b__law_narrowing m__law_narrowing (h_log_of_spots.mono (by decide)) k_log_of_spots b_log_of_spots m_log_of_spots (h__law_is_integer.mono (by decide)) k__law_is_integer b__law_is_integer m__law_is_integer
end Law
open PySem PySem.W PyProof.Rows
set_option maxRecDepth 100000 in
set_option maxHeartbeats 0 in
theorem PySem.Challenge.cw_anyvalues_k00_traces_holds : PySem.Challenge.rw_anyvalues_k00_traces.Holds := by
  w_on; o_law; k_head; (case hw => w_witness2)
  k_fill
  refine Law.walk_tabs (l := PySem.Challenge.rw_anyvalues_k00_traces) (n := 63) (k := 60) (x := "script") (CX := fun _ => L2.CX0) ["holds"] rfl (by decide) rfl ⟨rfl, by decide, by decide⟩ (by decide +kernel) (fun w h Y => PySem.W.kIn_of Y) ?F (fun _ _ _ _ _ z => z)
  case F =>
    intro w mg fa h _ KX G hmg TT
    refine' Law.all_mk KX G hmg TT ?a__worth ?l__worth ?c__worth_ ?k__worth ?a_holds ?l_holds ?c_holds_ ?k_holds ?u_holds ?v_holds ?w_holds ?a_case_at ?l_case_at ?c_case_at_ ?k_case_at ?a_read ?l_read ?c_read_ ?k_read ?a_beginning ?l_beginning ?c_beginning_ ?k_beginning ?a__numbered ?l__numbered ?c__numbered_ ?k__numbered ?a_held_values ?l_held_values ?c_held_values_ ?k_held_values ?a_ranks_of ?l_ranks_of ?c_ranks_of_ ?k_ranks_of ?a_spots_held ?l_spots_held ?c_spots_held_ ?k_spots_held ?a_row_step ?l_row_step ?c_row_step_ ?k_row_step ?a_type_of ?l_type_of ?c_type_of_ ?k_type_of ?a_step_of ?l_step_of ?c_step_of_ ?k_step_of ?a_tight ?l_tight ?c_tight_ ?k_tight ?a_spot_at ?l_spot_at ?c_spot_at_ ?k_spot_at ?a_value_at ?l_value_at ?c_value_at_ ?k_value_at ?a_top_for ?l_top_for ?c_top_for_ ?k_top_for ?a_trace ?l_trace ?c_trace_ ?k_trace ?a_spots_along ?l_spots_along ?c_spots_along_ ?k_spots_along ?a_type_behind ?l_type_behind ?c_type_behind_ ?k_type_behind ?a_log_of_spots ?l_log_of_spots ?c_log_of_spots_ ?k_log_of_spots ?a__law_at ?l__law_at ?c__law_at_ ?k__law_at ?a__law_holds ?l__law_holds ?c__law_holds_ ?k__law_holds ?a__law_beginning ?l__law_beginning ?c__law_beginning_ ?k__law_beginning ?a__law_ranks ?l__law_ranks ?c__law_ranks_ ?k__law_ranks ?a__law_read ?l__law_read ?c__law_read_ ?k__law_read ?a__law_take ?l__law_take ?c__law_take_ ?k__law_take ?a__law_draws ?l__law_draws ?c__law_draws_ ?k__law_draws ?a__law_condition ?l__law_condition ?c__law_condition_ ?k__law_condition ?a__law_case ?l__law_case ?c__law_case_ ?k__law_case ?a__law_machine ?l__law_machine ?c__law_machine_ ?k__law_machine ?a__law_cell ?l__law_cell ?c__law_cell_ ?k__law_cell ?a__law_same ?l__law_same ?c__law_same_ ?k__law_same ?a__law_is_integer ?l__law_is_integer ?c__law_is_integer_ ?k__law_is_integer ?a__law_spot ?l__law_spot ?c__law_spot_ ?k__law_spot ?a__law_case_number ?l__law_case_number ?c__law_case_number_ ?k__law_case_number ?a__law_trace ?l__law_trace ?c__law_trace_ ?k__law_trace ?a__law_drawn_spots ?l__law_drawn_spots ?c__law_drawn_spots_ ?k__law_drawn_spots ?a__law_narrowing ?l__law_narrowing ?c__law_narrowing_ ?k__law_narrowing ?a_law ?l_law ?c_law_ ?k_law ?a_Step ?g_Step ?i_Step ?l_Step ?c_Step_ ?k_Step ?pg_Step ?hd_Step ?po_Step ?sa_Step ?mk_Step ?kc_Step ?n_Step_before ?n_Step_tag ?n_Step_spot ?n_Step_after ?n_Step_said ?n_Step_kept ?z_NEW ?z_NOTHING ?z_all ?z_any ?z_len ?z_int ?z_list ?z_range ?z_tuple ?z_isinstance ?z_str ?z_bool ?z_enumerate ?z_sorted ?z_set ?z_zip
    (case a__worth => k_is)
    (case l__worth => k_is)
    (case c__worth_ => k_is)
    (case k__worth => k_is)
    (case a_holds => k_is)
    (case l_holds => k_is)
    (case c_holds_ => k_is)
    (case k_holds => k_is)
    (case u_holds => k_is)
    (case v_holds => rfl)
    (case w_holds => rfl)
    (case a_case_at => k_is)
    (case l_case_at => k_is)
    (case c_case_at_ => k_is)
    (case k_case_at => k_is)
    (case a_read => k_is)
    (case l_read => k_is)
    (case c_read_ => k_is)
    (case k_read => k_is)
    (case a_beginning => k_is)
    (case l_beginning => k_is)
    (case c_beginning_ => k_is)
    (case k_beginning => k_is)
    (case a__numbered => k_is)
    (case l__numbered => k_is)
    (case c__numbered_ => k_is)
    (case k__numbered => k_is)
    (case a_held_values => k_is)
    (case l_held_values => k_is)
    (case c_held_values_ => k_is)
    (case k_held_values => k_is)
    (case a_ranks_of => k_is)
    (case l_ranks_of => k_is)
    (case c_ranks_of_ => k_is)
    (case k_ranks_of => k_is)
    (case a_spots_held => k_is)
    (case l_spots_held => k_is)
    (case c_spots_held_ => k_is)
    (case k_spots_held => k_is)
    (case a_row_step => k_is)
    (case l_row_step => k_is)
    (case c_row_step_ => k_is)
    (case k_row_step => k_is)
    (case a_type_of => k_is)
    (case l_type_of => k_is)
    (case c_type_of_ => k_is)
    (case k_type_of => k_is)
    (case a_step_of => k_is)
    (case l_step_of => k_is)
    (case c_step_of_ => k_is)
    (case k_step_of => k_is)
    (case a_tight => k_is)
    (case l_tight => k_is)
    (case c_tight_ => k_is)
    (case k_tight => k_is)
    (case a_spot_at => k_is)
    (case l_spot_at => k_is)
    (case c_spot_at_ => k_is)
    (case k_spot_at => k_is)
    (case a_value_at => k_is)
    (case l_value_at => k_is)
    (case c_value_at_ => k_is)
    (case k_value_at => k_is)
    (case a_top_for => k_is)
    (case l_top_for => k_is)
    (case c_top_for_ => k_is)
    (case k_top_for => k_is)
    (case a_trace => k_is)
    (case l_trace => k_is)
    (case c_trace_ => k_is)
    (case k_trace => k_is)
    (case a_spots_along => k_is)
    (case l_spots_along => k_is)
    (case c_spots_along_ => k_is)
    (case k_spots_along => k_is)
    (case a_type_behind => k_is)
    (case l_type_behind => k_is)
    (case c_type_behind_ => k_is)
    (case k_type_behind => k_is)
    (case a_log_of_spots => k_is)
    (case l_log_of_spots => k_is)
    (case c_log_of_spots_ => k_is)
    (case k_log_of_spots => k_is)
    (case a__law_at => k_is)
    (case l__law_at => k_is)
    (case c__law_at_ => k_is)
    (case k__law_at => k_is)
    (case a__law_holds => k_is)
    (case l__law_holds => k_is)
    (case c__law_holds_ => k_is)
    (case k__law_holds => k_is)
    (case a__law_beginning => k_is)
    (case l__law_beginning => k_is)
    (case c__law_beginning_ => k_is)
    (case k__law_beginning => k_is)
    (case a__law_ranks => k_is)
    (case l__law_ranks => k_is)
    (case c__law_ranks_ => k_is)
    (case k__law_ranks => k_is)
    (case a__law_read => k_is)
    (case l__law_read => k_is)
    (case c__law_read_ => k_is)
    (case k__law_read => k_is)
    (case a__law_take => k_is)
    (case l__law_take => k_is)
    (case c__law_take_ => k_is)
    (case k__law_take => k_is)
    (case a__law_draws => k_is)
    (case l__law_draws => k_is)
    (case c__law_draws_ => k_is)
    (case k__law_draws => k_is)
    (case a__law_condition => k_is)
    (case l__law_condition => k_is)
    (case c__law_condition_ => k_is)
    (case k__law_condition => k_is)
    (case a__law_case => k_is)
    (case l__law_case => k_is)
    (case c__law_case_ => k_is)
    (case k__law_case => k_is)
    (case a__law_machine => k_is)
    (case l__law_machine => k_is)
    (case c__law_machine_ => k_is)
    (case k__law_machine => k_is)
    (case a__law_cell => k_is)
    (case l__law_cell => k_is)
    (case c__law_cell_ => k_is)
    (case k__law_cell => k_is)
    (case a__law_same => k_is)
    (case l__law_same => k_is)
    (case c__law_same_ => k_is)
    (case k__law_same => k_is)
    (case a__law_is_integer => k_is)
    (case l__law_is_integer => k_is)
    (case c__law_is_integer_ => k_is)
    (case k__law_is_integer => k_is)
    (case a__law_spot => k_is)
    (case l__law_spot => k_is)
    (case c__law_spot_ => k_is)
    (case k__law_spot => k_is)
    (case a__law_case_number => k_is)
    (case l__law_case_number => k_is)
    (case c__law_case_number_ => k_is)
    (case k__law_case_number => k_is)
    (case a__law_trace => k_is)
    (case l__law_trace => k_is)
    (case c__law_trace_ => k_is)
    (case k__law_trace => k_is)
    (case a__law_drawn_spots => k_is)
    (case l__law_drawn_spots => k_is)
    (case c__law_drawn_spots_ => k_is)
    (case k__law_drawn_spots => k_is)
    (case a__law_narrowing => k_is)
    (case l__law_narrowing => k_is)
    (case c__law_narrowing_ => k_is)
    (case k__law_narrowing => k_is)
    (case a_law => k_is)
    (case l_law => k_is)
    (case c_law_ => k_is)
    (case k_law => k_is)
    (case a_Step => k_is)
    (case g_Step => k_is)
    (case i_Step => k_is)
    (case l_Step => k_is)
    (case c_Step_ => k_is)
    (case k_Step => k_is)
    (case pg_Step => k_is)
    (case hd_Step => k_is)
    (case po_Step => k_is)
    (case sa_Step => k_is)
    (case mk_Step => k_is)
    (case kc_Step => k_is)
    (case n_Step_before => k_is)
    (case n_Step_tag => k_is)
    (case n_Step_spot => k_is)
    (case n_Step_after => k_is)
    (case n_Step_said => k_is)
    (case n_Step_kept => k_is)
    (case z_NEW => k_is)
    (case z_NOTHING => k_is)
    (case z_all => k_is)
    (case z_any => k_is)
    (case z_len => k_is)
    (case z_int => k_is)
    (case z_list => k_is)
    (case z_range => k_is)
    (case z_tuple => k_is)
    (case z_isinstance => k_is)
    (case z_str => k_is)
    (case z_bool => k_is)
    (case z_enumerate => k_is)
    (case z_sorted => k_is)
    (case z_set => k_is)
    (case z_zip => k_is)
#print axioms PySem.Challenge.cw_anyvalues_k00_traces_holds
