import PyProof.Rows.All
import Wide.All
import OpenK.AllK
import Wide.FinOn
import HandS.ForMost
import HandS.EndTab
import HandS.AnyAll
import HandS.GenList
import HandS.IsInst
import HandS.More
import HandS.Conv
import HandS.Strs
import HandS.Codes
import KE.GoesEnum
import KE.GoesMore
import HandS.TupMul
import HandS.WideBits
import HandS.TupAny
import HandS.SetBool
import HandS.SetFor
import HandS.DictComp
import HandS.Zip
import KE.KDictZip
import PyProof.TupleOfGen
import HandS.ListItems
import HandS.Walk
import HandS.SortRule
import PyProof.WalkInts
import PyProof.WalksMore
import HandS.Style
import HandS.SortInts
import PySem.Challenge.RW_anyvalues_k25_whole_built_machines_toget
set_option Elab.async false
set_option linter.all false
set_option maxRecDepth 100000
set_option maxHeartbeats 4000000
/-! any, all of a generator expression whose element calls defs: its own frame, walked as a context of its own. -/
namespace Gx
open PySem PySem.Spec PyProof.Rows L2 GenW GxR

/-- the context of a generator expression's frame -/
def gcx (X : Cx) (N' : List Str) (fp : List Addr) (env : Env) (A' : Around) (s : Shared) (H : Hp) : Cx :=
  { X with A := A', N := N', s_0 := s, H_0 := H, env := env, outer := X.stack, stack := env :: X.stack, ex := fp, fn := fun _ => false, calm := true, pn := [], xe := fun _ _ => False }

theorem over_loopG {A : Around} {e : Expr} {gens : List Comprehension} {sc : Scope} {p : Pos} {it acc : Value} {env : Env} : A.over (.compLoop (.GeneratorExp e gens sc p) 0 it acc env) [] = A.deeper env := by
  first
    | rfl
    | (obtain ⟨hd, d, fr, gs, u⟩ := A; simp [Around.over, Around.deeper, marksOver, frameCount, unitsOf, envsOf, guardsOf, pushEnvs, pushGuards, Code.envs, Code.env?, Code.isFrame, Code.guards, Code.isGuard, Code.weight, Code.frames, Code.isCreation, Code.isCaller, Code.cUnits])
theorem over_startG {A : Around} {e : Expr} {gens : List Comprehension} {sc : Scope} {p : Pos} {it acc : Value} {env : Env} : A.over (.compStart (.GeneratorExp e gens sc p) 0 it acc env) [] = A.deeper env := by
  first
    | rfl
    | (obtain ⟨hd, d, fr, gs, u⟩ := A; simp [Around.over, Around.deeper, marksOver, frameCount, unitsOf, envsOf, guardsOf, pushEnvs, pushGuards, Code.envs, Code.env?, Code.isFrame, Code.guards, Code.isGuard, Code.weight, Code.frames, Code.isCreation, Code.isCaller, Code.cUnits])

/-- the names of the expression's frame: captured ones with their place among the def's names -/
abbrev Ents := List (Str × Option Nat)
def capSt (es : Ents) (σ : L2.St) : L2.St := es.map fun e => match e.2 with | none => none | some i => (σ[i]?).getD none
def capsOk (N : List Str) (sc : Scope) (es : Ents) : Bool := es.all fun e => match e.2 with | none => true | some i => N[i]? == some e.1 && sc.names.lookup e.1 == some NameKind.free
def freeOk (sc scope : Scope) : Bool := scope.names.all fun y => y.2 != .cell && (y.2 != .free || (sc.names.lookup y.1 == some NameKind.cell || sc.names.lookup y.1 == some NameKind.free))
structure GSc (sc scope : Scope) (N : List Str) (es : Ents) : Prop where
  kind : scope.kind = .function
  co : scope.isCoroutine = false
  dot : scope.names.lookup (".0" : Str) = some NameKind.local
  free : freeOk sc scope = true
  caps : capsOk N scope es = true
theorem GSc.cell {sc scope : Scope} {N : List Str} {es : Ents} (S : GSc sc scope N es) : ∀ y ∈ scope.names, y.2 ≠ .cell := fun y hy => by
  have h := List.all_eq_true.mp S.free y hy
  rw [Bool.and_eq_true] at h
  intro e
  rw [e] at h
  exact absurd h.1 (by decide)
theorem GSc.fre {sc scope : Scope} {N : List Str} {es : Ents} (S : GSc sc scope N es) : ∀ y ∈ scope.names, y.2 = .free → sc.names.lookup y.1 = some .cell ∨ sc.names.lookup y.1 = some .free := fun y hy e => by
  have h := List.all_eq_true.mp S.free y hy
  rw [Bool.and_eq_true] at h
  have h2 := h.2
  rw [e] at h2
  simpa using h2

section
variable {X : Cx} {N' : List Str} {fp : List Addr} {env : Env} {A' : Around} {s0 : Shared} {H0 : Hp} {go : Addr × Obj} {tn : Nat → Heap → Prop} {Pv : Nat → Nat → L2.St → Hp → Prop} {fin : Bool} {Qe Qs : Hp → Prop}

/-- what is handed out: a truth value; the consumer stops at fin -/
def GProt (X' : Cx) (fp : List Addr) (go : Addr × Obj) (tn : Nat → Heap → Prop) (Pv : Nat → Nat → L2.St → Hp → Prop) (fin : Bool) (Qs : Hp → Prop) : Protocol := fun n _ v s kap =>
  ∃ σ H b, v = .bool b ∧ Inv X' [go] σ H s ∧
    (if b = fin then Qs H else ∃ i m, n = m + 1 ∧ Pv i m σ H ∧ tn i s.heap ∧ (∀ b ∈ fp, H b = none) ∧
      ∀ s'' : Shared, s''.heap = s.heap → s''.os = s.os → AllBare s''.gens → kap (.send .none) s'')
def GRet (X' : Cx) (go : Addr × Obj) (Qe : Hp → Prop) : GenEnd := fun n s₀ r s => ((r = .ok (.ret .none) ∨ r = .ok .next) ∧ (∃ σ H, Inv X' [go] σ H s ∧ Qe H)) ∨ ∃ e, r = .error e ∧ False

theorem _root_.L2.Inv.again' {X' : Cx} {pins : List (Addr × Obj)} {σ : L2.St} {H : Hp} {s s'' : Shared} (I : Inv X' pins σ H s) (h : s''.heap = s.heap) (o : s''.os = s.os) (b : AllBare s''.gens) : Inv X' pins σ H s'' :=
  I.call' (ch := []) o (by rw [h]; exact Un.refl) (by rw [h]; exact I.hok) b fun b z => absurd z (by simp)

/-- the turns of the expression -/
theorem seg_turns {A : Around} {elt tg iter : Expr} {scope : Scope} {pos : Pos} {it : Addr} {J : It} {g : TG} {t : TE}
    (hA : A' = A.deeper env) (hco : env.scope.isCoroutine = false) (T : Turn X.prog X.w X.K tg J fp it tn)
    (hgt : PG (gcx X N' fp env A' s0 H0) tg g) (helt : PE (gcx X N' fp env A' s0 H0) elt t)
    (hfp : ∀ b ∈ fp, b ≠ env.locals ∧ b ∉ frs X.stack ∧ (∀ x c, env.cells.lookup x = some c → c ≠ b) ∧ go.1 ≠ b)
    (turn : ∀ i m σ' H', Pv i m σ' H' → (J.stop i H' ∧ Qe H') ∨ (J.go i H' ∧ ∀ x H'', J.yld i H' x H'' → g x σ' H'' fun σ2 H3 => t σ2 H3 fun v H4 => ∃ b, v = .bl b ∧ if b = fin then Qs H4 else ∃ m', m = m' + 1 ∧ Pv (i + 1) m' σ2 H4)) :
    ∀ (m i : Nat) (s₀ s : Shared) (σ : L2.St) (H : Hp), Pv i m σ H → Inv (gcx X N' fp env A' s0 H0) [go] σ H s → tn i s.heap → (∀ b ∈ fp, H b = none) →
      Seg (model X.prog X.w) A (GRet (gcx X N' fp env A' s0 H0) go Qe) (GProt (gcx X N' fp env A' s0 H0) fp go tn Pv fin Qs) (m + 1) s₀
        (.compLoop (.GeneratorExp elt [⟨tg, iter, [], 0⟩] scope pos) 0 (.ref it) .none env)
        ((model X.prog X.w).den (.compLoop (.GeneratorExp elt [⟨tg, iter, [], 0⟩] scope pos) 0 (.ref it) .none env)) [] s := by
  have hov : A.over (.compLoop (.GeneratorExp elt [⟨tg, iter, [], 0⟩] scope pos) 0 (.ref it) .none env) [] = (gcx X N' fp env A' s0 H0).A := over_loopG.trans hA.symm
  have stat : ∀ {H' : Hp}, (∀ b ∈ fp, H' b = none) → ∀ b ∈ fp, FpOk (gcx X N' fp env A' s0 H0) [go] H' b := fun hn b hb => by
    obtain ⟨h1, h2, h3, h4⟩ := hfp b hb
    exact ⟨hn b hb, h1, h2, .inl hb, h3, fun p hp => by rw [List.mem_singleton.mp (show p ∈ [go] from hp)]; exact h4⟩
  have hy : ∀ v, yieldOut env v = yieldValue v := fun v => by simp only [yieldOut, hco, Bool.false_eq_true, if_false]
  -- one turn, whatever the measure; K: what follows where the walk goes on
  have one : ∀ (m i : Nat) (s₀ s : Shared) (σ : L2.St) (H : Hp), Pv i m σ H → Inv (gcx X N' fp env A' s0 H0) [go] σ H s → tn i s.heap → (∀ b ∈ fp, H b = none) →
      (∀ m', m = m' + 1 → ∀ (i : Nat) (s₀ s : Shared) (σ : L2.St) (H : Hp), Pv i m' σ H → Inv (gcx X N' fp env A' s0 H0) [go] σ H s → tn i s.heap → (∀ b ∈ fp, H b = none) →
        Seg (model X.prog X.w) A (GRet (gcx X N' fp env A' s0 H0) go Qe) (GProt (gcx X N' fp env A' s0 H0) fp go tn Pv fin Qs) (m' + 1) s₀
          (.compLoop (.GeneratorExp elt [⟨tg, iter, [], 0⟩] scope pos) 0 (.ref it) .none env)
          ((model X.prog X.w).den (.compLoop (.GeneratorExp elt [⟨tg, iter, [], 0⟩] scope pos) 0 (.ref it) .none env)) [] s) →
      Seg (model X.prog X.w) A (GRet (gcx X N' fp env A' s0 H0) go Qe) (GProt (gcx X N' fp env A' s0 H0) fp go tn Pv fin Qs) (m + 1) s₀
        (.compLoop (.GeneratorExp elt [⟨tg, iter, [], 0⟩] scope pos) 0 (.ref it) .none env)
        ((model X.prog X.w).den (.compLoop (.GeneratorExp elt [⟨tg, iter, [], 0⟩] scope pos) 0 (.ref it) .none env)) [] s := by
    intro m i s₀ s σ H pv I st fr later
    show Seg _ A _ _ _ s₀ _ ((compTurn (.GeneratorExp elt [⟨tg, iter, [], 0⟩] scope pos) 0 (.ref it) .none env).onRaise (leaving env)) [] s
    rw [compTurn_gen, Sem.onRaise_eq_wrap]
    refine seg_bind_wrap (wpAny_standAt ?_)
    rcases turn i m σ H pv with ⟨stop, q⟩ | ⟨gg, step⟩
    · refine seg_bind_wrap ?_
      rw [hov]
      refine thn (T.done (gcx X N' fp env A' s0 H0) rfl rfl rfl rfl i [go] s σ H _ I (stat fr) st stop) fun r s1 ⟨hr, I1⟩ => ?_
      subst hr
      exact seg_end (.ok .next) (.inl ⟨.inr rfl, σ, H, I1, q⟩)
    · refine seg_bind_wrap ?_
      rw [hov]
      refine thn (T.item (gcx X N' fp env A' s0 H0) rfl rfl rfl rfl i [go] s σ H _ I (stat fr) st gg) fun r s1 ⟨u, hr, h1⟩ => ?_
      subst hr
      refine seg_bind_wrap ?_
      rw [hov]
      refine wpAny_mono h1 (fun _ s2 ⟨x, H2, I2, r2, y2, st2, fr2⟩ => ?_) fun _ _ e => e
      have I2' := I2.pinned (stat fr2) (T.obj _ _ st2)
      refine seg_bind_wrap ?_
      rw [hov]
      refine wpAny_mono (hgt.run _ s2 σ H2 x u _ I2' r2 (step x H2 y2)) (fun _ s3 ⟨σ3, H3, I3, q3⟩ => ?_) fun _ _ e => e.elim
      refine seg_bind_wrap (wpAny_of_eq (by rw [List.forIn_nil]) ?_)
      simp only [if_true]
      simp only [hy]
      rw [Sem.bind_eq_wrap', Sem.bind_eq_wrap', Sem.wrap_wrap, Sem.wrap_wrap]
      refine seg_wrap ?_
      rw [hov]
      refine wpAny_mono (helt.run _ s3 σ3 H3 _ I3 q3) (fun y s4 ⟨v, H4, I4, r4, q4⟩ => ?_) fun _ _ e => e.elim
      obtain ⟨b, rfl, q4⟩ := q4
      obtain rfl : y = .bool b := r4
      refine seg_at (seg_yield rfl rfl rfl ⟨σ3, H4, b, rfl, I4.unpinned, ?_⟩)
      by_cases hb : b = fin
      · rw [if_pos hb] at q4 ⊢
        exact q4
      · rw [if_neg hb] at q4 ⊢
        obtain ⟨m', hm, pv4⟩ := q4
        have tn4 : tn (i + 1) s4.heap := T.keep _ _ _ st2 fun b hb o e => (I4.pin (b, o) (List.mem_append_right _ (List.mem_append_right _ (mem_pinsAt hb e)))).1
        have fr4 : ∀ b ∈ fp, H4 b = none := fun b hb => by
          obtain ⟨o, e, d⟩ := T.obj _ _ st2 b hb
          exact (I4.pin (b, o) (List.mem_append_right _ (List.mem_append_right _ (mem_pinsAt hb e)))).2.1
        refine ⟨i + 1, m', hm, pv4, tn4, fr4, fun s'' eh eo eb => ?_⟩
        subst hm
        refine seg_again rfl (later m' rfl (i + 1) s'' s'' σ3 H4 pv4 (I4.unpinned.again' eh eo eb) (by rw [eh]; exact tn4) fr4)
  intro m
  induction m with
  | zero => exact fun i s₀ s σ H pv I st fr => one 0 i s₀ s σ H pv I st fr fun m' e => by omega
  | succ m ih =>
    intro i s₀ s σ H pv I st fr
    refine one (m + 1) i s₀ s σ H pv I st fr fun m' e => ?_
    obtain rfl : m = m' := by omega
    exact ih

theorem seg_first {A : Around} {elt tg iter : Expr} {scope : Scope} {pos : Pos} {it : Addr} {J : It} {g : TG} {t : TE}
    (hA : A' = A.deeper env) (hco : env.scope.isCoroutine = false) (T : Turn X.prog X.w X.K tg J fp it tn)
    (hgt : PG (gcx X N' fp env A' s0 H0) tg g) (helt : PE (gcx X N' fp env A' s0 H0) elt t)
    (hfp : ∀ b ∈ fp, b ≠ env.locals ∧ b ∉ frs X.stack ∧ (∀ x c, env.cells.lookup x = some c → c ≠ b) ∧ go.1 ≠ b)
    (turn : ∀ i m σ' H', Pv i m σ' H' → (J.stop i H' ∧ Qe H') ∨ (J.go i H' ∧ ∀ x H'', J.yld i H' x H'' → g x σ' H'' fun σ2 H3 => t σ2 H3 fun v H4 => ∃ b, v = .bl b ∧ if b = fin then Qs H4 else ∃ m', m = m' + 1 ∧ Pv (i + 1) m' σ2 H4))
    (m : Nat) (s₀ s : Shared) (σ : L2.St) (H : Hp) (pv : Pv 0 m σ H) (I : Inv (gcx X N' fp env A' s0 H0) [go] σ H s) (st : tn 0 s.heap) (fr : ∀ b ∈ fp, H b = none) :
      Seg (model X.prog X.w) A (GRet (gcx X N' fp env A' s0 H0) go Qe) (GProt (gcx X N' fp env A' s0 H0) fp go tn Pv fin Qs) (m + 1) s₀
        (.compStart (.GeneratorExp elt [⟨tg, iter, [], 0⟩] scope pos) 0 (.ref it) .none env)
        ((model X.prog X.w).den (.compStart (.GeneratorExp elt [⟨tg, iter, [], 0⟩] scope pos) 0 (.ref it) .none env)) [] s := by
  have loop := seg_turns (iter := iter) (scope := scope) (pos := pos) hA hco T hgt helt hfp turn m 0 s₀ s σ H pv I st fr
  show Seg _ A _ _ _ s₀ _ ((compStart (.GeneratorExp elt [⟨tg, iter, [], 0⟩] scope pos) 0 (.ref it) .none env).onRaise (leaving env)) [] s
  unfold compStart
  rw [Sem.onRaise_eq_wrap]
  show Seg _ A _ _ _ s₀ _ ((ask >>= _).wrap _ _ _ _) [] s
  refine seg_bind_wrap (wpAny_askSetting ?_)
  split
  · exact seg_again rfl loop
  · first
      | exact seg_bind_wrap (wpAny_rule (seg_bind_wrap (wpAny_standAt (seg_bind_wrap (T.self _ 0 s _ _ st (seg_again rfl loop))))))
      | (refine seg_bind_wrap (wpAny_rule ?_); show Seg _ A _ _ _ s₀ _ ((standAt iter.pos >>= _).wrap _ _ _ _) [] s; exact seg_bind_wrap (wpAny_standAt (seg_bind_wrap (T.self _ 0 s _ _ st (seg_again rfl loop)))))
end

/-! ### the consumers -/
section
variable {X' : Cx} {fp : List Addr} {go : Addr × Obj} {tn : Nat → Heap → Prop} {Pv : Nat → Nat → L2.St → Hp → Prop} {Qe Qs : Hp → Prop} {A : Around} {g : Nat} {R : Result → Shared → Prop}
theorem all_loop (hh : A.handled = none) (hd : A.depth < recursionLimit) (hgen : ∀ h : Heap, h.get? go.1 = some go.2 → h.IsGen go.1 g)
    (hend : ∀ s' σ H, Inv X' [go] σ H s' → Qe H → R (.ok (.ret (.bool true))) s') (hstop : ∀ s' σ H, Inv X' [go] σ H s' → Qs H → R (.ok (.ret (.bool false))) s') :
    ∀ (m : Nat) (s : Shared), s.heap.IsGen go.1 g → s.heap.NoLimit →
      (∃ gs, s.gens[g]? = some gs ∧ gs.Goes (model X'.prog X'.w) A.in1.in1 (GRet X' go Qe) (GProt X' fp go tn Pv false Qs) (m + 1) (.send .none) (s.setGen g .running)) →
      codeAny (model X'.prog X'.w) A (.builtin "all.loop" ⟨[.ref go.1], []⟩) R s := by
  intro m
  induction m with
  | zero =>
    intro s hg hl ⟨gs, hgs, hgo⟩
    refine codeAny_builtin F.entry_all_loop ?_
    rw [Around.under_plainId F.plain_all_loop _]
    show wpAny _ A.in1 (pyNext (.ref go.1) >>= _) _ _ s
    refine wpAny_bind (next_genG (A := A.in1) (F := fun _ _ s => ∃ σ H, Inv X' [go] σ H s ∧ Qe H) (Er := fun _ _ => False) hh hl hd hg hgs hgo (fun v s₁ gs' hbare hv => ?_) (fun s₁ hp h' hk => ?_) fun e s₁ he => he.elim)
    · obtain ⟨σ, H, b, rfl, I, hif⟩ := hv
      refine wpAny_bind (wpAny_holding (wpAny_truthy_bool ?_))
      refine wpAny_bind (wpAny_letGo ?_)
      cases b with
      | true =>
        rw [if_neg (by decide)] at hif
        obtain ⟨i, m', e, _⟩ := hif
        exact absurd e (by omega)
      | false =>
        rw [if_pos rfl] at hif
        simp only [Bool.false_eq_true, if_false]
        refine wpAny_bind (wpAny_rule (wpAny_pure ?_))
        exact hstop _ σ H (I.again' (by rfl) rfl (allBare_setGen I.bare hbare)) hif
    · obtain ⟨σ, H, I, q⟩ := hp
      refine wpAny_bind (wpAny_rule (wpAny_pure ?_))
      refine hend _ σ H ?_ q
      exact I.call' (ch := []) rfl (Un.kept hk) (I.hok.kept hk) (allBare_setGen I.bare rfl) fun b z => absurd z (by simp)
  | succ m ih =>
    intro s hg hl ⟨gs, hgs, hgo⟩
    have hgl : g < s.gens.size := (Array.getElem?_eq_some_iff.mp hgs).1
    refine codeAny_builtin F.entry_all_loop ?_
    rw [Around.under_plainId F.plain_all_loop _]
    show wpAny _ A.in1 (pyNext (.ref go.1) >>= _) _ _ s
    refine wpAny_bind (wpAny_gsz (n := g + 1) hgl (next_genG (A := A.in1) (F := fun _ _ s => ∃ σ H, Inv X' [go] σ H s ∧ Qe H) (Er := fun _ _ => False) hh hl hd hg hgs hgo (fun v s₁ gs' hbare hv => ?_) (fun s₁ hp h' hk => ?_) fun e s₁ he => he.elim))
    · intro hsz
      obtain ⟨σ, H, b, rfl, I, hif⟩ := hv
      refine wpAny_bind (wpAny_holding (wpAny_truthy_bool ?_))
      refine wpAny_bind (wpAny_letGo ?_)
      cases b with
      | true =>
        rw [if_neg (by decide)] at hif
        obtain ⟨i, m', e, pv, tnm, fr, hk⟩ := hif
        obtain rfl : m = m' := by omega
        simp only [if_true]
        have hsz1 : g < s₁.gens.size := by
          have q : (s₁.setGen g gs').gens.size = s₁.gens.size := setGen_size _ _ _
          have hsz' : g + 1 ≤ (s₁.setGen g gs').gens.size := hsz
          omega
        refine wpAny_pure ⟨plainId_quiet F.plain_all_loop _, ih _ (hgen _ (I.pin go (List.mem_append_right _ (List.mem_singleton.mpr rfl))).1) I.nolimit ⟨gs', setGen_at hsz1, ?_⟩⟩
        exact hk _ rfl rfl (allBare_setGen (s := s₁.setGen g gs') (allBare_setGen I.bare hbare) rfl)
      | false =>
        rw [if_pos rfl] at hif
        simp only [Bool.false_eq_true, if_false]
        refine wpAny_bind (wpAny_rule (wpAny_pure ?_))
        exact hstop _ σ H (I.again' (by rfl) rfl (allBare_setGen I.bare hbare)) hif
    · intro hsz
      obtain ⟨σ, H, I, q⟩ := hp
      refine wpAny_bind (wpAny_rule (wpAny_pure ?_))
      refine hend _ σ H ?_ q
      exact I.call' (ch := []) rfl (Un.kept hk) (I.hok.kept hk) (allBare_setGen I.bare rfl) fun b z => absurd z (by simp)
theorem any_loop (hh : A.handled = none) (hd : A.depth < recursionLimit) (hgen : ∀ h : Heap, h.get? go.1 = some go.2 → h.IsGen go.1 g)
    (hend : ∀ s' σ H, Inv X' [go] σ H s' → Qe H → R (.ok (.ret (.bool false))) s') (hstop : ∀ s' σ H, Inv X' [go] σ H s' → Qs H → R (.ok (.ret (.bool true))) s') :
    ∀ (m : Nat) (s : Shared), s.heap.IsGen go.1 g → s.heap.NoLimit →
      (∃ gs, s.gens[g]? = some gs ∧ gs.Goes (model X'.prog X'.w) A.in1.in1 (GRet X' go Qe) (GProt X' fp go tn Pv true Qs) (m + 1) (.send .none) (s.setGen g .running)) →
      codeAny (model X'.prog X'.w) A (.builtin "any.loop" ⟨[.ref go.1], []⟩) R s := by
  intro m
  induction m with
  | zero =>
    intro s hg hl ⟨gs, hgs, hgo⟩
    refine codeAny_builtin F.entry_any_loop ?_
    rw [Around.under_plainId F.plain_any_loop _]
    show wpAny _ A.in1 (pyNext (.ref go.1) >>= _) _ _ s
    refine wpAny_bind (next_genG (A := A.in1) (F := fun _ _ s => ∃ σ H, Inv X' [go] σ H s ∧ Qe H) (Er := fun _ _ => False) hh hl hd hg hgs hgo (fun v s₁ gs' hbare hv => ?_) (fun s₁ hp h' hk => ?_) fun e s₁ he => he.elim)
    · obtain ⟨σ, H, b, rfl, I, hif⟩ := hv
      refine wpAny_bind (wpAny_holding (wpAny_truthy_bool ?_))
      refine wpAny_bind (wpAny_letGo ?_)
      cases b with
      | false =>
        rw [if_neg (by decide)] at hif
        obtain ⟨i, m', e, _⟩ := hif
        exact absurd e (by omega)
      | true =>
        rw [if_pos rfl] at hif
        simp only [if_true]
        refine wpAny_bind (wpAny_rule (wpAny_pure ?_))
        exact hstop _ σ H (I.again' (by rfl) rfl (allBare_setGen I.bare hbare)) hif
    · obtain ⟨σ, H, I, q⟩ := hp
      refine wpAny_bind (wpAny_rule (wpAny_pure ?_))
      refine hend _ σ H ?_ q
      exact I.call' (ch := []) rfl (Un.kept hk) (I.hok.kept hk) (allBare_setGen I.bare rfl) fun b z => absurd z (by simp)
  | succ m ih =>
    intro s hg hl ⟨gs, hgs, hgo⟩
    have hgl : g < s.gens.size := (Array.getElem?_eq_some_iff.mp hgs).1
    refine codeAny_builtin F.entry_any_loop ?_
    rw [Around.under_plainId F.plain_any_loop _]
    show wpAny _ A.in1 (pyNext (.ref go.1) >>= _) _ _ s
    refine wpAny_bind (wpAny_gsz (n := g + 1) hgl (next_genG (A := A.in1) (F := fun _ _ s => ∃ σ H, Inv X' [go] σ H s ∧ Qe H) (Er := fun _ _ => False) hh hl hd hg hgs hgo (fun v s₁ gs' hbare hv => ?_) (fun s₁ hp h' hk => ?_) fun e s₁ he => he.elim))
    · intro hsz
      obtain ⟨σ, H, b, rfl, I, hif⟩ := hv
      refine wpAny_bind (wpAny_holding (wpAny_truthy_bool ?_))
      refine wpAny_bind (wpAny_letGo ?_)
      cases b with
      | false =>
        rw [if_neg (by decide)] at hif
        obtain ⟨i, m', e, pv, tnm, fr, hk⟩ := hif
        obtain rfl : m = m' := by omega
        simp only [Bool.false_eq_true, if_false]
        have hsz1 : g < s₁.gens.size := by
          have q : (s₁.setGen g gs').gens.size = s₁.gens.size := setGen_size _ _ _
          have hsz' : g + 1 ≤ (s₁.setGen g gs').gens.size := hsz
          omega
        refine wpAny_pure ⟨plainId_quiet F.plain_any_loop _, ih _ (hgen _ (I.pin go (List.mem_append_right _ (List.mem_singleton.mpr rfl))).1) I.nolimit ⟨gs', setGen_at hsz1, ?_⟩⟩
        exact hk _ rfl rfl (allBare_setGen (s := s₁.setGen g gs') (allBare_setGen I.bare hbare) rfl)
      | true =>
        rw [if_pos rfl] at hif
        simp only [if_true]
        refine wpAny_bind (wpAny_rule (wpAny_pure ?_))
        exact hstop _ σ H (I.again' (by rfl) rfl (allBare_setGen I.bare hbare)) hif
    · intro hsz
      obtain ⟨σ, H, I, q⟩ := hp
      refine wpAny_bind (wpAny_rule (wpAny_pure ?_))
      refine hend _ σ H ?_ q
      exact I.call' (ch := []) rfl (Un.kept hk) (I.hok.kept hk) (allBare_setGen I.bare rfl) fun b z => absurd z (by simp)
end

/-! ### the making -/
theorem clo_look {cells : List (Str × Addr)} {names : List (Str × NameKind)} (hf : ∀ y ∈ names, y.2 = .free → ∃ c, cells.lookup y.1 = some c) {x : Str} {c : Addr} (h : (cloFrom cells names []).lookup x = some c) : cells.lookup x = some c := by
  rcases cloFrom_mem (PySem.mem_of_lookup h) with z | ⟨h1, h2⟩
  · cases z
  · obtain ⟨c', e⟩ := hf _ h1 rfl
    rw [show cells.lookup x = some c' from e] at h2 ⊢
    rw [h2]
    all_goals rfl
theorem clo_has {cells : List (Str × Addr)} {names : List (Str × NameKind)} {x : Str} (h : names.lookup x = some .free) : ∃ c, (cloFrom cells names []).lookup x = some c :=
  mem_lookup (cloFrom_has (PySem.mem_of_lookup h))
theorem capSt_at {es : Ents} {σ : L2.St} {i : Nat} {v : V} (h : (capSt es σ)[i]? = some (some v)) : ∃ x j, es[i]? = some (x, some j) ∧ σ[j]? = some (some v) := by
  unfold capSt at h
  rw [List.getElem?_map] at h
  cases e : es[i]? with
  | none => rw [e] at h; cases h
  | some p =>
    obtain ⟨x, o⟩ := p
    rw [e] at h
    cases o with
    | none => cases h
    | some j =>
      refine ⟨x, j, rfl, ?_⟩
      have h' : (σ[j]?).getD none = some v := Option.some.inj h
      cases e2 : σ[j]? with
      | none => rw [e2] at h'; cases h'
      | some w => rw [e2] at h'; exact congrArg some h'

section
variable {X : Cx} {pins : List (Addr × Obj)} {σ : L2.St} {H : Hp} {s : Shared}

/-- the frame of the expression, as it is made -/
theorem inv_gen {sc scope : Scope} {es : Ents} {fp : List Addr} {A' : Around} {code : Value} {go : Addr × Obj} {s4 s5 : Shared} {itv : Value} (hsc : X.env.scope = sc) (S : GSc sc scope X.N es) (hhd : A'.handled = none)
    (hfr : A'.frames = some (genEnv scope (cloFrom X.env.cells scope.names []) s4.heap.objs.size code builtinsNs X.env :: X.stack))
    (I : Inv X pins σ H s4) (hf : ∀ b ∈ fp, FpOk X pins H b) (hlt : ∀ b ∈ fp, b < s4.heap.objs.size) (os : s5.os = s4.os) (bare : AllBare s5.gens) (kp : ∀ b o, s4.heap.get? b = some o → s5.heap.get? b = some o)
    (ns : s5.heap.Ns s4.heap.objs.size (fun y => if y = ".0" then some itv else none)) (hgo : s5.heap.get? go.1 = some go.2) (hgs : s4.heap.objs.size < go.1) (hgd : ∀ v, go.2.data ≠ .cell v) :
    Inv (gcx X (es.map (·.1)) fp (genEnv scope (cloFrom X.env.cells scope.names []) s4.heap.objs.size code builtinsNs X.env) A' s4 H) [go] (capSt es σ) H s5 := by
  subst hsc
  have hfree : ∀ y ∈ scope.names, y.2 = .free → ∃ c, X.env.cells.lookup y.1 = some c := fun y hy e => I.ok.has y.1 (S.fre y hy e)
  have gone : ∀ a, s4.heap.objs.size ≤ a → H a = none := fun a ha => I.hok.fresh ha
  have hCf : ∀ b, b ∈ frs X.stack → b < s4.heap.objs.size := fun b hb => by
    rcases List.mem_cons.mp (I.stkSub b hb) with z | z
    · rw [z]; exact I.lt
    · obtain ⟨_, o, ho, _⟩ := I.funs.mem z
      exact Heap.lt_size ho
  refine ⟨⟨I.ok.mod, S.kind, I.ok.glob, rfl, Nat.le_refl _, fun x y c h1 h2 => I.ok.inj x y c (clo_look hfree h1) (clo_look hfree h2), fun x hx => ?_, fun x c h => (by cases h), fun _ => hhd, hfr, .inr ⟨rfl, rfl⟩, fun b hb => ⟨Nat.ne_of_lt (hlt b hb), fun x c h => (hf b hb).2.2.2.2.1 x c (clo_look hfree h)⟩,
    fun b o e => I.bs b o e, Nat.le_trans I.ok.bsz I.sz, fun b o e hb => ?_, fun b hb hm => ?_, I.stack, I.stkFree⟩,
    os, bare, Un.kept kp, ⟨_, ns, fun i x v h1 h2 h3 => ?_⟩, fun x c h => ?_, gone _ (Nat.le_refl _), fun x c h => I.freeC x c (clo_look hfree h), fun p hp => ?_, I.hok.kept kp, ?_⟩
  · have hx : scope.names.lookup x = some .cell ∨ scope.names.lookup x = some .free := hx
    rcases hx with hx | hx
    · exact absurd rfl (S.cell _ (PySem.mem_of_lookup hx))
    · exact clo_has hx
  · rcases (hf b hb).2.2.2.1 with z | z
    · exact I.ok.noex b o e z
    · exact absurd (Nat.lt_of_lt_of_le (Heap.lt_size e) (Nat.le_trans I.ok.bsz z)) (Nat.lt_irrefl _)
  · obtain ⟨h1, h2, h3, _⟩ := hf b hb
    rcases List.mem_cons.mp (I.stkSub b hm) with z | z
    · exact h2 z
    · exact h3 z
  · obtain ⟨x', j, h4, h5⟩ := capSt_at h2
    have hx' : x' = x := by
      have h1' : (es.map (·.1))[i]? = some x := h1
      rw [List.getElem?_map, h4] at h1'
      exact Option.some.inj h1'
    subst hx'
    have hc := List.all_eq_true.mp S.caps (x', some j) (List.mem_of_getElem? h4)
    simp only [Bool.and_eq_true, beq_iff_eq] at hc
    obtain ⟨hN, hfr'⟩ := hc
    have hk := S.fre (x', .free) (PySem.mem_of_lookup hfr') rfl
    obtain ⟨m, hn, hl⟩ := I.loc
    obtain ⟨u, r, l⟩ := hl j x' v hN h5 (.inr hk)
    refine ⟨u, r, ?_⟩
    rcases l with ⟨hk', _⟩ | ⟨_, c, hcell, hat⟩
    · exfalso
      have hk'' : X.env.scope.names.lookup x' = some .local := hk'
      rcases hk with z | z <;> (rw [show X.env.scope.names.lookup x' = _ from z] at hk''; cases hk'')
    · obtain ⟨c', hc'⟩ := clo_has (cells := X.env.cells) hfr'
      have e := clo_look hfree hc'
      rw [hcell] at e
      cases e
      obtain ⟨o, ho, hd⟩ := hat
      exact .inr ⟨.inr hfr', c, hc', o, kp _ _ ho, hd⟩
  · obtain ⟨v, o, ho, hd⟩ := I.cell x c (clo_look hfree h)
    exact ⟨v, o, kp _ _ ho, hd⟩
  · have e : p = go := List.mem_singleton.mp (show p ∈ [go] from hp)
    subst e
    refine ⟨hgo, gone _ (Nat.le_of_lt hgs), Nat.ne_of_gt hgs, fun hb => ?_, hgd⟩
    exact absurd (Nat.lt_trans hgs (hCf _ hb)) (Nat.lt_irrefl _)
  · show (capSt es σ).length = (es.map (·.1)).length
    unfold capSt
    rw [List.length_map, List.length_map]
end

/-- the reading: Pv, by the turn and what is left of turns; fin: the value that ends the walk -/
def tGen (fin : Bool) (P : Addr) (es : Ents) (wi : TI) (g : TG) (t : TE) : TE := fun σ H Q => wi σ H fun J H1 => TabG H1 P ∧ ∀ H2, Tabbed P H1 H2 → ∃ Pv : Nat → Nat → L2.St → Hp → Prop, (∃ m, Pv 0 m (capSt es σ) H2) ∧
  ∀ i m σ' H', Pv i m σ' H' → (J.stop i H' ∧ Q (.bl (!fin)) H') ∨ (J.go i H' ∧ ∀ x H'', J.yld i H' x H'' → g x σ' H'' fun σ2 H3 => t σ2 H3 fun v H4 => ∃ b, v = .bl b ∧ if b = fin then Q (.bl fin) H4 else ∃ m', m = m' + 1 ∧ Pv (i + 1) m' σ2 H4)

/-- a generator that has not begun -/
def Ready (X : Cx) (pins : List (Addr × Obj)) (σ : L2.St) (fin : Bool) (Q : VK) (u : Value) (s' : Shared) : Prop :=
  ∃ (X' : Cx) (fp : List Addr) (go : Addr × Obj) (g : Nat) (tn : Nat → Heap → Prop) (Pv : Nat → Nat → L2.St → Hp → Prop) (m : Nat), X'.prog = X.prog ∧ X'.w = X.w ∧ u = .ref go.1 ∧ s'.heap.IsGen go.1 g ∧ s'.heap.NoLimit ∧ (∀ h : Heap, h.get? go.1 = some go.2 → h.IsGen go.1 g) ∧
    (∃ gs, s'.gens[g]? = some gs ∧ gs.Goes (model X.prog X.w) X.A.in1.in1 (GRet X' go (Q (.bl (!fin)))) (GProt X' fp go tn Pv fin (Q (.bl fin))) (m + 1) (.send .none) (s'.setGen g .running)) ∧
    ∀ σ' H' s'', Inv X' [go] σ' H' s'' → Inv X pins σ H' s''

theorem gen_made {k : Nat} {c P : Addr} {elt tg iter : Expr} {gpos : Pos} {scope : Scope} {es : Ents} {wi : TI} {g : TG} {t : TE} {fin : Bool} {pins : List (Addr × Obj)} {s : Shared} {σ : L2.St} {H : Hp} {Q : VK} {X : Cx}
    (hr : Room (k + 1) X.A) (TB : TabB X.base X.mg c P) (hcode : X.env.code = .ref c) (S : GSc X.env.scope scope X.N es) (hi : PI X tg iter wi)
    (hgt : ∀ fp cl C code A' s H, PG (gcx X (es.map (·.1)) fp (genEnv scope cl C code builtinsNs X.env) A' s H) tg g)
    (helt : ∀ fp cl C code A' s H, Room k A' → PE (gcx X (es.map (·.1)) fp (genEnv scope cl C code builtinsNs X.env) A' s H) elt t)
    (hs : ∀ v, genFold iter X.env v = pure v) (I : Inv X pins σ H s) (h : tGen fin P es wi g t σ H Q) :
    wpAny (model X.prog X.w) X.A (eval (.GeneratorExp elt [⟨tg, iter, [], 0⟩] scope gpos) X.env) (Ready X pins σ fin Q) X.xe s := by
  have hfree : ∀ y ∈ scope.names, y.2 = .free → ∃ c, X.env.cells.lookup y.1 = some c := fun y hy e => I.ok.has y.1 (S.fre y hy e)
  refine wpAny_GeneratorExp_make S.co (closure_ok hfree) S.cell S.dot S.kind (by have := hr.dp; omega) ?_ hs
  refine thn (hi.run pins s σ H _ I h) fun xv s1 h1 => thn h1 fun itv s2 hp => ?_
  obtain ⟨it, fp, tn, J, H1, rfl, I1, T, st, hf, ⟨ps, hP, ht⟩, hR⟩ := hp
  have hPs : s2.heap.get? P = some { cls := .none, data := .fields ps } := I1.hok P _ hP
  have cd : PySem.W.CodeHd s2.heap c P := TB.code.keeps fun b u e => I1.bk b u e
  have nP : ∀ b, H1 b = none → b ≠ P := fun b e z => by rw [z, hP] at e; cases e
  refine ⟨I1.nolimit, ?_⟩
  have cont : ∀ (code : Value) (h3 : Heap) (tk : Nat) (ps' : Array Value), Heap.ExtBut P s2.heap h3 → s2.heap.objs.size ≤ h3.objs.size → h3.get? P = some { cls := .none, data := .fields ps' } → (∃ more, ps' = ps ++ more) → TriplesOk ps'.toList →
      wpAny (model X.prog X.w) X.A (builtinsFor X.env.globals X.env.builtins) (fun bi s₄ =>
        ∀ h', h'.Ns s₄.heap.objs.size (fun y => if y = ".0" then some (.ref it) else none) → Heap.SameBut s₄.heap.objs.size (s₄.heap.push { cls := .type "frame", data := .dict #[] }) h' →
          Ready X pins σ fin Q (.ref h'.objs.size) { s₄ with
            gens := s₄.gens.push (.fresh (.compStart (.GeneratorExp elt [⟨tg, iter, [], 0⟩] scope gpos) 0 (.ref it) .none (genEnv scope (cloFrom X.env.cells scope.names []) s₄.heap.objs.size code bi X.env))),
            toks := s₄.toks + 1 + 1 + 1,
            heap := h'.push { cls := .type "generator", data := .fields #[.int s₄.gens.size 0, .str "<genexpr>" (s₄.toks + 1), .str (X.env.qual ++ "<genexpr>") (s₄.toks + 1 + 1)] } }) X.xe { s2 with heap := h3, toks := tk } := by
    intro code h3 tk ps' hx hsz hP3 hmore ht3
    obtain ⟨more, em⟩ := hmore
    subst em
    obtain ⟨bm, ob, e1, e2, e3, e4, e5, e6, e7, e8⟩ := TB.bm
    have keep3 : ∀ b u, b ≠ P → s2.heap.get? b = some u → h3.get? b = some u := fun b u hb e => hx b u hb e
    have I4 : Inv X pins σ (upd H1 P (.tbl (ps ++ more))) { s2 with heap := h3, toks := tk } := inv_tab (g' := s2.gens) (d' := s2.drawn) (t' := tk) I1 hP keep3 hP3 I1.bare
    have hTb : Tabbed P H1 (upd H1 P (.tbl (ps ++ more))) := ⟨⟨_, upd_same, ht3⟩, fun b hb => upd_ne hb⟩
    obtain ⟨Pv, ⟨m, pv⟩, turn⟩ := hR _ hTb
    have hf4 : ∀ b ∈ fp, FpOk X pins (upd H1 P (.tbl (ps ++ more))) b := fun b hb => by
      obtain ⟨f0, fr⟩ := hf b hb
      exact ⟨by rw [upd_ne (nP b f0)]; exact f0, fr⟩
    have st4 : tn 0 h3 := T.keep _ _ _ st fun b hb o e => keep3 b o (nP b (hf b hb).1) e
    have lt4 : ∀ b ∈ fp, b < h3.objs.size := fun b hb => by
      obtain ⟨o, ho, _⟩ := T.obj _ _ st4 b hb
      exact Heap.lt_size ho
    refine wpAny_builtinsFor (m := X.mg) (by rw [I1.ok.glob]; exact (I1.mod.glob.keeps I1.bk).extBut hx TB.gP) e1 e2 (keep3 _ _ e4 (I1.bk _ _ e5)) e6 e7 e8 ?_
    intro h' hn' hs'
    have hsz' : h'.objs.size = h3.objs.size + 1 := by rw [hs'.1]; exact Heap.size_push ..
    have keep' : ∀ b o, h3.get? b = some o → h'.get? b = some o := fun b o e => hs'.extBut b o (Nat.ne_of_lt (Heap.lt_size e)) (Heap.get?_push_of_some _ e)
    have main : ∀ (go : Obj) (nm qn : Value) (tk5 : Nat) (GS : Array GenState), go.cls = .type "generator" → go.data = .fields #[.int s2.gens.size 0, nm, qn] → go.slots = #[] → (∀ h : Heap, (h.push go).get? h.objs.size = some go) → AllBare GS →
        GS[s2.gens.size]? = some (.fresh (.compStart (.GeneratorExp elt [⟨tg, iter, [], 0⟩] scope gpos) 0 (.ref it) .none (genEnv scope (cloFrom X.env.cells scope.names []) h3.objs.size code builtinsNs X.env))) →
        Ready X pins σ fin Q (.ref h'.objs.size) { s2 with gens := GS, toks := tk5, heap := h'.push go } := by
      intro go nm qn tk5 GS hgc hgd hgsl hgp hGb hGS
      have hgen : ∀ h : Heap, h.get? h'.objs.size = some go → h.IsGen h'.objs.size s2.gens.size := fun h e => ⟨go, nm, qn, e, hgc, hgd, hgsl⟩
      have keep5 : ∀ b o, h3.get? b = some o → (h'.push go).get? b = some o := fun b o e => Heap.get?_push_of_some _ (keep' b o e)
      have kO : ∀ A' : Around, A' = X.A.in1.in1.deeper (genEnv scope (cloFrom X.env.cells scope.names []) h3.objs.size code builtinsNs X.env) → A'.frames = some (genEnv scope (cloFrom X.env.cells scope.names []) h3.objs.size code builtinsNs X.env :: X.stack) := fun A' e => by
        rw [e]
        exact Around.frames_deeper (A := X.A.in1.in1) I1.ok.frames
      have I5 : ∀ s5 : Shared, s5.os = s2.os → AllBare s5.gens → s5.heap = h'.push go → Inv (gcx X (es.map (·.1)) fp (genEnv scope (cloFrom X.env.cells scope.names []) h3.objs.size code builtinsNs X.env) (X.A.in1.in1.deeper (genEnv scope (cloFrom X.env.cells scope.names []) h3.objs.size code builtinsNs X.env)) { s2 with heap := h3, toks := tk } (upd H1 P (.tbl (ps ++ more))))
          [(h'.objs.size, go)] (capSt es σ) (upd H1 P (.tbl (ps ++ more))) s5 := fun s5 o5 b5 e5 =>
        inv_gen (s4 := { s2 with heap := h3, toks := tk }) rfl S hr.hd (kO _ rfl) I4 hf4 lt4 o5 b5 (by rw [e5]; exact keep5) (by rw [e5]; exact hn'.push _) (by rw [e5]; exact hgp h') (by show h3.objs.size < h'.objs.size; omega) (fun v q => by rw [hgd] at q; cases q)
      refine ⟨gcx X (es.map (·.1)) fp (genEnv scope (cloFrom X.env.cells scope.names []) h3.objs.size code builtinsNs X.env) (X.A.in1.in1.deeper (genEnv scope (cloFrom X.env.cells scope.names []) h3.objs.size code builtinsNs X.env)) { s2 with heap := h3, toks := tk } (upd H1 P (.tbl (ps ++ more))), fp, (h'.objs.size, go), s2.gens.size, tn, Pv, m, rfl, rfl, rfl, hgen _ (hgp h'), I4.nolimit.keeps keep5, hgen, ⟨_, hGS, rfl, ?_⟩, fun σ' H' s'' I' => ?_⟩
      · refine seg_first (A := X.A.in1.in1) (X := X) (N' := es.map (·.1)) (fp := fp) (env := genEnv scope (cloFrom X.env.cells scope.names []) h3.objs.size code builtinsNs X.env) (s0 := { s2 with heap := h3, toks := tk }) (H0 := upd H1 P (.tbl (ps ++ more))) (fin := fin) (Qe := Q (.bl (!fin))) (Qs := Q (.bl fin)) rfl S.co T
          (hgt ..) (helt _ _ _ _ _ _ _ ⟨hr.hd, ?_, ?_⟩) (fun b hb => ?_) turn m _ (({ s2 with gens := GS, toks := tk5, heap := h'.push go } : Shared).setGen s2.gens.size .running) _ _ pv (I5 (({ s2 with gens := GS, toks := tk5, heap := h'.push go } : Shared).setGen s2.gens.size .running) rfl (allBare_setGen (s := { s2 with gens := GS, toks := tk5, heap := h'.push go }) hGb rfl) rfl) (T.keep _ _ _ st4 fun b _ o e => keep5 b o e) fun b hb => (hf4 b hb).1
        · have := hr.dp
          show X.A.depth + 1 + 3 * k + 5 < _
          omega
        · have := hr.un
          show X.A.units + 1 + 1 + 3 + 16 * k + 200 < _
          omega
        · obtain ⟨f0, f1, f2, f3, f4, f5⟩ := hf4 b hb
          refine ⟨Nat.ne_of_lt (lt4 b hb), fun hm => ?_, fun x c h => f4 x c (clo_look hfree h), fun z => ?_⟩
          · rcases List.mem_cons.mp (I4.stkSub b hm) with z | z
            · exact f1 z
            · exact f2 z
          · have z' : h'.objs.size = b := z
            have q := lt4 b hb
            rw [← z', hsz'] at q
            exact absurd q (Nat.not_lt_of_le (Nat.le_succ _))
      · refine I4.call' (ch := fp) I'.os I'.base I'.hok I'.bare fun b hb => ?_
        obtain ⟨f0, f1, f2, f3, f4, f5⟩ := hf4 b hb
        exact ⟨f3, f1, f4, f5⟩
    exact main _ _ _ _ _ rfl rfl rfl (fun h => Heap.get?_push_size _ rfl) (AllBare.push I1.bare rfl) (Array.getElem?_push_size ..)
  cases hfd : codeAmong gpos ps.toList with
  | none =>
    refine wpAny_genexprCodeX hcode (cd.code hPs ht) (cd.tab hPs) hfd fun c' h' tk hx hge hlt hco' _ htab' _ => ?_
    obtain ⟨o1, vs, f1, tf, fl, tg', inF, tx, tt, op, _, _, _, _, _, _, _, _, _, htr, _⟩ := hco'
    exact cont _ h' tk _ hx (Nat.le_trans hge (Nat.le_of_lt hlt)) htab'.2 ⟨_, rfl⟩ htr
  | some cv =>
    refine wpAny_genexprCode_hit hcode (cd.code hPs ht) hfd ?_
    exact cont cv s2.heap s2.toks ps (Heap.ExtBut.refl _ _) (Nat.le_refl _) hPs ⟨#[], by simp⟩ ht

section
variable {k : Nat} {c P : Addr} {elt tg iter : Expr} {p pos gpos : Pos} {scope : Scope} {es : Ents} {wi : TI} {g : TG} {t : TE} {X : Cx}
theorem pe_allG (hr : Room (k + 1) X.A) (hg : Gl X "all") (hm : X.mg "all" = none) (TB : TabB X.base X.mg c P) (hcode : X.env.code = .ref c) (S : GSc X.env.scope scope X.N es) (hi : PI X tg iter wi)
    (hgt : ∀ fp cl C code A' s H, PG (gcx X (es.map (·.1)) fp (genEnv scope cl C code builtinsNs X.env) A' s H) tg g)
    (helt : ∀ fp cl C code A' s H, Room k A' → PE (gcx X (es.map (·.1)) fp (genEnv scope cl C code builtinsNs X.env) A' s H) elt t)
    (hs : ∀ v, genFold iter X.env v = pure v := by intro _; rfl) (hb : bootBuiltins "all" = some (.builtin "all") := by decide +kernel)
    (he : starEach [.GeneratorExp elt [⟨tg, iter, [], 0⟩] scope gpos] X.env = (false, eval (.GeneratorExp elt [⟨tg, iter, [], 0⟩] scope gpos) X.env) :: starEach [] X.env := by rfl) :
    PE X (.Call (.Name "all" p) [.GeneratorExp elt [⟨tg, iter, [], 0⟩] scope gpos] [] pos) (tGen false P es wi g t) := by
  refine ⟨fun pins s σ H Q I h => ?_⟩
  refine wpAny_Call_Name_kw (ld_blt I hg hm hb ?_)
  refine PyProof.Rows.callWith_builtin1 ?_ he (by rfl)
  rw [he]
  show wpAny _ _ (spliced ((false, eval (.GeneratorExp elt [⟨tg, iter, [], 0⟩] scope gpos) X.env) :: backTo pos (starEach [] X.env))) _ _ s
  refine Calls.spliced_cons (thn (gen_made hr TB hcode S hi hgt helt hs I h) fun u s1 hR => ?_)
  obtain ⟨X', fp, go, gn, tn, Pv, m, hP, hw, rfl, hg1, hl1, hgen, hgoes, hback⟩ := hR
  refine Calls.spliced_nil ?_
  refine call_function_tree F.kind_all F.plain_all F.entry_all (F.args_all1 _) ?_
  unfold Builtin.«all»
  refine wpAny_bind (m := oneArg "all" _) (wpAny_pure ?_)
  refine wpAny_bind (wpAny_pyIter_gen hg1 ?_)
  rw [← hP, ← hw] at hgoes ⊢
  refine wpAny_pure ⟨plainId_quiet F.plain_all_loop _, all_loop (Qe := Q (.bl true)) (Qs := Q (.bl false)) hr.hd (by have := hr.dp; omega) hgen (fun s' σ' H' I' q => ?_) (fun s' σ' H' I' q => ?_) m s1 hg1 hl1 hgoes⟩
  · exact ⟨.bl true, H', hback _ _ _ I', rfl, q⟩
  · exact ⟨.bl false, H', hback _ _ _ I', rfl, q⟩
theorem pe_anyG (hr : Room (k + 1) X.A) (hg : Gl X "any") (hm : X.mg "any" = none) (TB : TabB X.base X.mg c P) (hcode : X.env.code = .ref c) (S : GSc X.env.scope scope X.N es) (hi : PI X tg iter wi)
    (hgt : ∀ fp cl C code A' s H, PG (gcx X (es.map (·.1)) fp (genEnv scope cl C code builtinsNs X.env) A' s H) tg g)
    (helt : ∀ fp cl C code A' s H, Room k A' → PE (gcx X (es.map (·.1)) fp (genEnv scope cl C code builtinsNs X.env) A' s H) elt t)
    (hs : ∀ v, genFold iter X.env v = pure v := by intro _; rfl) (hb : bootBuiltins "any" = some (.builtin "any") := by decide +kernel)
    (he : starEach [.GeneratorExp elt [⟨tg, iter, [], 0⟩] scope gpos] X.env = (false, eval (.GeneratorExp elt [⟨tg, iter, [], 0⟩] scope gpos) X.env) :: starEach [] X.env := by rfl) :
    PE X (.Call (.Name "any" p) [.GeneratorExp elt [⟨tg, iter, [], 0⟩] scope gpos] [] pos) (tGen true P es wi g t) := by
  refine ⟨fun pins s σ H Q I h => ?_⟩
  refine wpAny_Call_Name_kw (ld_blt I hg hm hb ?_)
  refine PyProof.Rows.callWith_builtin1 ?_ he (by rfl)
  rw [he]
  show wpAny _ _ (spliced ((false, eval (.GeneratorExp elt [⟨tg, iter, [], 0⟩] scope gpos) X.env) :: backTo pos (starEach [] X.env))) _ _ s
  refine Calls.spliced_cons (thn (gen_made hr TB hcode S hi hgt helt hs I h) fun u s1 hR => ?_)
  obtain ⟨X', fp, go, gn, tn, Pv, m, hP, hw, rfl, hg1, hl1, hgen, hgoes, hback⟩ := hR
  refine Calls.spliced_nil ?_
  refine call_function_tree F.kind_any F.plain_any F.entry_any (F.args_any1 _) ?_
  unfold Builtin.«any»
  refine wpAny_bind (m := oneArg "any" _) (wpAny_pure ?_)
  refine wpAny_bind (wpAny_pyIter_gen hg1 ?_)
  rw [← hP, ← hw] at hgoes ⊢
  refine wpAny_pure ⟨plainId_quiet F.plain_any_loop _, any_loop (Qe := Q (.bl false)) (Qs := Q (.bl true)) hr.hd (by have := hr.dp; omega) hgen (fun s' σ' H' I' q => ?_) (fun s' σ' H' I' q => ?_) m s1 hg1 hl1 hgoes⟩
  · exact ⟨.bl false, H', hback _ _ _ I', rfl, q⟩
  · exact ⟨.bl true, H', hback _ _ _ I', rfl, q⟩
end
end Gx

/-! Plain data of any depth, and how a heap holds it. -/
namespace Dv
open PySem PySem.Spec PyProof.Rows L2 GxR Gx

inductive D where
  | non | bl (b : Bool) | int (i : Int) | str (s : Str) | tup (ds : List D)

section
variable (K : PySem.W.Frag) (H : Hp)
mutual
def At : V → D → Prop
  | v, .non => v = .non
  | v, .bl b => v = .bl b
  | v, .int i => v = .int i
  | v, .str s => v = .str s
  | v, .tup ds => ∃ a xs, v = .ref a ∧ SqT K H a xs ∧ Ats xs ds
def Ats : List V → List D → Prop
  | xs, [] => xs = []
  | xs, d :: ds => ∃ x r, xs = x :: r ∧ At x d ∧ Ats r ds
end
end

/-- H' is H but for what is new, the lists at ms, and tables, which may grow -/
structure Ex (T ms : List Addr) (H H' : Hp) : Prop where
  keep : ∀ b o, b ∉ ms → H b = some o → (∀ ps, o ≠ .tbl ps) → H' b = some o
  tups : ∀ b xs, Rd H b (.tup xs) → Rd H' b (.tup xs)
  tabs : (∀ P ∈ T, TabG H P) → ∀ P ∈ T, TabG H' P
  there : ∀ b o, H b = some o → ∃ o', H' b = some o'

section
variable {K : PySem.W.Frag} {T ms : List Addr} {H H1 H2 H' : Hp}
theorem Ex.refl : Ex T ms H H := ⟨fun _ _ _ h _ => h, fun _ _ h => h, fun h => h, fun _ o h => ⟨o, h⟩⟩
theorem Ex.trans (a : Ex T ms H H1) (b : Ex T ms H1 H2) : Ex T ms H H2 :=
  ⟨fun c o n h t => b.keep c o n (a.keep c o n h t) t, fun c xs h => b.tups c xs (a.tups c xs h), fun h => b.tabs (a.tabs h), fun c o h => let ⟨o', e⟩ := a.there c o h; b.there c o' e⟩
theorem Ex.mono {ms' : List Addr} (a : Ex T ms H H1) (h : ∀ b ∈ ms, b ∈ ms') : Ex T ms' H H1 :=
  ⟨fun c o n q t => a.keep c o (fun z => n (h c z)) q t, a.tups, a.tabs, a.there⟩
theorem Ex.nil (a : Ex T [] H H1) : Ex T ms H H1 := a.mono fun _ h => by cases h
theorem tabG_upd {P p : Addr} {o : HO} (h : TabG H P) (n : P ≠ p) : TabG (upd H p o) P := by
  obtain ⟨ps, e, t⟩ := h
  exact ⟨ps, by rw [upd_ne n]; exact e, t⟩
theorem rd_upd {b p : Addr} {xs : List V} {o : HO} (h : Rd H b (.tup xs)) (n : b ≠ p) : Rd (upd H p o) b (.tup xs) := by
  rcases h with h | ⟨ob, h⟩
  · exact .inl (by rw [upd_ne n]; exact h)
  · exact .inr ⟨ob, by rw [upd_ne n]; exact h⟩
theorem rd_ne {b p : Addr} {xs : List V} (h : Rd H b (.tup xs)) (n : H p = none) : b ≠ p := by
  rcases h with h | ⟨ob, h⟩
  · exact ne_of_none h n
  · exact ne_of_none h n
/-- a new object -/
theorem upd_there {p b : Addr} {o u : HO} (h : H b = some u) : ∃ o', upd H p o b = some o' := by
  by_cases e : b = p
  · exact ⟨o, by rw [e, upd_same]⟩
  · exact ⟨u, by rw [upd_ne e]; exact h⟩
theorem Ex.new {p : Addr} {o : HO} (n : H p = none) : Ex T ms H (upd H p o) := by
  refine ⟨fun b u _ h _ => by rw [upd_ne (ne_of_none h n)]; exact h, fun b xs h => rd_upd h (rd_ne h n), fun h P hP => ?_, fun b u h => upd_there h⟩
  obtain ⟨ps, e, t⟩ := h P hP
  exact tabG_upd ⟨ps, e, t⟩ (ne_of_none e n)
/-- an object that was new is written again -/
theorem Ex.put {p : Addr} {o : HO} (a : Ex T ms H H1) (n : H p = none) (hT : ∀ P ∈ T, TabG H P) : Ex T ms H (upd H1 p o) := by
  refine ⟨fun b u m h t => by rw [upd_ne (ne_of_none h n)]; exact a.keep b u m h t, fun b xs h => rd_upd (a.tups b xs h) (rd_ne h n), fun h P hP => ?_, fun b u h => let ⟨_, e⟩ := a.there b u h; upd_there e⟩
  obtain ⟨ps, e, t⟩ := hT P hP
  exact tabG_upd (a.tabs h P hP) (ne_of_none e n)
/-- a list at ms is written -/
theorem Ex.write {m : Addr} {o : HO} {xs : List V} (hm : m ∈ ms) (h : H m = some (.lst xs)) : Ex T ms H (upd H m o) := by
  refine ⟨fun b u n e t => by rw [upd_ne (fun z => n (by rw [z]; exact hm))]; exact e, fun b ys e => ?_, fun hh P hP => ?_, fun b u h => upd_there h⟩
  · have nb : b ≠ m := fun z => by
      subst z
      rcases e with e | ⟨ob, e⟩ <;> (rw [h] at e; cases e)
    exact rd_upd e nb
  · obtain ⟨ps, e, t⟩ := hh P hP
    exact tabG_upd ⟨ps, e, t⟩ (fun z => by subst z; rw [h] at e; cases e)
/-- a table has grown -/
theorem Ex.tab {P : Addr} (h : TabG H P) (t : Tabbed P H H') : Ex T ms H H' := by
  obtain ⟨⟨ps, e, _⟩, ht⟩ := And.intro h t
  refine ⟨fun b o _ q n => ?_, fun b xs q => ?_, fun hh Q hQ => ?_, fun b o q => ?_⟩
  · rw [ht.2 b fun z => by subst z; rw [e] at q; cases q; exact n _ rfl]; exact q
  · have nb : b ≠ P := fun z => by
      subst z
      rcases q with q | ⟨ob, q⟩ <;> (rw [e] at q; cases q)
    rcases q with q | ⟨ob, q⟩
    · exact .inl (by rw [ht.2 b nb]; exact q)
    · exact .inr ⟨ob, by rw [ht.2 b nb]; exact q⟩
  · by_cases z : Q = P
    · rw [z]; exact ht.1
    · obtain ⟨ps', e', t'⟩ := hh Q hQ
      exact ⟨ps', by rw [ht.2 Q z]; exact e', t'⟩
  · by_cases z : b = P
    · obtain ⟨ps', e', _⟩ := ht.1
      exact ⟨_, by rw [z]; exact e'⟩
    · exact ⟨o, by rw [ht.2 b z]; exact q⟩
/-- what is new behind is new ahead -/
theorem Ex.free {p : Addr} (a : Ex T ms H H1) (n : H1 p = none) : H p = none := by
  cases e : H p with
  | none => rfl
  | some o =>
    obtain ⟨o', e'⟩ := a.there p o e
    rw [n] at e'; cases e'
theorem Ex.sqT (a : Ex T ms H H1) {b : Addr} {xs : List V} (h : SqT K H b xs) : SqT K H1 b xs := h.imp (a.tups b xs) id
theorem Ex.sqL (a : Ex T ms H H1) {b : Addr} {xs : List V} (n : b ∉ ms) (h : SqL K H b xs) : SqL K H1 b xs := by
  refine h.imp (fun z => ?_) id
  rcases z with z | ⟨o, z⟩
  · exact .inl (a.keep _ _ n z fun ps e => by cases e)
  · exact .inr ⟨o, a.keep _ _ n z fun ps e => by cases e⟩

mutual
theorem At.ext (a : Ex T ms H H1) : ∀ {v : V} {d : D}, At K H v d → At K H1 v d
  | v, .non, h => by unfold At at h ⊢; exact h
  | v, .bl b, h => by unfold At at h ⊢; exact h
  | v, .int i, h => by unfold At at h ⊢; exact h
  | v, .str s, h => by unfold At at h ⊢; exact h
  | v, .tup ds, h => by
    unfold At at h ⊢
    obtain ⟨p, xs, e, q, r⟩ := h
    exact ⟨p, xs, e, a.sqT q, Ats.ext a r⟩
theorem Ats.ext (a : Ex T ms H H1) : ∀ {xs : List V} {ds : List D}, Ats K H xs ds → Ats K H1 xs ds
  | xs, [], h => by unfold Ats at h ⊢; exact h
  | xs, d :: ds, h => by
    unfold Ats at h ⊢
    obtain ⟨x, r, e, q, t⟩ := h
    exact ⟨x, r, e, At.ext a q, Ats.ext a t⟩
end
theorem at_non {v : V} : At K H v .non ↔ v = .non := by unfold At; exact Iff.rfl
theorem at_bl {v : V} {b : Bool} : At K H v (.bl b) ↔ v = .bl b := by unfold At; exact Iff.rfl
theorem at_int {v : V} {i : Int} : At K H v (.int i) ↔ v = .int i := by unfold At; exact Iff.rfl
theorem at_str {v : V} {s : Str} : At K H v (.str s) ↔ v = .str s := by unfold At; exact Iff.rfl
theorem at_tup {v : V} {ds : List D} : At K H v (.tup ds) ↔ ∃ a xs, v = .ref a ∧ SqT K H a xs ∧ Ats K H xs ds := by
  constructor
  · intro h; unfold At at h; exact h
  · intro h; unfold At; exact h
theorem ats_nil {xs : List V} : Ats K H xs [] ↔ xs = [] := by unfold Ats; exact Iff.rfl
theorem ats_cons {xs : List V} {d : D} {ds : List D} : Ats K H xs (d :: ds) ↔ ∃ x r, xs = x :: r ∧ At K H x d ∧ Ats K H r ds := by
  constructor
  · intro h; unfold Ats at h; exact h
  · intro h; unfold Ats; exact h
theorem Ats.mk_nil : Ats K H [] [] := ats_nil.mpr rfl
theorem Ats.mk {x : V} {d : D} {xs : List V} {ds : List D} (h : At K H x d) (t : Ats K H xs ds) : Ats K H (x :: xs) (d :: ds) := ats_cons.mpr ⟨x, xs, rfl, h, t⟩
theorem Ats.length : ∀ {xs : List V} {ds : List D}, Ats K H xs ds → xs.length = ds.length
  | xs, [], h => by rw [ats_nil.mp h]; rfl
  | xs, d :: ds, h => by
    obtain ⟨x, r, rfl, _, t⟩ := ats_cons.mp h
    rw [List.length_cons, List.length_cons, t.length]
theorem Ats.get : ∀ {xs : List V} {ds : List D} {i : Nat} {d : D}, Ats K H xs ds → ds[i]? = some d → ∃ x, xs[i]? = some x ∧ At K H x d
  | xs, [], i, d, h, e => by simp at e
  | xs, d' :: ds, 0, d, h, e => by
    obtain ⟨x, r, rfl, q, _⟩ := ats_cons.mp h
    obtain rfl : d' = d := by simpa using e
    exact ⟨x, rfl, q⟩
  | xs, d' :: ds, i + 1, d, h, e => by
    obtain ⟨x, r, rfl, _, t⟩ := ats_cons.mp h
    obtain ⟨y, h1, h2⟩ := t.get (i := i) (d := d) (by simpa using e)
    exact ⟨y, by simpa using h1, h2⟩
theorem Ats.get' {xs : List V} {ds : List D} {i : Nat} {x : V} (h : Ats K H xs ds) (e : xs[i]? = some x) : ∃ d, ds[i]? = some d ∧ At K H x d := by
  have hl := h.length
  have hi : i < ds.length := by rw [← hl]; exact (List.getElem?_eq_some_iff.mp e).1
  obtain ⟨y, h1, h2⟩ := h.get (List.getElem?_eq_getElem hi)
  rw [e] at h1; cases h1
  exact ⟨_, List.getElem?_eq_getElem hi, h2⟩
theorem Ats.append : ∀ {xs ys : List V} {ds es : List D}, Ats K H xs ds → Ats K H ys es → Ats K H (xs ++ ys) (ds ++ es)
  | xs, ys, [], es, h, t => by rw [ats_nil.mp h]; exact t
  | xs, ys, d :: ds, es, h, t => by
    obtain ⟨x, r, rfl, q, s⟩ := ats_cons.mp h
    exact Ats.mk q (Ats.append s t)
theorem Ats.of_forall : ∀ {xs : List V} {ds : List D}, xs.length = ds.length → (∀ (i : Nat) (x : V) (d : D), xs[i]? = some x → ds[i]? = some d → At K H x d) → Ats K H xs ds
  | [], [], _, _ => Ats.mk_nil
  | x :: xs, d :: ds, hl, h => Ats.mk (h 0 x d rfl rfl) (Ats.of_forall (by simpa using hl) fun i x d h1 h2 => h (i + 1) x d (by simpa using h1) (by simpa using h2))
/-- a new tuple of data -/
theorem At.new {p : Addr} {xs : List V} {ds : List D} (h : H p = some (.tup xs)) (r : Ats K H xs ds) : At K H (.ref p) (.tup ds) := at_tup.mpr ⟨p, xs, rfl, SqT.of h, r⟩
/-- laid at p over H -/
theorem At.laid {p : Addr} {xs : List V} {ds : List D} (n : H p = none) (r : Ats K H xs ds) : At K (upd H p (.tup xs)) (.ref p) (.tup ds) :=
  At.new upd_same (Ats.ext (T := []) (ms := []) (Ex.new n) r)
theorem At.t1 {v : V} {d1 : D} (h : At K H v (.tup [d1])) : ∃ a x1, v = .ref a ∧ SqT K H a [x1] ∧ At K H x1 d1 := by
  obtain ⟨a, xs, rfl, q, r⟩ := at_tup.mp h
  obtain ⟨x1, _, rfl, h1, r⟩ := ats_cons.mp r
  cases ats_nil.mp r
  exact ⟨a, x1, rfl, q, h1⟩
theorem At.t2 {v : V} {d1 d2 : D} (h : At K H v (.tup [d1, d2])) : ∃ a x1 x2, v = .ref a ∧ SqT K H a [x1, x2] ∧ At K H x1 d1 ∧ At K H x2 d2 := by
  obtain ⟨a, xs, rfl, q, r⟩ := at_tup.mp h
  obtain ⟨x1, _, rfl, h1, r⟩ := ats_cons.mp r
  obtain ⟨x2, _, rfl, h2, r⟩ := ats_cons.mp r
  cases ats_nil.mp r
  exact ⟨a, x1, x2, rfl, q, h1, h2⟩
theorem At.t3 {v : V} {d1 d2 d3 : D} (h : At K H v (.tup [d1, d2, d3])) : ∃ a x1 x2 x3, v = .ref a ∧ SqT K H a [x1, x2, x3] ∧ At K H x1 d1 ∧ At K H x2 d2 ∧ At K H x3 d3 := by
  obtain ⟨a, xs, rfl, q, r⟩ := at_tup.mp h
  obtain ⟨x1, _, rfl, h1, r⟩ := ats_cons.mp r
  obtain ⟨x2, _, rfl, h2, r⟩ := ats_cons.mp r
  obtain ⟨x3, _, rfl, h3, r⟩ := ats_cons.mp r
  cases ats_nil.mp r
  exact ⟨a, x1, x2, x3, rfl, q, h1, h2, h3⟩
theorem At.t4 {v : V} {d1 d2 d3 d4 : D} (h : At K H v (.tup [d1, d2, d3, d4])) : ∃ a x1 x2 x3 x4, v = .ref a ∧ SqT K H a [x1, x2, x3, x4] ∧ At K H x1 d1 ∧ At K H x2 d2 ∧ At K H x3 d3 ∧ At K H x4 d4 := by
  obtain ⟨a, xs, rfl, q, r⟩ := at_tup.mp h
  obtain ⟨x1, _, rfl, h1, r⟩ := ats_cons.mp r
  obtain ⟨x2, _, rfl, h2, r⟩ := ats_cons.mp r
  obtain ⟨x3, _, rfl, h3, r⟩ := ats_cons.mp r
  obtain ⟨x4, _, rfl, h4, r⟩ := ats_cons.mp r
  cases ats_nil.mp r
  exact ⟨a, x1, x2, x3, x4, rfl, q, h1, h2, h3, h4⟩
end

/-! ### conditions -/
inductive C where
  | tru | fls | less (a b : Int) | same (a b : Int) | emp (a : Int) | nt (c : C) | all (cs : List C) | any (cs : List C)
mutual
def encC : C → D
  | .tru => .tup [.str "true"]
  | .fls => .tup [.str "false"]
  | .less a b => .tup [.str "less", .int a, .int b]
  | .same a b => .tup [.str "same", .int a, .int b]
  | .emp a => .tup [.str "empty", .int a]
  | .nt c => .tup [.str "not", encC c]
  | .all cs => .tup [.str "all", .tup (encCs cs)]
  | .any cs => .tup [.str "any", .tup (encCs cs)]
def encCs : List C → List D
  | [] => []
  | c :: cs => encC c :: encCs cs
end
theorem encCs_length : ∀ cs : List C, (encCs cs).length = cs.length
  | [] => by unfold encCs; rfl
  | c :: cs => by unfold encCs; rw [List.length_cons, List.length_cons, encCs_length cs]
theorem encCs_get : ∀ (cs : List C) (i : Nat), (encCs cs)[i]? = (cs[i]?).map encC
  | [], i => by unfold encCs; simp
  | c :: cs, 0 => by unfold encCs; simp
  | c :: cs, i + 1 => by
    unfold encCs
    rw [List.getElem?_cons_succ, List.getElem?_cons_succ]
    exact encCs_get cs i
def worth (v : Int) (h : List (Option Int)) (p : Int) : Option Int := if p = -1 then some v else if p = -2 then none else (h[p.toNat]?).getD none
def ltO : Option Int → Option Int → Bool
  | some x, some y => decide (x < y)
  | _, _ => false
def eqO : Option Int → Option Int → Bool
  | some x, some y => decide (x = y)
  | _, _ => false
mutual
def hold (v : Int) (h : List (Option Int)) : C → Bool
  | .tru => true
  | .fls => false
  | .less a b => ltO (worth v h a) (worth v h b)
  | .same a b => eqO (worth v h a) (worth v h b)
  | .emp a => (worth v h a).isNone
  | .nt c => !hold v h c
  | .all cs => holdA v h cs
  | .any cs => holdE v h cs
def holdA (v : Int) (h : List (Option Int)) : List C → Bool
  | [] => true
  | c :: cs => hold v h c && holdA v h cs
def holdE (v : Int) (h : List (Option Int)) : List C → Bool
  | [] => false
  | c :: cs => hold v h c || holdE v h cs
end
/-- places below r; depth at most n -/
def plOk (r : Nat) (p : Int) : Prop := -1 ≤ p ∧ p < r
mutual
def okC (r : Nat) : Nat → C → Prop
  | _, .tru => True
  | _, .fls => True
  | _, .less a b => plOk r a ∧ plOk r b
  | _, .same a b => plOk r a ∧ plOk r b
  | _, .emp a => plOk r a
  | 0, .nt _ => False
  | n + 1, .nt c => okC r n c
  | 0, .all _ => False
  | n + 1, .all cs => cs.length ≤ 100000 ∧ okCs r n cs
  | 0, .any _ => False
  | n + 1, .any cs => cs.length ≤ 100000 ∧ okCs r n cs
def okCs (r : Nat) : Nat → List C → Prop
  | _, [] => True
  | n, c :: cs => okC r n c ∧ okCs r n cs
end

/-- a def whose code object stands at c -/
structure FunT (K : PySem.W.Frag) (x qual : Str) (st : Stmt) (f : Addr) (fd : FuncData) (c : Addr) : Prop where
  ex : ∃ (oc : Value) (od : Option Addr) (kV doc pm : Value) (an : Option Addr) (ct : Value) (osl : Array (Option Value)),
    fd = PySem.W.fnOf x qual (defArgs st) (defBody st) (defScope st) .none kV doc pm an (.ref c) ct ∧ K.lookup f = some ⟨oc, od, .func fd, osl⟩ ∧ PySem.W.codeIn K (.ref c) qual = true
  kp : PySem.W.keepIn K (.ref f) = true
section
variable {P : Program} {w : World} {K : PySem.W.Frag} {mg : Str → Option Value} {base : Heap}
theorem FunT.ok {x qual : Str} {st : Stmt} {f c : Addr} {fd : FuncData} {N ps : List Str} {k : Nat} {sp : Sp} (F : FunT K x qual st f fd c) (S : FnScope N ps (defScope st)) (len : ∀ vs H Q E, sp vs H Q E → vs.length = ps.length)
    (hbody : ∀ (A : Around) (outer : List Env) (s : Shared) (H : Hp) (vs : List V) (Q : VK) (E : XK), Room k (A.deeper (envOfC qual (defScope st) s.heap.objs.size f (.ref c))) → sp vs H Q E →
      ∃ t, PSs (cxOf CX0 P w K mg base N qual (defScope st) f (.ref c) A outer s H E).nox (defBody st) t ∧ t { nx := fun _ H' => Q .non H', rt := Q } (start N vs) H) : FnOk P w K mg base CX0 (k + 1) f fd ps sp := by
  obtain ⟨oc, od, kV, doc, pm, an, ct, osl, rfl, lk, hcd⟩ := F.ex
  refine fn_of lk hcd S len fun A outer s H vs Q E hr hsp => ?_
  obtain ⟨t, h, q⟩ := hbody A outer s H vs Q E hr hsp
  exact ⟨t, h.nox, q⟩
theorem FunT.fn {x qual : Str} {st : Stmt} {f c : Addr} {fd : FuncData} (F : FunT K x qual st f fd c) : Fun K x qual st f fd := by
  obtain ⟨oc, od, kV, doc, pm, an, ct, osl, h⟩ := F.ex
  exact ⟨⟨oc, od, kV, doc, pm, an, .ref c, ct, osl, h⟩, F.kp⟩
theorem funT_mk {x qual : Str} {st : Stmt} {f c : Addr} {oc : Value} {od an : Option Addr} {osl : Array (Option Value)} {kV doc pm ct : Value} (l : K.lookup f = some ⟨oc, od, .func (PySem.W.fnOf x qual (defArgs st) (defBody st) (defScope st) .none kV doc pm an (.ref c) ct), osl⟩)
    (cc : PySem.W.codeIn K (.ref c) qual = true) (k : PySem.W.keepIn K (.ref f) = true) : FunT K x qual st f (PySem.W.fnOf x qual (defArgs st) (defBody st) (defScope st) .none kV doc pm an (.ref c) ct) c := ⟨⟨oc, od, kV, doc, pm, an, ct, osl, rfl, l, cc⟩, k⟩
end

/-- the tables stand -/
def Wd (T : List Addr) (H : Hp) : Prop := ∀ P ∈ T, TabG H P
theorem Ex.wd {T ms : List Addr} {H H1 : Hp} (a : Ex T ms H H1) (h : Wd T H) : Wd T H1 := a.tabs h

/-! ### held values -/
def oV : Option Int → V
  | none => .non
  | some i => .int i
def encO : Option Int → D
  | none => .non
  | some i => .int i
def encH (h : List (Option Int)) : D := .tup (h.map encO)
theorem at_encO {K : PySem.W.Frag} {H : Hp} {v : V} {o : Option Int} : At K H v (encO o) ↔ v = oV o := by
  cases o with
  | none => exact at_non
  | some i => exact at_int
theorem ats_encO {K : PySem.W.Frag} {H : Hp} : ∀ {xs : List V} {h : List (Option Int)}, Ats K H xs (h.map encO) ↔ xs = h.map oV
  | xs, [] => ats_nil
  | xs, o :: h => by
    rw [List.map_cons, ats_cons, List.map_cons]
    constructor
    · rintro ⟨x, r, rfl, h1, h2⟩
      rw [at_encO.mp h1, ats_encO.mp h2]
    · rintro rfl
      exact ⟨_, _, rfl, at_encO.mpr rfl, ats_encO.mpr rfl⟩
theorem at_encH {K : PySem.W.Frag} {H : Hp} {v : V} {h : List (Option Int)} : At K H v (encH h) ↔ ∃ a, v = .ref a ∧ SqT K H a (h.map oV) := by
  unfold encH
  rw [at_tup]
  constructor
  · rintro ⟨a, xs, rfl, q, r⟩
    rw [ats_encO.mp r] at q
    exact ⟨a, rfl, q⟩
  · rintro ⟨a, rfl, q⟩
    exact ⟨a, _, rfl, q, ats_encO.mpr rfl⟩
theorem worth_new (v : Int) (h : List (Option Int)) : worth v h (-1) = some v := rfl
theorem worth_nothing (v : Int) (h : List (Option Int)) : worth v h (-2) = none := rfl
theorem worth_at {v : Int} {h : List (Option Int)} {p : Int} (h0 : 0 ≤ p) : worth v h p = (h[p.toNat]?).getD none := by
  unfold worth
  rw [if_neg (by omega), if_neg (by omega)]
theorem oV_at {v : Int} {h : List (Option Int)} {p : Int} (h0 : 0 ≤ p) (h1 : p < h.length) : atI (h.map oV) p = some (oV (worth v h p)) := by
  have hk : p.toNat < h.length := by omega
  have ek : p = ((p.toNat : Nat) : Int) := by omega
  rw [worth_at h0, List.getElem?_eq_getElem hk]
  have q : atI (h.map oV) ((p.toNat : Nat) : Int) = some (oV h[p.toNat]) := atI_nat (by rw [List.getElem?_map, List.getElem?_eq_getElem hk]; rfl)
  rw [← ek] at q
  exact q

theorem ifStrNe {x y : Str} {A B : Prop} (h : x ≠ y) (b : B) : if decide (V.str x = V.str y) = true then A else B := by
  rw [decide_eq_false (fun e => h (V.str.inj e)), if_neg Bool.false_ne_true]
  exact b
theorem ifStrEq {x : Str} {A B : Prop} (a : A) : if decide (V.str x = V.str x) = true then A else B := by
  rw [decide_eq_true rfl, if_pos rfl]
  exact a
theorem decStr {x y : Str} : decide (V.str x = V.str y) = decide (x = y) := by
  by_cases h : x = y
  · rw [h, decide_eq_true rfl, decide_eq_true rfl]
  · rw [decide_eq_false h, decide_eq_false fun e => h (V.str.inj e)]
theorem holdA_cons (v : Int) (h : List (Option Int)) (c : C) (cs : List C) : holdA v h (c :: cs) = (hold v h c && holdA v h cs) := by
  conv => lhs; unfold holdA
theorem holdE_cons (v : Int) (h : List (Option Int)) (c : C) (cs : List C) : holdE v h (c :: cs) = (hold v h c || holdE v h cs) := by
  conv => lhs; unfold holdE
theorem okCs_get {r n : Nat} : ∀ {cs : List C} {i : Nat} {c : C}, okCs r n cs → cs[i]? = some c → okC r n c
  | [], i, c, h, e => by simp at e
  | c' :: cs, 0, c, h, e => by
    unfold okCs at h
    obtain rfl : c' = c := by simpa using e
    exact h.1
  | c' :: cs, i + 1, c, h, e => by
    unfold okCs at h
    exact okCs_get h.2 (by simpa using e)
/-- the parts of a condition, in a tuple -/
theorem part_at {K : PySem.W.Frag} {H : Hp} {xs : List V} {cs : List C} {i : Nat} (h : Ats K H xs (encCs cs)) (hi : i < cs.length) : ∃ x, xs[i]? = some x ∧ At K H x (encC cs[i]) :=
  h.get (by rw [encCs_get, List.getElem?_eq_getElem hi]; rfl)

/-- a list of ints that is drawn from -/
def Dr (H : Hp) (dr : Addr) : Prop := ∃ ds : List Int, H dr = some (.lst (ds.map V.int))
theorem small5000 {n : Nat} (h : n ≤ 5000) : n < sizeLine := Nat.lt_of_le_of_lt h (by decide)
theorem iv_set {ns : List Int} {j : Nat} {z : Int} : (ns.map V.int).set j (.int z) = (ns.set j z).map V.int := by rw [List.map_set]
theorem iv_snoc {ns : List Int} {z : Int} : ns.map V.int ++ [.int z] = (ns ++ [z]).map V.int := by rw [List.map_append]; rfl
theorem iv_at {ns : List Int} {k : Int} (h0 : 0 ≤ k) (h1 : k < ns.length) : atI (ns.map V.int) k = some (.int (ns.getD k.toNat 0)) := by
  have hk : k.toNat < ns.length := by omega
  have ek : k = ((k.toNat : Nat) : Int) := by omega
  have q : atI (ns.map V.int) ((k.toNat : Nat) : Int) = some (.int ns[k.toNat]) := atI_nat (by rw [List.getElem?_map, List.getElem?_eq_getElem hk]; rfl)
  rw [← ek] at q
  rw [q, List.getD_eq_getElem?_getD, List.getElem?_eq_getElem hk]
  rfl
theorem ix_nat {n : Nat} {i : Int} (h0 : 0 ≤ i) (h1 : i < n) : ixN n i = some i.toNat := by
  unfold ixN
  rw [if_pos h0, if_pos h1]

theorem yesIf {σ : L2.St} {H : Hp} {A B : Hp → Prop} (h : A H) : tYes σ H (fun b H3 => if b = true then A H3 else B H3) := by
  show (if true = true then A H else B H)
  rw [if_pos rfl]
  exact h

/-- an item of a written menu -/
theorem menu_at {xs : List V} {x : Int} (h0 : 0 ≤ x) (h1 : x < xs.length) : ∃ v, v ∈ xs ∧ atI xs x = some v := by
  have hk : x.toNat < xs.length := by omega
  have ek : x = ((x.toNat : Nat) : Int) := by omega
  have q : atI xs ((x.toNat : Nat) : Int) = some xs[x.toNat] := atI_nat (List.getElem?_eq_getElem hk)
  rw [← ek] at q
  exact ⟨_, List.getElem_mem hk, q⟩
def tyN : D → String
  | .non => "NoneType"
  | .bl _ => "bool"
  | .int _ => "int"
  | .str _ => "str"
  | .tup _ => "tuple"
theorem ty_sqT {K : PySem.W.Frag} {H : Hp} {a : Addr} {xs : List V} (h : SqT K H a xs) : TyX K H (.ref a) (.type "tuple") := by
  rcases h with (h | ⟨o, h⟩) | ⟨o, its, n, h, c, _⟩
  · exact .base (.tup h)
  · exact .fTuple h
  · exact .kTuple h c
theorem ty_at {K : PySem.W.Frag} {H : Hp} {v : V} {d : D} (h : At K H v d) : TyX K H v (.type (tyN d)) := by
  cases d with
  | non => rw [at_non.mp h]; exact .base .non
  | bl b => rw [at_bl.mp h]; exact .base (.bl b)
  | int i => rw [at_int.mp h]; exact .base (.int i)
  | str x => rw [at_str.mp h]; exact .base (.str x)
  | tup ds =>
    obtain ⟨a, xs, rfl, q, _⟩ := at_tup.mp h
    exact ty_sqT q
mutual
def okD : Nat → D → Prop
  | 0, .tup _ => False
  | n + 1, .tup ds => ds.length ≤ 100000 ∧ okDs n ds
  | _, _ => True
def okDs : Nat → List D → Prop
  | _, [] => True
  | n, d :: ds => okD n d ∧ okDs n ds
end
theorem okDs_get {n : Nat} : ∀ {ds : List D} {i : Nat} {d : D}, okDs n ds → ds[i]? = some d → okD n d
  | [], i, d, h, e => by simp at e
  | d' :: ds, 0, d, h, e => by
    unfold okDs at h
    obtain rfl : d' = d := by simpa using e
    exact h.1
  | d' :: ds, i + 1, d, h, e => by
    unfold okDs at h
    exact okDs_get h.2 (by simpa using e)
theorem nat_at {xs : List V} {i : Nat} {x : V} (h : xs[i]? = some x) : atI xs (0 + (i : Int)) = some x := by
  rw [Int.zero_add]
  exact atI_nat h

theorem inV_true : ∀ bs : List Bool, inV (.bl true) (bs.map V.bl) = bs.any id
  | [] => rfl
  | b :: bs => by
    show (eqV (.bl b) (.bl true) || inV (.bl true) (bs.map V.bl)) = (id b || bs.any id)
    rw [inV_true bs]
    cases b <;> rfl
theorem inV_false : ∀ bs : List Bool, inV (.bl false) (bs.map V.bl) = !bs.all id
  | [] => rfl
  | b :: bs => by
    show (eqV (.bl b) (.bl false) || inV (.bl false) (bs.map V.bl)) = !(id b && bs.all id)
    rw [inV_false bs]
    cases b <;> simp [eqV]
theorem flat_bls : ∀ bs : List Bool, (bs.map V.bl).all flatV = true
  | [] => rfl
  | _ :: bs => flat_bls bs
theorem holdE_any (v : Int) (h : List (Option Int)) : ∀ cs : List C, (cs.map (hold v h)).any id = holdE v h cs
  | [] => by unfold holdE; rfl
  | c :: cs => by rw [holdE_cons, List.map_cons, List.any_cons, holdE_any v h cs]; rfl
theorem holdA_all (v : Int) (h : List (Option Int)) : ∀ cs : List C, (cs.map (hold v h)).all id = holdA v h cs
  | [] => by unfold holdA; rfl
  | c :: cs => by rw [holdA_cons, List.map_cons, List.all_cons, holdA_all v h cs]; rfl

mutual
theorem okC_succ {r : Nat} : ∀ {n : Nat} {c : C}, okC r n c → okC r (n + 1) c
  | _, .tru, _ => by unfold okC; trivial
  | _, .fls, _ => by unfold okC; trivial
  | _, .less a b, h => by unfold okC at h ⊢; exact h
  | _, .same a b, h => by unfold okC at h ⊢; exact h
  | _, .emp a, h => by unfold okC at h ⊢; exact h
  | 0, .nt c, h => by unfold okC at h; exact h.elim
  | n + 1, .nt c, h => by unfold okC at h ⊢; exact okC_succ h
  | 0, .all cs, h => by unfold okC at h; exact h.elim
  | n + 1, .all cs, h => by unfold okC at h ⊢; exact ⟨h.1, okCs_succ h.2⟩
  | 0, .any cs, h => by unfold okC at h; exact h.elim
  | n + 1, .any cs, h => by unfold okC at h ⊢; exact ⟨h.1, okCs_succ h.2⟩
theorem okCs_succ {r : Nat} : ∀ {n : Nat} {cs : List C}, okCs r n cs → okCs r (n + 1) cs
  | _, [], _ => by unfold okCs; trivial
  | n, c :: cs, h => by unfold okCs at h ⊢; exact ⟨okC_succ h.1, okCs_succ h.2⟩
end
theorem okC_mono {r n n' : Nat} {c : C} (h : okC r n c) (l : n ≤ n') : okC r n' c := by
  induction l with
  | refl => exact h
  | step _ ih => exact okC_succ ih
theorem okC_less {r n : Nat} {a b : Int} (ha : plOk r a) (hb : plOk r b) : okC r n (.less a b) := by unfold okC; exact ⟨ha, hb⟩
theorem okC_same {r n : Nat} {a b : Int} (ha : plOk r a) (hb : plOk r b) : okC r n (.same a b) := by unfold okC; exact ⟨ha, hb⟩
theorem okC_emp {r n : Nat} {a : Int} (ha : plOk r a) : okC r n (.emp a) := by unfold okC; exact ha
theorem okC_tru {r n : Nat} : okC r n .tru := by unfold okC; trivial
theorem okC_fls {r n : Nat} : okC r n .fls := by unfold okC; trivial
theorem okC_nt {r n : Nat} {c : C} (h : okC r n c) : okC r (n + 1) (.nt c) := by unfold okC; exact h
theorem okC_all {r n : Nat} {cs : List C} (l : cs.length ≤ 100000) (h : okCs r n cs) : okC r (n + 1) (.all cs) := by unfold okC; exact ⟨l, h⟩
theorem okC_any {r n : Nat} {cs : List C} (l : cs.length ≤ 100000) (h : okCs r n cs) : okC r (n + 1) (.any cs) := by unfold okC; exact ⟨l, h⟩
theorem okCs_nil {r n : Nat} : okCs r n [] := by unfold okCs; trivial
theorem okCs_cons {r n : Nat} {c : C} {cs : List C} (h : okC r n c) (t : okCs r n cs) : okCs r n (c :: cs) := by unfold okCs; exact ⟨h, t⟩
theorem okCs_snoc {r n : Nat} : ∀ {cs : List C} {c : C}, okCs r n cs → okC r n c → okCs r n (cs ++ [c])
  | [], c, _, h => okCs_cons h okCs_nil
  | c' :: cs, c, t, h => by
    unfold okCs at t
    exact okCs_cons t.1 (okCs_snoc t.2 h)
theorem encCs_snoc : ∀ (cs : List C) (c : C), encCs (cs ++ [c]) = encCs cs ++ [encC c]
  | [], c => by unfold encCs; simp [encCs]
  | c' :: cs, c => by
    show encCs (c' :: (cs ++ [c])) = encCs (c' :: cs) ++ [encC c]
    conv => lhs; unfold encCs
    conv => rhs; unfold encCs
    rw [encCs_snoc cs c]
    rfl
section
variable {K : PySem.W.Frag} {H : Hp} {p : Addr}
theorem at_less {v : V} {a b : Int} (h : At K H v (.tup [.str "less", .int a, .int b])) : At K H v (encC (.less a b)) := by unfold encC; exact h
theorem new_less {a b : Int} (n : H p = none) : At K (upd H p (.tup [.str "less", .int a, .int b])) (.ref p) (encC (.less a b)) := by
  unfold encC
  exact At.laid n (Ats.mk (at_str.mpr rfl) (Ats.mk (at_int.mpr rfl) (Ats.mk (at_int.mpr rfl) Ats.mk_nil)))
theorem new_same {a b : Int} (n : H p = none) : At K (upd H p (.tup [.str "same", .int a, .int b])) (.ref p) (encC (.same a b)) := by
  unfold encC
  exact At.laid n (Ats.mk (at_str.mpr rfl) (Ats.mk (at_int.mpr rfl) (Ats.mk (at_int.mpr rfl) Ats.mk_nil)))
theorem new_emp {a : Int} (n : H p = none) : At K (upd H p (.tup [.str "empty", .int a])) (.ref p) (encC (.emp a)) := by
  unfold encC
  exact At.laid n (Ats.mk (at_str.mpr rfl) (Ats.mk (at_int.mpr rfl) Ats.mk_nil))
theorem new_tru (n : H p = none) : At K (upd H p (.tup [.str "true"])) (.ref p) (encC .tru) := by
  unfold encC
  exact At.laid n (Ats.mk (at_str.mpr rfl) Ats.mk_nil)
theorem new_fls (n : H p = none) : At K (upd H p (.tup [.str "false"])) (.ref p) (encC .fls) := by
  unfold encC
  exact At.laid n (Ats.mk (at_str.mpr rfl) Ats.mk_nil)
theorem new_nt {v : V} {c : C} (n : H p = none) (h : At K H v (encC c)) : At K (upd H p (.tup [.str "not", v])) (.ref p) (encC (.nt c)) := by
  unfold encC
  exact At.laid n (Ats.mk (at_str.mpr rfl) (Ats.mk h Ats.mk_nil))
theorem new_all {v : V} {cs : List C} (n : H p = none) (h : At K H v (.tup (encCs cs))) : At K (upd H p (.tup [.str "all", v])) (.ref p) (encC (.all cs)) := by
  unfold encC
  exact At.laid n (Ats.mk (at_str.mpr rfl) (Ats.mk h Ats.mk_nil))
theorem new_any {v : V} {cs : List C} (n : H p = none) (h : At K H v (.tup (encCs cs))) : At K (upd H p (.tup [.str "any", v])) (.ref p) (encC (.any cs)) := by
  unfold encC
  exact At.laid n (Ats.mk (at_str.mpr rfl) (Ats.mk h Ats.mk_nil))
theorem ats_c1 {x : V} {c : C} (h : At K H x (encC c)) : Ats K H [x] (encCs [c]) := by
  unfold encCs encCs
  exact Ats.mk h Ats.mk_nil
theorem ats_c2 {x y : V} {c d : C} (h : At K H x (encC c)) (h2 : At K H y (encC d)) : Ats K H [x, y] (encCs [c, d]) := by
  unfold encCs encCs encCs
  exact Ats.mk h (Ats.mk h2 Ats.mk_nil)
end
theorem Dr.new {H : Hp} {dr p : Addr} {o : HO} (h : Dr H dr) (n : H p = none) : Dr (upd H p o) dr := by
  obtain ⟨ds, e⟩ := h
  exact ⟨ds, by rw [upd_ne (ne_of_none e n)]; exact e⟩
theorem Dr.put {H : Hp} {dr p : Addr} {o : HO} (h : Dr H dr) (n : dr ≠ p) : Dr (upd H p o) dr := by
  obtain ⟨ds, e⟩ := h
  exact ⟨ds, by rw [upd_ne n]; exact e⟩
theorem Dr.ne {H : Hp} {dr p : Addr} (h : Dr H dr) (n : H p = none) : p ≠ dr := by
  obtain ⟨ds, e⟩ := h
  exact (ne_of_none e n).symm
theorem Ex.lst {T ms : List Addr} {H H1 : Hp} (a : Ex T ms H H1) {p : Addr} {xs : List V} (n : p ∉ ms) (h : H p = some (.lst xs)) : H1 p = some (.lst xs) := a.keep p _ n h fun ps e => by cases e

theorem sqL_stay {K : PySem.W.Frag} {T : List Addr} {H0 H H' : Hp} {a dr : Addr} {xs : List V} (h : SqL K H0 a xs) (n : H0 dr = none) (e0 : Ex T [] H0 H) (e : Ex T [dr] H H') : SqL K H' a xs := by
  rcases h with h | h
  · have ne : a ≠ dr := by
      rcases h with h | ⟨o, h⟩
      · exact ne_of_none h n
      · exact ne_of_none h n
    exact e.sqL (by simpa using ne) (e0.sqL (by simp) (.inl h))
  · exact .inr h
theorem flat_rep {x : V} : ∀ n : Nat, (List.replicate n [x]).flatten = List.replicate n x
  | 0 => rfl
  | n + 1 => by rw [List.replicate_succ, List.flatten_cons, flat_rep n, List.replicate_succ]; rfl
theorem encCs_rep (c : C) : ∀ n : Nat, encCs (List.replicate n c) = List.replicate n (encC c)
  | 0 => by unfold encCs; rfl
  | n + 1 => by rw [List.replicate_succ, List.replicate_succ]; conv => lhs; unfold encCs; rw [encCs_rep c n]
theorem ats_rep {K : PySem.W.Frag} {H : Hp} {x : V} {d : D} (h : At K H x d) : ∀ n : Nat, Ats K H (List.replicate n x) (List.replicate n d)
  | 0 => Ats.mk_nil
  | n + 1 => by rw [List.replicate_succ, List.replicate_succ]; exact Ats.mk h (ats_rep h n)
theorem encCs_app : ∀ (cs ds : List C), encCs (cs ++ ds) = encCs cs ++ encCs ds
  | [], ds => by
    have e : encCs [] = [] := by unfold encCs; rfl
    rw [e]
    rfl
  | c :: cs, ds => by
    show encCs (c :: (cs ++ ds)) = _
    conv => lhs; unfold encCs
    conv => rhs; lhs; unfold encCs
    rw [encCs_app cs ds]
    rfl
theorem okCs_rep {r n : Nat} {c : C} (h : okC r n c) : ∀ k : Nat, okCs r n (List.replicate k c)
  | 0 => okCs_nil
  | k + 1 => by rw [List.replicate_succ]; exact okCs_cons h (okCs_rep h k)
theorem okCs_app {r n : Nat} : ∀ {cs ds : List C}, okCs r n cs → okCs r n ds → okCs r n (cs ++ ds)
  | [], ds, _, h => h
  | c :: cs, ds, t, h => by
    unfold okCs at t
    exact okCs_cons t.1 (okCs_app t.2 h)
/-- an item put into a row of one and the same -/
theorem ins_rep {K : PySem.W.Frag} {H : Hp} {x y : V} {c d : C} (hx : At K H x (encC c)) (hy : At K H y (encC d)) (n i : Nat) :
    Ats K H ((List.replicate n x).take i ++ [y] ++ (List.replicate n x).drop i) (encCs (List.replicate (min i n) c ++ [d] ++ List.replicate (n - i) c)) := by
  rw [List.take_replicate, List.drop_replicate, encCs_app, encCs_app, encCs_rep, encCs_rep]
  refine ((ats_rep hx _).append ?_).append (ats_rep hx _)
  unfold encCs encCs
  exact Ats.mk hy Ats.mk_nil
theorem ins_ok {r m : Nat} {c d : C} (hc : okC r m c) (hd : okC r m d) (n i : Nat) : okCs r m (List.replicate (min i n) c ++ [d] ++ List.replicate (n - i) c) :=
  okCs_app (okCs_app (okCs_rep hc _) (okCs_cons hd okCs_nil)) (okCs_rep hc _)
theorem ins_len {c d : C} (n i : Nat) (h : i ≤ n) : (List.replicate (min i n) c ++ [d] ++ List.replicate (n - i) c).length = n + 1 := by
  rw [List.length_append, List.length_append, List.length_replicate, List.length_replicate, List.length_singleton]
  omega
end Dv

/-! for i, x in enumerate(a tuple). -/
namespace PySem
open Sem (wp)
open AutoSeq1 (wpAny_loadPart')
theorem meets_enumT {v : Value} {o : Obj} {H : Heap → Prop} (B : Begins v o H) :
    Meets (Builtin.«enumerate.__new__» ⟨[.type "enumerate", v], []⟩) (fun _ R s => H s.heap ∧
      R (.ok (.ret (.ref (s.heap.push o).objs.size))) { s with heap := (s.heap.push o).push { cls := .type "enumerate", data := .fields #[.none, .bool false, .ref s.heap.objs.size, rawInt 0, .none, .none] } }) :=
  .of_wp fun prog w A R s h => by
    obtain ⟨hp, g, d, tk, os⟩ := s
    obtain ⟨h1, h⟩ := h
    have hsub := sub_enumerate
    have q1 : ∀ {A' : Around} {E : Value → Shared → Prop} {Q : Value → Shared → Prop}, Q (.ref hp.objs.size) ⟨hp.push o, g, d, tk, os⟩ → wpAny (model prog w) A' (pyIter v) Q E ⟨hp, g, d, tk, os⟩ :=
      fun q => B.iter prog w _ _ ⟨hp, g, d, tk, os⟩ _ h1 q
    wp_walk using q1
    refine wpAny_stack_any fun st => wpAny_pure ?_
    split
    · rename_i c _ _ _ _ _
      cases (c == Value.type "enumerate")
      all_goals
        wp_walk using q1
        exact ⟨_, rfl, h⟩
    · wp_walk using q1
      exact ⟨_, rfl, h⟩
section
variable {prog : Program} {w : World} {A : Around} {E : Value → Shared → Prop} {s : Shared}
theorem enumT_begins {v : Value} {o : Obj} {H : Heap → Prop} {Q : Value → Shared → Prop} (B : Begins v o H) (h1 : H s.heap)
    (h : ∀ h', IsEnum h' (s.heap.objs.size + 1) s.heap.objs.size 0 .none → h'.get? s.heap.objs.size = some o → (∀ b o, s.heap.get? b = some o → h'.get? b = some o) → Q (.ref (s.heap.objs.size + 1)) { s with heap := h' }) :
    wpAny (model prog w) A (call (.type "enumerate") [v]) Q E s := by
  refine callType_new F.called_enumerate (by decide) (F.typeCall_enumerate_1 _) (F.newCall_enumerate_1 _) (fun obj => F.args_object_init_2 obj _) F.entry_enumerate_new (meets_enumT B) ⟨h1, ?_⟩
  have hz : (s.heap.push o).objs.size = s.heap.objs.size + 1 := Heap.size_push ..
  show _ ∧ _
  rw [hz]
  have he : IsEnum ((s.heap.push o).push { cls := .type "enumerate", data := .fields #[.none, .bool false, .ref s.heap.objs.size, rawInt 0, .none, .none] }) (s.heap.objs.size + 1) s.heap.objs.size 0 .none := by
    have z := Heap.get?_push_size (s.heap.push o) (o := { cls := .type "enumerate", data := .fields #[.none, .bool false, .ref s.heap.objs.size, rawInt 0, .none, .none] }) rfl
    rw [hz] at z
    exact z
  exact ⟨⟨_, he, rfl⟩, h _ he (Heap.get?_push_of_some _ (Heap.get?_push_size _ B.free)) fun b o x => Heap.get?_push_of_some _ (Heap.get?_push_of_some _ x)⟩
end
end PySem
namespace Ent
open PySem PySem.Spec PyProof.Rows L2
/-- the items of the tuple at a, each in a new pair with its place -/
def IteT (K : PySem.W.Frag) (a : Addr) : It :=
  ⟨fun i H => ∃ (xs : List V) (x : V), SqT K H a xs ∧ xs[i]? = some x, fun i H v H' => ∃ T x, v = .ref T ∧ H T = none ∧ H' = upd H T (.tup [.int (i : Nat), x]) ∧ ∀ xs, SqT K H a xs → xs[i]? = some x, fun i H => ∃ xs : List V, SqT K H a xs ∧ xs.length ≤ i⟩
theorem turn_enumT {P : Program} {w : World} {K : PySem.W.Frag} {elts : List Expr} {kk : Nat} {tpos : Pos} (a e it : Addr) (hae : a ≠ e) (hai : a ≠ it) :
    Turn P w K (.Tuple elts kk tpos) (IteT K a) [e, it] e (fun i h => (∃ old, IsEnum h e it ((i : Nat) : Int) old) ∧ h.IsTupleIter it a i ∧ e ≠ it) where
  mem := by simp
  obj := fun i h st b hb => by
    obtain ⟨⟨old, he⟩, ⟨o, ho, hc, hd⟩, _⟩ := st
    have e' : b = e ∨ b = it := by simpa using hb
    rcases e' with z | z
    · rw [z]; exact ⟨_, he, fun v q => nomatch q⟩
    · rw [z]; exact ⟨o, ho, fun v q => by rw [hd] at q; cases q⟩
  keep := fun i h h' st k => let ⟨⟨old, he⟩, hi, hne⟩ := st; ⟨⟨old, k e (by simp) _ he⟩, hi.at fun o q => k it (by simp) o q, hne⟩
  item := by
    intro X hP hw hK hc i pins s σ H E I hf st hg
    subst hP hw hK
    obtain ⟨⟨old, he⟩, hit, hne⟩ := st
    obtain ⟨xs, x, hq, hx⟩ := hg
    obtain ⟨its, rv, p, hz⟩ := I.tuple hq
    obtain ⟨u, hu, ru⟩ := rv.get hx
    have hel : e < s.heap.objs.size := Heap.lt_size he
    have hil : it < s.heap.objs.size := by obtain ⟨_, q, _⟩ := hit; exact Heap.lt_size q
    have hlt : i < its.toArray.size := by
      rw [List.size_toArray]
      exact (List.getElem?_eq_some_iff.mp hu).1
    refine wpAny_pyNext_enum_itemD (Draws.tuple (A := X.A.in1) (I.ok.hd hc) it a hai its.toArray) he ⟨hit, show s.heap.IsTuple a its.toArray from p⟩ hlt hne (by simp [hne, Ne.symm hae]) fun y h' tk hy ho hst hT hsz hk => ?_
    obtain ⟨hit', _⟩ := hst
    have ey : y = u := by
      have hu' : its.toArray[i]? = some u := by simpa using hu
      rw [hy] at hu'
      exact Option.some.inj hu'
    subst ey
    refine ⟨_, rfl, wpAny_letOwnedTupleGo_enum (s := { s with heap := h', toks := tk + 1 }) ho fun h'' he' sb => ?_⟩
    have hT2 : h''.get? s.heap.objs.size = some { cls := .type "tuple", data := .seq #[.int i tk, y] } := (sb.2 _ (Nat.ne_of_gt hel)).trans hT
    have new : ObjOk X.prog X.w (upd H s.heap.objs.size (.tup [.int (i : Nat), x])) h'' s.heap.objs.size (.tup [.int (i : Nat), x]) :=
      ⟨by show 2 ≤ sizeLine; decide, [.int i tk, y], .cons ⟨_, rfl⟩ (.cons ru .nil), ⟨_, hT2, rfl, _, rfl⟩⟩
    have I1 : Inv X pins σ (upd H s.heap.objs.size (.tup [.int (i : Nat), x])) { s with heap := h'', toks := tk + 1 } :=
      I.turnedNew (ch := [e, it]) (fun b ob hb q => (sb.2 b (fun z => hb (by simp [z]))).trans (hk b ob (fun z => hb (by simp [z])) (fun z => hb (by simp [z])) q)) hf (Nat.le_refl _) new
    refine ⟨.ref s.heap.objs.size, _, I1, rfl, ⟨_, x, rfl, I.hok.fresh (Nat.le_refl _), rfl, fun ys hy => by rw [I.tuple_inj hy hq]; exact hx⟩, ⟨⟨y, ?_⟩, hit'.at fun o q => (sb.2 it (Ne.symm hne)).trans q, hne⟩, fun b hb => ?_⟩
    · have e1 : ((i + 1 : Nat) : Int) = (i : Int) + 1 := by omega
      rw [e1]
      exact he'
    · have hb' : b < s.heap.objs.size := by
        have e' : b = e ∨ b = it := by simpa using hb
        rcases e' with z | z
        · rw [z]; exact hel
        · rw [z]; exact hil
      rw [upd_ne (Nat.ne_of_lt hb')]
      exact (hf b hb).1
  done := by
    intro X hP hw hK hc i pins s σ H E I hf st hg
    subst hP hw hK
    obtain ⟨⟨old, he⟩, hit, hne⟩ := st
    obtain ⟨xs, hq, hx⟩ := hg
    obtain ⟨its, rv, p, hz⟩ := I.tuple hq
    obtain ⟨f0, f1, f2, f3, f4, f5⟩ := hf it (by simp)
    have hl := rv.length
    have D : Draws X.prog X.w X.A.in1 it [it, a] i (fun _ _ => False) (fun j h => h.IsTupleIter it a j ∧ h.IsTuple a its.toArray ∧ j = i) := {
      live := fun _ _ st => let ⟨o, ho, _⟩ := st.1; ⟨o, ho⟩
      frame := fun _ _ _ st hk => ⟨st.1.at fun o e => hk it (by simp) o e, st.2.1.at fun o e => hk a (by simp) o e, st.2.2⟩
      item := fun j s Q E hj st hQ => absurd st.2.2 (Nat.ne_of_lt hj)
      done := fun s Q E st hE => wpAny_nextOf_tuple_end (I.ok.hd hc) st.1 st.2.1 (by simp; omega) hE }
    exact wpAny_pyNext_enum_endD D he ⟨hit, show s.heap.IsTuple a its.toArray from p, rfl⟩ fun h' eb => ⟨rfl, I.turned (t' := s.toks) (fun b o hb q => eb b o hb q) f0 f1 f3 f4 f5⟩
  self := fun A i s Q E st h => let ⟨⟨_, he⟩, _⟩ := st; wpAny_pyIter_enum he h
def iEnumT (K : PySem.W.Frag) (ta : TA) : TI := fun σ H R => ta σ H fun vs H1 => ∃ a xs, vs = [.ref a] ∧ SqT K H1 a xs ∧ R (IteT K a) H1
theorem pi_enumT {X : Cx} {e : Expr} {ta : TA} {p pos tpos : Pos} {elts : List Expr} {kk : Nat} (hg : Gl X "enumerate") (hm : X.mg "enumerate" = none) (ha : PA X [e] ta) (hs : starEach [e] X.env = [(false, eval e X.env)] := by rfl) :
    PI X (.Tuple elts kk tpos) (.Call (.Name "enumerate" p) [e] [] pos) (iEnumT X.K ta) := by
  refine ⟨fun pins s σ H R I h => ?_⟩
  refine Call_ (ld_blt I hg hm boot_enumerate (PyProof.Rows.callWith_type1 (thn (ha.run pos pins s σ H _ I h) fun us s1 ⟨vs, H1, I1, r1, q1⟩ => ?_) hs rfl))
  obtain ⟨a, xs, ex, hq, q⟩ := q1
  subst ex
  cases r1 with
  | cons r rr =>
    cases rr
    cases r
    obtain ⟨its, rv, p', hz⟩ := I1.tuple hq
    have hlt : a < s1.heap.objs.size := p'.lt
    refine enumT_begins (begins_tuple a its.toArray) (show s1.heap.IsTuple a its.toArray from p') fun h' he hit hk => wpAny_pyIter_enum he ?_
    have I2 : Inv X pins σ H1 { s1 with heap := h' } := I1.kept (t' := s1.toks) hk
    refine ⟨s1.heap.objs.size + 1, [s1.heap.objs.size + 1, s1.heap.objs.size], _, _, H1, rfl, I2, turn_enumT a (s1.heap.objs.size + 1) s1.heap.objs.size (Nat.ne_of_lt (Nat.lt_succ_of_lt hlt)) (Nat.ne_of_lt hlt), ⟨⟨.none, he⟩, ⟨_, hit, rfl, rfl⟩, Nat.succ_ne_self _⟩, fun b hb => ?_, q⟩
    have e' : b = s1.heap.objs.size + 1 ∨ b = s1.heap.objs.size := by simpa using hb
    have hle : s1.heap.objs.size ≤ b := by
      rcases e' with z | z
      · rw [z]; exact Nat.le_add_right _ _
      · rw [z]; exact Nat.le_refl _
    exact I1.fpOk hle (I1.hok.fresh hle)
end Ent

/-! tuple * int, the count 0 and 1 too. -/
namespace Tm
open PySem PySem.Spec PyProof.Rows L2
open PySem.AutoSeq1 (wpAny_loadPart')
theorem mul_one (l : Addr) (items : Array Value) (n : Nat) (dd : Option Addr) (sl : Array (Option Value)) (u : Tok) :
    Meets (Builtin.«tuple.__mul__» ⟨[.ref l, .int 1 u], []⟩) (fun _ R s => s.heap.get? l = some { cls := .type "tuple", dict := dd, data := .seq items n, slots := sl } ∧ R (.ok (.ret (Value.ref l))) s) :=
  .of_wp fun prog w A R s h => by
    obtain ⟨hp, g, d, tk, os⟩ := s
    obtain ⟨hl, h⟩ := h
    have f1 := AutoSeq1.idx_int
    have c1 : (items.isEmpty || (1 : Int) == 1) = true := by simp
    wp_walk using wpAny_loadPart' hl
    repeat (first
      | (refine wpAny_ite_false (decide_eq_false (by decide)) ?_; wp_walk using wpAny_loadPart' hl)
      | (refine wpAny_ite_true (decide_eq_true c1) ?_; wp_walk using wpAny_loadPart' hl)
      | (rw [if_pos c1]; wp_walk using wpAny_loadPart' hl))
    exact ⟨_, rfl, h⟩
theorem mul_zero (l : Addr) (items : Array Value) (n : Nat) (dd : Option Addr) (sl : Array (Option Value)) (u : Tok) (hne : items.isEmpty = false) :
    Meets (Builtin.«tuple.__mul__» ⟨[.ref l, .int 0 u], []⟩) (fun _ R s => s.heap.get? l = some { cls := .type "tuple", dict := dd, data := .seq items n, slots := sl } ∧
      R (.ok (.ret (Value.ref s.heap.objs.size))) { s with heap := s.heap.push { cls := Value.type "tuple", data := Data.seq #[] }, toks := s.toks }) :=
  .of_wp fun prog w A R s h => by
    obtain ⟨hp, g, d, tk, os⟩ := s
    obtain ⟨hl, h⟩ := h
    have f1 := AutoSeq1.idx_int
    have c1 : ¬ (items.isEmpty || (0 : Int) == 1) = true := by rw [hne]; decide
    wp_walk using wpAny_loadPart' hl
    repeat (first
      | (refine wpAny_ite_false (decide_eq_false c1) ?_; wp_walk using wpAny_loadPart' hl)
      | (refine wpAny_ite_false (decide_eq_false (by decide)) ?_; wp_walk using wpAny_loadPart' hl)
      | (refine wpAny_ite_true (decide_eq_true (by simp)) ?_; wp_walk using wpAny_loadPart' hl))
    exact ⟨_, rfl, h⟩
def rRepN (K : PySem.W.Frag) : R2 := fun x y H Q => ∃ l k xs, x = .ref l ∧ y = .int k ∧ SqT K H l xs ∧ xs ≠ [] ∧ 0 ≤ k ∧ k ≤ 1000 ∧ xs.length ≤ 1000 ∧
  ∀ p H', (H' = H ∨ (H p = none ∧ H' = upd H p (.tup (List.replicate k.toNat xs).flatten))) → SqT K H' p (List.replicate k.toNat xs).flatten → Q (.ref p) H'
section
variable {X : Cx}
theorem op_repN : OpR X (binaryOp .Mult) (rRepN X.K) := by
  intro pins s σ H x y v u Q I rx ry h
  obtain ⟨l, k, xs, ex, ey, hT, hne, h0, h1, hz, q⟩ := h
  by_cases h2 : 2 ≤ k
  · exact op_repT pins s σ H x y v u Q I rx ry ⟨l, k, xs, ex, ey, hT, hne, h2, h1, hz, fun p np => q p _ (.inr ⟨np, rfl⟩) (SqT.of upd_same)⟩
  subst ex ey
  cases rx
  obtain ⟨t, rfl⟩ := ry
  obtain ⟨its, r, ⟨⟨cls, dd, data, sl⟩, ho, hc, n, hd⟩, hs⟩ := I.tuple hT
  simp only at hc hd
  subst hc hd
  have hi : its.toArray.isEmpty = false := by
    cases its with
    | nil => cases r; exact absurd rfl hne
    | cons a b => rfl
  by_cases e1 : k = 1
  · subst e1
    refine wpAny_binaryOp_repeat_ref (T := "tuple") (U := "int") (by decide) ⟨_, ho, rfl⟩ (fun s' => typeIs_int s' 1 t) noFill_tuple_mul F.fills_int_mul F.slot_int_rmul repeat_tuple F.slot_int_index.lookup
      (call_meets F.slot_int_rmul (typeIs_int s 1 t) F.entry_int_rmul (F.args_int_rmul_2 _ _) (int_rmul_tuple 1 t l its.toArray n dd sl)
        ⟨ho, rfl, ⟨_, ho, rfl⟩, call_meets F.slot_tuple_mul ⟨_, ho, rfl⟩ F.entry_tuple_mul (F.args_tuple_mul_2 _ _) (mul_one l its.toArray n dd sl t) ⟨ho, ?_⟩⟩)
    have e : (List.replicate (1 : Int).toNat xs).flatten = xs := by
      show [xs].flatten = xs
      simp
    refine ⟨.ref l, H, I, rfl, q l H (.inl rfl) ?_⟩
    rw [e]
    exact hT
  · have e0 : k = 0 := by omega
    subst e0
    refine wpAny_binaryOp_repeat_ref (T := "tuple") (U := "int") (by decide) ⟨_, ho, rfl⟩ (fun s' => typeIs_int s' 0 t) noFill_tuple_mul F.fills_int_mul F.slot_int_rmul repeat_tuple F.slot_int_index.lookup
      (call_meets F.slot_int_rmul (typeIs_int s 0 t) F.entry_int_rmul (F.args_int_rmul_2 _ _) (int_rmul_tuple 0 t l its.toArray n dd sl)
        ⟨ho, rfl, ⟨_, ho, rfl⟩, call_meets F.slot_tuple_mul ⟨_, ho, rfl⟩ F.entry_tuple_mul (F.args_tuple_mul_2 _ _) (mul_zero l its.toArray n dd sl t hi) ⟨ho, ?_⟩⟩)
    have nf : H s.heap.objs.size = none := I.hok.fresh (Nat.le_refl _)
    refine ⟨.ref s.heap.objs.size, _, I.laid (t' := s.toks) (o := .tup []) (fun b ob q => Heap.get?_push_of_some _ q) (Nat.le_refl _) ?_, rfl, q _ _ (.inr ⟨nf, rfl⟩) (SqT.of upd_same)⟩
    exact ⟨Nat.zero_le _, [], .nil, IsTup.new _ _⟩
end
end Tm

/-! Machines as data. -/
namespace Dv
open PySem PySem.Spec PyProof.Rows L2 GxR Gx

structure Case where
  cond : C
  moves : List Int
  says : List (Int × Int)
  nxt : Nat
structure M where
  tags : Nat
  regs : Nat
  steps : List (List (List Case))
def encSay (p : Int × Int) : D := .tup [.int p.1, .int p.2]
def encCase (c : Case) : D := .tup [encC c.cond, .tup (c.moves.map .int), .tup (c.says.map encSay), .int c.nxt]
def encCases (cs : List Case) : D := .tup (cs.map encCase)
def encSt (s : List (List Case)) : D := .tup (s.map encCases)
def encM (m : M) : D := .tup [.int m.tags, .int m.regs, .tup (m.steps.map encSt)]
def encCt (st : Nat) (h : List (Option Int)) : D := .tup [.int st, encH h]
def encE (e : Nat × Int) : D := .tup [.int e.1, .int e.2]
def encA1 (p : Int × Option Int) : D := .tup [.int p.1, encO p.2]
def encA (a : List (Int × Option Int)) : D := .tup (a.map encA1)

structure okCase (r S n : Nat) (c : Case) : Prop where
  cond : okC r n c.cond
  mlen : c.moves.length = r
  mv : ∀ s ∈ c.moves, -2 ≤ s ∧ s < r
  say : ∀ p ∈ c.says, 0 ≤ p.1 ∧ -2 ≤ p.2 ∧ p.2 < r
  slen : c.says.length ≤ 1000
  nxt : c.nxt < S
structure okM (n : Nat) (m : M) : Prop where
  tags : 1 ≤ m.tags
  tmax : m.tags ≤ 1000
  rmax : m.regs ≤ 1000
  some : 0 < m.steps.length
  smax : m.steps.length ≤ 1000
  all : ∀ s ∈ m.steps, s.length = m.tags
  cases : ∀ s ∈ m.steps, ∀ cs ∈ s, cs.length ≤ 1000 ∧ ∀ c ∈ cs, okCase m.regs m.steps.length n c

def M.cases (m : M) (st t : Nat) : List Case := (m.steps.getD st []).getD t []
def holdC (v : Int) (h : List (Option Int)) (c : Case) : Bool := hold v h c.cond
def idxC (v : Int) (h : List (Option Int)) (cs : List Case) : Option Nat := cs.findIdx? (holdC v h)
def saidC (v : Int) (h : List (Option Int)) (c : Case) : List (Int × Option Int) := c.says.map fun p => (p.1, worth v h p.2)
def keptC (v : Int) (h : List (Option Int)) (c : Case) : List (Option Int) := c.moves.map (worth v h)
/-- the standing, the held values and the answer behind an entry -/
def readM (m : M) (st : Nat) (h : List (Option Int)) (e : Nat × Int) : Nat × List (Option Int) × List (Int × Option Int) :=
  match (m.cases st e.1).find? (holdC e.2 h) with
  | none => (st, h, [])
  | some c => (c.nxt, keptC e.2 h c, saidC e.2 h c)
def encR (r : Nat × List (Option Int) × List (Int × Option Int)) : D := .tup [encCt r.1 r.2.1, encA r.2.2]
def oN : Option Nat → V
  | none => .non
  | some k => .int k

theorem M.cases_at {m : M} {st t : Nat} {n : Nat} (ok : okM n m) (hs : st < m.steps.length) (ht : t < m.tags) :
    ∃ s, m.steps[st]? = some s ∧ s[t]? = some (m.cases st t) ∧ (m.cases st t).length ≤ 1000 ∧ ∀ c ∈ m.cases st t, okCase m.regs m.steps.length n c := by
  have hm : m.steps[st] ∈ m.steps := List.getElem_mem hs
  have hl : t < m.steps[st].length := by rw [ok.all _ hm]; exact ht
  have e : m.cases st t = m.steps[st][t] := by
    unfold M.cases
    have e1 : m.steps.getD st [] = m.steps[st] := by
      rw [List.getD_eq_getElem?_getD, List.getElem?_eq_getElem hs]
      rfl
    rw [e1, List.getD_eq_getElem?_getD, List.getElem?_eq_getElem hl]
    rfl
  refine ⟨m.steps[st], List.getElem?_eq_getElem hs, by rw [e]; exact List.getElem?_eq_getElem hl, ?_⟩
  rw [e]
  exact ok.cases _ hm _ (List.getElem_mem hl)

section
variable {K : PySem.W.Frag} {H : Hp} {α : Type} {f : α → D}
theorem Ats.at {xs : List V} {l : List α} {i : Nat} {a : α} (h : Ats K H xs (l.map f)) (e : l[i]? = some a) : ∃ x, xs[i]? = some x ∧ At K H x (f a) :=
  h.get (by rw [List.getElem?_map, e]; rfl)
theorem Ats.len {xs : List V} {l : List α} (h : Ats K H xs (l.map f)) : xs.length = l.length := by rw [h.length, List.length_map]
theorem Ats.snoc {xs : List V} {l : List α} {x : V} {a : α} (h : Ats K H xs (l.map f)) (hx : At K H x (f a)) : Ats K H (xs ++ [x]) ((l ++ [a]).map f) := by
  rw [List.map_append]
  exact h.append (Ats.mk hx Ats.mk_nil)
theorem ats_int {xs : List V} {l : List Int} : Ats K H xs (l.map D.int) ↔ xs = l.map V.int := by
  constructor
  · intro h
    refine List.ext_getElem? fun i => ?_
    rw [List.getElem?_map]
    cases e : l[i]? with
    | none =>
      have hl := h.len
      have : l.length ≤ i := List.getElem?_eq_none_iff.mp e
      rw [List.getElem?_eq_none (by omega)]
      rfl
    | some a =>
      obtain ⟨x, h1, h2⟩ := h.at e
      rw [h1, at_int.mp h2]
      rfl
  · rintro rfl
    refine Ats.of_forall (by rw [List.length_map, List.length_map]) fun i x d h1 h2 => ?_
    rw [List.getElem?_map] at h1 h2
    cases e : l[i]? with
    | none => rw [e] at h1; cases h1
    | some a =>
      rw [e] at h1 h2
      cases h1
      cases h2
      exact at_int.mpr rfl
end
theorem at_natI {xs : List V} {i : Nat} {x : V} (h : xs[i]? = some x) : atI xs ((i : Nat) : Int) = some x := atI_nat h
theorem idxC_find (v : Int) (h : List (Option Int)) (cs : List Case) : (idxC v h cs = none ∧ cs.find? (holdC v h) = none) ∨ ∃ k c, idxC v h cs = some k ∧ cs[k]? = some c ∧ cs.find? (holdC v h) = some c := by
  unfold idxC
  induction cs with
  | nil => exact .inl ⟨rfl, rfl⟩
  | cons c cs ih =>
    rw [List.findIdx?_cons, List.find?_cons]
    cases hb : holdC v h c with
    | true => exact .inr ⟨0, c, by simp, rfl, rfl⟩
    | false =>
      rcases ih with ⟨h1, h2⟩ | ⟨k, c', h1, h2, h3⟩
      · exact .inl ⟨by simp [h1], h2⟩
      · exact .inr ⟨k + 1, c', by simp [h1], by simpa using h2, h3⟩
/-- a search that has come to i -/
theorem idxC_drop (v : Int) (h : List (Option Int)) (cs : List Case) {i : Nat} (hn : ∀ j c, j < i → cs[j]? = some c → holdC v h c = false) {c : Case} (hc : cs[i]? = some c) (hb : holdC v h c = true) : idxC v h cs = some i := by
  unfold idxC
  rw [List.findIdx?_eq_some_iff_getElem]
  obtain ⟨hi, e⟩ := List.getElem?_eq_some_iff.mp hc
  refine ⟨hi, by rw [e]; exact hb, fun j hj => ?_⟩
  rw [hn j _ hj (List.getElem?_eq_getElem (by omega))]
  exact Bool.false_ne_true
theorem idxC_none (v : Int) (h : List (Option Int)) (cs : List Case) (hn : ∀ (j : Nat) (c : Case), cs[j]? = some c → holdC v h c = false) : idxC v h cs = none := by
  unfold idxC
  rw [List.findIdx?_eq_none_iff]
  intro c hc
  obtain ⟨j, hj, e⟩ := List.getElem_of_mem hc
  exact hn j c (by rw [List.getElem?_eq_getElem hj, e])

/-! ### a list that is made item by item -/
def Col (K : PySem.W.Frag) (T ms : List Addr) (D : Addr) (H H' : Hp) (ds : List Dv.D) : Prop := Ex T ms H H' ∧ ∃ xs, H' D = some (.lst xs) ∧ Ats K H' xs ds
section
variable {K : PySem.W.Frag} {T ms : List Addr} {D : Addr} {H H0 H1 H2 : Hp} {ds : List Dv.D}
theorem Col.start (e : Ex T ms H H0) (n : H0 D = none) : Col K T ms D H (upd H0 D (.lst [])) [] := ⟨e.trans (Ex.new n), [], upd_same, Ats.mk_nil⟩
theorem Col.put (c : Col K T ms D H H1 ds) (free : H D = none) (nD : D ∉ ms) (wd : Wd T H) (e : Ex T ms H1 H2) {x : V} {d : Dv.D} (hx : At K H2 x d) (hl : ds.length ≤ 5000) :
    ∃ acc, H2 D = some (.lst acc) ∧ acc.length < sizeLine ∧ Col K T ms D H (upd H2 D (.lst (acc ++ [x]))) (ds ++ [d]) := by
  obtain ⟨ex, xs, hD, ats⟩ := c
  have hD2 : H2 D = some (.lst xs) := e.lst nD hD
  have exw : Ex T [D] H2 (upd H2 D (.lst (xs ++ [x]))) := Ex.write (by simp) hD2
  exact ⟨xs, hD2, small5000 (by rw [ats.length]; exact hl), (ex.trans e).put free wd, xs ++ [x], upd_same, ((ats.ext e).append (Ats.mk hx Ats.mk_nil)).ext exw⟩
theorem Col.ne (c : Col K T ms D H H1 ds) {p : Addr} (n : H1 p = none) : D ≠ p := by
  obtain ⟨_, xs, hD, _⟩ := c
  exact ne_of_none hD n
end
theorem Col.ext {K : PySem.W.Frag} {T ms : List Addr} {D : Addr} {H H1 H2 : Hp} {ds : List Dv.D} (c : Col K T ms D H H1 ds) (nD : D ∉ ms) (e : Ex T ms H1 H2) : Col K T ms D H H2 ds := by
  obtain ⟨ex, xs, hD, ats⟩ := c
  exact ⟨ex.trans e, xs, e.lst nD hD, ats.ext e⟩
theorem take_map {α β : Type} (f : α → β) (l : List α) {i : Nat} {a : α} (h : l[i]? = some a) : (l.take i).map f ++ [f a] = (l.take (i + 1)).map f := by
  rw [List.take_add_one, h, List.map_append]
  rfl
theorem take_len {α β : Type} (f : α → β) (l : List α) (i n : Nat) (h : l.length ≤ n) : ((l.take i).map f).length ≤ n := by
  rw [List.length_map, List.length_take]
  exact Nat.le_trans (Nat.min_le_right _ _) h
theorem oV_len {h : List (Option Int)} : (h.map oV).length = h.length := List.length_map ..
theorem wipe1 {σ : L2.St} {i : Nat} {x : Option V} : wipe ((wipe σ [i]).set i x) [i] = wipe σ [i] := by
  show (((σ.set i none).set i x).set i none) = σ.set i none
  rw [List.set_set, List.set_set]
theorem wipe2 {σ : L2.St} {i j : Nat} {x y : Option V} (h : i ≠ j) : wipe (((wipe σ [i, j]).set i x).set j y) [i, j] = wipe σ [i, j] := by
  show (((((σ.set j none).set i none).set i x).set j y).set j none).set i none = (σ.set j none).set i none
  rw [List.set_set, List.set_comm _ _ h, List.set_set, List.set_comm _ _ h, List.set_set, List.set_set]

/-! ### logs -/
abbrev Ct := Nat × List (Option Int)
def stepM (m : M) (c : Ct) (e : Nat × Int) : Ct := ((readM m c.1 c.2 e).1, (readM m c.1 c.2 e).2.1)
def contM (m : M) (c : Ct) (es : List (Nat × Int)) : Ct := es.foldl (stepM m) c
def answersM (m : M) : Ct → List (Nat × Int) → List (List (Int × Option Int))
  | _, [] => []
  | c, e :: es => (readM m c.1 c.2 e).2.2 :: answersM m (stepM m c e) es
theorem answersM_append (m : M) : ∀ (c : Ct) (es fs : List (Nat × Int)), answersM m c (es ++ fs) = answersM m c es ++ answersM m (contM m c es) fs
  | c, [], fs => rfl
  | c, e :: es, fs => by
    show _ :: answersM m (stepM m c e) (es ++ fs) = _
    rw [answersM_append m (stepM m c e) es fs]
    rfl
theorem contM_append (m : M) (c : Ct) (es fs : List (Nat × Int)) : contM m c (es ++ fs) = contM m (contM m c es) fs := List.foldl_append
theorem answersM_length (m : M) : ∀ (c : Ct) (es : List (Nat × Int)), (answersM m c es).length = es.length
  | c, [] => rfl
  | c, e :: es => by
    show (answersM m (stepM m c e) es).length + 1 = es.length + 1
    rw [answersM_length m]
structure okCt (m : M) (c : Ct) : Prop where
  st : c.1 < m.steps.length
  len : c.2.length = m.regs
theorem okCt.step {m : M} {c : Ct} {n : Nat} {e : Nat × Int} (h : okCt m c) (ok : okM n m) (ht : e.1 < m.tags) : okCt m (stepM m c e) := by
  obtain ⟨_, _, _, _, hc⟩ := M.cases_at ok h.st ht
  unfold stepM readM
  cases ef : (m.cases c.1 e.1).find? (holdC e.2 c.2) with
  | none => exact h
  | some k =>
    have okc := hc k (List.mem_of_find?_eq_some ef)
    exact ⟨okc.nxt, by show (keptC e.2 c.2 k).length = m.regs; unfold keptC; rw [List.length_map, okc.mlen]⟩
theorem okCt.cont {m : M} {n : Nat} (ok : okM n m) : ∀ {es : List (Nat × Int)} {c : Ct}, okCt m c → (∀ e ∈ es, e.1 < m.tags) → okCt m (contM m c es)
  | [], c, h, _ => h
  | e :: es, c, h, ht => okCt.cont ok (es := es) (h.step ok (ht e (by simp))) fun f hf => ht f (by simp [hf])
/-- a log that lies in a list or in a tuple -/
def Sq (K : PySem.W.Frag) (H : Hp) (a : Addr) (xs : List V) : Prop := SqL K H a xs ∨ SqT K H a xs
def Lg (K : PySem.W.Frag) (H : Hp) (v : V) (es : List (Nat × Int)) : Prop := ∃ a xs, v = .ref a ∧ Sq K H a xs ∧ Ats K H xs (es.map encE)
section
variable {K : PySem.W.Frag} {T : List Addr} {H H1 : Hp}
theorem Sq.ext {a : Addr} {xs : List V} (h : Sq K H a xs) (e : Ex T [] H H1) : Sq K H1 a xs := h.imp (e.sqL (by simp)) e.sqT
theorem Lg.ext {v : V} {es : List (Nat × Int)} (h : Lg K H v es) (e : Ex T [] H H1) : Lg K H1 v es := by
  obtain ⟨a, xs, rfl, s, t⟩ := h
  exact ⟨a, xs, rfl, s.ext e, t.ext e⟩
theorem Lg.tup {v : V} {es : List (Nat × Int)} (h : At K H v (.tup (es.map encE))) : Lg K H v es := by
  obtain ⟨a, xs, rfl, s, t⟩ := at_tup.mp h
  exact ⟨a, xs, rfl, .inr s, t⟩
end
theorem pi_or {X : Cx} {tg e : Expr} {u v : TI} (h1 : PI X tg e u) (h2 : PI X tg e v) : PI X tg e (fun σ H R => u σ H R ∨ v σ H R) :=
  ⟨fun pins s σ H R I h => h.elim (h1.run pins s σ H R I) (h2.run pins s σ H R I)⟩
end Dv

/-! == of data at any depth. -/
namespace Dv
open PySem PySem.Spec PyProof.Rows L2 GxR Gx
mutual
def toPy : D → PyData
  | .non => .none
  | .bl b => .bool b
  | .int i => .int i
  | .str s => .str s
  | .tup ds => .tuple (toPys ds)
def toPys : List D → List PyData
  | [] => []
  | d :: ds => toPy d :: toPys ds
end
mutual
def plD : Nat → D → Prop
  | 0, .tup _ => False
  | n + 1, .tup ds => plDs n ds
  | _, .str _ => False
  | _, _ => True
def plDs : Nat → List D → Prop
  | _, [] => True
  | n, d :: ds => plD n d ∧ plDs n ds
end
section
variable {K : PySem.W.Frag} {H : Hp}
mutual
theorem At.dp : ∀ {v : V} {d : D}, At K H v d → Dp K H v (toPy d)
  | v, .non, h => by rw [at_non.mp h]; unfold toPy; exact .non
  | v, .bl b, h => by rw [at_bl.mp h]; unfold toPy; exact .bl b
  | v, .int i, h => by rw [at_int.mp h]; unfold toPy; exact .int i
  | v, .str s, h => by rw [at_str.mp h]; unfold toPy; exact .str s
  | v, .tup ds, h => by
    obtain ⟨a, xs, rfl, q, r⟩ := at_tup.mp h
    unfold toPy
    exact .tup q (Ats.dp r)
theorem Ats.dp : ∀ {xs : List V} {ds : List D}, Ats K H xs ds → DpAll K H xs (toPys ds)
  | xs, [], h => by rw [ats_nil.mp h]; unfold toPys; exact .nil
  | xs, d :: ds, h => by
    obtain ⟨x, r, rfl, q, t⟩ := ats_cons.mp h
    unfold toPys
    exact .cons (At.dp q) (Ats.dp t)
end
end
mutual
theorem plD_lay : ∀ {n : Nat} {d : D}, plD n d → (toPy d).canLay0 = true ∧ (toPy d).depth ≤ n
  | n, .non, _ => by unfold toPy PyData.canLay0 PyData.depth; exact ⟨rfl, Nat.zero_le _⟩
  | n, .bl b, _ => by unfold toPy PyData.canLay0 PyData.depth; exact ⟨rfl, Nat.zero_le _⟩
  | n, .int i, _ => by unfold toPy PyData.canLay0 PyData.depth; exact ⟨rfl, Nat.zero_le _⟩
  | 0, .str s, h => by unfold plD at h; exact h.elim
  | n + 1, .str s, h => by unfold plD at h; exact h.elim
  | 0, .tup ds, h => by unfold plD at h; exact h.elim
  | n + 1, .tup ds, h => by
    unfold plD at h
    have z := plDs_lay h
    unfold toPy PyData.canLay0 PyData.depth
    exact ⟨z.1, Nat.succ_le_succ z.2⟩
theorem plDs_lay : ∀ {n : Nat} {ds : List D}, plDs n ds → PyData.canLayAll0 (toPys ds) = true ∧ PyData.depthAll (toPys ds) ≤ n
  | n, [], _ => by unfold toPys PyData.canLayAll0 PyData.depthAll; exact ⟨rfl, Nat.zero_le _⟩
  | n, d :: ds, h => by
    unfold plDs at h
    have z1 := plD_lay h.1
    have z2 := plDs_lay h.2
    unfold toPys PyData.canLayAll0 PyData.depthAll
    exact ⟨by rw [z1.1, z2.1]; rfl, Nat.max_le.mpr ⟨z1.2, z2.2⟩⟩
end
theorem plD_shaped {n : Nat} {d : D} (h : plD n d) (hn : n ≤ 64) : SeqAt.shaped (toPy d) = true := by
  have z := plD_lay h
  unfold SeqAt.shaped
  rw [z.1, decide_eq_true (Nat.le_trans z.2 hn)]
  rfl
theorem plD_refl {n : Nat} {d : D} (h : plD n d) : PyData.eqv (toPy d) (toPy d) = true := SeqAt.eqv_refl _ (plD_lay h).1
/-- equal data, compared -/
theorem eqD_same {K : PySem.W.Frag} {H : Hp} {x y : V} {d : D} {n : Nat} {Q : VK} (hx : At K H x d) (hy : At K H y d) (h : plD n d) (hn : n ≤ 64) (q : Q (.bl true) H) : rEqD K x y H Q :=
  ⟨_, _, hx.dp, hy.dp, plD_shaped h hn, plD_shaped h hn, by rw [plD_refl h]; exact q⟩
theorem neD_same {K : PySem.W.Frag} {H : Hp} {x y : V} {d : D} {n : Nat} {Q : VK} (hx : At K H x d) (hy : At K H y d) (h : plD n d) (hn : n ≤ 64) (q : Q (.bl false) H) : rNeD K x y H Q :=
  ⟨_, _, hx.dp, hy.dp, plD_shaped h hn, plD_shaped h hn, by rw [plD_refl h]; exact q⟩
theorem plDs_map {α : Type} {f : α → D} {n : Nat} : ∀ {l : List α}, (∀ a ∈ l, plD n (f a)) → plDs n (l.map f)
  | [], _ => by rw [List.map_nil]; unfold plDs; trivial
  | a :: l, h => by
    rw [List.map_cons]
    unfold plDs
    exact ⟨h a (by simp), plDs_map fun b hb => h b (by simp [hb])⟩
theorem plD_int {n : Nat} {i : Int} : plD n (.int i) := by cases n <;> (unfold plD; trivial)
theorem plD_tup {n : Nat} {ds : List D} (h : plDs n ds) : plD (n + 1) (.tup ds) := by unfold plD; exact h
theorem plDs_cons {n : Nat} {d : D} {ds : List D} (h : plD n d) (t : plDs n ds) : plDs n (d :: ds) := by unfold plDs; exact ⟨h, t⟩
theorem plDs_nil {n : Nat} : plDs n [] := by unfold plDs; trivial
theorem plD_encO {n : Nat} {o : Option Int} : plD n (encO o) := by cases o <;> cases n <;> (unfold encO plD; trivial)
theorem plD_encH {n : Nat} {h : List (Option Int)} : plD (n + 1) (encH h) := plD_tup (plDs_map fun _ _ => plD_encO)
theorem plD_encCt {n st : Nat} {h : List (Option Int)} : plD (n + 2) (encCt st h) := plD_tup (plDs_cons plD_int (plDs_cons plD_encH plDs_nil))
theorem plD_encA {n : Nat} {a : List (Int × Option Int)} : plD (n + 2) (encA a) := plD_tup (plDs_map fun _ _ => plD_tup (plDs_cons plD_int (plDs_cons plD_encO plDs_nil)))
theorem plD_answers {n : Nat} {l : List (List (Int × Option Int))} : plD (n + 3) (.tup (l.map encA)) := plD_tup (plDs_map fun _ _ => plD_encA)
theorem plD_encE {n : Nat} {e : Nat × Int} : plD (n + 1) (encE e) := plD_tup (plDs_cons plD_int (plDs_cons plD_int plDs_nil))
theorem plD_log {n : Nat} {es : List (Nat × Int)} : plD (n + 2) (.tup (es.map encE)) := plD_tup (plDs_map fun _ _ => plD_encE)
/-- a list and a list of the same data -/
theorem neD_lists {K : PySem.W.Frag} {H : Hp} {a b : Addr} {xs ys : List V} {ds : List D} {n : Nat} {Q : VK} (h1 : SqL K H a xs) (hx : Ats K H xs ds) (h2 : SqL K H b ys) (hy : Ats K H ys ds) (h : plDs n ds) (hn : n ≤ 63) (q : Q (.bl false) H) : rNeD K (.ref a) (.ref b) H Q := by
  have z := plDs_lay h
  have s : SeqAt.shaped (.list (toPys ds)) = true := by
    unfold SeqAt.shaped
    have e1 : (PyData.list (toPys ds)).canLay0 = true := by unfold PyData.canLay0; exact z.1
    have e2 : (PyData.list (toPys ds)).depth ≤ 64 := by unfold PyData.depth; omega
    rw [e1, decide_eq_true e2]
    rfl
  refine ⟨.list (toPys ds), .list (toPys ds), .lst h1 hx.dp, .lst h2 hy.dp, s, s, ?_⟩
  rw [SeqAt.eqv_refl _ (SeqAt.canLay_of_shaped s)]
  exact q
end Dv

/-! == of two different data -/
namespace Dv
open PySem PySem.Spec PyProof.Rows L2 GxR Gx
mutual
def dqD : Nat → D → Prop
  | 0, .tup _ => False
  | n + 1, .tup ds => dqDs n ds
  | _, .str s => (toPy (.str s)).canLay0 = true
  | _, .bl _ => False
  | _, _ => True
def dqDs : Nat → List D → Prop
  | _, [] => True
  | n, d :: ds => dqD n d ∧ dqDs n ds
end
mutual
theorem dqD_lay : ∀ {n : Nat} {d : D}, dqD n d → (toPy d).canLay0 = true ∧ (toPy d).depth ≤ n
  | n, .non, _ => by unfold toPy PyData.canLay0 PyData.depth; exact ⟨rfl, Nat.zero_le _⟩
  | 0, .bl b, h => by unfold dqD at h; exact h.elim
  | n + 1, .bl b, h => by unfold dqD at h; exact h.elim
  | n, .int i, _ => by unfold toPy PyData.canLay0 PyData.depth; exact ⟨rfl, Nat.zero_le _⟩
  | 0, .str s, h => by unfold dqD at h; exact ⟨h, by unfold toPy PyData.depth; exact Nat.zero_le _⟩
  | n + 1, .str s, h => by unfold dqD at h; exact ⟨h, by unfold toPy PyData.depth; exact Nat.zero_le _⟩
  | 0, .tup ds, h => by unfold dqD at h; exact h.elim
  | n + 1, .tup ds, h => by
    unfold dqD at h
    have z := dqDs_lay h
    unfold toPy PyData.canLay0 PyData.depth
    exact ⟨z.1, Nat.succ_le_succ z.2⟩
theorem dqDs_lay : ∀ {n : Nat} {ds : List D}, dqDs n ds → PyData.canLayAll0 (toPys ds) = true ∧ PyData.depthAll (toPys ds) ≤ n
  | n, [], _ => by unfold toPys PyData.canLayAll0 PyData.depthAll; exact ⟨rfl, Nat.zero_le _⟩
  | n, d :: ds, h => by
    unfold dqDs at h
    have z1 := dqD_lay h.1
    have z2 := dqDs_lay h.2
    unfold toPys PyData.canLayAll0 PyData.depthAll
    exact ⟨by rw [z1.1, z2.1]; rfl, Nat.max_le.mpr ⟨z1.2, z2.2⟩⟩
end
theorem dq_bl {n : Nat} {b : Bool} : ¬ dqD n (.bl b) := fun h => by cases n <;> (unfold dqD at h; exact h.elim)
mutual
theorem dqD_eq : ∀ {n m : Nat} {d e : D}, dqD n d → dqD m e → PyData.eqv (toPy d) (toPy e) = true → d = e
  | n, m, .non, .non, _, _, _ => rfl
  | n, m, .bl b, e, h, _, _ => (dq_bl h).elim
  | n, m, d, .bl b, _, h, _ => (dq_bl h).elim
  | n, m, .int i, .int j, _, _, q => by unfold toPy PyData.eqv at q; rw [beq_iff_eq.mp q]
  | n, m, .str i, .str j, _, _, q => by unfold toPy PyData.eqv at q; rw [beq_iff_eq.mp q]
  | 0, m, .tup ds, .tup es, h, g, q => by unfold dqD at h; exact h.elim
  | n + 1, 0, .tup ds, .tup es, h, g, q => by unfold dqD at g; exact g.elim
  | n + 1, m + 1, .tup ds, .tup es, h, g, q => by
    unfold dqD at h g
    unfold toPy PyData.eqv at q
    rw [dqDs_eq h g q]
  | n, m, .non, .int _, _, _, q => by unfold toPy PyData.eqv at q; cases q
  | n, m, .non, .str _, _, _, q => by unfold toPy PyData.eqv at q; cases q
  | n, m, .non, .tup _, _, _, q => by unfold toPy PyData.eqv at q; cases q
  | n, m, .int _, .non, _, _, q => by unfold toPy PyData.eqv at q; cases q
  | n, m, .int _, .str _, _, _, q => by unfold toPy PyData.eqv at q; cases q
  | n, m, .int _, .tup _, _, _, q => by unfold toPy PyData.eqv at q; cases q
  | n, m, .str _, .non, _, _, q => by unfold toPy PyData.eqv at q; cases q
  | n, m, .str _, .int _, _, _, q => by unfold toPy PyData.eqv at q; cases q
  | n, m, .str _, .tup _, _, _, q => by unfold toPy PyData.eqv at q; cases q
  | n, m, .tup _, .non, _, _, q => by unfold toPy PyData.eqv at q; cases q
  | n, m, .tup _, .int _, _, _, q => by unfold toPy PyData.eqv at q; cases q
  | n, m, .tup _, .str _, _, _, q => by unfold toPy PyData.eqv at q; cases q
theorem dqDs_eq : ∀ {n m : Nat} {ds es : List D}, dqDs n ds → dqDs m es → PyData.eqvAll (toPys ds) (toPys es) = true → ds = es
  | n, m, [], [], _, _, _ => rfl
  | n, m, [], _ :: _, _, _, q => by unfold toPys PyData.eqvAll at q; cases q
  | n, m, _ :: _, [], _, _, q => by unfold toPys PyData.eqvAll at q; cases q
  | n, m, d :: ds, e :: es, h, g, q => by
    unfold dqDs at h g
    unfold toPys PyData.eqvAll at q
    have q2 := Bool.and_eq_true_iff.mp q
    rw [dqD_eq h.1 g.1 q2.1, dqDs_eq h.2 g.2 q2.2]
end
theorem dqD_shaped {n : Nat} {d : D} (h : dqD n d) (hn : n ≤ 64) : SeqAt.shaped (toPy d) = true := by
  have z := dqD_lay h
  unfold SeqAt.shaped
  rw [z.1, decide_eq_true (Nat.le_trans z.2 hn)]
  rfl
theorem dqDs_shaped {n : Nat} {ds : List D} (h : dqDs n ds) (hn : n ≤ 63) : SeqAt.shaped (.list (toPys ds)) = true := by
  have z := dqDs_lay h
  unfold SeqAt.shaped
  have e1 : (PyData.list (toPys ds)).canLay0 = true := by unfold PyData.canLay0; exact z.1
  have e2 : (PyData.list (toPys ds)).depth ≤ 64 := by unfold PyData.depth; omega
  rw [e1, decide_eq_true e2]
  rfl
section
variable {K : PySem.W.Frag} {H : Hp} {Q : VK}
theorem eqD_case {x y : V} {d e : D} {n m : Nat} (hx : At K H x d) (hy : At K H y e) (h : dqD n d) (g : dqD m e) (hn : n ≤ 64) (hm : m ≤ 64) (q1 : d = e → Q (.bl true) H) (q2 : d ≠ e → Q (.bl false) H) : rEqD K x y H Q := by
  refine ⟨_, _, hx.dp, hy.dp, dqD_shaped h hn, dqD_shaped g hm, ?_⟩
  cases c : PyData.eqv (toPy d) (toPy e) with
  | true => exact q1 (dqD_eq h g c)
  | false => exact q2 fun he => by subst he; rw [SeqAt.eqv_refl _ (dqD_lay h).1] at c; cases c
theorem neD_case {x y : V} {d e : D} {n m : Nat} (hx : At K H x d) (hy : At K H y e) (h : dqD n d) (g : dqD m e) (hn : n ≤ 64) (hm : m ≤ 64) (q1 : d = e → Q (.bl false) H) (q2 : d ≠ e → Q (.bl true) H) : rNeD K x y H Q := by
  refine ⟨_, _, hx.dp, hy.dp, dqD_shaped h hn, dqD_shaped g hm, ?_⟩
  cases c : PyData.eqv (toPy d) (toPy e) with
  | true => exact q1 (dqD_eq h g c)
  | false => exact q2 fun he => by subst he; rw [SeqAt.eqv_refl _ (dqD_lay h).1] at c; cases c
theorem eqL_case {a b : Addr} {xs ys : List V} {ds es : List D} {n m : Nat} (h1 : SqL K H a xs) (hx : Ats K H xs ds) (h2 : SqL K H b ys) (hy : Ats K H ys es) (h : dqDs n ds) (g : dqDs m es) (hn : n ≤ 63) (hm : m ≤ 63) (q1 : ds = es → Q (.bl true) H) (q2 : ds ≠ es → Q (.bl false) H) : rEqD K (.ref a) (.ref b) H Q := by
  refine ⟨.list (toPys ds), .list (toPys es), .lst h1 hx.dp, .lst h2 hy.dp, dqDs_shaped h hn, dqDs_shaped g hm, ?_⟩
  show Q (.bl (PyData.eqvAll (toPys ds) (toPys es))) H
  cases c : PyData.eqvAll (toPys ds) (toPys es) with
  | true => exact q1 (dqDs_eq h g c)
  | false =>
    refine q2 fun he => ?_
    subst he
    have := SeqAt.eqv_refl _ (SeqAt.canLay_of_shaped (dqDs_shaped h hn))
    rw [show PyData.eqv (.list (toPys ds)) (.list (toPys ds)) = PyData.eqvAll (toPys ds) (toPys ds) from rfl, c] at this
    cases this
theorem neL_case {a b : Addr} {xs ys : List V} {ds es : List D} {n m : Nat} (h1 : SqL K H a xs) (hx : Ats K H xs ds) (h2 : SqL K H b ys) (hy : Ats K H ys es) (h : dqDs n ds) (g : dqDs m es) (hn : n ≤ 63) (hm : m ≤ 63) (q1 : ds = es → Q (.bl false) H) (q2 : ds ≠ es → Q (.bl true) H) : rNeD K (.ref a) (.ref b) H Q := by
  refine ⟨.list (toPys ds), .list (toPys es), .lst h1 hx.dp, .lst h2 hy.dp, dqDs_shaped h hn, dqDs_shaped g hm, ?_⟩
  show Q (.bl (!PyData.eqvAll (toPys ds) (toPys es))) H
  cases c : PyData.eqvAll (toPys ds) (toPys es) with
  | true => exact q1 (dqDs_eq h g c)
  | false =>
    refine q2 fun he => ?_
    subst he
    have := SeqAt.eqv_refl _ (SeqAt.canLay_of_shaped (dqDs_shaped h hn))
    rw [show PyData.eqv (.list (toPys ds)) (.list (toPys ds)) = PyData.eqvAll (toPys ds) (toPys ds) from rfl, c] at this
    cases this
end
theorem dqD_int {n : Nat} {i : Int} : dqD n (.int i) := by cases n <;> (unfold dqD; trivial)
theorem dqD_non {n : Nat} : dqD n .non := by cases n <;> (unfold dqD; trivial)
theorem dqD_tup {n : Nat} {ds : List D} (h : dqDs n ds) : dqD (n + 1) (.tup ds) := by unfold dqD; exact h
theorem dqDs_cons {n : Nat} {d : D} {ds : List D} (h : dqD n d) (t : dqDs n ds) : dqDs n (d :: ds) := by unfold dqDs; exact ⟨h, t⟩
theorem dqDs_nil {n : Nat} : dqDs n [] := by unfold dqDs; trivial
theorem dqDs_map {α : Type} {f : α → D} {n : Nat} : ∀ {l : List α}, (∀ a ∈ l, dqD n (f a)) → dqDs n (l.map f)
  | [], _ => by rw [List.map_nil]; unfold dqDs; trivial
  | a :: l, h => by
    rw [List.map_cons]
    unfold dqDs
    exact ⟨h a (by simp), dqDs_map fun b hb => h b (by simp [hb])⟩
theorem dqD_encO {n : Nat} {o : Option Int} : dqD n (encO o) := by cases o <;> cases n <;> (unfold encO dqD; trivial)
theorem dqD_encH {n : Nat} {h : List (Option Int)} : dqD (n + 1) (encH h) := dqD_tup (dqDs_map fun _ _ => dqD_encO)
theorem dqD_encA1 {n : Nat} {a : Int × Option Int} : dqD (n + 1) (encA1 a) := dqD_tup (dqDs_cons dqD_int (dqDs_cons dqD_encO dqDs_nil))
theorem dqD_encA {n : Nat} {a : List (Int × Option Int)} : dqD (n + 2) (encA a) := dqD_tup (dqDs_map fun _ _ => dqD_encA1)
theorem dqD_answers {n : Nat} {l : List (List (Int × Option Int))} : dqD (n + 3) (.tup (l.map encA)) := dqD_tup (dqDs_map fun _ _ => dqD_encA)
theorem encO_inj {a b : Option Int} (h : encO a = encO b) : a = b := by
  cases a <;> cases b
  · rfl
  · unfold encO at h; cases h
  · unfold encO at h; cases h
  · unfold encO at h; cases h; rfl
theorem map_inj {α β : Type} {f : α → β} (hf : ∀ a b, f a = f b → a = b) : ∀ {as bs : List α}, as.map f = bs.map f → as = bs
  | [], [], _ => rfl
  | [], _ :: _, h => by cases h
  | _ :: _, [], h => by cases h
  | a :: as, b :: bs, h => by
    rw [List.map_cons, List.map_cons] at h
    have := List.cons.inj h
    rw [hf _ _ this.1, map_inj hf this.2]
theorem encH_inj {a b : List (Option Int)} (h : encH a = encH b) : a = b := map_inj (fun _ _ => encO_inj) (D.tup.inj h)
theorem encA1_inj {a b : Int × Option Int} (h : encA1 a = encA1 b) : a = b := by
  obtain ⟨a1, a2⟩ := a
  obtain ⟨b1, b2⟩ := b
  have h2 := D.tup.inj h
  have h3 := List.cons.inj h2
  have e1 : a1 = b1 := D.int.inj h3.1
  have e2 : a2 = b2 := encO_inj (List.cons.inj h3.2).1
  rw [e1, e2]
theorem encA_inj {a b : List (Int × Option Int)} (h : encA a = encA b) : a = b := map_inj (fun _ _ => encA1_inj) (D.tup.inj h)
end Dv

/-! Rising changes of values, and the sizes of ints. -/
namespace Dv
open PySem PySem.Spec PyProof.Rows L2 GxR Gx

/-! ### sizes -/
def Bd (n : Nat) (x : Int) : Prop := x.natAbs < 2 ^ n
theorem Bd.mono {n m : Nat} {x : Int} (h : Bd n x) (e : n ≤ m) : Bd m x := Nat.lt_of_lt_of_le h (Nat.pow_le_pow_right (by decide) e)
theorem Bd.add {n : Nat} {x y : Int} (h : Bd n x) (g : Bd n y) : Bd (n + 1) (x + y) := by
  unfold Bd at *
  rw [Nat.pow_succ]
  have := Int.natAbs_add_le x y
  generalize 2 ^ n = z at *
  omega
theorem Bd.neg {n : Nat} {x : Int} (h : Bd n x) : Bd n (-x) := by
  unfold Bd at *
  rw [Int.natAbs_neg]
  exact h
theorem Bd.sub {n : Nat} {x y : Int} (h : Bd n x) (g : Bd n y) : Bd (n + 1) (x - y) := by
  rw [Int.sub_eq_add_neg]
  exact h.add g.neg
theorem Bd.mul {n m : Nat} {x y : Int} (h : Bd n x) (g : Bd m y) : Bd (n + m) (x * y) := wide_lt h g
theorem Bd.le {n : Nat} {x y : Int} (h : Bd n y) (g : x.natAbs ≤ y.natAbs) : Bd n x := Nat.lt_of_le_of_lt g h
theorem Bd.div {n : Nat} {x d : Int} (h : Bd n x) (hd : 0 < d) : Bd n (x / d) := h.le (by
  rcases Int.le_total 0 x with c | c
  · have h1 := Int.ediv_nonneg c (Int.le_of_lt hd)
    have h2 := Int.ediv_le_self d c
    omega
  · have h1 : x ≤ x / d := (Int.le_ediv_iff_mul_le hd).mpr (by
      have : x * d ≤ x * 1 := Int.mul_le_mul_of_nonpos_left c (by omega)
      omega)
    have h2 : x / d ≤ 0 := by
      have : x / d < 1 := Int.ediv_lt_of_lt_mul hd (by omega)
      omega
    omega)
theorem bd_small {n : Nat} {x : Int} (h : x.natAbs < 1048576) (e : 20 ≤ n) : Bd n x :=
  Nat.lt_of_lt_of_le (show x.natAbs < 2 ^ 20 from h) (Nat.pow_le_pow_right (by decide) e)
theorem bd_near {n : Nat} {x b : Int} (h : x.natAbs ≤ b.natAbs + 1009) (g : Bd n b) (e : 20 ≤ n) : Bd (n + 1) x := by
  have p : 2 ^ 20 ≤ 2 ^ n := Nat.pow_le_pow_right (by decide) e
  have q : (2 : Nat) ^ 20 = 1048576 := by decide
  unfold Bd at *
  rw [Nat.pow_succ]
  generalize 2 ^ n = z at *
  omega
theorem bd_bits {n : Nat} {x : Int} (h : Builtin.Int.intBits x ≤ n) : Bd n x := by
  unfold Builtin.Int.intBits at h
  split at h
  · rename_i z
    have : x = 0 := by simpa using z
    subst this
    exact Nat.pos_of_ne_zero (by simp)
  · exact Nat.lt_of_lt_of_le Nat.lt_log2_self (Nat.pow_le_pow_right (by decide) h)
theorem bd_sum {n : Nat} : ∀ {l : List Int}, (∀ z ∈ l, Bd n z) → Bd (n + l.length) l.sum
  | [], _ => Nat.pos_of_ne_zero (by simp)
  | z :: l, h => by
    rw [List.sum_cons]
    exact ((h z (by simp)).mono (Nat.le_add_right _ _)).add (bd_sum fun y hy => h y (by simp [hy]))

theorem cut_take {xs : List V} {av : Int} (h0 : 0 ≤ av) : cutV xs none (some av) = xs.take av.toNat := by
  obtain ⟨k, rfl⟩ := Int.eq_ofNat_of_zero_le h0
  unfold cutV
  rw [HT.sIx_nat, HT.sIx_none, Int.toNat_natCast, List.drop_zero, Nat.sub_zero]
  by_cases c : k ≤ xs.length
  · rw [Nat.min_eq_left c]
  · rw [Nat.min_eq_right (by omega), List.take_of_length_le (Nat.le_refl _), List.take_of_length_le (by omega)]
def rTupK (K : PySem.W.Frag) : List V → Hp → VK → Prop := fun xs H Q => ∃ p ys, xs = [V.ref p] ∧ ((SqL K H p ys ∧ ∀ (l : Addr), H l = none → Q (V.ref l) (upd H l (HO.tup ys))) ∨ SqT K H p ys ∧ Q (V.ref p) H)
def rLenK2 (K : PySem.W.Frag) : List V → Hp → VK → Prop := fun xs H Q => ∃ p ys, xs = [V.ref p] ∧ (SqL K H p ys ∨ SqT K H p ys) ∧ Q (V.int ys.length) H
/-! ### rising changes -/
def Rise (f : Int → Int) : Prop := ∀ x y, x < y → f x < f y
theorem Rise.lt {f : Int → Int} (h : Rise f) (x y : Int) : f x < f y ↔ x < y := by
  constructor
  · intro g
    rcases Int.lt_trichotomy x y with c | c | c
    · exact c
    · subst c; omega
    · have := h _ _ c; omega
  · exact h x y
theorem Rise.eq {f : Int → Int} (h : Rise f) (x y : Int) : f x = f y ↔ x = y := by
  constructor
  · intro g
    rcases Int.lt_trichotomy x y with c | c | c
    · have := h _ _ c; omega
    · exact c
    · have := h _ _ c; omega
  · rintro rfl; rfl
structure Ch where
  s : Int
  ss : List Int
def Ch.ok (c : Ch) : Prop := c.ss.length = 6 ∧ (∀ z ∈ c.ss, 1 ≤ z ∧ Bd 1048700 z) ∧ Bd 1048700 c.s
def Ch.f (c : Ch) (v : Int) : Int := c.s + v / 6 * c.ss.sum + (c.ss.take (v % 6).toNat).sum
theorem Ch.rise {c : Ch} (h : c.ok) : Rise c.f := by
  obtain ⟨s, ss⟩ := c
  obtain ⟨hl, hp, _⟩ := h
  match ss, hl, hp with
  | [a, b, d, e, g, i], _, hp =>
  have ha := (hp a (by simp)).1
  have hb := (hp b (by simp)).1
  have hd := (hp d (by simp)).1
  have he := (hp e (by simp)).1
  have hg := (hp g (by simp)).1
  have hi := (hp i (by simp)).1
  clear hp
  have eS : ([a, b, d, e, g, i] : List Int).sum = a + b + d + e + g + i := by simp [List.sum_cons]; omega
  have p0 : ((([a, b, d, e, g, i] : List Int).take ((0 : Int)).toNat)).sum = 0 := rfl
  have p1 : ((([a, b, d, e, g, i] : List Int).take ((1 : Int)).toNat)).sum = a := by show ([a] : List Int).sum = a; simp
  have p2 : ((([a, b, d, e, g, i] : List Int).take ((2 : Int)).toNat)).sum = a + b := by show ([a, b] : List Int).sum = _; simp
  have p3 : ((([a, b, d, e, g, i] : List Int).take ((3 : Int)).toNat)).sum = a + b + d := by show ([a, b, d] : List Int).sum = _; simp; omega
  have p4 : ((([a, b, d, e, g, i] : List Int).take ((4 : Int)).toNat)).sum = a + b + d + e := by show ([a, b, d, e] : List Int).sum = _; simp; omega
  have p5 : ((([a, b, d, e, g, i] : List Int).take ((5 : Int)).toNat)).sum = a + b + d + e + g := by show ([a, b, d, e, g] : List Int).sum = _; simp; omega
  intro x y hxy
  show s + x / 6 * ([a, b, d, e, g, i] : List Int).sum + (([a, b, d, e, g, i] : List Int).take (x % 6).toNat).sum < s + y / 6 * ([a, b, d, e, g, i] : List Int).sum + (([a, b, d, e, g, i] : List Int).take (y % 6).toNat).sum
  rw [eS]
  have hx := Int.emod_nonneg x (show (6 : Int) ≠ 0 by decide)
  have hx6 := Int.emod_lt_of_pos x (show (0 : Int) < 6 by decide)
  have hy := Int.emod_nonneg y (show (6 : Int) ≠ 0 by decide)
  have hy6 := Int.emod_lt_of_pos y (show (0 : Int) < 6 by decide)
  have dx := Int.mul_ediv_add_emod x 6
  have dy := Int.mul_ediv_add_emod y 6
  have key : x / 6 = y / 6 ∧ x % 6 < y % 6 ∨ x / 6 + 1 ≤ y / 6 := by omega
  generalize x / 6 = qx at *
  generalize y / 6 = qy at *
  generalize x % 6 = rx at *
  generalize y % 6 = ry at *
  have hmul : qx + 1 ≤ qy → qx * (a + b + d + e + g + i) + (a + b + d + e + g + i) ≤ qy * (a + b + d + e + g + i) := fun h => by
    have := Int.mul_le_mul_of_nonneg_right h (show 0 ≤ a + b + d + e + g + i by omega)
    rw [Int.add_mul, Int.one_mul] at this
    exact this
  rcases (by omega : rx = 0 ∨ rx = 1 ∨ rx = 2 ∨ rx = 3 ∨ rx = 4 ∨ rx = 5) with rfl | rfl | rfl | rfl | rfl | rfl <;>
  rcases (by omega : ry = 0 ∨ ry = 1 ∨ ry = 2 ∨ ry = 3 ∨ ry = 4 ∨ ry = 5) with rfl | rfl | rfl | rfl | rfl | rfl <;>
  (simp only [p0, p1, p2, p3, p4, p5]
   rcases key with ⟨rfl, k⟩ | k
   · omega
   · have := hmul k
     omega)
theorem Ch.bd {c : Ch} {n : Nat} {v : Int} (h : c.ok) (hv : Bd n v) : Bd (n + 1048708) (c.f v) := by
  obtain ⟨hl, hp, hs⟩ := h
  have b1 : Bd 1048706 c.ss.sum := by
    have := bd_sum (n := 1048700) (l := c.ss) fun z hz => (hp z hz).2
    rw [hl] at this
    exact this
  have b2 : Bd 1048706 (c.ss.take (v % 6).toNat).sum := by
    have := bd_sum (n := 1048700) (l := c.ss.take (v % 6).toNat) fun z hz => (hp z (List.mem_of_mem_take hz)).2
    refine this.mono ?_
    rw [List.length_take]
    omega
  have b3 := (hv.div (d := 6) (by decide)).mul b1
  unfold Ch.f
  exact ((hs.mono (by omega)).add b3).add (b2.mono (by omega))
/-- a change lies at v, apart from dr -/
def AtCh (H : Hp) (dr : Addr) (v : V) (c : Ch) : Prop := ∃ a b, v = .ref a ∧ a ≠ dr ∧ b ≠ dr ∧ H a = some (.lst [.int c.s, .ref b]) ∧ H b = some (.lst (c.ss.map V.int))
theorem AtCh.ext {H H1 : Hp} {T : List Addr} {dr : Addr} {v : V} {c : Ch} (h : AtCh H dr v c) (e : Ex T [dr] H H1) : AtCh H1 dr v c := by
  obtain ⟨a, b, rfl, na, nb, ha, hb⟩ := h
  exact ⟨a, b, rfl, na, nb, e.lst (by simpa using na) ha, e.lst (by simpa using nb) hb⟩

/-! ### machines see the order alone -/
def mapH (f : Int → Int) (h : List (Option Int)) : List (Option Int) := h.map (Option.map f)
def chE (f : Int → Int) (p : Int × Option Int) : Int × Option Int := (p.1, p.2.map f)
def chL (f : Int → Int) (e : Nat × Int) : Nat × Int := (e.1, f e.2)
def toA (e : Nat × Int) : Int × Option Int := (e.1, some e.2)
theorem mapH_len {f : Int → Int} {h : List (Option Int)} : (mapH f h).length = h.length := List.length_map ..
theorem enc_toA (es : List (Nat × Int)) : es.map encE = (es.map toA).map encA1 := by
  rw [List.map_map]
  rfl
theorem chL_toA (f : Int → Int) (es : List (Nat × Int)) : (es.map toA).map (chE f) = (es.map (chL f)).map toA := by
  rw [List.map_map, List.map_map]
  rfl
section
variable {f : Int → Int}
theorem worth_map (v : Int) (h : List (Option Int)) (p : Int) : worth (f v) (mapH f h) p = (worth v h p).map f := by
  unfold worth mapH
  split
  · rfl
  · split
    · rfl
    · rw [List.getElem?_map]
      cases h[p.toNat]? <;> rfl
theorem ltO_map (r : Rise f) (a b : Option Int) : ltO (a.map f) (b.map f) = ltO a b := by
  cases a <;> cases b <;> try rfl
  rename_i x y
  show decide (f x < f y) = decide (x < y)
  rw [decide_eq_decide]
  exact r.lt x y
theorem eqO_map (r : Rise f) (a b : Option Int) : eqO (a.map f) (b.map f) = eqO a b := by
  cases a <;> cases b <;> try rfl
  rename_i x y
  show decide (f x = f y) = decide (x = y)
  rw [decide_eq_decide]
  exact r.eq x y
mutual
theorem hold_map (r : Rise f) (v : Int) (h : List (Option Int)) : ∀ c : C, hold (f v) (mapH f h) c = hold v h c
  | .tru => by unfold hold; rfl
  | .fls => by unfold hold; rfl
  | .less a b => by unfold hold; rw [worth_map, worth_map, ltO_map r]
  | .same a b => by unfold hold; rw [worth_map, worth_map, eqO_map r]
  | .emp a => by unfold hold; rw [worth_map]; cases worth v h a <;> rfl
  | .nt c => by unfold hold; rw [hold_map r v h c]
  | .all cs => by unfold hold; exact holdA_map r v h cs
  | .any cs => by unfold hold; exact holdE_map r v h cs
theorem holdA_map (r : Rise f) (v : Int) (h : List (Option Int)) : ∀ cs : List C, holdA (f v) (mapH f h) cs = holdA v h cs
  | [] => by unfold holdA; rfl
  | c :: cs => by rw [holdA_cons, holdA_cons, hold_map r v h c, holdA_map r v h cs]
theorem holdE_map (r : Rise f) (v : Int) (h : List (Option Int)) : ∀ cs : List C, holdE (f v) (mapH f h) cs = holdE v h cs
  | [] => by unfold holdE; rfl
  | c :: cs => by rw [holdE_cons, holdE_cons, hold_map r v h c, holdE_map r v h cs]
end
theorem saidC_map (v : Int) (h : List (Option Int)) (c : Case) : saidC (f v) (mapH f h) c = (saidC v h c).map (chE f) := by
  unfold saidC
  rw [List.map_map]
  refine List.map_congr_left fun p _ => ?_
  show (p.1, worth (f v) (mapH f h) p.2) = (p.1, (worth v h p.2).map f)
  rw [worth_map]
theorem keptC_map (v : Int) (h : List (Option Int)) (c : Case) : keptC (f v) (mapH f h) c = mapH f (keptC v h c) := by
  unfold keptC
  show _ = List.map _ _
  rw [List.map_map]
  refine List.map_congr_left fun p _ => ?_
  rw [worth_map]
  rfl
theorem readM_map (r : Rise f) (m : M) (st : Nat) (h : List (Option Int)) (e : Nat × Int) :
    readM m st (mapH f h) (chL f e) = ((readM m st h e).1, mapH f (readM m st h e).2.1, (readM m st h e).2.2.map (chE f)) := by
  unfold readM
  have ef : holdC (chL f e).2 (mapH f h) = holdC e.2 h := funext fun c => hold_map r e.2 h c.cond
  rw [ef]
  show (match (m.cases st e.1).find? (holdC e.2 h) with | none => _ | some c => _) = _
  cases (m.cases st e.1).find? (holdC e.2 h) with
  | none => rfl
  | some c =>
    show (c.nxt, keptC (f e.2) (mapH f h) c, saidC (f e.2) (mapH f h) c) = _
    rw [saidC_map, keptC_map]
def mapC (f : Int → Int) (c : Ct) : Ct := (c.1, mapH f c.2)
theorem stepM_map (r : Rise f) (m : M) (c : Ct) (e : Nat × Int) : stepM m (mapC f c) (chL f e) = mapC f (stepM m c e) := by
  show ((readM m c.1 (mapH f c.2) (chL f e)).1, (readM m c.1 (mapH f c.2) (chL f e)).2.1) = _
  rw [readM_map r]
  rfl
theorem contM_map (r : Rise f) (m : M) : ∀ (c : Ct) (es : List (Nat × Int)), contM m (mapC f c) (es.map (chL f)) = mapC f (contM m c es)
  | c, [] => rfl
  | c, e :: es => by
    show contM m (stepM m (mapC f c) (chL f e)) (es.map (chL f)) = mapC f (contM m (stepM m c e) es)
    rw [stepM_map r, contM_map r m _ es]
theorem answersM_map (r : Rise f) (m : M) : ∀ (c : Ct) (es : List (Nat × Int)), answersM m (mapC f c) (es.map (chL f)) = (answersM m c es).map (List.map (chE f))
  | c, [] => rfl
  | c, e :: es => by
    show (readM m c.1 (mapH f c.2) (chL f e)).2.2 :: answersM m (stepM m (mapC f c) (chL f e)) (es.map (chL f)) = _ :: _
    rw [readM_map r, stepM_map r, answersM_map r m _ es]
theorem mapH_rep (n : Nat) : mapH f (List.replicate n none) = List.replicate n none := by
  unfold mapH
  rw [List.map_replicate]
  rfl
end
/-! ### where values come from -/
def PH (P : Int → Prop) (h : List (Option Int)) : Prop := ∀ x, some x ∈ h → P x
def PA (P : Int → Prop) (a : List (Int × Option Int)) : Prop := ∀ p ∈ a, ∀ x, p.2 = some x → P x
section
variable {P : Int → Prop}
theorem worth_P {v : Int} {h : List (Option Int)} {p : Int} (hh : PH P h) (hv : P v) {x : Int} (e : worth v h p = some x) : P x := by
  unfold worth at e
  split at e
  · cases e; exact hv
  · split at e
    · cases e
    · cases g : h[p.toNat]? with
      | none => rw [g] at e; cases e
      | some o =>
        rw [g] at e
        exact hh x (by
          have : o = some x := e
          rw [this] at g
          exact List.mem_of_getElem? g)
theorem readM_P (m : M) (st : Nat) {h : List (Option Int)} {e : Nat × Int} (hh : PH P h) (he : P e.2) : PH P (readM m st h e).2.1 ∧ PA P (readM m st h e).2.2 := by
  unfold readM
  cases (m.cases st e.1).find? (holdC e.2 h) with
  | none => exact ⟨hh, fun p hp => by cases hp⟩
  | some c =>
    refine ⟨fun x hx => ?_, fun p hp x hx => ?_⟩
    · obtain ⟨s, _, e'⟩ := List.mem_map.mp hx
      exact worth_P hh he e'
    · obtain ⟨s, _, rfl⟩ := List.mem_map.mp hp
      exact worth_P hh he hx
theorem answersM_P (m : M) : ∀ {c : Ct} {es : List (Nat × Int)}, PH P c.2 → (∀ e ∈ es, P e.2) → ∀ a ∈ answersM m c es, PA P a
  | c, [], _, _, a, h => by cases h
  | c, e :: es, hc, he, a, h => by
    have r := readM_P m c.1 hc (he e (by simp))
    rcases List.mem_cons.mp h with rfl | h
    · exact r.2
    · exact answersM_P m (c := stepM m c e) r.1 (fun f hf => he f (by simp [hf])) a h
theorem contM_P (m : M) : ∀ {c : Ct} {es : List (Nat × Int)}, PH P c.2 → (∀ e ∈ es, P e.2) → PH P (contM m c es).2
  | c, [], hc, _ => hc
  | c, e :: es, hc, he => contM_P m (c := stepM m c e) (es := es) (readM_P m c.1 hc (he e (by simp))).1 fun f hf => he f (by simp [hf])
theorem PH_rep (n : Nat) : PH P (List.replicate n none) := fun x h => by
  have := (List.mem_replicate.mp h).2
  cases this
end
theorem plogA {P : Int → Prop} {es : List (Nat × Int)} (h : ∀ e ∈ es, P e.2) : PA P (es.map toA) := fun p hp x hx => by
  obtain ⟨e, he, rfl⟩ := List.mem_map.mp hp
  cases hx
  exact h e he
theorem chL_tag {f : Int → Int} {t : Nat} {es : List (Nat × Int)} (h : ∀ e ∈ es, e.1 < t) : ∀ e ∈ es.map (chL f), e.1 < t := fun p hp => by
  obtain ⟨e, he, rfl⟩ := List.mem_map.mp hp
  exact h e he
theorem chL_P {P : Int → Prop} {f : Int → Int} {es : List (Nat × Int)} (h : ∀ e ∈ es, P (f e.2)) : ∀ e ∈ es.map (chL f), P e.2 := fun p hp => by
  obtain ⟨e, he, rfl⟩ := List.mem_map.mp hp
  exact h e he
/-- a log that was changed -/
theorem at_chL {K : PySem.W.Frag} {H : Hp} {v : V} {f : Int → Int} {es : List (Nat × Int)} (h : At K H v (.tup (((es.map toA).map (chE f)).map encA1))) : At K H v (.tup ((es.map (chL f)).map encE)) := by
  rw [chL_toA, ← enc_toA] at h
  exact h
theorem at_toA {K : PySem.W.Frag} {H : Hp} {v : V} {es : List (Nat × Int)} (h : At K H v (.tup (es.map encE))) : At K H v (.tup ((es.map toA).map encA1)) := by
  rw [← enc_toA]
  exact h
end Dv

/-! Turned machines. -/
namespace Dv
open PySem PySem.Spec PyProof.Rows L2 GxR Gx
mutual
def turnC : C → C
  | .tru => .tru
  | .fls => .fls
  | .less a b => .less b a
  | .same a b => .same a b
  | .emp a => .emp a
  | .nt c => .nt (turnC c)
  | .all cs => .all (turnCs cs)
  | .any cs => .any (turnCs cs)
def turnCs : List C → List C
  | [] => []
  | c :: cs => turnC c :: turnCs cs
end
theorem turnCs_map : ∀ cs : List C, turnCs cs = cs.map turnC
  | [] => by unfold turnCs; rfl
  | c :: cs => by unfold turnCs; rw [List.map_cons, turnCs_map cs]
theorem turnCs_len (cs : List C) : (turnCs cs).length = cs.length := by rw [turnCs_map, List.length_map]
def turnCase (c : Case) : Case := { c with cond := turnC c.cond }
def turnM (m : M) : M := { m with steps := m.steps.map (List.map (List.map turnCase)) }
mutual
theorem okC_turn {r : Nat} : ∀ {n : Nat} {c : C}, okC r n c → okC r n (turnC c)
  | n, .tru, h => by unfold turnC; exact h
  | n, .fls, h => by unfold turnC; exact h
  | n, .less a b, h => by unfold turnC; unfold okC at *; exact ⟨h.2, h.1⟩
  | n, .same a b, h => by unfold turnC; exact h
  | n, .emp a, h => by unfold turnC; exact h
  | 0, .nt c, h => by unfold okC at h; exact h.elim
  | n + 1, .nt c, h => by unfold turnC; unfold okC at *; exact okC_turn h
  | 0, .all cs, h => by unfold okC at h; exact h.elim
  | n + 1, .all cs, h => by unfold turnC; unfold okC at *; rw [turnCs_len]; exact ⟨h.1, okCs_turn h.2⟩
  | 0, .any cs, h => by unfold okC at h; exact h.elim
  | n + 1, .any cs, h => by unfold turnC; unfold okC at *; rw [turnCs_len]; exact ⟨h.1, okCs_turn h.2⟩
theorem okCs_turn {r : Nat} : ∀ {n : Nat} {cs : List C}, okCs r n cs → okCs r n (turnCs cs)
  | n, [], h => by unfold turnCs; exact h
  | n, c :: cs, h => by unfold turnCs; unfold okCs at *; exact ⟨okC_turn h.1, okCs_turn h.2⟩
end
theorem turnC_nt (c : C) : turnC (.nt c) = .nt (turnC c) := by conv => lhs; unfold turnC
theorem turnC_all (cs : List C) : turnC (.all cs) = .all (turnCs cs) := by conv => lhs; unfold turnC
theorem turnC_any (cs : List C) : turnC (.any cs) = .any (turnCs cs) := by conv => lhs; unfold turnC
theorem turnCs_cons (c : C) (cs : List C) : turnCs (c :: cs) = turnC c :: turnCs cs := by conv => lhs; unfold turnCs
mutual
theorem turnC_turn : ∀ c : C, turnC (turnC c) = c
  | .tru => by unfold turnC turnC; rfl
  | .fls => by unfold turnC turnC; rfl
  | .less a b => by unfold turnC turnC; rfl
  | .same a b => by unfold turnC turnC; rfl
  | .emp a => by unfold turnC turnC; rfl
  | .nt c => by rw [turnC_nt, turnC_nt, turnC_turn c]
  | .all cs => by rw [turnC_all, turnC_all, turnCs_turn cs]
  | .any cs => by rw [turnC_any, turnC_any, turnCs_turn cs]
theorem turnCs_turn : ∀ cs : List C, turnCs (turnCs cs) = cs
  | [] => by unfold turnCs turnCs; rfl
  | c :: cs => by rw [turnCs_cons, turnCs_cons, turnC_turn c, turnCs_turn cs]
end
theorem encCs_map : ∀ cs : List C, encCs cs = cs.map encC
  | [] => by unfold encCs; rfl
  | c :: cs => by unfold encCs; rw [List.map_cons, encCs_map cs]
theorem encCs_turn (cs : List C) : cs.map (fun c => encC (turnC c)) = encCs (turnCs cs) := by
  rw [encCs_map, turnCs_map, List.map_map]
  rfl
theorem okCase_turn {r S n : Nat} {c : Case} (h : okCase r S n c) : okCase r S n (turnCase c) := ⟨okC_turn h.cond, h.mlen, h.mv, h.say, h.slen, h.nxt⟩
theorem okM_turn {n : Nat} {m : M} (h : okM n m) : okM n (turnM m) := by
  refine ⟨h.tags, h.tmax, h.rmax, by show 0 < (List.map _ _).length; rw [List.length_map]; exact h.some, by show (List.map _ _).length ≤ _; rw [List.length_map]; exact h.smax, fun s hs => ?_, fun s hs cs hcs => ?_⟩
  · obtain ⟨s', hs', rfl⟩ := List.mem_map.mp hs
    rw [List.length_map]
    exact h.all s' hs'
  · obtain ⟨s', hs', rfl⟩ := List.mem_map.mp hs
    obtain ⟨cs', hcs', rfl⟩ := List.mem_map.mp hcs
    have r := h.cases s' hs' cs' hcs'
    refine ⟨by rw [List.length_map]; exact r.1, fun c hc => ?_⟩
    obtain ⟨c', hc', rfl⟩ := List.mem_map.mp hc
    show okCase m.regs (List.map _ m.steps).length n (turnCase c')
    rw [List.length_map]
    exact okCase_turn (r.2 c' hc')
theorem turnM_cases (m : M) (st t : Nat) : (turnM m).cases st t = (m.cases st t).map turnCase := by
  show ((m.steps.map (List.map (List.map turnCase))).getD st []).getD t [] = ((m.steps.getD st []).getD t []).map turnCase
  rw [List.getD_eq_getElem?_getD, List.getD_eq_getElem?_getD, List.getElem?_map]
  rw [List.getD_eq_getElem?_getD (l := m.steps), List.getD_eq_getElem?_getD]
  cases m.steps[st]? with
  | none => rfl
  | some s =>
    show ((List.map (List.map turnCase) s)[t]?).getD [] = ((s[t]?).getD []).map turnCase
    rw [List.getElem?_map]
    cases s[t]? <;> rfl
theorem turnM_steps (m : M) : (turnM m).steps.length = m.steps.length := List.length_map ..
theorem okCt_turn {m : M} {c : Ct} (h : okCt m c) : okCt (turnM m) c := ⟨by rw [turnM_steps]; exact h.st, h.len⟩
/-! ### falling changes -/
def Fall (f : Int → Int) : Prop := ∀ x y, x < y → f y < f x
theorem fall_neg : Fall (fun x => -x) := fun x y h => by show -y < -x; omega
section
variable {f : Int → Int}
theorem Fall.lt (h : Fall f) (x y : Int) : f y < f x ↔ x < y := by
  constructor
  · intro g
    rcases Int.lt_trichotomy x y with c | c | c
    · exact c
    · subst c; omega
    · have := h _ _ c; omega
  · exact h x y
theorem Fall.eq (h : Fall f) (x y : Int) : f x = f y ↔ x = y := by
  constructor
  · intro g
    rcases Int.lt_trichotomy x y with c | c | c
    · have := h _ _ c; omega
    · exact c
    · have := h _ _ c; omega
  · rintro rfl; rfl
theorem ltO_fall (r : Fall f) (a b : Option Int) : ltO (b.map f) (a.map f) = ltO a b := by
  cases a <;> cases b <;> try rfl
  rename_i x y
  show decide (f y < f x) = decide (x < y)
  rw [decide_eq_decide]
  exact r.lt x y
theorem eqO_fall (r : Fall f) (a b : Option Int) : eqO (a.map f) (b.map f) = eqO a b := by
  cases a <;> cases b <;> try rfl
  rename_i x y
  show decide (f x = f y) = decide (x = y)
  rw [decide_eq_decide]
  exact r.eq x y
mutual
theorem hold_turn (r : Fall f) (v : Int) (h : List (Option Int)) : ∀ c : C, hold (f v) (mapH f h) (turnC c) = hold v h c
  | .tru => by unfold turnC; unfold hold; rfl
  | .fls => by unfold turnC; unfold hold; rfl
  | .less a b => by unfold turnC; unfold hold; rw [worth_map, worth_map, ltO_fall r]
  | .same a b => by unfold turnC; unfold hold; rw [worth_map, worth_map, eqO_fall r]
  | .emp a => by unfold turnC; unfold hold; rw [worth_map]; cases worth v h a <;> rfl
  | .nt c => by unfold turnC; unfold hold; rw [hold_turn r v h c]
  | .all cs => by unfold turnC; unfold hold; exact holdA_turn r v h cs
  | .any cs => by unfold turnC; unfold hold; exact holdE_turn r v h cs
theorem holdA_turn (r : Fall f) (v : Int) (h : List (Option Int)) : ∀ cs : List C, holdA (f v) (mapH f h) (turnCs cs) = holdA v h cs
  | [] => by unfold turnCs; unfold holdA; rfl
  | c :: cs => by unfold turnCs; rw [holdA_cons, holdA_cons, hold_turn r v h c, holdA_turn r v h cs]
theorem holdE_turn (r : Fall f) (v : Int) (h : List (Option Int)) : ∀ cs : List C, holdE (f v) (mapH f h) (turnCs cs) = holdE v h cs
  | [] => by unfold turnCs; unfold holdE; rfl
  | c :: cs => by unfold turnCs; rw [holdE_cons, holdE_cons, hold_turn r v h c, holdE_turn r v h cs]
end
theorem readM_turn (r : Fall f) (m : M) (st : Nat) (h : List (Option Int)) (e : Nat × Int) :
    readM (turnM m) st (mapH f h) (chL f e) = ((readM m st h e).1, mapH f (readM m st h e).2.1, (readM m st h e).2.2.map (chE f)) := by
  unfold readM
  rw [turnM_cases, List.find?_map]
  have ef : holdC (chL f e).2 (mapH f h) ∘ turnCase = holdC e.2 h := funext fun c => hold_turn r e.2 h c.cond
  rw [ef]
  show (match ((m.cases st e.1).find? (holdC e.2 h)).map turnCase with | none => _ | some c => _) = _
  cases (m.cases st e.1).find? (holdC e.2 h) with
  | none => rfl
  | some c =>
    show (c.nxt, keptC (f e.2) (mapH f h) (turnCase c), saidC (f e.2) (mapH f h) (turnCase c)) = _
    rw [saidC_map, keptC_map]
    rfl
theorem stepM_turn (r : Fall f) (m : M) (c : Ct) (e : Nat × Int) : stepM (turnM m) (mapC f c) (chL f e) = mapC f (stepM m c e) := by
  show ((readM (turnM m) c.1 (mapH f c.2) (chL f e)).1, (readM (turnM m) c.1 (mapH f c.2) (chL f e)).2.1) = _
  rw [readM_turn r]
  rfl
theorem answersM_turn (r : Fall f) (m : M) : ∀ (c : Ct) (es : List (Nat × Int)), answersM (turnM m) (mapC f c) (es.map (chL f)) = (answersM m c es).map (List.map (chE f))
  | c, [] => rfl
  | c, e :: es => by
    show (readM (turnM m) c.1 (mapH f c.2) (chL f e)).2.2 :: answersM (turnM m) (stepM (turnM m) (mapC f c) (chL f e)) (es.map (chL f)) = _ :: _
    rw [readM_turn r, stepM_turn r, answersM_turn r m _ es]
end
theorem encCase_turn (c : Case) : encCase (turnCase c) = .tup [encC (turnC c.cond), .tup (c.moves.map .int), .tup (c.says.map encSay), .int c.nxt] := rfl
theorem wipe_get (k : Nat) : ∀ (vs : List Nat) (σ : L2.St), (wipe σ vs)[k]? = if k ∈ vs then (σ[k]?).map (fun _ => none) else σ[k]?
  | [], σ => by
    rw [if_neg (by simp)]
    rfl
  | v :: vs, σ => by
    show ((wipe σ vs).set v none)[k]? = _
    rw [List.getElem?_set]
    have ih := wipe_get k vs σ
    by_cases h : v = k
    · subst h
      simp only [List.mem_cons, true_or, if_true, wipe_length]
      by_cases hl : v < σ.length
      · simp [hl]
      · simp [hl]
    · rw [if_neg h, ih]
      have : k ∈ v :: vs ↔ k ∈ vs := by simp; exact fun e => absurd e.symm h
      simp only [this]
theorem wipe_set {vs : List Nat} {σ : L2.St} {i : Nat} {x : Option V} (h : i ∈ vs) : wipe (σ.set i x) vs = wipe σ vs := by
  refine List.ext_getElem? fun k => ?_
  rw [wipe_get, wipe_get, List.getElem?_set]
  split
  · rename_i hk
    split
    · rename_i e
      subst e
      split
      · rename_i hl
        rw [List.getElem?_eq_getElem hl]
        rfl
      · rename_i hl
        rw [List.getElem?_eq_none (Nat.le_of_not_lt hl)]
    · rfl
  · rename_i hk
    rw [if_neg (fun e => hk (by rw [← e]; exact h))]
theorem wipe_wipe {vs : List Nat} {σ : L2.St} : wipe (wipe σ vs) vs = wipe σ vs := by
  refine List.ext_getElem? fun k => ?_
  rw [wipe_get, wipe_get]
  split
  · cases σ[k]? <;> rfl
  · rfl
theorem wipe4 {vs : List Nat} {σ : L2.St} {i j k l : Nat} {x y z u : Option V} (h1 : i ∈ vs) (h2 : j ∈ vs) (h3 : k ∈ vs) (h4 : l ∈ vs) : wipe (((((wipe σ vs).set i x).set j y).set k z).set l u) vs = wipe σ vs := by
  rw [wipe_set h4, wipe_set h3, wipe_set h2, wipe_set h1, wipe_wipe]
theorem Col.put' {K : PySem.W.Frag} {T ms : List Addr} {D : Addr} {H H1 H2 : Hp} {ds : List Dv.D} (c : Col K T ms D H H1 ds) (free : H D = none) (nD : D ∉ ms) (wd : Wd T H) (e : Ex T ms H1 H2) {x : V} {d : Dv.D} (hx : At K H2 x d) (hl : ds.length ≤ 100000) :
    ∃ acc, H2 D = some (.lst acc) ∧ acc.length < sizeLine ∧ Col K T ms D H (upd H2 D (.lst (acc ++ [x]))) (ds ++ [d]) := by
  obtain ⟨ex, xs, hD, ats⟩ := c
  have hD2 : H2 D = some (.lst xs) := e.lst nD hD
  have exw : Ex T [D] H2 (upd H2 D (.lst (xs ++ [x]))) := Ex.write (by simp) hD2
  exact ⟨xs, hD2, Nat.lt_of_le_of_lt (by rw [ats.length]; exact hl) (by decide), (ex.trans e).put free wd, xs ++ [x], upd_same, ((ats.ext e).append (Ats.mk hx Ats.mk_nil)).ext exw⟩
end Dv

/-! Whether a machine is right. -/
namespace Dv
open PySem PySem.Spec PyProof.Rows L2 GxR Gx
/-- a statement that is never come to -/
theorem ps_dead {X : Cx} {st : Stmt} : PS X st (fun _ _ _ => False) := ⟨fun _ _ _ _ _ _ h => h.elim⟩
def plI (r p : Int) : Bool := decide (-1 ≤ p) && decide (p < r)
mutual
def plB (r : Int) : C → Bool
  | .tru => true
  | .fls => true
  | .less a b => plI r a && plI r b
  | .same a b => plI r a && plI r b
  | .emp a => plI r a
  | .nt c => plB r c
  | .all cs => plBs r cs
  | .any cs => plBs r cs
def plBs (r : Int) : List C → Bool
  | [] => true
  | c :: cs => plB r c && plBs r cs
end
theorem plBs_cons (r : Int) (c : C) (cs : List C) : plBs r (c :: cs) = (plB r c && plBs r cs) := by conv => lhs; unfold plBs

mutual
def dpC : Nat → C → Prop
  | 0, .nt _ => False
  | n + 1, .nt c => dpC n c
  | 0, .all _ => False
  | n + 1, .all cs => cs.length ≤ 100000 ∧ dpCs n cs
  | 0, .any _ => False
  | n + 1, .any cs => cs.length ≤ 100000 ∧ dpCs n cs
  | _, _ => True
def dpCs : Nat → List C → Prop
  | _, [] => True
  | n, c :: cs => dpC n c ∧ dpCs n cs
end
theorem dpCs_get {n : Nat} : ∀ {cs : List C} {i : Nat} {c : C}, dpCs n cs → cs[i]? = some c → dpC n c
  | [], i, c, h, e => by simp at e
  | c' :: cs, 0, c, h, e => by
    unfold dpCs at h
    obtain rfl : c' = c := by simpa using e
    exact h.1
  | c' :: cs, i + 1, c, h, e => by
    unfold dpCs at h
    exact dpCs_get h.2 (by simpa using e)
theorem pl_of {r : Nat} {p : Int} (h : plOk r p) : plI r p = true := by
  unfold plOk at h
  unfold plI
  rw [decide_eq_true h.1, decide_eq_true h.2]
  rfl
mutual
theorem okC_dp {r : Nat} : ∀ {n : Nat} {c : C}, okC r n c → dpC n c ∧ plB r c = true
  | n, .tru, h => by unfold dpC plB; cases n <;> exact ⟨trivial, rfl⟩
  | n, .fls, h => by unfold dpC plB; cases n <;> exact ⟨trivial, rfl⟩
  | n, .less a b, h => by unfold dpC plB; unfold okC at h; rw [pl_of h.1, pl_of h.2]; cases n <;> exact ⟨trivial, rfl⟩
  | n, .same a b, h => by unfold dpC plB; unfold okC at h; rw [pl_of h.1, pl_of h.2]; cases n <;> exact ⟨trivial, rfl⟩
  | n, .emp a, h => by unfold dpC plB; unfold okC at h; rw [pl_of h]; cases n <;> exact ⟨trivial, rfl⟩
  | 0, .nt c, h => by unfold okC at h; exact h.elim
  | n + 1, .nt c, h => by unfold dpC plB; unfold okC at h; exact okC_dp h
  | 0, .all cs, h => by unfold okC at h; exact h.elim
  | n + 1, .all cs, h => by unfold dpC plB; unfold okC at h; have r := okCs_dp h.2; exact ⟨⟨h.1, r.1⟩, r.2⟩
  | 0, .any cs, h => by unfold okC at h; exact h.elim
  | n + 1, .any cs, h => by unfold dpC plB; unfold okC at h; have r := okCs_dp h.2; exact ⟨⟨h.1, r.1⟩, r.2⟩
theorem okCs_dp {r : Nat} : ∀ {n : Nat} {cs : List C}, okCs r n cs → dpCs n cs ∧ plBs r cs = true
  | n, [], h => by unfold dpCs plBs; exact ⟨trivial, rfl⟩
  | n, c :: cs, h => by
    unfold okCs at h
    have r1 := okC_dp h.1
    have r2 := okCs_dp h.2
    rw [plBs_cons, r1.2, r2.2]
    unfold dpCs
    exact ⟨⟨r1.1, r2.1⟩, rfl⟩
end
/-- a condition is an atom, or not, all, any -/
theorem shapeC (r : Int) (c : C) : (∃ (wo : Str) (ps : List Int), encC c = .tup (.str wo :: ps.map .int) ∧ wo ≠ "not" ∧ inV (V.str wo) [V.str "all", V.str "any"] = false ∧ plB r c = ps.all (plI r) ∧ ps.length ≤ 2) ∨ (∃ d, c = .nt d) ∨ (∃ cs, c = .all cs) ∨ ∃ cs, c = .any cs := by
  cases c with
  | tru => exact .inl ⟨"true", [], by unfold encC; rfl, by decide +kernel, by decide +kernel, by unfold plB; rfl, by decide⟩
  | fls => exact .inl ⟨"false", [], by unfold encC; rfl, by decide +kernel, by decide +kernel, by unfold plB; rfl, by decide⟩
  | less a b => exact .inl ⟨"less", [a, b], by unfold encC; rfl, by decide +kernel, by decide +kernel, by unfold plB; simp, by simp⟩
  | same a b => exact .inl ⟨"same", [a, b], by unfold encC; rfl, by decide +kernel, by decide +kernel, by unfold plB; simp, by simp⟩
  | emp a => exact .inl ⟨"empty", [a], by unfold encC; rfl, by decide +kernel, by decide +kernel, by unfold plB; simp, by simp⟩
  | nt d => exact .inr (.inl ⟨d, rfl⟩)
  | all cs => exact .inr (.inr (.inl ⟨cs, rfl⟩))
  | any cs => exact .inr (.inr (.inr ⟨cs, rfl⟩))
theorem cut_drop2 {xs : List V} {av : Int} (h0 : 0 ≤ av) (h1 : av ≤ xs.length) : cutV xs (some av) none = xs.drop av.toNat := by
  obtain ⟨k, rfl⟩ := Int.eq_ofNat_of_zero_le h0
  have hk : k ≤ xs.length := by omega
  unfold cutV
  rw [HT.sIx_nat, HT.sIx_none, Int.toNat_natCast, Nat.min_eq_left hk, List.take_of_length_le (by rw [List.length_drop]; exact Nat.le_refl _)]
theorem slA_drop {K : PySem.W.Frag} {H : Hp} {T : List Addr} {Q : VK} {a : Addr} {xs : List V} {av : Int} (sq : SqT K H a xs) (h0 : 0 ≤ av) (h1 : av ≤ xs.length) (q : ∀ p H', SqT K H' p (xs.drop av.toNat) → Ex T [] H H' → Q (.ref p) H') : rSlA K (.ref a) (some av) none H Q := by
  refine ⟨a, xs, rfl, sq, fun hw => q a H ?_ Ex.refl, fun _ p np => q p _ (SqT.of ?_) (Ex.new np)⟩
  · obtain ⟨k, rfl⟩ := Int.eq_ofNat_of_zero_le h0
    have hk : k ≤ xs.length := by omega
    have := hw.1
    rw [HT.sIx_nat] at this
    have e : k = 0 := by omega
    subst e
    exact sq
  · rw [upd_same, cut_drop2 h0 h1]
end Dv

/-! Built machines. -/
namespace Dv
open PySem PySem.Spec PyProof.Rows L2 GxR Gx
theorem tup_new {K : PySem.W.Frag} {T : List Addr} {H : Hp} {xs : List V} {ds : List D} {Q : V → Hp → Prop} (hl : xs.length ≤ sizeLine) (r : Ats K H xs ds) (k : ∀ v H', At K H' v (.tup ds) → Ex T [] H H' → Q v H') :
    xs.length ≤ sizeLine ∧ ∀ p, H p = none → Q (.ref p) (upd H p (.tup xs)) := ⟨hl, fun p np => k _ _ (At.laid np r) (Ex.new np)⟩
theorem bd_near2 {n : Nat} {x b : Int} (h : x.natAbs ≤ b.natAbs + 100000) (g : Bd n b) (e : 20 ≤ n) : Bd (n + 1) x := by
  have p : 2 ^ 20 ≤ 2 ^ n := Nat.pow_le_pow_right (by decide) e
  have q : (2 : Nat) ^ 20 = 1048576 := by decide
  unfold Bd at *
  rw [Nat.pow_succ]
  generalize 2 ^ n = z at *
  omega
theorem answersM_rows (m : M) : ∀ (es : List (Nat × Int)) (st : Nat → Ct) (row : Nat → List (Int × Option Int)), (∀ k e, es[k]? = some e → readM m (st k).1 (st k).2 e = ((st (k + 1)).1, (st (k + 1)).2, row k)) →
    answersM m (st 0) es = (List.range es.length).map row
  | [], st, row, _ => rfl
  | e :: es, st, row, h => by
    have h0 := h 0 e rfl
    show (readM m (st 0).1 (st 0).2 e).2.2 :: answersM m (stepM m (st 0) e) es = _
    have e1 : stepM m (st 0) e = st 1 := by
      unfold stepM
      rw [h0]
    rw [e1, answersM_rows m es (fun k => st (k + 1)) (fun k => row (k + 1)) (fun k e' he => h (k + 1) e' (by simpa using he)), h0, List.length_cons, List.range_succ_eq_map, List.map_cons, List.map_map]
    rfl
theorem last_at {xs : List Int} (h : xs ≠ []) : atI (xs.map V.int) (-1) = some (.int (xs.getLast h)) := by
  have e : xs.map V.int = xs.dropLast.map V.int ++ [.int (xs.getLast h)] := by
    conv => lhs; rw [← List.dropLast_concat_getLast h]
    rw [List.map_append]
    rfl
  rw [e]
  exact atI_last _ _
def asLog (xs : List Int) : List (Nat × Int) := xs.map fun x => (0, x)
theorem asLog_get {xs : List Int} {k : Nat} {e : Nat × Int} (h : (asLog xs)[k]? = some e) : e = (0, xs.getD k 0) ∧ k < xs.length := by
  unfold asLog at h
  rw [List.getElem?_map] at h
  cases g : xs[k]? with
  | none => rw [g] at h; cases h
  | some x =>
    rw [g] at h
    cases h
    refine ⟨?_, (List.getElem?_eq_some_iff.mp g).1⟩
    rw [List.getD_eq_getElem?_getD, g]
    rfl
theorem asLog_len (xs : List Int) : (asLog xs).length = xs.length := List.length_map ..
theorem take_all {xs : List Int} {k : Nat} (h : k < xs.length) (p : Int → Bool) : (xs.take (k + 1)).all p = ((xs.take k).all p && p (xs.getD k 0)) := by
  rw [List.take_add_one, List.getElem?_eq_getElem h, List.all_append, List.getD_eq_getElem?_getD, List.getElem?_eq_getElem h]
  simp
mutual
def tuD : Nat → D → Prop
  | _, .int _ => True
  | _, .str _ => True
  | n + 1, .tup ds => ds.length ≤ 100000 ∧ tuDs n ds
  | _, _ => False
def tuDs : Nat → List D → Prop
  | _, [] => True
  | n, d :: ds => tuD n d ∧ tuDs n ds
end
theorem tuDs_get {n : Nat} : ∀ {ds : List D} {i : Nat} {d : D}, tuDs n ds → ds[i]? = some d → tuD n d
  | [], i, d, h, e => by simp at e
  | d' :: ds, 0, d, h, e => by
    unfold tuDs at h
    obtain rfl : d' = d := by simpa using e
    exact h.1
  | d' :: ds, i + 1, d, h, e => by
    unfold tuDs at h
    exact tuDs_get h.2 (by simpa using e)
theorem eqvAll_ints : ∀ xs ys : List Int, PyData.eqvAll (toPys (xs.map D.int)) (toPys (ys.map D.int)) = decide (xs = ys)
  | [], [] => by unfold toPys PyData.eqvAll; rfl
  | [], y :: ys => by rw [List.map_nil, List.map_cons]; unfold toPys PyData.eqvAll; rw [decide_eq_false (by simp)]
  | x :: xs, [] => by rw [List.map_nil, List.map_cons]; unfold toPys PyData.eqvAll; rw [decide_eq_false (by simp)]
  | x :: xs, y :: ys => by
    rw [List.map_cons, List.map_cons]
    unfold toPys PyData.eqvAll
    rw [eqvAll_ints xs ys]
    unfold toPy PyData.eqv
    by_cases h : x = y
    · subst h
      simp
    · simp [h]
theorem neD_ints {K : PySem.W.Frag} {H : Hp} {a b : Addr} {xs ys : List Int} {Q : VK} (h1 : SqL K H a (xs.map V.int)) (h2 : SqL K H b (ys.map V.int)) (q : Q (.bl (!decide (xs = ys))) H) : rNeD K (.ref a) (.ref b) H Q := by
  have sh : ∀ zs : List Int, SeqAt.shaped (.list (toPys (zs.map D.int))) = true := fun zs => by
    have z := plDs_lay (plDs_map (n := 0) (f := D.int) (l := zs) fun _ _ => plD_int)
    unfold SeqAt.shaped
    have e1 : (PyData.list (toPys (zs.map D.int))).canLay0 = true := by unfold PyData.canLay0; exact z.1
    have e2 : (PyData.list (toPys (zs.map D.int))).depth ≤ 64 := by unfold PyData.depth; omega
    rw [e1, decide_eq_true e2]
    rfl
  refine ⟨_, _, .lst h1 (ats_int.mpr rfl : Ats K H _ (xs.map D.int)).dp, .lst h2 (ats_int.mpr rfl : Ats K H _ (ys.map D.int)).dp, sh xs, sh ys, ?_⟩
  show Q (.bl (!PyData.eqvAll _ _)) H
  rw [eqvAll_ints]
  exact q
theorem rep_bool {K : PySem.W.Frag} {H : Hp} {T : List Addr} {Q : VK} {x : V} {ds : List D} {b : Bool} (hx : At K H x (.tup ds)) (hne : ds ≠ []) (hl : ds.length ≤ 1000) (q : ∀ v H', At K H' v (.tup (if b = true then ds else [])) → Ex T [] H H' → Q v H') :
    Tm.rRepN K x (.int (if b = true then 1 else 0)) H Q := by
  obtain ⟨a, xs, rfl, sq, ats⟩ := at_tup.mp hx
  have l := ats.length
  refine ⟨a, _, xs, rfl, rfl, sq, fun e => hne (by subst e; cases ds with | nil => rfl | cons => simp at l), by split <;> decide, by split <;> decide, by omega, fun p H' hH sq' => ?_⟩
  have ex : Ex T [] H H' := by
    rcases hH with rfl | ⟨n, rfl⟩
    · exact Ex.refl
    · exact Ex.new n
  refine q _ _ (at_tup.mpr ⟨p, _, rfl, sq', ?_⟩) ex
  cases b with
  | true =>
    show Ats K H' (List.replicate (1 : Int).toNat xs).flatten ds
    have e : (List.replicate (1 : Int).toNat xs).flatten = xs := by show (xs ++ []) = xs; rw [List.append_nil]
    rw [e]
    exact ats.ext ex
  | false => exact Ats.mk_nil
/-! records -/
def recM : M := ⟨1, 1, [[[⟨.any [.emp 0, .less 0 (-1)], [-1], [(0, -1)], 0⟩]]]⟩
theorem recM_ok : okM 3 recM := by
  refine ⟨by decide, by decide, by decide, by decide, by decide, fun s hs => ?_, fun s hs cs hcs => ?_⟩
  · obtain rfl := List.mem_singleton.mp hs; rfl
  · obtain rfl := List.mem_singleton.mp hs
    obtain rfl := List.mem_singleton.mp hcs
    refine ⟨by decide, fun c hc => ?_⟩
    obtain rfl := List.mem_singleton.mp hc
    refine ⟨by show okC 1 3 (.any [.emp 0, .less 0 (-1)]); simp [okC, okCs, plOk], rfl, fun s hs => ?_, fun s hs => ?_, by decide, by decide⟩
    · obtain rfl := List.mem_singleton.mp hs; decide
    · obtain rfl := List.mem_singleton.mp hs; decide
theorem recM_read (o : Option Int) (x : Int) : readM recM 0 [o] (0, x) = if (o.isNone || ltO o (some x)) = true then (0, [some x], [(0, some x)]) else (0, [o], []) := by
  have e : M.cases recM 0 0 = [⟨.any [.emp 0, .less 0 (-1)], [-1], [(0, -1)], 0⟩] := rfl
  have w0 : worth x [o] 0 = o := rfl
  have hh : hold x [o] (.any [.emp 0, .less 0 (-1)]) = (o.isNone || ltO o (some x)) := by
    unfold hold
    rw [holdE_cons, holdE_cons]
    unfold hold holdE
    rw [w0, worth_new, Bool.or_false]
  have e1 : (readM recM 0 [o] (0, x)) = (match (M.cases recM 0 0).find? (holdC x [o]) with | none => (0, [o], []) | some c => (c.nxt, keptC x [o] c, saidC x [o] c)) := rfl
  rw [e1, e]
  cases hb : (o.isNone || ltO o (some x)) with
  | true =>
    rw [List.find?_cons_of_pos (by unfold holdC; rw [hh, hb]), if_pos rfl]
    rfl
  | false =>
    rw [List.find?_cons_of_neg (by unfold holdC; rw [hh, hb]; exact Bool.false_ne_true), if_neg Bool.false_ne_true]
    rfl
def recF (o : Option Int) (z : Int) : Bool := o.isNone || ltO o (some z)
def recStep (o : Option Int) (x : Int) : Option Int := if recF o x = true then some x else o
theorem recF_step (o : Option Int) (x z : Int) : recF (recStep o x) z = (recF o z && decide (x < z)) := by
  cases o with
  | none => rfl
  | some m =>
    unfold recStep
    show recF (if decide (m < x) = true then some x else some m) z = (decide (m < z) && decide (x < z))
    by_cases c : m < x
    · rw [if_pos (decide_eq_true c)]
      show decide (x < z) = _
      by_cases d : x < z
      · rw [decide_eq_true d, decide_eq_true (by omega : m < z)]; rfl
      · rw [decide_eq_false d, Bool.and_false]
    · rw [if_neg (by rw [decide_eq_false c]; exact Bool.false_ne_true)]
      show decide (m < z) = _
      by_cases d : m < z
      · rw [decide_eq_true d, decide_eq_true (by omega : x < z)]; rfl
      · rw [decide_eq_false d, Bool.false_and]
def recO (xs : List Int) : Nat → Option Int
  | 0 => none
  | k + 1 => recStep (recO xs k) (xs.getD k 0)
def recRow (xs : List Int) (k : Nat) : List (Int × Option Int) := if (xs.take k).all (fun y => decide (y < xs.getD k 0)) = true then [(0, some (xs.getD k 0))] else []
theorem recO_all (xs : List Int) (z : Int) : ∀ k, k ≤ xs.length → (xs.take k).all (fun y => decide (y < z)) = recF (recO xs k) z
  | 0, _ => rfl
  | k + 1, h => by
    rw [take_all (by omega), recO_all xs z k (by omega)]
    exact (recF_step _ _ _).symm
def recDue (xs : List Int) : List (List (Int × Option Int)) := (List.range xs.length).map (recRow xs)
theorem rec_due (xs : List Int) : answersM recM (0, [none]) (asLog xs) = recDue xs := by
  have h := answersM_rows recM (asLog xs) (fun k => (0, [recO xs k])) (recRow xs) fun k e he => by
    obtain ⟨rfl, hk⟩ := asLog_get he
    show readM recM 0 [recO xs k] (0, xs.getD k 0) = _
    rw [recM_read]
    show (if recF (recO xs k) (xs.getD k 0) = true then _ else _) = (0, [recStep (recO xs k) (xs.getD k 0)], recRow xs k)
    unfold recStep recRow
    rw [recO_all xs _ k (by omega)]
    cases recF (recO xs k) (xs.getD k 0) <;> rfl
  rw [asLog_len] at h
  exact h
/-! band -/
def bandM : M := ⟨1, 2, [[[⟨.emp 0, [-1, -1], [(0, -1), (1, -1)], 0⟩, ⟨.less (-1) 0, [-1, 1], [(0, -1), (1, 1)], 0⟩, ⟨.less 1 (-1), [0, -1], [(0, 0), (1, -1)], 0⟩]]]⟩
def turnsM : M := ⟨1, 2, [[[⟨.all [.less 0 1, .less (-1) 1], [1, -1], [(0, 1)], 0⟩, ⟨.all [.less 1 0, .less 1 (-1)], [1, -1], [(1, 1)], 0⟩, ⟨.tru, [1, -1], [], 0⟩]]]⟩
def runsM : M := ⟨1, 2, [[[⟨.emp 0, [-1, -1], [], 0⟩, ⟨.less 1 (-1), [0, -1], [], 0⟩, ⟨.tru, [-1, -1], [(0, 0)], 0⟩]]]⟩
/-- one standing, one tag -/
theorem ok_one {r : Nat} {cs : List Case} (hr : r ≤ 1000) (hl : cs.length ≤ 1000) (h : ∀ c ∈ cs, okCase r 1 3 c) : okM 3 ⟨1, r, [[cs]]⟩ := by
  refine ⟨by show 1 ≤ 1; decide, by show 1 ≤ 1000; decide, hr, by show 0 < 1; decide, by show 1 ≤ 1000; decide, fun s hs => ?_, fun s hs ds hds => ?_⟩
  · obtain rfl := List.mem_singleton.mp hs; rfl
  · obtain rfl := List.mem_singleton.mp hs
    obtain rfl := List.mem_singleton.mp hds
    exact ⟨hl, h⟩
theorem ok_case {r : Nat} {c : C} {mv : List Int} {sy : List (Int × Int)} (h1 : okC r 3 c) (h2 : mv.length = r) (h3 : ∀ s ∈ mv, -2 ≤ s ∧ s < r) (h4 : ∀ p ∈ sy, 0 ≤ p.1 ∧ -2 ≤ p.2 ∧ p.2 < r) (h5 : sy.length ≤ 1000) : okCase r 1 3 ⟨c, mv, sy, 0⟩ :=
  ⟨h1, h2, h3, h4, h5, by show 0 < 1; decide⟩
theorem bandM_ok : okM 3 bandM := ok_one (by decide) (by decide) fun c hc => by
  simp only [List.mem_cons, List.not_mem_nil, or_false] at hc
  rcases hc with rfl | rfl | rfl <;> exact ok_case (by simp [okC, okCs, plOk]) rfl (by decide) (by decide) (by decide)
theorem turnsM_ok : okM 3 turnsM := ok_one (by decide) (by decide) fun c hc => by
  simp only [List.mem_cons, List.not_mem_nil, or_false] at hc
  rcases hc with rfl | rfl | rfl <;> exact ok_case (by simp [okC, okCs, plOk]) rfl (by decide) (by decide) (by decide)
theorem runsM_ok : okM 3 runsM := ok_one (by decide) (by decide) fun c hc => by
  simp only [List.mem_cons, List.not_mem_nil, or_false] at hc
  rcases hc with rfl | rfl | rfl <;> exact ok_case (by simp [okC, okCs, plOk]) rfl (by decide) (by decide) (by decide)
/-- the first case that holds, of one standing -/
theorem read_one (r : Nat) (cs : List Case) (h : List (Option Int)) (x : Int) : readM ⟨1, r, [[cs]]⟩ 0 h (0, x) = (match cs.find? (holdC x h) with | none => (0, h, []) | some c => (c.nxt, keptC x h c, saidC x h c)) := rfl
theorem find3 {α : Type} (p : α → Bool) (a b c : α) : [a, b, c].find? p = if p a = true then some a else if p b = true then some b else if p c = true then some c else none := by
  cases h1 : p a <;> cases h2 : p b <;> cases h3 : p c <;> simp [h1, h2, h3]
theorem band_read0 (x : Int) : readM bandM 0 [none, none] (0, x) = (0, [some x, some x], [(0, some x), (1, some x)]) := by
  have e := read_one 2 [⟨.emp 0, [-1, -1], [(0, -1), (1, -1)], 0⟩, ⟨.less (-1) 0, [-1, 1], [(0, -1), (1, 1)], 0⟩, ⟨.less 1 (-1), [0, -1], [(0, 0), (1, -1)], 0⟩] [none, none] x
  have h1 : holdC x [none, none] ⟨.emp 0, [-1, -1], [(0, -1), (1, -1)], 0⟩ = true := by unfold holdC hold; rfl
  rw [find3, if_pos h1] at e
  exact e
theorem band_read (l h x : Int) : readM bandM 0 [some l, some h] (0, x) = if x < l then (0, [some x, some h], [(0, some x), (1, some h)]) else if h < x then (0, [some l, some x], [(0, some l), (1, some x)]) else (0, [some l, some h], []) := by
  have e := read_one 2 [⟨.emp 0, [-1, -1], [(0, -1), (1, -1)], 0⟩, ⟨.less (-1) 0, [-1, 1], [(0, -1), (1, 1)], 0⟩, ⟨.less 1 (-1), [0, -1], [(0, 0), (1, -1)], 0⟩] [some l, some h] x
  have h1 : holdC x [some l, some h] ⟨.emp 0, [-1, -1], [(0, -1), (1, -1)], 0⟩ = false := by unfold holdC hold; rfl
  have h2 : holdC x [some l, some h] ⟨.less (-1) 0, [-1, 1], [(0, -1), (1, 1)], 0⟩ = decide (x < l) := by unfold holdC hold; rfl
  have h3 : holdC x [some l, some h] ⟨.less 1 (-1), [0, -1], [(0, 0), (1, -1)], 0⟩ = decide (h < x) := by unfold holdC hold; rfl
  rw [find3, h1, h2, h3, if_neg Bool.false_ne_true] at e
  by_cases c : x < l
  · rw [if_pos c]
    rw [decide_eq_true c, if_pos rfl] at e
    exact e
  · rw [if_neg c]
    rw [decide_eq_false c, if_neg Bool.false_ne_true] at e
    by_cases d : h < x
    · rw [if_pos d]
      rw [decide_eq_true d, if_pos rfl] at e
      exact e
    · rw [if_neg d]
      rw [decide_eq_false d, if_neg Bool.false_ne_true] at e
      exact e
def bandStep (o : Option (Int × Int)) (x : Int) : Option (Int × Int) :=
  match o with
  | none => some (x, x)
  | some (l, h) => if x < l then some (x, h) else if h < x then some (l, x) else some (l, h)
def bandO (xs : List Int) : Nat → Option (Int × Int)
  | 0 => none
  | k + 1 => bandStep (bandO xs k) (xs.getD k 0)
def bandSay (o : Option (Int × Int)) : List (Int × Option Int) :=
  match o with
  | none => []
  | some (l, h) => [(0, some l), (1, some h)]
def bandRow (xs : List Int) (k : Nat) : List (Int × Option Int) := if bandO xs (k + 1) = bandO xs k then [] else bandSay (bandO xs (k + 1))
def bandDue (xs : List Int) : List (List (Int × Option Int)) := (List.range xs.length).map (bandRow xs)
def bandHeld (o : Option (Int × Int)) : List (Option Int) :=
  match o with
  | none => [none, none]
  | some (l, h) => [some l, some h]
theorem band_step (o : Option (Int × Int)) (x : Int) : readM bandM 0 (bandHeld o) (0, x) = (0, bandHeld (bandStep o x), if bandStep o x = o then [] else bandSay (bandStep o x)) := by
  cases o with
  | none => exact band_read0 x
  | some p =>
    obtain ⟨l, h⟩ := p
    show readM bandM 0 [some l, some h] (0, x) = _
    rw [band_read]
    unfold bandStep
    show _ = (0, bandHeld (if x < l then some (x, h) else if h < x then some (l, x) else some (l, h)), if (if x < l then some (x, h) else if h < x then some (l, x) else some (l, h)) = some (l, h) then [] else bandSay (if x < l then some (x, h) else if h < x then some (l, x) else some (l, h)))
    by_cases c : x < l
    · rw [if_pos c, if_pos c, if_neg (by simp; omega)]
      rfl
    · rw [if_neg c, if_neg c]
      by_cases d : h < x
      · rw [if_pos d, if_pos d, if_neg (by simp; omega)]
        rfl
      · rw [if_neg d, if_neg d, if_pos rfl]
        rfl
theorem band_due (xs : List Int) : answersM bandM (0, [none, none]) (asLog xs) = bandDue xs := by
  have h := answersM_rows bandM (asLog xs) (fun k => (0, bandHeld (bandO xs k))) (bandRow xs) fun k e he => by
    obtain ⟨rfl, hk⟩ := asLog_get he
    exact band_step _ _
  rw [asLog_len] at h
  exact h
/-- the least and the greatest of the first k -/
theorem bandO_spec (xs : List Int) : ∀ k, 0 < k → k ≤ xs.length → ∃ l h, bandO xs k = some (l, h) ∧ l ∈ xs.take k ∧ h ∈ xs.take k ∧ ∀ y ∈ xs.take k, l ≤ y ∧ y ≤ h
  | 0, h0, _ => by omega
  | k + 1, _, hk => by
    have et : xs.take (k + 1) = xs.take k ++ [xs.getD k 0] := by
      rw [List.take_add_one, List.getD_eq_getElem?_getD, List.getElem?_eq_getElem (by omega : k < xs.length)]
      rfl
    rw [et]
    generalize hx : xs.getD k 0 = x
    show ∃ l h, bandStep (bandO xs k) (xs.getD k 0) = some (l, h) ∧ _
    rw [hx]
    by_cases h0 : k = 0
    · subst h0
      refine ⟨x, x, rfl, by simp, by simp, fun y hy => ?_⟩
      simp at hy
      omega
    · obtain ⟨l, h, e, hl, hh, ha⟩ := bandO_spec xs k (by omega) (by omega)
      have lh := (ha l hl).2
      rw [e]
      unfold bandStep
      show ∃ l' h', (if x < l then some (x, h) else if h < x then some (l, x) else some (l, h)) = some (l', h') ∧ _
      by_cases c : x < l
      · rw [if_pos c]
        refine ⟨x, h, rfl, by simp, by simp [hh], fun y hy => ?_⟩
        rcases List.mem_append.mp hy with hy | hy
        · have := ha y hy; omega
        · obtain rfl := List.mem_singleton.mp hy; omega
      · rw [if_neg c]
        by_cases d : h < x
        · rw [if_pos d]
          refine ⟨l, x, rfl, by simp [hl], by simp, fun y hy => ?_⟩
          rcases List.mem_append.mp hy with hy | hy
          · have := ha y hy; omega
          · obtain rfl := List.mem_singleton.mp hy; omega
        · rw [if_neg d]
          refine ⟨l, h, rfl, by simp [hl], by simp [hh], fun y hy => ?_⟩
          rcases List.mem_append.mp hy with hy | hy
          · exact ha y hy
          · obtain rfl := List.mem_singleton.mp hy; omega
/-! turning points -/
theorem turns_read (a b : Option Int) (x : Int) : readM turnsM 0 [a, b] (0, x) = (0, [b, some x], if (ltO a b && ltO (some x) b) = true then [(0, b)] else if (ltO b a && ltO b (some x)) = true then [(1, b)] else []) := by
  have e := read_one 2 [⟨.all [.less 0 1, .less (-1) 1], [1, -1], [(0, 1)], 0⟩, ⟨.all [.less 1 0, .less 1 (-1)], [1, -1], [(1, 1)], 0⟩, ⟨.tru, [1, -1], [], 0⟩] [a, b] x
  have h1 : holdC x [a, b] ⟨.all [.less 0 1, .less (-1) 1], [1, -1], [(0, 1)], 0⟩ = (ltO a b && ltO (some x) b) := by
    unfold holdC hold
    rw [holdA_cons, holdA_cons]
    unfold hold holdA
    rw [Bool.and_true]
    rfl
  have h2 : holdC x [a, b] ⟨.all [.less 1 0, .less 1 (-1)], [1, -1], [(1, 1)], 0⟩ = (ltO b a && ltO b (some x)) := by
    unfold holdC hold
    rw [holdA_cons, holdA_cons]
    unfold hold holdA
    rw [Bool.and_true]
    rfl
  have h3 : holdC x [a, b] ⟨.tru, [1, -1], [], 0⟩ = true := by unfold holdC hold; rfl
  rw [find3, h1, h2, h3] at e
  refine e.trans ?_
  cases (ltO a b && ltO (some x) b) <;> cases (ltO b a && ltO b (some x)) <;> rfl
def turnsO (xs : List Int) : Nat → List (Option Int)
  | 0 => [none, none]
  | 1 => [none, some (xs.getD 0 0)]
  | k + 2 => [some (xs.getD k 0), some (xs.getD (k + 1) 0)]
def turnsRow (xs : List Int) (k : Nat) : List (Int × Option Int) :=
  if k < 2 then [] else if xs.getD (k - 2) 0 < xs.getD (k - 1) 0 ∧ xs.getD k 0 < xs.getD (k - 1) 0 then [(0, some (xs.getD (k - 1) 0))]
  else if xs.getD (k - 1) 0 < xs.getD (k - 2) 0 ∧ xs.getD (k - 1) 0 < xs.getD k 0 then [(1, some (xs.getD (k - 1) 0))] else []
def turnsDue (xs : List Int) : List (List (Int × Option Int)) := (List.range xs.length).map (turnsRow xs)
theorem turns_due (xs : List Int) : answersM turnsM (0, [none, none]) (asLog xs) = turnsDue xs := by
  have h := answersM_rows turnsM (asLog xs) (fun k => (0, turnsO xs k)) (turnsRow xs) fun k e he => by
    obtain ⟨rfl, hk⟩ := asLog_get he
    match k with
    | 0 => exact turns_read none none _
    | 1 => exact turns_read none (some _) _
    | k + 2 =>
      show readM turnsM 0 [some (xs.getD k 0), some (xs.getD (k + 1) 0)] (0, xs.getD (k + 2) 0) = (0, [some (xs.getD (k + 1) 0), some (xs.getD (k + 2) 0)], turnsRow xs (k + 2))
      rw [turns_read]
      unfold turnsRow
      rw [if_neg (show ¬ k + 2 < 2 by omega)]
      show (0, _, (if (decide (xs.getD k 0 < xs.getD (k + 1) 0) && decide (xs.getD (k + 2) 0 < xs.getD (k + 1) 0)) = true then _ else if (decide (xs.getD (k + 1) 0 < xs.getD k 0) && decide (xs.getD (k + 1) 0 < xs.getD (k + 2) 0)) = true then _ else _)) = (0, _, (if xs.getD k 0 < xs.getD (k + 1) 0 ∧ xs.getD (k + 2) 0 < xs.getD (k + 1) 0 then _ else if xs.getD (k + 1) 0 < xs.getD k 0 ∧ xs.getD (k + 1) 0 < xs.getD (k + 2) 0 then _ else _))
      simp only [Bool.and_eq_true, decide_eq_true_eq]
      rfl
  rw [asLog_len] at h
  exact h
/-! runs -/
theorem runs_read0 (x : Int) : readM runsM 0 [none, none] (0, x) = (0, [some x, some x], []) := by
  have e := read_one 2 [⟨.emp 0, [-1, -1], [], 0⟩, ⟨.less 1 (-1), [0, -1], [], 0⟩, ⟨.tru, [-1, -1], [(0, 0)], 0⟩] [none, none] x
  have h1 : holdC x [none, none] ⟨.emp 0, [-1, -1], [], 0⟩ = true := by unfold holdC hold; rfl
  rw [find3, if_pos h1] at e
  exact e
theorem runs_read (f p x : Int) : readM runsM 0 [some f, some p] (0, x) = if p < x then (0, [some f, some x], []) else (0, [some x, some x], [(0, some f)]) := by
  have e := read_one 2 [⟨.emp 0, [-1, -1], [], 0⟩, ⟨.less 1 (-1), [0, -1], [], 0⟩, ⟨.tru, [-1, -1], [(0, 0)], 0⟩] [some f, some p] x
  have h1 : holdC x [some f, some p] ⟨.emp 0, [-1, -1], [], 0⟩ = false := by unfold holdC hold; rfl
  have h2 : holdC x [some f, some p] ⟨.less 1 (-1), [0, -1], [], 0⟩ = decide (p < x) := by unfold holdC hold; rfl
  have h3 : holdC x [some f, some p] ⟨.tru, [-1, -1], [(0, 0)], 0⟩ = true := by unfold holdC hold; rfl
  rw [find3, h1, h2, h3, if_neg Bool.false_ne_true] at e
  by_cases c : p < x
  · rw [if_pos c]
    rw [decide_eq_true c, if_pos rfl] at e
    exact e
  · rw [if_neg c]
    rw [decide_eq_false c, if_neg Bool.false_ne_true, if_pos rfl] at e
    exact e
def firstI (xs : List Int) : Nat → Nat
  | 0 => 0
  | k + 1 => if 0 < k ∧ xs.getD k 0 ≤ xs.getD (k - 1) 0 then k else firstI xs k
def runsRow (xs : List Int) (k : Nat) : List (Int × Option Int) := if 0 < k ∧ xs.getD k 0 ≤ xs.getD (k - 1) 0 then [(0, some (xs.getD (firstI xs k) 0))] else []
def runsDue (xs : List Int) : List (List (Int × Option Int)) := (List.range xs.length).map (runsRow xs)
def runsO (xs : List Int) : Nat → List (Option Int)
  | 0 => [none, none]
  | k + 1 => [some (xs.getD (firstI xs (k + 1)) 0), some (xs.getD k 0)]
theorem firstI_lt (xs : List Int) : ∀ k, firstI xs k ≤ k
  | 0 => Nat.le_refl _
  | k + 1 => by
    unfold firstI
    have := firstI_lt xs k
    split <;> omega
theorem runs_due (xs : List Int) : answersM runsM (0, [none, none]) (asLog xs) = runsDue xs := by
  have h := answersM_rows runsM (asLog xs) (fun k => (0, runsO xs k)) (runsRow xs) fun k e he => by
    obtain ⟨rfl, hk⟩ := asLog_get he
    match k with
    | 0 => exact runs_read0 _
    | k + 1 =>
      show readM runsM 0 [some (xs.getD (firstI xs (k + 1)) 0), some (xs.getD k 0)] (0, xs.getD (k + 1) 0) = (0, [some (xs.getD (firstI xs (k + 2)) 0), some (xs.getD (k + 1) 0)], runsRow xs (k + 1))
      rw [runs_read]
      unfold runsRow
      have ef : firstI xs (k + 2) = if 0 < k + 1 ∧ xs.getD (k + 1) 0 ≤ xs.getD k 0 then k + 1 else firstI xs (k + 1) := rfl
      rw [ef]
      show _ = (0, _, if 0 < k + 1 ∧ xs.getD (k + 1) 0 ≤ xs.getD k 0 then [(0, some (xs.getD (firstI xs (k + 1)) 0))] else [])
      by_cases c : xs.getD k 0 < xs.getD (k + 1) 0
      · rw [if_pos c, if_neg (by omega), if_neg (by omega)]
      · rw [if_neg c, if_pos (by omega), if_pos (by omega)]
  rw [asLog_len] at h
  exact h
end Dv

/-! Tuples cut and joined; machines as data to any depth. -/
namespace Dv
open PySem PySem.Spec PyProof.Rows L2 GxR Gx
/-- how many cases there are at a place, at most -/
def wid (w : Nat) (m : M) : Prop := ∀ s ∈ m.steps, ∀ cs ∈ s, cs.length ≤ w
section
variable {K : PySem.W.Frag} {H : Hp} {T : List Addr} {Q : VK}
theorem slT_take {a : Addr} {xs : List V} {av : Int} (sq : SqT K H a xs) (h0 : 0 ≤ av) (h1 : av ≤ xs.length) (q : ∀ p H', SqT K H' p (xs.take av.toNat) → Ex T [] H H' → Q (.ref p) H') : rSlA K (.ref a) none (some av) H Q := by
  obtain ⟨k, rfl⟩ := Int.eq_ofNat_of_zero_le h0
  have hk : k ≤ xs.length := by omega
  refine ⟨a, xs, rfl, sq, fun hw => q a H ?_ Ex.refl, fun _ p np => q p _ (SqT.of ?_) (Ex.new np)⟩
  · have e : k = xs.length := by
      have := hw.2
      rw [HT.sIx_nat] at this
      omega
    rw [Int.toNat_natCast, e, List.take_length]
    exact sq
  · rw [upd_same]
    unfold cutV
    rw [HT.sIx_nat, HT.sIx_none, Int.toNat_natCast, List.drop_zero, Nat.min_eq_left hk]
    rfl
theorem catT_at {x y : V} {ds es : List D} (hx : At K H x (.tup ds)) (hy : At K H y (.tup es)) (hl : ds.length + es.length ≤ 1000000) (q : ∀ v H', At K H' v (.tup (ds ++ es)) → Ex T [] H H' → Q v H') : rCatA K x y H Q := by
  have hl' : ds.length + es.length ≤ sizeLine := Nat.le_trans hl (by decide)
  obtain ⟨a, xs, rfl, sa, ta⟩ := at_tup.mp hx
  obtain ⟨b, ys, rfl, sb, tb⟩ := at_tup.mp hy
  refine ⟨a, b, xs, ys, rfl, rfl, sa, sb, by rw [ta.length, tb.length]; exact hl', fun e => q _ _ ?_ Ex.refl, fun _ e => q _ _ ?_ Ex.refl, fun _ _ p np => q _ _ (At.laid np (ta.append tb)) (Ex.new np)⟩
  · subst e
    have := ta.length
    cases ds with
    | nil => exact hy
    | cons => simp at this
  · subst e
    have := tb.length
    cases es with
    | nil => rw [List.append_nil]; exact hx
    | cons => simp at this
theorem Ats.takeD : ∀ {xs : List V} {ds : List D} (k : Nat), Ats K H xs ds → Ats K H (xs.take k) (ds.take k)
  | xs, ds, 0, _ => by rw [List.take_zero, List.take_zero]; exact Ats.mk_nil
  | xs, [], k + 1, h => by rw [ats_nil.mp h, List.take_nil, List.take_nil]; exact Ats.mk_nil
  | xs, d :: ds, k + 1, h => by
    obtain ⟨x, r, rfl, q, t⟩ := ats_cons.mp h
    exact Ats.mk q (Ats.takeD k t)
theorem Ats.dropD : ∀ {xs : List V} {ds : List D} (k : Nat), Ats K H xs ds → Ats K H (xs.drop k) (ds.drop k)
  | xs, ds, 0, h => h
  | xs, [], k + 1, h => by rw [ats_nil.mp h, List.drop_nil, List.drop_nil]; exact Ats.mk_nil
  | xs, d :: ds, k + 1, h => by
    obtain ⟨x, r, rfl, q, t⟩ := ats_cons.mp h
    exact Ats.dropD k t
/-- t[k:], as data -/
theorem dropT_at {a : Addr} {ds : List D} {av : Int} (h : At K H (.ref a) (.tup ds)) (h0 : 0 ≤ av) (h1 : av ≤ ds.length) (q : ∀ v H', At K H' v (.tup (ds.drop av.toNat)) → Ex T [] H H' → Q v H') : rSlA K (.ref a) (some av) none H Q := by
  obtain ⟨_, xs, e, sq, ats⟩ := at_tup.mp h
  cases e
  exact slA_drop (T := T) sq h0 (by rw [ats.length]; exact h1) fun p H' sq' ex => q _ _ (at_tup.mpr ⟨p, _, rfl, sq', (ats.ext ex).dropD _⟩) ex
theorem takeT_at {a : Addr} {ds : List D} {av : Int} (h : At K H (.ref a) (.tup ds)) (h0 : 0 ≤ av) (h1 : av ≤ ds.length) (q : ∀ v H', At K H' v (.tup (ds.take av.toNat)) → Ex T [] H H' → Q v H') : rSlA K (.ref a) none (some av) H Q := by
  obtain ⟨_, xs, e, sq, ats⟩ := at_tup.mp h
  cases e
  exact slT_take (T := T) sq h0 (by rw [ats.length]; exact h1) fun p H' sq' ex => q _ _ (at_tup.mpr ⟨p, _, rfl, sq', (ats.ext ex).takeD _⟩) ex
end
theorem okCs_of {r n : Nat} : ∀ {cs : List C}, (∀ c ∈ cs, okC r n c) → okCs r n cs
  | [], _ => by unfold okCs; trivial
  | c :: cs, h => by unfold okCs; exact ⟨h c (by simp), okCs_of fun d hd => h d (by simp [hd])⟩
theorem okDi {n : Nat} {i : Int} : okD n (.int i) := by cases n <;> (unfold okD; trivial)
theorem okDst {n : Nat} {s : Str} : okD n (.str s) := by cases n <;> (unfold okD; trivial)
theorem okDm {α : Type} {f : α → D} {n : Nat} : ∀ {l : List α}, (∀ a ∈ l, okD n (f a)) → okDs n (l.map f)
  | [], _ => by rw [List.map_nil]; unfold okDs; trivial
  | a :: l, h => by
    rw [List.map_cons]
    unfold okDs
    exact ⟨h a (by simp), okDm fun b hb => h b (by simp [hb])⟩
theorem okDt {n : Nat} {ds : List D} (hl : ds.length ≤ 100000) (h : okDs n ds) : okD (n + 1) (.tup ds) := by unfold okD; exact ⟨hl, h⟩
theorem okDc {n : Nat} {d : D} {ds : List D} (h : okD n d) (t : okDs n ds) : okDs n (d :: ds) := by unfold okDs; exact ⟨h, t⟩
theorem okDn {n : Nat} : okDs n [] := by unfold okDs; trivial
mutual
theorem okD_succ' : ∀ {n : Nat} {d : D}, okD n d → okD (n + 1) d
  | n, .non, _ => by cases n <;> (unfold okD; trivial)
  | n, .bl _, _ => by cases n <;> (unfold okD; trivial)
  | n, .int _, _ => okDi
  | n, .str _, _ => okDst
  | 0, .tup ds, h => by unfold okD at h; exact h.elim
  | n + 1, .tup ds, h => by unfold okD at h; exact okDt h.1 (okDs_succ' h.2)
theorem okDs_succ' : ∀ {n : Nat} {ds : List D}, okDs n ds → okDs (n + 1) ds
  | n, [], _ => okDn
  | n, d :: ds, h => by unfold okDs at h; exact okDc (okD_succ' h.1) (okDs_succ' h.2)
end
mutual
theorem okD_encC {r : Nat} : ∀ {n : Nat} {c : C}, okC r n c → okD (2 * n + 2) (encC c)
  | n, .tru, _ => by unfold encC; exact okDt (by simp) (okDc okDst okDn)
  | n, .fls, _ => by unfold encC; exact okDt (by simp) (okDc okDst okDn)
  | n, .less a b, _ => by unfold encC; exact okDt (by simp) (okDc okDst (okDc okDi (okDc okDi okDn)))
  | n, .same a b, _ => by unfold encC; exact okDt (by simp) (okDc okDst (okDc okDi (okDc okDi okDn)))
  | n, .emp a, _ => by unfold encC; exact okDt (by simp) (okDc okDst (okDc okDi okDn))
  | 0, .nt c, h => by unfold okC at h; exact h.elim
  | n + 1, .nt c, h => by
    unfold okC at h
    unfold encC
    have : okD (2 * n + 2 + 1) (encC c) := okD_succ' (okD_encC h)
    exact okDt (by simp) (okDc okDst (okDc this okDn))
  | 0, .all cs, h => by unfold okC at h; exact h.elim
  | n + 1, .all cs, h => by
    unfold okC at h
    unfold encC
    exact okDt (by simp) (okDc okDst (okDc (okDt (by rw [encCs_length]; exact h.1) (okDs_encCs h.2)) okDn))
  | 0, .any cs, h => by unfold okC at h; exact h.elim
  | n + 1, .any cs, h => by
    unfold okC at h
    unfold encC
    exact okDt (by simp) (okDc okDst (okDc (okDt (by rw [encCs_length]; exact h.1) (okDs_encCs h.2)) okDn))
theorem okDs_encCs {r : Nat} : ∀ {n : Nat} {cs : List C}, okCs r n cs → okDs (2 * n + 2) (encCs cs)
  | n, [], _ => by unfold encCs; exact okDn
  | n, c :: cs, h => by
    unfold okCs at h
    unfold encCs
    exact okDc (okD_encC h.1) (okDs_encCs h.2)
end
theorem okD_encCase {r S n : Nat} {c : Case} (h : okCase r S n c) (hr : r ≤ 1000) : okD (2 * n + 3) (encCase c) := by
  refine okDt (by simp) (okDc (okD_encC h.cond) (okDc ?_ (okDc ?_ (okDc okDi okDn))))
  · exact okDt (by rw [List.length_map, h.mlen]; omega) (okDm fun _ _ => okDi)
  · refine okDt (by rw [List.length_map]; have := h.slen; omega) (okDm fun p _ => ?_)
    have : okD (2 * n + 1) (encSay p) := okDt (by simp) (okDc okDi (okDc okDi okDn))
    exact this
theorem okD_encM {n : Nat} {m : M} (h : okM n m) : okD (2 * n + 7) (Dv.encM m) := by
  have r := h.rmax
  refine okDt (by simp) (okDc okDi (okDc okDi (okDc ?_ okDn)))
  refine okDt (by rw [List.length_map]; have := h.smax; omega) (okDm fun s hs => ?_)
  refine okDt (by rw [List.length_map, h.all s hs]; have := h.tmax; omega) (okDm fun cs hcs => ?_)
  have hc := h.cases s hs cs hcs
  exact okDt (by rw [List.length_map]; omega) (okDm fun c hc' => okD_encCase (hc.2 c hc') r)
theorem okM_mono {n n' : Nat} {m : M} (h : okM n m) (l : n ≤ n') : okM n' m :=
  ⟨h.tags, h.tmax, h.rmax, h.some, h.smax, h.all, fun s hs cs hcs => ⟨(h.cases s hs cs hcs).1, fun c hc => let k := (h.cases s hs cs hcs).2 c hc; ⟨okC_mono k.cond l, k.mlen, k.mv, k.say, k.slen, k.nxt⟩⟩⟩
theorem turnM_turn (m : M) : turnM (turnM m) = m := by
  have e : (List.map (List.map turnCase)) ∘ (List.map (List.map turnCase)) = id := funext fun s => by
    show List.map (List.map turnCase) (List.map (List.map turnCase) s) = s
    rw [List.map_map]
    have e2 : (List.map turnCase) ∘ (List.map turnCase) = id := funext fun cs => by
      show List.map turnCase (List.map turnCase cs) = cs
      rw [List.map_map]
      have e3 : turnCase ∘ turnCase = id := funext fun c => by
        show ({ c with cond := turnC (turnC c.cond) } : Case) = c
        rw [turnC_turn]
      rw [e3, List.map_id]
    rw [e2, List.map_id]
  show ({ m with steps := (m.steps.map (List.map (List.map turnCase))).map (List.map (List.map turnCase)) } : M) = m
  rw [List.map_map, e, List.map_id]
end Dv

/-! Cases that are parted, and cases that never come. -/
namespace Dv
open PySem PySem.Spec PyProof.Rows L2 GxR Gx
abbrev Rest := List Int × List (Int × Int) × Nat
def restC (c : Case) : Rest := (c.moves, c.says, c.nxt)
def outC (v : Int) (h : List (Option Int)) (cs : List Case) : Option Rest := (cs.find? (holdC v h)).map restC
theorem outC_append (v : Int) (h : List (Option Int)) (a b : List Case) : outC v h (a ++ b) = (outC v h a).or (outC v h b) := by
  unfold outC
  rw [List.find?_append]
  cases a.find? (holdC v h) <;> rfl
theorem readM_out {m m' : M} {st : Nat} {h : List (Option Int)} {e : Nat × Int} (q : outC e.2 h (m.cases st e.1) = outC e.2 h (m'.cases st e.1)) : readM m st h e = readM m' st h e := by
  unfold outC at q
  unfold readM
  cases h1 : (m.cases st e.1).find? (holdC e.2 h) with
  | none =>
    rw [h1] at q
    cases h2 : (m'.cases st e.1).find? (holdC e.2 h) with
    | none => rfl
    | some d => rw [h2] at q; cases q
  | some c =>
    rw [h1] at q
    cases h2 : (m'.cases st e.1).find? (holdC e.2 h) with
    | none => rw [h2] at q; cases q
    | some d =>
      rw [h2] at q
      have r : restC c = restC d := Option.some.inj q
      obtain ⟨c1, c2, c3, c4⟩ := c
      obtain ⟨d1, d2, d3, d4⟩ := d
      unfold restC at r
      simp only [Prod.mk.injEq] at r
      obtain ⟨rfl, rfl, rfl⟩ := r
      rfl
/-- two machines with the same answers everywhere -/
structure SameM (m m' : M) : Prop where
  tags : m'.tags = m.tags
  regs : m'.regs = m.regs
  len : m'.steps.length = m.steps.length
  out : ∀ st t v h, outC v h (m'.cases st t) = outC v h (m.cases st t)
theorem SameM.read {m m' : M} (s : SameM m m') (st : Nat) (h : List (Option Int)) (e : Nat × Int) : readM m' st h e = readM m st h e := readM_out (s.out _ _ _ _)
theorem SameM.refl (m : M) : SameM m m := ⟨rfl, rfl, rfl, fun _ _ _ _ => rfl⟩
theorem SameM.trans {m m' m'' : M} (a : SameM m m') (b : SameM m' m'') : SameM m m'' := ⟨b.tags.trans a.tags, b.regs.trans a.regs, b.len.trans a.len, fun st t v h => (b.out st t v h).trans (a.out st t v h)⟩
theorem SameM.answers {m m' : M} (s : SameM m m') : ∀ (c : Ct) (es : List (Nat × Int)), answersM m' c es = answersM m c es
  | c, [] => rfl
  | c, e :: es => by
    show (readM m' c.1 c.2 e).2.2 :: answersM m' (stepM m' c e) es = (readM m c.1 c.2 e).2.2 :: answersM m (stepM m c e) es
    have e1 : stepM m' c e = stepM m c e := by unfold stepM; rw [s.read]
    rw [s.read, e1, s.answers _ es]
theorem SameM.okCt {m m' : M} (s : SameM m m') {c : Ct} (h : okCt m c) : okCt m' c := ⟨by rw [s.len]; exact h.st, by rw [s.regs]; exact h.len⟩
theorem hold_less (v : Int) (h : List (Option Int)) (a b : Int) : hold v h (.less a b) = ltO (worth v h a) (worth v h b) := by unfold hold; rfl
theorem hold_same (v : Int) (h : List (Option Int)) (a b : Int) : hold v h (.same a b) = eqO (worth v h a) (worth v h b) := by unfold hold; rfl
theorem hold_emp (v : Int) (h : List (Option Int)) (a : Int) : hold v h (.emp a) = (worth v h a).isNone := by unfold hold; rfl
theorem hold_nt (v : Int) (h : List (Option Int)) (c : C) : hold v h (.nt c) = !hold v h c := by conv => lhs; unfold hold
theorem hold_all (v : Int) (h : List (Option Int)) (cs : List C) : hold v h (.all cs) = holdA v h cs := by conv => lhs; unfold hold
theorem hold_any (v : Int) (h : List (Option Int)) (cs : List C) : hold v h (.any cs) = holdE v h cs := by conv => lhs; unfold hold
theorem holdA_nil (v : Int) (h : List (Option Int)) : holdA v h [] = true := by unfold holdA; rfl
theorem holdE_nil (v : Int) (h : List (Option Int)) : holdE v h [] = false := by unfold holdE; rfl
/-! the four parts -/
def partsC (a b : Int) : List C := [.less a b, .same a b, .less b a, .any [.emp a, .emp b]]
theorem parts_some (a b v : Int) (h : List (Option Int)) : ∃ p ∈ partsC a b, hold v h p = true := by
  unfold partsC
  cases ha : worth v h a with
  | none => exact ⟨.any [.emp a, .emp b], by simp, by rw [hold_any, holdE_cons, hold_emp, ha]; rfl⟩
  | some x =>
    cases hb : worth v h b with
    | none => exact ⟨.any [.emp a, .emp b], by simp, by rw [hold_any, holdE_cons, holdE_cons, hold_emp, hold_emp, hb]; simp⟩
    | some y =>
      rcases Int.lt_trichotomy x y with c | c | c
      · exact ⟨.less a b, by simp, by rw [hold_less, ha, hb]; exact decide_eq_true c⟩
      · exact ⟨.same a b, by simp, by rw [hold_same, ha, hb]; exact decide_eq_true c⟩
      · exact ⟨.less b a, by simp, by rw [hold_less, ha, hb]; exact decide_eq_true c⟩
def partCase (c : Case) (p : C) : Case := { c with cond := .all [c.cond, p] }
theorem hold_part (v : Int) (h : List (Option Int)) (c : Case) (p : C) : holdC v h (partCase c p) = (holdC v h c && hold v h p) := by
  show hold v h (.all [c.cond, p]) = (hold v h c.cond && hold v h p)
  rw [hold_all, holdA_cons, holdA_cons, holdA_nil, Bool.and_true]
theorem out_parted {c : Case} {a b : Int} {fs : List Case} (h1 : ∀ f ∈ fs, ∃ p, f = partCase c p) (h2 : ∀ p ∈ partsC a b, partCase c p ∈ fs) (v : Int) (h : List (Option Int)) : outC v h fs = outC v h [c] := by
  unfold outC
  cases hc : holdC v h c with
  | false =>
    rw [List.find?_eq_none.mpr fun f hf => ?_, List.find?_eq_none.mpr fun f hf => ?_]
    · obtain rfl := List.mem_singleton.mp hf
      rw [hc]
      exact Bool.false_ne_true
    · obtain ⟨p, rfl⟩ := h1 f hf
      rw [hold_part, hc]
      exact Bool.false_ne_true
  | true =>
    have e2 : ([c] : List Case).find? (holdC v h) = some c := List.find?_cons_of_pos hc
    rw [e2]
    obtain ⟨p, hp, hv⟩ := parts_some a b v h
    have hm := h2 p hp
    cases hf : fs.find? (holdC v h) with
    | none =>
      have := List.find?_eq_none.mp hf _ hm
      rw [hold_part, hc, hv] at this
      exact absurd rfl this
    | some f =>
      obtain ⟨p', rfl⟩ := h1 f (List.mem_of_find?_eq_some hf)
      rfl
/-! cases that never come -/
def neverC (a b : Int) : List C := [.all [.less a b, .less b a], .less a a, .all [.less a (-1), .less (-1) b, .nt (.less a b)], .all [.same a b, .less a b]]
theorem ltO_irr (x : Option Int) : ltO x x = false := by
  cases x with
  | none => rfl
  | some z => show decide (z < z) = false; exact decide_eq_false (by omega)
theorem never_none (a b v : Int) (h : List (Option Int)) : ∀ p ∈ neverC a b, hold v h p = false := by
  intro p hp
  unfold neverC at hp
  simp only [List.mem_cons, List.not_mem_nil, or_false] at hp
  rcases hp with rfl | rfl | rfl | rfl
  · rw [hold_all, holdA_cons, holdA_cons, holdA_nil, hold_less, hold_less]
    cases worth v h a with
    | none => rfl
    | some x =>
      cases worth v h b with
      | none => rfl
      | some y =>
        show (decide (x < y) && (decide (y < x) && true)) = false
        by_cases c : x < y
        · rw [decide_eq_false (by omega : ¬ y < x)]; simp
        · rw [decide_eq_false c]; rfl
  · rw [hold_less]
    exact ltO_irr _
  · rw [hold_all, holdA_cons, holdA_cons, holdA_cons, holdA_nil, hold_less, hold_less, hold_nt, hold_less, worth_new]
    cases worth v h a with
    | none => rfl
    | some x =>
      cases worth v h b with
      | none => show (decide (x < v) && (false && _)) = false; rw [Bool.false_and, Bool.and_false]
      | some y =>
        show (decide (x < v) && (decide (v < y) && ((!decide (x < y)) && true))) = false
        by_cases c : x < v
        · by_cases d : v < y
          · rw [decide_eq_true (by omega : x < y)]; simp
          · rw [decide_eq_false d]; simp
        · rw [decide_eq_false c]; rfl
  · rw [hold_all, holdA_cons, holdA_cons, holdA_nil, hold_same, hold_less]
    cases worth v h a with
    | none => rfl
    | some x =>
      cases worth v h b with
      | none => rfl
      | some y =>
        show (decide (x = y) && (decide (x < y) && true)) = false
        by_cases c : x = y
        · rw [decide_eq_false (by omega : ¬ x < y)]; simp
        · rw [decide_eq_false c]; rfl
theorem out_never {c : Case} {a b : Int} (hc : c.cond ∈ neverC a b) (v : Int) (h : List (Option Int)) : outC v h [c] = none := by
  unfold outC
  rw [List.find?_cons_of_neg (by unfold holdC; rw [never_none a b v h _ hc]; exact Bool.false_ne_true)]
  rfl
/-! a machine with other cases at one place -/
def putCs (m : M) (st t : Nat) (cs : List Case) : M := { m with steps := m.steps.set st ((m.steps.getD st []).set t cs) }
theorem putCs_cases (m : M) (st t : Nat) (cs : List Case) (hs : st < m.steps.length) (ht : t < (m.steps.getD st []).length) (st' t' : Nat) : (putCs m st t cs).cases st' t' = if st' = st ∧ t' = t then cs else m.cases st' t' := by
  unfold M.cases
  show ((m.steps.set st ((m.steps.getD st []).set t cs)).getD st' []).getD t' [] = _
  rw [List.getD_eq_getElem?_getD (l := m.steps.set _ _), List.getElem?_set]
  by_cases e : st = st'
  · subst e
    rw [if_pos rfl, if_pos hs]
    show (((m.steps.getD st []).set t cs)).getD t' [] = _
    rw [List.getD_eq_getElem?_getD (l := List.set _ _ _), List.getElem?_set]
    by_cases e2 : t = t'
    · subst e2
      rw [if_pos rfl, if_pos ht, if_pos ⟨rfl, rfl⟩]
      rfl
    · rw [if_neg e2, if_neg (fun z => e2 z.2.symm), ← List.getD_eq_getElem?_getD]
  · rw [if_neg e, if_neg (fun z => e z.1.symm), ← List.getD_eq_getElem?_getD]
theorem putCs_same {m : M} {st t : Nat} {cs : List Case} (hs : st < m.steps.length) (ht : t < (m.steps.getD st []).length) (h : ∀ v hh, outC v hh cs = outC v hh (m.cases st t)) : SameM m (putCs m st t cs) :=
  ⟨rfl, rfl, by unfold putCs; rw [List.length_set], fun st' t' v hh => by
    rw [putCs_cases m st t cs hs ht]
    split
    · rename_i z
      rw [z.1, z.2]
      exact h v hh
    · rfl⟩
theorem putCs_ok {m : M} {n st t : Nat} {cs : List Case} (ok : okM n m) (hs : st < m.steps.length) (hl : cs.length ≤ 1000) (hc : ∀ c ∈ cs, okCase m.regs m.steps.length (n + 1) c) : okM (n + 1) (putCs m st t cs) := by
  have ok' := okM_mono ok (n' := n + 1) (by omega)
  have es : m.steps.getD st [] = m.steps[st] := by rw [List.getD_eq_getElem?_getD, List.getElem?_eq_getElem hs]; rfl
  refine ⟨ok.tags, ok.tmax, ok.rmax, by unfold putCs; rw [List.length_set]; exact ok.some, by unfold putCs; rw [List.length_set]; exact ok.smax, fun s hs' => ?_, fun s hs' ds hds => ?_⟩
  · rcases List.mem_or_eq_of_mem_set hs' with h | rfl
    · exact ok.all s h
    · rw [List.length_set, es]
      exact ok.all _ (List.getElem_mem hs)
  · show ds.length ≤ 1000 ∧ ∀ c ∈ ds, okCase m.regs (m.steps.set st _).length (n + 1) c
    rw [List.length_set]
    rcases List.mem_or_eq_of_mem_set hs' with h | rfl
    · exact ok'.cases s h ds hds
    · rcases List.mem_or_eq_of_mem_set hds with h | rfl
      · rw [es] at h
        exact ok'.cases _ (List.getElem_mem hs) ds h
      · exact ⟨hl, hc⟩
theorem putCs_wid {m : M} {w st t : Nat} {cs : List Case} (hw : wid w m) (hs : st < m.steps.length) {w' : Nat} (hl : cs.length ≤ w') (l : w ≤ w') : wid w' (putCs m st t cs) := by
  have es : m.steps.getD st [] = m.steps[st] := by rw [List.getD_eq_getElem?_getD, List.getElem?_eq_getElem hs]; rfl
  intro s hs' ds hds
  rcases List.mem_or_eq_of_mem_set hs' with h | rfl
  · exact Nat.le_trans (hw s h ds hds) l
  · rcases List.mem_or_eq_of_mem_set hds with h | rfl
    · rw [es] at h
      exact Nat.le_trans (hw _ (List.getElem_mem hs) ds h) l
    · exact hl
theorem set_split {α : Type} (l : List α) (i : Nat) (a : α) (h : i < l.length) : l.set i a = l.take i ++ [a] ++ l.drop (i + 1) := by
  rw [List.set_eq_take_append_cons_drop, if_pos h, List.append_assoc]
  rfl
end Dv

/-! Set comprehensions of ints. -/
namespace Dv
open PySem PySem.Spec PyProof.Rows L2 GxR Gx
def tScI (w : World) (wi : TI) (g : TG) (tt : TT) (te : TE) (own : List Nat) : TE := fun σ H Q =>
  wi σ H fun J Ha => ∀ Z, Ha Z = none →
    ∃ W : Nat → Nat → Hp → Prop, (∃ m, W 0 m (upd Ha Z (SetO w Z (fun _ => false) 0))) ∧
      ∀ i m Hb, W i m Hb → (J.stop i Hb ∧ Q (.ref Z) Hb) ∨
        (J.go i Hb ∧ ∃ R : Hp → Prop, (∀ Hc, R Hc → ∃ m', m' < m ∧ W (i + 1) m' Hc) ∧
          ∀ x Hc, J.yld i Hb x Hc → g x (wipe σ own) Hc fun σ2 Hd => wipe σ2 own = wipe σ own ∧ tt σ2 Hd fun b He =>
            if b = true then te σ2 He fun y Hf => ∃ (k : Int) (S : Int → Bool) (n : Nat), y = .int k ∧ Hf Z = some (SetO w Z S n) ∧ n + 1 < scanBound ∧
              R (upd Hf Z (SetO w Z (fun j => S j || decide (j = k)) (if S k = true then n else n + 1)))
            else R He)
section
variable {X : Cx}
theorem addI_goes {pins : List (Addr × Obj)} {σ : L2.St} {H : Hp} {s : Shared} {E : Value → Shared → Prop} {Z : Addr} {S : Int → Bool} {n : Nat} {k : Int} {tk : Tok} {F : Value → Shared → Prop}
    (inv : Inv X pins σ H s) (at_ : H Z = some (SetO X.w Z S n)) (few : n + 1 < scanBound)
    (go : ∀ s', Inv X pins σ (upd H Z (SetO X.w Z (fun j => S j || decide (j = k)) (if S k = true then n else n + 1))) s' → F .none s') :
    wpAny (model X.prog X.w) X.A (call (.builtin "set.add") [.ref Z, .int k tk]) F E s :=
  setR_add (setO_get inv at_) few fun hp same made =>
    go _ (inv.write (e := Z) (t' := s.toks + 1) (by rw [at_]; trivial) (.inl rfl) (fun b u nb hu => (same.2 b nb).trans hu) (let ⟨o, _, _, _, ho, _⟩ := made; ⟨o, ho⟩) (setO_new made))
/-- a set comprehension whose members are ints, in a def -/
theorem pe_scI {elt tg iter : Expr} {ifs : List Expr} {scope : Scope} {own : List (PySem.Str × Nat)} {pos : Pos} {wi : TI} {g : TG} {tt : TT} {te : TE}
    (calm : X.calm = true) (nodup : X.N.Nodup) (pi : PI X tg iter wi) (blk : BlkOk X.N X.env.scope scope own)
    (pgs : ∀ (s : Shared) (H : Hp) (C : Addr) (cl : List (PySem.Str × Addr)) (fp : List Addr), PG (X.blk s H scope (compEnvC scope cl C X.env) fp) tg g)
    (ptt : ∀ (s : Shared) (H : Hp) (C : Addr) (cl : List (PySem.Str × Addr)) (fp : List Addr), PTs (X.blk s H scope (compEnvC scope cl C X.env) fp) ifs tt)
    (pel : ∀ (s : Shared) (H : Hp) (C : Addr) (cl : List (PySem.Str × Addr)) (fp : List Addr), PE (X.blk s H scope (compEnvC scope cl C X.env) fp) elt te)
    (fold : ∀ x, foldedSetIterable iter X.env x = pure x := by intro _; rfl) :
    PE X (.SetComp elt [⟨tg, iter, ifs, 0⟩] scope pos) (tScI X.w wi g tt te (own.map (·.2))) := by
  refine ⟨fun pins s σ H Q inv h => ?_⟩
  rw [PpSet.eval_SetComp]
  have captured : ∀ y ∈ scope.names, y.2 = .free → ∃ c, X.env.cells.lookup y.1 = some c := fun y ym ye =>
    (blk.free y ym ye).elim (fun z => inv.ok.has _ (.inl z)) (fun z => inv.ok.has _ (.inr z))
  refine wpAny_comprehension_free (use := none) rfl fold (closure_ok captured) blk.kind (fun y ym ye => by rw [blk.uniq y ym, ye])
    (thn (pi.run pins s σ H _ inv h) fun iv sa ha => thn ha fun jv sb hb => ?_)
  obtain ⟨ita, fp, tn, J, Hb, ej, invb, TT, stb, fpb, plan⟩ := hb
  subst ej
  refine PpSet.newSet_ok (newEnv_comp ?_)
  generalize eZ : sb.heap.objs.size = Z
  have free : Hb Z = none := invb.hok.fresh (Nat.le_of_eq eZ)
  obtain ⟨W, ⟨m0, w0⟩, turn⟩ := plan Z free
  generalize esc : ({ sb with heap := sb.heap.push { cls := .type "set", dict := none, data := .set #[] 0 (.fresh 0 0 (!X.w.params.followText "set-order")) } } : Shared) = sc
  have invc : Inv X pins σ (upd Hb Z (SetO X.w Z (fun _ => false) 0)) sc := by
    rw [← esc]
    exact invb.laid (t' := sb.toks) (fun b o e => Heap.get?_push_of_some _ e) (Nat.le_of_eq eZ) (by rw [← eZ]; exact setO_new (setR_fresh X.w))
  have hc : sc.heap = sb.heap.push { cls := .type "set", dict := none, data := .set #[] 0 (.fresh 0 0 (!X.w.params.followText "set-order")) } := by rw [← esc]
  have below : ∀ b ∈ fp, b < sb.heap.objs.size := fun b bm => let ⟨_, eo, _⟩ := TT.obj _ _ stb b bm; Heap.lt_size eo
  have fpc : ∀ b ∈ fp, FpOk X pins (upd Hb Z (SetO X.w Z (fun _ => false) 0)) b ∧ b < sc.heap.objs.size := fun b bm => by
    have lt := below b bm
    refine ⟨⟨(upd_ne (by rw [← eZ]; exact Nat.ne_of_lt lt)).trans (fpb b bm).1, (fpb b bm).2⟩, ?_⟩
    rw [hc, Heap.size_push]
    exact Nat.lt_succ_of_lt lt
  have stc : tn 0 sc.heap := TT.keep _ _ _ stb fun b _ o e => by rw [hc]; exact Heap.get?_push_of_some _ e
  have invd := block_start invc blk nodup fpc
  have pgr := pgs sc (upd Hb Z (SetO X.w Z (fun _ => false) 0)) sc.heap.objs.size (cellsFrom (sc.heap.objs.size + 1) scope.names (cloFrom X.env.cells scope.names [])) fp
  have ptr := ptt sc (upd Hb Z (SetO X.w Z (fun _ => false) 0)) sc.heap.objs.size (cellsFrom (sc.heap.objs.size + 1) scope.names (cloFrom X.env.cells scope.names [])) fp
  have per := pel sc (upd Hb Z (SetO X.w Z (fun _ => false) 0)) sc.heap.objs.size (cellsFrom (sc.heap.objs.size + 1) scope.names (cloFrom X.env.cells scope.names [])) fp
  have none_ : ∀ b ∈ fp, (upd Hb Z (SetO X.w Z (fun _ => false) 0)) b = none := fun b bm => (fpc b bm).1.1
  show codeAny _ _ (.compStart (.SetComp elt [⟨tg, iter, ifs, 0⟩] scope pos) 0 (.ref ita) (.ref Z) (compEnvC scope (cellsFrom (sc.heap.objs.size + 1) scope.names (cloFrom X.env.cells scope.names [])) sc.heap.objs.size X.env)) (compPost (model X.prog X.w) X.A X.xe none (EP X pins σ Q) (.ref Z) sc.heap.objs.size) { sc with heap := pushCells (sc.heap.push { cls := .type "dict", data := .dict #[] }) scope.names }
  generalize eE : compEnvC scope (cellsFrom (sc.heap.objs.size + 1) scope.names (cloFrom X.env.cells scope.names [])) sc.heap.objs.size X.env = en at invd pgr ptr per ⊢
  have enl : en.locals = sc.heap.objs.size := by rw [← eE]; rfl
  generalize eH : upd Hb Z (SetO X.w Z (fun _ => false) 0) = Hc at invc invd pgr ptr per w0 none_ fpc
  generalize esd : ({ sc with heap := pushCells (sc.heap.push { cls := .type "dict", data := .dict #[] }) scope.names } : Shared) = sd at invd ⊢
  have std : tn 0 sd.heap := TT.keep _ _ _ stc fun b _ o e => by rw [← esd]; exact pushCells_keeps _ _ _ _ (Heap.get?_push_of_some _ e)
  have stays : ∀ {σ' : L2.St} {H' : Hp} {s' : Shared}, Inv (X.blk sc Hc scope en fp) [] σ' H' s' → (∀ b ∈ fp, H' b = none) → ∀ b ∈ fp, FpOk (X.blk sc Hc scope en fp) [] H' b :=
    fun {σ' H' s'} iv nn b bm => ⟨nn b bm, (iv.ok.exf b bm).1, iv.ok.exfs b bm, .inl bm, fun x c ec => (iv.ok.exf b bm).2 x c ec, fun p pm => absurd (show p ∈ ([] : List (Addr × Obj)) ++ [] from pm) (by simp)⟩
  have whole : codeAny (model X.prog X.w) X.A (.compLoop (.SetComp elt [⟨tg, iter, ifs, 0⟩] scope pos) 0 (.ref ita) (.ref Z) en) (compPost (model X.prog X.w) X.A X.xe none (EP X pins σ Q) (.ref Z) sc.heap.objs.size) sd := by
    refine PpSet.compLoopS_any (fun n s' => ∃ i H', Inv (X.blk sc Hc scope en fp) [] (wipe σ (own.map (·.2))) H' s' ∧ tn i s'.heap ∧ (∀ b ∈ fp, H' b = none) ∧ W i n H') ?_ m0 ⟨0, Hc, invd, std, none_, w0⟩
    rintro n se ⟨i, He, inve, ste, nonee, we⟩
    rcases turn i n He we with ⟨halt, done⟩ | ⟨going, R, back, step⟩
    · refine thnF (TT.done (X.blk sc Hc scope en fp) rfl rfl rfl calm i [] se _ He (fun _ _ => False) inve (stays inve nonee) ste halt) fun r sf ⟨er, invf⟩ => ?_
      subst er
      have invg : Inv X pins σ He sf := invc.call' (ch := fp) invf.os invf.base invf.hok invf.bare fun b bm => ⟨(fpc b bm).1.2.2.2.1, (fpc b bm).1.2.1, (fpc b bm).1.2.2.2.2.1, (fpc b bm).1.2.2.2.2.2⟩
      have gone : He sc.heap.objs.size = none := by rw [← enl]; exact invf.free
      obtain ⟨mm, ns, _⟩ := invf.loc
      have ns' : sf.heap.Ns en.locals mm := ns
      rw [enl] at ns'
      refine ⟨mm, ns', fun hh sm => ?_⟩
      obtain ⟨g0, g1, g2, g3, g4, g5⟩ := invc.fpOk (Nat.le_refl _) gone
      exact ⟨.ref Z, He, invg.turned (t' := sf.toks) (fun b o hb e => (sm.2 b hb).trans e) g0 g1 g3 g4 g5, rfl, done⟩
    · refine thnF (TT.item (X.blk sc Hc scope en fp) rfl rfl rfl calm i [] se _ He (fun _ _ => False) inve (stays inve nonee) ste going) fun r sf ⟨u, er, hf⟩ => ?_
      subst er
      refine thnF hf fun _ sg ⟨x, Hg, invg, rg, yg, stg, noneg⟩ => ?_
      refine thnF (pgr.run _ sg _ Hg x u _ (invg.pinned (stays invg noneg) (TT.obj _ _ stg)) rg (step x Hg yg)) fun _ sh ⟨σh, Hh, invh, wh, qh⟩ => ?_
      refine thnF (ptr.run _ sh σh Hh _ invh qh) fun b si ⟨Hi, invi, qi⟩ => ?_
      have over : ∀ {s' : Shared} {H' : Hp}, Inv (X.blk sc Hc scope en fp) ([] ++ pinsAt fp sg.heap) σh H' s' → R H' →
          ∃ m, m < n ∧ ∃ i H', Inv (X.blk sc Hc scope en fp) [] (wipe σ (own.map (·.2))) H' s' ∧ tn i s'.heap ∧ (∀ b ∈ fp, H' b = none) ∧ W i m H' := fun {s' H'} iv rr => by
        obtain ⟨m', less, w'⟩ := back H' rr
        have pinned : ∀ b ∈ fp, ∀ o, sg.heap.get? b = some o → s'.heap.get? b = some o ∧ H' b = none := fun b bm o eo =>
          ⟨(iv.pin (b, o) (List.mem_append_right _ (List.mem_append_right _ (mem_pinsAt bm eo)))).1, (iv.pin (b, o) (List.mem_append_right _ (List.mem_append_right _ (mem_pinsAt bm eo)))).2.1⟩
        have ll : (wipe σ (own.map (·.2))).length = σh.length := (congrArg List.length wh.symm).trans (wipe_length _ _)
        refine ⟨m', less, i + 1, H', (iv.unpinned (pins := [])).weak ll (fun j v ev => ?_), TT.keep _ _ _ stg fun b bm o eo => (pinned b bm o eo).1, fun b bm => ?_, w'⟩
        · rw [← wh] at ev
          exact (wipe_some ev).1
        · obtain ⟨o, eo, _⟩ := TT.obj _ _ stg b bm
          exact (pinned b bm o eo).2
      cases b with
      | false =>
        rw [if_neg Bool.false_ne_true] at qi ⊢
        exact over invi qi
      | true =>
        rw [if_pos rfl] at qi ⊢
        refine thnF (per.run _ si σh Hi _ invi qi) fun z sj ⟨yv, Hj, invj, rj, kk, SS, nn, ey, atZ, few, rr⟩ => ?_
        subst ey
        obtain ⟨tk, rfl⟩ := (show ∃ tk, z = Value.int kk tk from rj)
        exact addI_goes (X := X.blk sc Hc scope en fp) invj atZ few fun sk invk => over invk rr
  exact PpSet.codeAny_compStart_set whole (TT.self X.A 0 _ _ _ std whole)
end
end Dv

/-! set(xs) of a list of hit. -/
namespace Dv
open PySem PySem.Spec PyProof.Rows L2 GxR Gx
section
variable {P : Program} {w : World} {A : Around} {E : Value → Shared → Prop} {s : Shared}
/-- the object of a new set -/
abbrev setObj (w : World) : Obj := { cls := .type "set", dict := none, data := .set #[] 0 (.fresh 0 0 (!w.params.followText "set-order")) }
set_option maxHeartbeats 8000000 in
theorem set_of_list {l : Addr} {items : Array Value} (ns : List Int) {Q : Value → Shared → Prop} (calm : A.handled = none) (isl : s.heap.IsList l items) (hit : IntsAre items.toList ns) (few : ns.length + 1 < scanBound)
    (k : ∀ (h' : Heap) (tk c : Nat), SetR w h' s.heap.objs.size (fun j => decide (j ∈ ns)) c → c ≤ ns.length → (∀ b o, s.heap.get? b = some o → h'.get? b = some o) →
      Q (.ref s.heap.objs.size) { s with heap := h', toks := tk }) : wpAny (model P w) A (call (.type "set") [.ref l]) Q E s := by
  have len : items.size = ns.length := by
    have z := IntsAre.length hit
    rwa [Array.length_toList] at z
  obtain ⟨cc, tl, mro⟩ := F.called_set.mro
  have made := F.called_set.made
  have subt := F.called_set.sub
  refine wpAny_call (codeAny_of_tree (show wpAny _ _ (callAny (.type "set") _) _ _ _ from wpAny_pure ⟨Code.quiet_builtin _ (by decide +kernel), codeAny_builtin F.entry_type_call ?_⟩))
  rw [Around.under_plain (weight_type_call_type "set" [.ref l] []) rfl]
  have nt := F.called_set.notType
  have cr := F.called_set.canCreate
  have tc := F.typeCall_set_1 (.ref l)
  repeat (any_goals (first | assumption | wp_step))
  refine codeAny_mono (code_set_led1 (.ref l) (E := E) (Q₁ := fun obj sa => obj = .ref s.heap.objs.size ∧ sa = { s with heap := s.heap.push (setObj w) }) ⟨rfl, rfl⟩) fun r sb hb => ?_
  rcases r with e | fl
  · exact hb
  · cases fl with
    | ret obj =>
      obtain ⟨rfl, rfl⟩ := hb
      have atS : (s.heap.push (setObj w)).get? s.heap.objs.size = some (setObj w) := Heap.get?_push_size _ rfl
      have isS : Shared.TypeIs { s with heap := s.heap.push (setObj w) } (.ref s.heap.objs.size) "set" := ⟨_, atS, rfl⟩
      have look := F.called_set.init.lookup
      have bnd := F.called_set.init.bind (.ref s.heap.objs.size)
      repeat (any_goals (first | assumption | wp_step))
      refine codeAny_mono (codeAny_call_builtin (R := wants (fun r sc => r = .none ∧ ∃ h' tk c, sc = { s with heap := h', toks := tk } ∧ SetR w h' s.heap.objs.size (fun j => decide (j ∈ ns)) c ∧ c ≤ ns.length ∧ (∀ b o, s.heap.get? b = some o → h'.get? b = some o)) E)
        F.called_set.init.plain F.entry_set_init (check_set_init_1 isS ?_)) fun rb sc hc => ?_
      · obtain ⟨⟨ocls, odict, odata, oslots⟩, ol, oc, nl, od⟩ := isl
        simp only at oc od
        subst oc
        subst od
        have ol' : (s.heap.push (setObj w)).get? l = some { cls := .type "list", dict := odict, data := .seq items nl, slots := oslots } := Heap.get?_push_of_some _ ol
        have s1 := F.sub_list_set
        have s2 := F.sub_list_frozenset
        have nd : (Value.type "list" == Value.type "dict") = false := by decide
        have isl1 : (s.heap.push (setObj w)).IsList l items := ⟨_, ol', rfl, nl, rfl⟩
        unfold Builtin.«set.__init__» noKeywords Builtin.Frozenset.updateFrom
        generalize hPI : pyIter = PI
        wp_walk
        subst hPI
        refine wpAny_pyIter_list isl1 (wpAny_bind (wpAny_runValue ?_))
        have lt : l < s.heap.objs.size := Heap.lt_size ol
        have sz : (s.heap.push (setObj w)).objs.size = s.heap.objs.size + 1 := Heap.size_push ..
        have neI : l ≠ (s.heap.push (setObj w)).objs.size := by rw [sz]; exact Nat.ne_of_lt (Nat.lt_succ_of_lt lt)
        have notin : s.heap.objs.size ∉ [(s.heap.push (setObj w)).objs.size, l] := by
          intro z
          rcases List.mem_cons.mp z with e1 | e1
          · rw [sz] at e1; exact absurd e1 (by omega)
          · rw [← List.mem_singleton.mp e1] at lt; exact Nat.lt_irrefl _ lt
        have vals : ∀ (i : Nat) (v : Value), items[i]? = some v → ∃ k t, ns[i]? = some k ∧ v = .int k t := fun i v hv => by
          have hi : i < ns.length := len ▸ (Array.getElem?_eq_some_iff.mp hv).1
          obtain ⟨t, ev⟩ := PyProof.Rows.IntsAre.int_at hit i v (by rw [Array.getElem?_toList]; exact hv)
          exact ⟨ns[i], t, List.getElem?_eq_getElem hi, by rw [ev, List.getD_eq_getElem?_getD, List.getElem?_eq_getElem hi] <;> rfl⟩
        refine set_update_ints ((Walks.list (by simp [calm]) _ l neI items).toS) s.heap.objs.size notin ns len few vals (items.size - 0) 0 _ (by omega) (Nat.zero_le _) ⟨⟨_, Heap.get?_push_size _ rfl, rfl, rfl⟩, (isl1.push _)⟩ ?start ?stop
        case start => exact ⟨0, Nat.le_refl 0, setR_new_at (Heap.get?_push_of_some _ atS)⟩
        case stop =>
          rintro ⟨h', g2, d', tk', os'⟩ c' moved lc made'
          have eg : g2 = s.gens := moved.gens
          have ed : d' = s.drawn := moved.drawn
          have eo : os' = s.os := moved.os
          subst eg; subst ed; subst eo
          refine wpAny_pure (show wpAny _ _ (ret Value.none) _ _ _ from wpAny_pure ⟨rfl, h', tk', c', rfl, made', len ▸ lc, fun b o e => ?_⟩)
          have b0 : b < s.heap.objs.size := Heap.lt_size e
          refine moved.heap b o (fun z => ?_) (Heap.get?_push_of_some _ (Heap.get?_push_of_some _ e))
          rcases List.mem_cons.mp z with e1 | e1
          · rw [e1] at b0; exact Nat.lt_irrefl _ b0
          · rw [List.mem_singleton.mp e1, sz] at b0; exact Nat.lt_irrefl _ (Nat.lt_of_succ_lt b0)
      · rcases rb with e | fl2
        · exact hc
        · cases fl2 with
          | ret r =>
            obtain ⟨rfl, h', tk, c', rfl, hs', hl', hk'⟩ := hc
            repeat (any_goals (first | assumption | wp_step))
            exact k _ _ _ hs' hl' hk'
          | _ => exact hc.elim
    | _ => exact hb.elim
end
section
variable {X : Cx}
def rSetI (K : PySem.W.Frag) (w : World) : List V → Hp → VK → Prop := fun xs H Q => ∃ (l : Addr) (ns : List Int), xs = [V.ref l] ∧ SqL K H l (ns.map V.int) ∧ ns.length ≤ 3000 ∧
  ∀ p c, H p = none → c ≤ ns.length → Q (.ref p) (upd H p (SetO w p (fun j => decide (j ∈ ns)) c))
theorem cr_setI (calm : X.calm = true := by rfl) : CallR X (.type "set") (rSetI X.K X.w) := by
  intro pins s σ H xs us Q inv r h
  obtain ⟨l, ns, rfl, sq, few, q⟩ := h
  rw [Vals.ref1 r]
  obtain ⟨its, rv, isl, _⟩ := inv.list sq
  refine set_of_list ns (inv.ok.hd calm) isl.isList (by simpa using ints_of_vals rv) (by unfold scanBound; omega) fun h' tk c made lc keep => ?_
  exact ⟨.ref s.heap.objs.size, upd H s.heap.objs.size (SetO X.w s.heap.objs.size (fun j => decide (j ∈ ns)) c), inv.laid (t' := tk) keep (Nat.le_refl _) (setO_new made), rfl, q _ c (inv.hok.fresh (Nat.le_refl _)) lc⟩
end
end Dv

/-! Values at one spot. -/
namespace Dv
open PySem PySem.Spec PyProof.Rows L2 GxR Gx
/-- g keeps the order of the values that P tells -/
def Emb (P : Int → Prop) (g : Int → Int) : Prop := ∀ x y, P x → P y → (g x < g y ↔ x < y) ∧ (g x = g y ↔ x = y)
section
variable {P : Int → Prop} {g : Int → Int}
theorem ltO_on (e : Emb P g) {a b : Option Int} (ha : ∀ x, a = some x → P x) (hb : ∀ x, b = some x → P x) : ltO (a.map g) (b.map g) = ltO a b := by
  cases a with
  | none => rfl
  | some x =>
    cases b with
    | none => rfl
    | some y =>
      show decide (g x < g y) = decide (x < y)
      rw [decide_eq_decide]
      exact (e x y (ha x rfl) (hb y rfl)).1
theorem eqO_on (e : Emb P g) {a b : Option Int} (ha : ∀ x, a = some x → P x) (hb : ∀ x, b = some x → P x) : eqO (a.map g) (b.map g) = eqO a b := by
  cases a with
  | none => rfl
  | some x =>
    cases b with
    | none => rfl
    | some y =>
      show decide (g x = g y) = decide (x = y)
      rw [decide_eq_decide]
      exact (e x y (ha x rfl) (hb y rfl)).2
variable {v : Int} {h : List (Option Int)}
mutual
theorem hold_on (e : Emb P g) (hh : PH P h) (hv : P v) : ∀ c : C, hold (g v) (mapH g h) c = hold v h c
  | .tru => by unfold hold; rfl
  | .fls => by unfold hold; rfl
  | .less a b => by rw [hold_less, hold_less, worth_map, worth_map]; exact ltO_on e (fun x ex => worth_P hh hv ex) (fun x ex => worth_P hh hv ex)
  | .same a b => by rw [hold_same, hold_same, worth_map, worth_map]; exact eqO_on e (fun x ex => worth_P hh hv ex) (fun x ex => worth_P hh hv ex)
  | .emp a => by rw [hold_emp, hold_emp, worth_map]; cases worth v h a <;> rfl
  | .nt c => by rw [hold_nt, hold_nt, hold_on e hh hv c]
  | .all cs => by rw [hold_all, hold_all]; exact holdA_on e hh hv cs
  | .any cs => by rw [hold_any, hold_any]; exact holdE_on e hh hv cs
theorem holdA_on (e : Emb P g) (hh : PH P h) (hv : P v) : ∀ cs : List C, holdA (g v) (mapH g h) cs = holdA v h cs
  | [] => by rw [holdA_nil, holdA_nil]
  | c :: cs => by rw [holdA_cons, holdA_cons, hold_on e hh hv c, holdA_on e hh hv cs]
theorem holdE_on (e : Emb P g) (hh : PH P h) (hv : P v) : ∀ cs : List C, holdE (g v) (mapH g h) cs = holdE v h cs
  | [] => by rw [holdE_nil, holdE_nil]
  | c :: cs => by rw [holdE_cons, holdE_cons, hold_on e hh hv c, holdE_on e hh hv cs]
end
theorem readM_on (e : Emb P g) (hh : PH P h) (m : M) (st t : Nat) (hv : P v) :
    readM m st (mapH g h) (t, g v) = ((readM m st h (t, v)).1, mapH g (readM m st h (t, v)).2.1, (readM m st h (t, v)).2.2.map (chE g)) := by
  have ef : holdC (g v) (mapH g h) = holdC v h := funext fun c => hold_on e hh hv c.cond
  have e1 : readM m st (mapH g h) (t, g v) = (match (m.cases st t).find? (holdC (g v) (mapH g h)) with | none => (st, mapH g h, []) | some c => (c.nxt, keptC (g v) (mapH g h) c, saidC (g v) (mapH g h) c)) := rfl
  have e2 : readM m st h (t, v) = (match (m.cases st t).find? (holdC v h) with | none => (st, h, []) | some c => (c.nxt, keptC v h c, saidC v h c)) := rfl
  rw [e1, e2, ef]
  cases (m.cases st t).find? (holdC v h) with
  | none => rfl
  | some c =>
    show (c.nxt, keptC (g v) (mapH g h) c, saidC (g v) (mapH g h) c) = _
    rw [saidC_map, keptC_map]
end
/-- v1 and v2 stand alike to what is held -/
def SpotOf (h : List (Option Int)) (a b : Int) : Prop := ∀ y, some y ∈ h → y ≠ a ∧ y ≠ b ∧ (y < a ↔ y < b)
def swapV (a b : Int) : Int → Int := fun x => if x = a then b else x
theorem swap_at (a b : Int) : swapV a b a = b := if_pos rfl
theorem swap_emb {h : List (Option Int)} {a b : Int} (s : SpotOf h a b) : Emb (fun x => some x ∈ h ∨ x = a) (swapV a b) := by
  have out : ∀ x, some x ∈ h → swapV a b x = x := fun x hx => if_neg (s x hx).1
  rintro x y (hx | rfl) (hy | rfl)
  · rw [out x hx, out y hy]; exact ⟨Iff.rfl, Iff.rfl⟩
  · rw [out x hx, swap_at]
    have k := s x hx
    exact ⟨⟨fun z => k.2.2.mpr z, fun z => k.2.2.mp z⟩, ⟨fun z => absurd z k.2.1, fun z => absurd z k.1⟩⟩
  · rw [out y hy, swap_at]
    have k := s y hy
    refine ⟨⟨fun z => ?_, fun z => ?_⟩, ⟨fun z => absurd z.symm k.2.1, fun z => absurd z.symm k.1⟩⟩
    · have := k.2.2; have := k.1; omega
    · have := k.2.2; have := k.2.1; omega
  · exact ⟨by omega, by simp⟩
theorem swap_held {h : List (Option Int)} {a b : Int} (s : SpotOf h a b) : mapH (swapV a b) h = h := by
  unfold mapH
  conv => rhs; rw [← List.map_id h]
  refine List.map_congr_left fun o ho => ?_
  cases o with
  | none => rfl
  | some y => show some (swapV a b y) = some y; unfold swapV; rw [if_neg (s y ho).1]
theorem read_spot {h : List (Option Int)} {a b : Int} (s : SpotOf h a b) (m : M) (st t : Nat) : readM m st h (t, b) = ((readM m st h (t, a)).1, mapH (swapV a b) (readM m st h (t, a)).2.1, (readM m st h (t, a)).2.2.map (chE (swapV a b))) := by
  have e := readM_on (v := a) (swap_emb s) (fun x hx => .inl hx) m st t (.inr rfl)
  rw [swap_held s, swap_at] at e
  exact e
end Dv

/-! Ranks of held values. -/
namespace Dv
open PySem PySem.Spec PyProof.Rows L2 GxR Gx
def ins (x : Int) : List Int → List Int
  | [] => [x]
  | y :: l => if x < y then x :: y :: l else if x = y then y :: l else y :: ins x l
theorem mem_ins {x z : Int} : ∀ {l : List Int}, z ∈ ins x l ↔ z = x ∨ z ∈ l
  | [] => by simp [ins]
  | y :: l => by
    unfold ins
    split
    · simp
    · split
      · next h => simp [h]
      · rw [List.mem_cons, mem_ins, List.mem_cons]
        constructor
        · rintro (h | h | h)
          · exact .inr (.inl h)
          · exact .inl h
          · exact .inr (.inr h)
        · rintro (h | h | h)
          · exact .inr (.inl h)
          · exact .inl h
          · exact .inr (.inr h)
theorem ins_sorted {x : Int} : ∀ {l : List Int}, l.Pairwise (· < ·) → (ins x l).Pairwise (· < ·)
  | [], _ => by simp [ins]
  | y :: l, h => by
    have h' := List.pairwise_cons.mp h
    unfold ins
    split
    · next c =>
      refine List.pairwise_cons.mpr ⟨fun z hz => ?_, h⟩
      rcases List.mem_cons.mp hz with e | e
      · omega
      · have := h'.1 z e
        omega
    · split
      · exact h
      · refine List.pairwise_cons.mpr ⟨fun z hz => ?_, ins_sorted h'.2⟩
        rcases mem_ins.mp hz with e | e
        · omega
        · exact h'.1 z e
theorem insN_len {x : Int} : ∀ {l : List Int}, l.Pairwise (· < ·) → (ins x l).length = if x ∈ l then l.length else l.length + 1
  | [], _ => by simp [ins]
  | y :: l, h => by
    have h' := List.pairwise_cons.mp h
    unfold ins
    split
    · next c =>
      rw [if_neg]
      · rfl
      · intro m
        rcases List.mem_cons.mp m with e | e
        · omega
        · have := h'.1 x e
          omega
    · split
      · next c => rw [if_pos (by simp [c])]
      · next c1 c2 =>
        rw [List.length_cons, insN_len h'.2]
        by_cases m : x ∈ l
        · rw [if_pos m, if_pos (by simp [m])]
          rfl
        · rw [if_neg m, if_neg (by simp [m, c2])]
          rfl
def srt (l : List Int) : List Int := l.foldl (fun a x => ins x a) []
theorem srt_snoc {l : List Int} {x : Int} : srt (l ++ [x]) = ins x (srt l) := by unfold srt; rw [List.foldl_append]; rfl
theorem srt_both (l : List Int) : ∀ n, (srt (l.take n)).Pairwise (· < ·) ∧ ∀ z, z ∈ srt (l.take n) ↔ z ∈ l.take n
  | 0 => by simp [srt]
  | n + 1 => by
    have ih := srt_both l n
    rw [List.take_add_one]
    cases e : l[n]? with
    | none => simpa using ih
    | some x =>
      show (srt (l.take n ++ [x])).Pairwise (· < ·) ∧ ∀ z, z ∈ srt (l.take n ++ [x]) ↔ z ∈ l.take n ++ [x]
      rw [srt_snoc]
      refine ⟨ins_sorted ih.1, fun z => ?_⟩
      rw [mem_ins, ih.2, List.mem_append, List.mem_singleton]
      exact or_comm
theorem srt_sorted (l : List Int) : (srt l).Pairwise (· < ·) := by have := (srt_both l l.length).1; rwa [List.take_length] at this
theorem mem_srt {l : List Int} {z : Int} : z ∈ srt l ↔ z ∈ l := by have := (srt_both l l.length).2 z; rwa [List.take_length] at this
theorem srt_unique : ∀ {a b : List Int}, a.Pairwise (· < ·) → b.Pairwise (· < ·) → (∀ y, y ∈ a ↔ y ∈ b) → a = b
  | [], [], _, _, _ => rfl
  | [], y :: b, _, _, h => by have := (h y).mpr (by simp); cases this
  | y :: a, [], _, _, h => by have := (h y).mp (by simp); cases this
  | x :: a, y :: b, ha, hb, h => by
    have ha' := List.pairwise_cons.mp ha
    have hb' := List.pairwise_cons.mp hb
    have e : x = y := by
      rcases List.mem_cons.mp ((h x).mp (by simp)) with e | e
      · exact e
      · rcases List.mem_cons.mp ((h y).mpr (by simp)) with e2 | e2
        · exact e2.symm
        · have := ha'.1 y e2
          have := hb'.1 x e
          omega
    subst e
    rw [srt_unique ha'.2 hb'.2 fun z => ?_]
    constructor
    · intro hz
      rcases List.mem_cons.mp ((h z).mp (by simp [hz])) with e | e
      · have := ha'.1 z hz
        omega
      · exact e
    · intro hz
      rcases List.mem_cons.mp ((h z).mpr (by simp [hz])) with e | e
      · have := hb'.1 z hz
        omega
      · exact e
theorem srt_eq {l ks : List Int} (h : ks.Pairwise (· < ·)) (m : ∀ y, y ∈ ks ↔ y ∈ l) : ks = srt l := srt_unique h (srt_sorted l) fun y => by rw [m, mem_srt]
theorem srt_filter (l : List Int) (p : Int → Bool) : srt (l.filter p) = (srt l).filter p := (srt_eq ((srt_sorted l).filter _) fun y => by rw [List.mem_filter, List.mem_filter, mem_srt]).symm
theorem srt_map (l : List Int) {g : Int → Int} (h : ∀ x ∈ l, ∀ y ∈ l, x < y → g x < g y) : srt (l.map g) = (srt l).map g := by
  refine (srt_eq (List.pairwise_map.mpr ((srt_sorted l).imp_of_mem fun ha hb c => h _ (mem_srt.mp ha) _ (mem_srt.mp hb) c)) fun y => ?_).symm
  rw [List.mem_map, List.mem_map]
  simp only [mem_srt]
/-- how many are less -/
def cnt (ks : List Int) (v : Int) : Nat := (ks.filter fun y => decide (y < v)).length
theorem cnt_at : ∀ {ks : List Int} {i : Nat}, ks.Pairwise (· < ·) → (hi : i < ks.length) → cnt ks ks[i] = i
  | x :: ks, 0, h, _ => by
    have h' := List.pairwise_cons.mp h
    show (List.filter (fun y => decide (y < x)) (x :: ks)).length = 0
    rw [List.length_eq_zero_iff, List.filter_eq_nil_iff]
    intro y hy
    rw [decide_eq_true_iff]
    rcases List.mem_cons.mp hy with e | e
    · omega
    · have := h'.1 y e
      omega
  | x :: ks, i + 1, h, hi => by
    have h' := List.pairwise_cons.mp h
    have hi' : i < ks.length := Nat.lt_of_succ_lt_succ hi
    show (List.filter (fun y => decide (y < ks[i])) (x :: ks)).length = i + 1
    rw [List.filter_cons_of_pos (by rw [decide_eq_true_iff]; exact h'.1 _ (List.getElem_mem _)), List.length_cons]
    exact congrArg (· + 1) (cnt_at h'.2 hi')
theorem cnt_of {ks : List Int} {v : Int} (h : ks.Pairwise (· < ·)) (m : v ∈ ks) : ∃ i, ∃ hi : i < ks.length, ks[i] = v ∧ cnt ks v = i := by
  obtain ⟨i, hi, rfl⟩ := List.getElem_of_mem m
  exact ⟨i, hi, rfl, cnt_at h hi⟩
theorem at_lt {ks : List Int} {i j : Nat} (h : ks.Pairwise (· < ·)) (hi : i < ks.length) (hj : j < ks.length) : ks[i] < ks[j] ↔ i < j := by
  have w := List.pairwise_iff_getElem.mp h
  constructor
  · intro c
    rcases Nat.lt_trichotomy i j with a | a | a
    · exact a
    · subst a
      omega
    · have := w j i hj hi a
      omega
  · exact w i j hi hj
theorem cnt_lt {ks : List Int} {x y : Int} (h : ks.Pairwise (· < ·)) (hx : x ∈ ks) (hy : y ∈ ks) : cnt ks x < cnt ks y ↔ x < y := by
  obtain ⟨i, hi, rfl, e1⟩ := cnt_of h hx
  obtain ⟨j, hj, rfl, e2⟩ := cnt_of h hy
  rw [e1, e2, at_lt h hi hj]
theorem cnt_le (ks : List Int) (v : Int) : cnt ks v ≤ ks.length := List.length_filter_le ..
/-- the held values -/
def kn (h : List (Option Int)) : List Int := srt (h.filterMap id)
theorem kn_sorted (h : List (Option Int)) : (kn h).Pairwise (· < ·) := srt_sorted _
theorem mem_kn {h : List (Option Int)} {v : Int} : v ∈ kn h ↔ some v ∈ h := by unfold kn; rw [mem_srt, List.mem_filterMap]; simp
theorem srt_len (l : List Int) : ∀ n, (srt (l.take n)).length ≤ n
  | 0 => by simp [srt]
  | n + 1 => by
    have ih := srt_len l n
    rw [List.take_add_one]
    cases e : l[n]? with
    | none => simp; omega
    | some x =>
      show (srt (l.take n ++ [x])).length ≤ n + 1
      rw [srt_snoc, insN_len (srt_sorted _)]
      split <;> omega
theorem kn_len (h : List (Option Int)) : (kn h).length ≤ h.length := by
  have := srt_len (h.filterMap id) (h.filterMap id).length
  rw [List.take_length] at this
  exact Nat.le_trans this (List.length_filterMap_le _ _)
def rkF (h : List (Option Int)) : Int → Int := fun v => (cnt (kn h) v : Nat)
def ranksH (h : List (Option Int)) : List (Option Int) := mapH (rkF h) h
theorem fm_map (g : Int → Int) (h : List (Option Int)) : (mapH g h).filterMap id = (h.filterMap id).map g := by
  unfold mapH
  rw [List.filterMap_map, List.map_filterMap]
  rfl
theorem kn_map {g : Int → Int} {h : List (Option Int)} (r : ∀ x y, some x ∈ h → some y ∈ h → x < y → g x < g y) : kn (mapH g h) = (kn h).map g := by
  unfold kn
  rw [fm_map]
  refine srt_map _ fun x hx y hy c => r x y ?_ ?_ c
  · simpa using hx
  · simpa using hy
theorem cnt_map {ks : List Int} {g : Int → Int} {v : Int} (r : ∀ x ∈ ks, (g x < g v ↔ x < v)) : cnt (ks.map g) (g v) = cnt ks v := by
  unfold cnt
  rw [List.filter_map, List.length_map]
  congr 1
  refine List.filter_congr fun x hx => ?_
  show decide (g x < g v) = decide (x < v)
  rw [decide_eq_decide]
  exact r x hx
theorem lt_iff {h : List (Option Int)} {g : Int → Int} (r : ∀ x y, some x ∈ h → some y ∈ h → x < y → g x < g y) {x y : Int} (hx : some x ∈ h) (hy : some y ∈ h) : g x < g y ↔ x < y := by
  constructor
  · intro c
    rcases Int.lt_trichotomy x y with a | a | a
    · exact a
    · subst a
      omega
    · have := r y x hy hx a
      omega
  · exact r x y hx hy
theorem ranks_map {g : Int → Int} {h : List (Option Int)} (r : ∀ x y, some x ∈ h → some y ∈ h → x < y → g x < g y) : ranksH (mapH g h) = ranksH h := by
  unfold ranksH rkF
  rw [kn_map r]
  unfold mapH
  rw [List.map_map]
  refine List.map_congr_left fun o ho => ?_
  cases o with
  | none => rfl
  | some v =>
    show some (((cnt ((kn h).map g) (g v) : Nat) : Int)) = some ((cnt (kn h) v : Nat) : Int)
    rw [cnt_map fun x hx => lt_iff r (mem_kn.mp hx) ho]
theorem rk_mono {h : List (Option Int)} : ∀ x y, some x ∈ h → some y ∈ h → x < y → rkF h x < rkF h y := fun x y hx hy c => by
  have := (cnt_lt (kn_sorted h) (mem_kn.mpr hx) (mem_kn.mpr hy)).mpr c
  unfold rkF
  omega
theorem ranks_ranks (h : List (Option Int)) : ranksH (ranksH h) = ranksH h := ranks_map rk_mono
theorem kn_ranks (h : List (Option Int)) : kn (ranksH h) = (List.range (kn h).length).map fun (i : Nat) => (i : Int) := by
  unfold ranksH
  rw [kn_map rk_mono]
  refine List.ext_getElem (by simp) fun i h1 h2 => ?_
  rw [List.getElem_map, List.getElem_map, List.getElem_range]
  rw [List.length_map] at h1
  unfold rkF
  rw [cnt_at (kn_sorted h) h1]
theorem ranks_top {h : List (Option Int)} {M : Int} (g : ∀ x, some x ∈ h → x < M) : ranksH (h ++ [some M]) = ranksH h ++ [some (((kn h).length : Nat) : Int)] := by
  have e : kn (h ++ [some M]) = kn h ++ [M] := by
    refine (srt_eq (List.pairwise_append.mpr ⟨kn_sorted h, by simp, fun x hx y hy => ?_⟩) fun y => ?_).symm
    · obtain rfl := List.mem_singleton.mp hy
      exact g x (mem_kn.mp hx)
    · rw [List.mem_append, List.mem_singleton, mem_kn]
      simp
  unfold ranksH rkF mapH
  rw [List.map_append, e]
  congr 1
  · refine List.map_congr_left fun o ho => ?_
    cases o with
    | none => rfl
    | some v =>
      have c := g v ho
      show some (((cnt (kn h ++ [M]) v : Nat) : Int)) = some ((cnt (kn h) v : Nat) : Int)
      unfold cnt
      rw [List.filter_append, List.filter_cons_of_neg (by rw [decide_eq_true_iff]; omega), List.filter_nil, List.append_nil]
  · show [some (((cnt (kn h ++ [M]) M : Nat) : Int))] = _
    congr 3
    unfold cnt
    rw [List.filter_append, List.filter_cons_of_neg (by rw [decide_eq_true_iff]; omega), List.filter_nil, List.append_nil, List.filter_eq_self.mpr]
    intro x hx
    rw [decide_eq_true_iff]
    exact g x (mem_kn.mp hx)
theorem ranks_low {h : List (Option Int)} {m : Int} (g : ∀ x, some x ∈ h → m < x) : ranksH (some m :: h) = some 0 :: mapH (· + 1) (ranksH h) := by
  have e : kn (some m :: h) = m :: kn h := by
    refine (srt_eq (List.pairwise_cons.mpr ⟨fun x hx => g x (mem_kn.mp hx), kn_sorted h⟩) fun y => ?_).symm
    rw [List.mem_cons, mem_kn]
    simp
  unfold ranksH rkF mapH
  rw [List.map_cons, e, List.map_map]
  congr 1
  · show some (((cnt (m :: kn h) m : Nat) : Int)) = some 0
    have : cnt (m :: kn h) m = 0 := by
      unfold cnt
      rw [List.length_eq_zero_iff, List.filter_eq_nil_iff]
      intro y hy
      rw [decide_eq_true_iff]
      rcases List.mem_cons.mp hy with e | e
      · omega
      · have := g y (mem_kn.mp e)
        omega
    rw [this]
    rfl
  · refine List.map_congr_left fun o ho => ?_
    cases o with
    | none => rfl
    | some v =>
      have c := g v ho
      show some (((cnt (m :: kn h) v : Nat) : Int)) = some (((cnt (kn h) v : Nat) : Int) + 1)
      unfold cnt
      rw [List.filter_cons_of_pos (by rw [decide_eq_true_iff]; exact c), List.length_cons]
      rfl
theorem firstMet_srt (val : Nat → Int) : ∀ i, (firstMet val i).length = (srt ((List.range i).map val)).length
  | 0 => rfl
  | i + 1 => by
    rw [firstMet_succ, List.range_succ, List.map_append, List.map_singleton, srt_snoc, insN_len (srt_sorted _)]
    have a := firstMet_any val i (val i)
    have ih := firstMet_srt val i
    unfold step_dedup
    by_cases c : val i ∈ (List.range i).map val
    · rw [if_pos (mem_srt.mpr c), if_pos, ih]
      rw [a, List.any_eq_true]
      exact ⟨_, c, by simp⟩
    · rw [if_neg (fun z => c (mem_srt.mp z)), if_neg]
      · rw [List.length_append, ih]; rfl
      · rw [a, List.any_eq_true]
        rintro ⟨z, hz, e⟩
        exact c (by have : z = val i := by simpa using e
                    rwa [← this])
theorem Ex.dk {T ms : List Addr} {H H1 : Hp} (a : Ex T ms H H1) {p : Addr} {kvs : List (Key × V)} (n : p ∉ ms) (h : H p = some (.dK kvs)) : H1 p = some (.dK kvs) := a.keep p _ n h fun ps e => by cases e
theorem take_srt (ns : List Int) : (List.range ns.length).map (fun i => ns.getD i 0) = ns := by
  refine List.ext_getElem (by simp) fun i h1 h2 => ?_
  rw [List.getElem_map, List.getElem_range, List.getD_eq_getElem?_getD, List.getElem?_eq_getElem h2]
  rfl
open PySem.W in
def tLenSetD (K : PySem.W.Frag) (ta : TE) : TE := fun σ H Q => ta σ H fun x H1 => ∃ (l : Addr) (ns : List Int), x = .ref l ∧ SqL K H1 l (ns.map V.int) ∧ ns.length ≤ 4000 ∧ Q (.int ((srt ns).length : Nat)) H1
theorem pe_lenSetD {X : Cx} {a : Expr} {ta : TE} {p p2 q pos : Pos} (hg : Gl X "len") (hm : X.mg "len" = none) (hg2 : Gl X "set") (hm2 : X.mg "set" = none) (ha : PE X a ta) (hc : X.calm = true := by rfl)
    (na : starEach [a] X.env = (false, eval a X.env) :: starEach [] X.env := by rfl) : PE X (.Call (.Name "len" p) [.Call (.Name "set" p2) [a] [] q] [] pos) (tLenSetD X.K ta) := by
  refine ⟨fun pins s σ H Q I h => ?_⟩
  refine Call_ (ld_blt I hg hm boot_len ?_)
  refine PyProof.Rows.callWith_builtin1 (PyProof.Rows.args_cons ?_ rfl) rfl rfl
  refine Call_ (ld_blt I hg2 hm2 boot_set ?_)
  refine PyProof.Rows.callWith_type1 (PyProof.Rows.args_cons (thn (ha.run pins s σ H _ I h) fun v s1 ⟨x, H1, I1, r1, q1⟩ => PyProof.Rows.args_nil ?_) na) na rfl
  obtain ⟨l, ns, rfl, hq, hl, q1⟩ := q1
  cases r1
  obtain ⟨its, r, pl, hz⟩ := I1.list hq
  have hlen : its.toArray.size = ns.length := by rw [List.size_toArray, ← r.length, List.length_map]
  refine call_set_list (I1.ok.hd hc) pl.isList (by simpa using ints_of_vals r) (by rw [hlen]; unfold scanBound; omega) fun h' tk hS hk => ?_
  refine PyProof.Rows.args_nil ?_
  have le := firstMet_length_le (fun i => ns.getD i 0) ns.length
  rw [hlen] at hS
  have en := firstMet_srt (fun i => ns.getD i 0) ns.length
  rw [take_srt] at en
  rw [en] at hS le
  obtain ⟨o, es, ep, t, ho, hex, hd, _, _, _, hf, hn⟩ := hS
  have I2 : Inv X pins σ H1 { s1 with heap := h', toks := tk } := I1.kept fun b o e => hk b o (Heap.lt_size e) e
  exact call_len_set ho hex hd hf (by rw [hn] <;> omega) ⟨.int (srt ns).length, H1, I2.tok _, ⟨_, by rw [hn]⟩, q1⟩
theorem eqD_lists {K : PySem.W.Frag} {H : Hp} {a b : Addr} {xs ys : List V} {ds : List D} {n : Nat} {Q : VK} (h1 : SqL K H a xs) (hx : Ats K H xs ds) (h2 : SqL K H b ys) (hy : Ats K H ys ds) (h : plDs n ds) (hn : n ≤ 63) (q : Q (.bl true) H) : rEqD K (.ref a) (.ref b) H Q := by
  have z := plDs_lay h
  have s : SeqAt.shaped (.list (toPys ds)) = true := by
    unfold SeqAt.shaped
    have e1 : (PyData.list (toPys ds)).canLay0 = true := by unfold PyData.canLay0; exact z.1
    have e2 : (PyData.list (toPys ds)).depth ≤ 64 := by unfold PyData.depth; omega
    rw [e1, decide_eq_true e2]
    rfl
  refine ⟨.list (toPys ds), .list (toPys ds), .lst h1 hx.dp, .lst h2 hy.dp, s, s, ?_⟩
  rw [SeqAt.eqv_refl _ (SeqAt.canLay_of_shaped s)]
  exact q
end Dv

/-! Tight logs. -/
namespace Dv
open PySem PySem.Spec PyProof.Rows L2 GxR Gx
def vals (es : List (Nat × Int)) : List Int := es.map (·.2)
def tgF (es : List (Nat × Int)) : Int → Int := fun v => (cnt (srt (vals es)) v : Nat)
def tightL (es : List (Nat × Int)) : List (Nat × Int) := es.map (chL (tgF es))
theorem tightL_len (es : List (Nat × Int)) : (tightL es).length = es.length := List.length_map ..
theorem vals_map (g : Int → Int) (es : List (Nat × Int)) : vals (es.map (chL g)) = (vals es).map g := by
  unfold vals
  rw [List.map_map, List.map_map]
  rfl
theorem tight_map {g : Int → Int} {es : List (Nat × Int)} (r : ∀ x ∈ vals es, ∀ y ∈ vals es, x < y → g x < g y) : tightL (es.map (chL g)) = tightL es := by
  unfold tightL tgF
  rw [vals_map, srt_map _ r, List.map_map]
  refine List.map_congr_left fun e he => ?_
  have me : e.2 ∈ vals es := List.mem_map.mpr ⟨e, he, rfl⟩
  show (e.1, ((cnt ((srt (vals es)).map g) (g e.2) : Nat) : Int)) = (e.1, ((cnt (srt (vals es)) e.2 : Nat) : Int))
  rw [cnt_map fun x hx => ?_]
  constructor
  · intro c
    rcases Int.lt_trichotomy x e.2 with a | a | a
    · exact a
    · rw [a] at c
      omega
    · have := r _ me _ (mem_srt.mp hx) a
      omega
  · exact r _ (mem_srt.mp hx) _ me
theorem tg_lt {es : List (Nat × Int)} {x y : Int} (hx : x ∈ vals es) (hy : y ∈ vals es) : tgF es x < tgF es y ↔ x < y := by
  have := cnt_lt (srt_sorted (vals es)) (mem_srt.mpr hx) (mem_srt.mpr hy)
  unfold tgF
  rw [← this]
  omega
theorem tight_tight (es : List (Nat × Int)) : tightL (tightL es) = tightL es := tight_map fun x hx y hy c => (tg_lt hx hy).mpr c
theorem srt_le {l P : List Int} (h : ∀ x ∈ l, x ∈ P) : (srt l).length ≤ P.length := by
  have e : srt l = srt (P.filter fun x => decide (x ∈ l)) := srt_unique (srt_sorted _) (srt_sorted _) fun y => by
    rw [mem_srt, mem_srt, List.mem_filter, decide_eq_true_iff]
    exact ⟨fun z => ⟨h y z, z⟩, fun z => z.2⟩
  rw [e]
  have := srt_len (P.filter fun x => decide (x ∈ l)) (P.filter fun x => decide (x ∈ l)).length
  rw [List.take_length] at this
  exact Nat.le_trans this (List.length_filter_le _ _)
def pool (b : Int) : List Int := [b + 1000, b - 1000, 0, -b, b, b + 1, b + 2, b + 3, b + 4, b + 5, b + 6, b + 7, b + 8]
theorem pool_abs {b x : Int} (h : x ∈ pool b) : x.natAbs ≤ b.natAbs + 1009 := by
  unfold pool at h
  simp only [List.mem_cons, List.not_mem_nil, or_false] at h
  omega
theorem pool_near {b t : Int} (h0 : 0 ≤ t) (h1 : t < 9) : b + t ∈ pool b := by
  unfold pool
  simp only [List.mem_cons, List.not_mem_nil, or_false]
  omega
/-- alike at a place -/
def likeB (as bs : List (Nat × Int)) (n k : Nat) : Bool := decide ((vals as).getD k 0 < (vals as).getD n 0) == decide ((vals bs).getD k 0 < (vals bs).getD n 0) && decide ((vals as).getD n 0 < (vals as).getD k 0) == decide ((vals bs).getD n 0 < (vals bs).getD k 0)
theorem vals_len (es : List (Nat × Int)) : (vals es).length = es.length := List.length_map ..
theorem tight_vals (es : List (Nat × Int)) : vals (tightL es) = (vals es).map (tgF es) := vals_map _ _
theorem like_of_tight {as bs : List (Nat × Int)} {n k : Nat} (e : tightL as = tightL bs) (hn : n < as.length) (hk : k < as.length) : likeB as bs n k = true := by
  have l : as.length = bs.length := by rw [← tightL_len as, e, tightL_len]
  have v : (vals as).map (tgF as) = (vals bs).map (tgF bs) := by rw [← tight_vals, e, tight_vals]
  have at' : ∀ {i : Nat} (hi : i < as.length), tgF as ((vals as).getD i 0) = tgF bs ((vals bs).getD i 0) := fun {i} hi => by
    have h1 : i < (vals as).length := by rw [vals_len]; exact hi
    have h2 : i < (vals bs).length := by rw [vals_len]; omega
    have := congrArg (fun z => z[i]?) v
    simp only [List.getElem?_map, List.getElem?_eq_getElem h1, List.getElem?_eq_getElem h2, Option.map_some] at this
    rw [List.getD_eq_getElem?_getD, List.getD_eq_getElem?_getD, List.getElem?_eq_getElem h1, List.getElem?_eq_getElem h2]
    exact Option.some.inj this
  have mem : ∀ {es : List (Nat × Int)} {i : Nat}, i < es.length → (vals es).getD i 0 ∈ vals es := fun {es i} hi => by
    have h1 : i < (vals es).length := by rw [vals_len]; exact hi
    rw [List.getD_eq_getElem?_getD, List.getElem?_eq_getElem h1]
    exact List.getElem_mem _
  unfold likeB
  rw [Bool.and_eq_true, beq_iff_eq, beq_iff_eq, decide_eq_decide, decide_eq_decide, ← tg_lt (mem hk) (mem hn), ← tg_lt (mem hn) (mem hk), at' hk, at' hn, tg_lt (mem (by omega)) (mem (by omega)), tg_lt (mem (by omega)) (mem (by omega))]
  exact ⟨Iff.rfl, Iff.rfl⟩
theorem tight_of_like {es : List (Nat × Int)} {n : Nat} {v : Int} (hn : n < es.length) (h : ∀ k < es.length, likeB (es.set n ((es[n]).1, v)) es n k = true) : tightL (es.set n ((es[n]).1, v)) = tightL es := by
  have hn' : n < (vals es).length := by rw [vals_len]; exact hn
  have vs : vals (es.set n ((es[n]).1, v)) = (vals es).set n v := by unfold vals; rw [List.map_set]
  have g0 : ∀ k, (hk : k < (vals es).length) → (vals es).getD k 0 = (vals es)[k] := fun k hk => by rw [List.getD_eq_getElem?_getD, List.getElem?_eq_getElem hk]; rfl
  have gn : ((vals es).set n v).getD n 0 = v := by rw [List.getD_eq_getElem?_getD, List.getElem?_set_self hn']; rfl
  have gk : ∀ k, (hk : k < (vals es).length) → k ≠ n → ((vals es).set n v).getD k 0 = (vals es)[k] := fun k hk ne => by rw [List.getD_eq_getElem?_getD, List.getElem?_set_ne (Ne.symm ne), List.getElem?_eq_getElem hk]; rfl
  have key : ∀ k, (hk : k < (vals es).length) → k ≠ n → ((vals es)[k] < v ↔ (vals es)[k] < (vals es)[n]) ∧ (v < (vals es)[k] ↔ (vals es)[n] < (vals es)[k]) := fun k hk ne => by
    have := h k (by rw [← vals_len]; exact hk)
    unfold likeB at this
    rw [vs, Bool.and_eq_true, beq_iff_eq, beq_iff_eq, decide_eq_decide, decide_eq_decide, gn, gk k hk ne, g0 k hk, g0 n hn'] at this
    exact this
  have e : es.set n ((es[n]).1, v) = es.map (chL fun x => if x = (vals es)[n] then v else x) := by
    refine List.ext_getElem (by simp) fun i h1 h2 => ?_
    rw [List.length_set] at h1
    rw [List.getElem_map, List.getElem_set]
    have ve : ∀ j, (hj : j < es.length) → (vals es)[j]'(by rw [vals_len]; exact hj) = (es[j]).2 := fun j hj => by unfold vals; rw [List.getElem_map]
    split
    · next c =>
      subst c
      show _ = ((es[n]).1, if (es[n]).2 = (vals es)[n] then v else (es[n]).2)
      rw [if_pos (ve n hn).symm]
    · next c =>
      show es[i] = ((es[i]).1, if (es[i]).2 = (vals es)[n] then v else (es[i]).2)
      by_cases z : (es[i]).2 = (vals es)[n]
      · rw [if_pos z]
        have kk := key i (by rw [vals_len]; exact h1) (fun w => c w.symm)
        rw [ve i h1] at kk
        have : (es[i]).2 = v := by
          rcases Int.lt_trichotomy (es[i]).2 v with a | a | a
          · have := kk.1.mp a
            omega
          · exact a
          · have := kk.2.mp a
            omega
        rw [← this]
      · rw [if_neg z]
  rw [e]
  refine tight_map fun x hx y hy c => ?_
  obtain ⟨i, hi, rfl⟩ := List.getElem_of_mem hx
  obtain ⟨j, hj, rfl⟩ := List.getElem_of_mem hy
  by_cases a : (vals es)[i] = (vals es)[n]
  · have b : ¬ (vals es)[j] = (vals es)[n] := by omega
    show (if (vals es)[i] = (vals es)[n] then v else (vals es)[i]) < (if (vals es)[j] = (vals es)[n] then v else (vals es)[j])
    rw [if_pos a, if_neg b]
    exact (key j hj (fun w => b (by subst w; rfl))).2.mpr (by omega)
  · by_cases b : (vals es)[j] = (vals es)[n]
    · show (if (vals es)[i] = (vals es)[n] then v else (vals es)[i]) < (if (vals es)[j] = (vals es)[n] then v else (vals es)[j])
      rw [if_neg a, if_pos b]
      exact (key i hi (fun w => a (by subst w; rfl))).1.mpr (by omega)
    · show (if (vals es)[i] = (vals es)[n] then v else (vals es)[i]) < (if (vals es)[j] = (vals es)[n] then v else (vals es)[j])
      rw [if_neg a, if_neg b]
      exact c
theorem eqvAll_logs : ∀ as bs : List (Nat × Int), PyData.eqvAll (toPys (as.map encE)) (toPys (bs.map encE)) = decide (as = bs)
  | [], [] => by unfold toPys PyData.eqvAll; rfl
  | [], y :: ys => by rw [List.map_nil, List.map_cons]; unfold toPys PyData.eqvAll; rw [decide_eq_false (by simp)]
  | x :: xs, [] => by rw [List.map_nil, List.map_cons]; unfold toPys PyData.eqvAll; rw [decide_eq_false (by simp)]
  | (t, v) :: xs, (u, z) :: ys => by
    rw [List.map_cons, List.map_cons]
    unfold toPys PyData.eqvAll
    rw [eqvAll_logs xs ys]
    have e : PyData.eqv (toPy (encE (t, v))) (toPy (encE (u, z))) = decide ((t, v) = (u, z)) := by
      show PyData.eqv (toPy (.tup [.int t, .int v])) (toPy (.tup [.int u, .int z])) = _
      unfold toPy PyData.eqv
      unfold toPys toPys toPys toPy PyData.eqvAll PyData.eqvAll PyData.eqvAll PyData.eqv
      rw [Bool.eq_iff_iff]
      simp
      omega
    rw [e, Bool.eq_iff_iff]
    simp
theorem eqD_logs {K : PySem.W.Frag} {H : Hp} {x y : V} {as bs : List (Nat × Int)} {Q : VK} (hx : At K H x (.tup (as.map encE))) (hy : At K H y (.tup (bs.map encE))) (q : Q (.bl (decide (as = bs))) H) : rEqD K x y H Q := by
  have s : ∀ zs : List (Nat × Int), SeqAt.shaped (toPy (.tup (zs.map encE))) = true := fun zs => plD_shaped (n := 2) plD_log (by decide)
  refine ⟨_, _, hx.dp, hy.dp, s as, s bs, ?_⟩
  have : PyData.eqv (toPy (.tup (as.map encE))) (toPy (.tup (bs.map encE))) = decide (as = bs) := by
    unfold toPy PyData.eqv
    exact eqvAll_logs as bs
  rw [this]
  exact q
theorem neD_logs {K : PySem.W.Frag} {H : Hp} {x y : V} {as bs : List (Nat × Int)} {Q : VK} (hx : At K H x (.tup (as.map encE))) (hy : At K H y (.tup (bs.map encE))) (q : Q (.bl (!decide (as = bs))) H) : rNeD K x y H Q := by
  have s : ∀ zs : List (Nat × Int), SeqAt.shaped (toPy (.tup (zs.map encE))) = true := fun zs => plD_shaped (n := 2) plD_log (by decide)
  refine ⟨_, _, hx.dp, hy.dp, s as, s bs, ?_⟩
  have : PyData.eqv (toPy (.tup (as.map encE))) (toPy (.tup (bs.map encE))) = decide (as = bs) := by
    unfold toPy PyData.eqv
    exact eqvAll_logs as bs
  rw [this]
  exact q
theorem srt_nodup {l : List Int} (h : l.Nodup) : ∀ n ≤ l.length, (srt (l.take n)).length = n
  | 0, _ => by simp [srt]
  | n + 1, hn => by
    have ih := srt_nodup h n (by omega)
    have hl : n < l.length := by omega
    rw [List.take_add_one, List.getElem?_eq_getElem hl]
    show (srt (l.take n ++ [l[n]])).length = n + 1
    rw [srt_snoc, insN_len (srt_sorted _), if_neg, ih]
    intro m
    obtain ⟨i, hi, e⟩ := List.getElem_of_mem (mem_srt.mp m)
    rw [List.length_take] at hi
    rw [List.getElem_take] at e
    exact List.pairwise_iff_getElem.mp h i n (by omega) hl (by omega) e
theorem setR_len {w : World} {h : Heap} {a : Addr} {ns : List Int} {n : Nat} (R : SetR w h a (fun j => decide (j ∈ ns)) n) : n = (srt ns).length := by
  obtain ⟨o, es, ep, t, _, _, _, _, nd, mem, _, _, hn, _⟩ := R
  have e : srt ns = srt (es.toList.map keyOf) := srt_unique (srt_sorted _) (srt_sorted _) fun y => by rw [mem_srt, mem_srt, ← mem y, decide_eq_true_iff]
  have := srt_nodup nd _ (Nat.le_refl _)
  rw [List.take_length] at this
  rw [e, this, List.length_map, Array.length_toList, hn]
def rSetN (K : PySem.W.Frag) (w : World) : List V → Hp → VK → Prop := fun xs H Q => ∃ (l : Addr) (ns : List Int), xs = [V.ref l] ∧ SqL K H l (ns.map V.int) ∧ ns.length ≤ 3000 ∧
  ∀ p, H p = none → Q (.ref p) (upd H p (SetO w p (fun j => decide (j ∈ ns)) (srt ns).length))
theorem cr_setN {X : Cx} (calm : X.calm = true := by rfl) : CallR X (.type "set") (rSetN X.K X.w) := by
  intro pins s σ H xs us Q inv r h
  obtain ⟨l, ns, rfl, sq, few, q⟩ := h
  rw [Vals.ref1 r]
  obtain ⟨its, rv, isl, _⟩ := inv.list sq
  refine set_of_list ns (inv.ok.hd calm) isl.isList (by simpa using ints_of_vals rv) (by unfold scanBound; omega) fun h' tk c made lc keep => ?_
  obtain rfl := setR_len made
  exact ⟨.ref s.heap.objs.size, upd H s.heap.objs.size (SetO X.w s.heap.objs.size (fun j => decide (j ∈ ns)) (srt ns).length), inv.laid (t' := tk) keep (Nat.le_refl _) (setO_new made), rfl, q _ (inv.hok.fresh (Nat.le_refl _))⟩
end Dv

/-! tuple(enumerate(xs)). -/
namespace PySem
open Sem (wp)
namespace F
theorem enm_no_len : typeLookup (.type "enumerate") "__len__" = pure none := by rw [typeLookup_type, builtinLookup_eq_fast]; kernel_rfl
theorem enm_no_hint : typeLookup (.type "enumerate") "__length_hint__" = pure none := by rw [typeLookup_type, builtinLookup_eq_fast]; kernel_rfl
end F
/-- an enumerate object that has told i items -/
def EnSt (h : Heap) (e it l : Addr) (items : Array Value) (i : Nat) : Prop :=
  h.IsListIter it l i ∧ h.IsList l items ∧ ((∃ old, IsEnum h e it i old) ∨ ∃ old T f oT, IsEnumHeld h e it i old T f ∧ h.get? T = some oT ∧ T ≠ e ∧ T ≠ it)
/-- the told pairs -/
def EnAcc (h : Heap) (base : Addr) (items : Array Value) (acc : Array Value) (i : Nat) : Prop :=
  acc.size = i ∧ ∀ j, j < i → ∃ T x t, acc[j]? = some (.ref T) ∧ items[j]? = some x ∧ base ≤ T ∧ h.get? T = some { cls := .type "tuple", data := .seq #[.int (j : Int) t, x] }
theorem EnSt.keep {h h' : Heap} {e it l : Addr} {items : Array Value} {i : Nat} {S : Addr} (x : EnSt h e it l items i) (hk : ∀ b o, b ≠ S → h.get? b = some o → h'.get? b = some o) (he : e ≠ S) (hi : it ≠ S) (hl : l ≠ S)
    (hT : ∀ T oT, h.get? T = some oT → h'.get? T ≠ none) : EnSt h' e it l items i := by
  obtain ⟨a, b, c⟩ := x
  refine ⟨a.at fun o z => hk it o hi z, b.at fun o z => hk l o hl z, ?_⟩
  rcases c with ⟨old, c⟩ | ⟨old, T, f, oT, c, d, n1, n2⟩
  · exact .inl ⟨old, hk e _ he c⟩
  · cases q : h'.get? T with
    | none => exact absurd q (hT T oT d)
    | some o' => exact .inr ⟨old, T, f, o', hk e _ he c, q, n1, n2⟩
section
variable {prog : Program} {w : World} {A : Around} {E : Value → Shared → Prop} {s : Shared} {R : Result → Shared → Prop}
theorem enm_next {e it l : Addr} {items : Array Value} {i : Nat} {x : Value} {Q : Option Value → Shared → Prop} (hei : e ≠ it) (hle : l ≠ e) (hli : l ≠ it) (hst : EnSt s.heap e it l items i) (hx : items[i]? = some x)
    (hQ : ∀ h', EnSt h' e it l items (i + 1) → h'.get? s.heap.objs.size = some { cls := .type "tuple", data := .seq #[.int i s.toks, x] } → h'.objs.size = s.heap.objs.size + 1 →
      (∀ b o, b ≠ e → b ≠ it → s.heap.get? b = some o → h'.get? b = some o) → Q (some (.ref s.heap.objs.size)) { s with heap := h', toks := s.toks + 1 }) : wpAny (model prog w) A (pyNext (.ref e)) Q E s := by
  obtain ⟨hit, hl, hst⟩ := hst
  have ei : ((i + 1 : Nat) : Int) = (i : Int) + 1 := by omega
  have ilt : it < s.heap.objs.size := by obtain ⟨o, ho, _⟩ := hit; exact Heap.lt_size ho
  rcases hst with ⟨old, he⟩ | ⟨old, T, f, oT, he, hT, n1, n2⟩
  · have elt : e < s.heap.objs.size := Heap.lt_size he
    refine wpAny_pyNext_enum_item he hit hl hx hei fun h' a b c d k => hQ h' ⟨b, hl.at fun o z => k l o hle hli z, .inr ⟨x, s.heap.objs.size, false, _, ?_, c, Nat.ne_of_gt elt, Nat.ne_of_gt ilt⟩⟩ c d k
    rw [ei]
    exact a
  · refine wpAny_pyNext_enum_item_held he hT n1 n2 hit hl hx hei fun h' a b c d k => hQ h' ⟨b, hl.at fun o z => k l o hle hli z, .inr ⟨old, T, true, oT, ?_, k T _ n1 n2 hT, n1, n2⟩⟩ c d k
    rw [ei]
    exact a
theorem enm_end {e it l : Addr} {items : Array Value} {Q : Option Value → Shared → Prop} (hh : A.handled = none) (hst : EnSt s.heap e it l items items.size) (hQ : ∀ h', Heap.ExtBut it s.heap h' → Q none { s with heap := h' }) : wpAny (model prog w) A (pyNext (.ref e)) Q E s := by
  obtain ⟨hit, hl, hst⟩ := hst
  have hx : items[items.size]? = none := Array.getElem?_eq_none (Nat.le_refl _)
  rcases hst with ⟨old, he⟩ | ⟨old, T, f, oT, he, hT, n1, n2⟩
  · exact wpAny_pyNext_enum_end hh he hit hl hx hQ
  · exact wpAny_pyNext_enum_end_held hh he hit hl hx hQ
theorem enm_loop {S e it l base : Addr} {items : Array Value} (hh : A.in1.handled = none) (hei : e ≠ it) (hle : l ≠ e) (hli : l ≠ it) (eS : e ≠ S) (iS : it ≠ S) (lS : l ≠ S) (eb : e < base) (ib : it < base) (Sb : S < base) (hn : items.size ≤ sizeLine) (res : Value) :
    ∀ (k i : Nat) (s : Shared) (acc : Array Value) (c : Nat), items.size - i = k → i ≤ items.size → base ≤ s.heap.objs.size → EnSt s.heap e it l items i → s.heap.get? S = some { cls := .type "list", dict := none, data := .seq acc c, slots := #[] } → EnAcc s.heap base items acc i →
    (∀ h' tk acc' c', (∀ b o, b ≠ S → b ≠ e → b ≠ it → s.heap.get? b = some o → h'.get? b = some o) → h'.get? S = some { cls := .type "list", dict := none, data := .seq acc' c', slots := #[] } → EnAcc h' base items acc' items.size → R (.ok (.ret res)) { s with heap := h', toks := tk }) →
    codeAny (model prog w) A (.builtin "list.extend.loop" ⟨[.ref S, .ref e, res], []⟩) R s := by
  intro k
  induction k with
  | zero =>
    intro i s acc c hk hi hb hst hS hacc hR
    have hin : i = items.size := by omega
    subst hin
    refine codeAny_builtin F.entry_extend_loop ?_
    rw [Around.under_plainId F.plain_extend_loop _]
    show wpAny _ A.in1 (pyNext (.ref e) >>= _) _ _ s
    refine wpAny_bind (enm_end hh hst fun h' x => wpAny_pure (hR h' s.toks acc c (fun b o _ _ n z => x b o n z) (x S _ (Ne.symm iS) hS) ⟨hacc.1, fun j hj => ?_⟩))
    obtain ⟨T, x', t, q1, q2, q3, q4⟩ := hacc.2 j hj
    exact ⟨T, x', t, q1, q2, q3, x T _ (Nat.ne_of_gt (Nat.lt_of_lt_of_le ib q3)) q4⟩
  | succ k ih =>
    intro i s acc c hk hi hb hst hS hacc hR
    have hlt : i < items.size := by omega
    have hx : items[i]? = some items[i] := Array.getElem?_eq_getElem hlt
    refine codeAny_builtin F.entry_extend_loop ?_
    rw [Around.under_plainId F.plain_extend_loop _]
    show wpAny _ A.in1 (pyNext (.ref e) >>= _) _ _ s
    refine wpAny_bind (enm_next hei hle hli hst hx fun h' st' ht hz keep => ?_)
    have hS' := keep S _ (Ne.symm eS) (Ne.symm iS) hS
    show wpAny _ A.in1 (updateSeq S (·.push (Value.ref s.heap.objs.size)) >>= _) _ _ _
    refine wpAny_bind ?_
    have TS : s.heap.objs.size ≠ S := Nat.ne_of_gt (Nat.lt_of_lt_of_le Sb hb)
    refine wpAny_updateSeq hS' rfl (wpAny_pure ⟨plainId_quiet F.plain_extend_loop _, ih (i + 1) _ (acc.push (.ref s.heap.objs.size)) _ (by omega) hlt ?_ (st'.keep (S := S) (fun b o n z => (Heap.get?_update_other _ _ (Ne.symm n)).trans z) eS iS lS fun T oT z => ?_) (Heap.get?_update_self _ hS' rfl) ⟨by rw [Array.size_push, hacc.1], fun j hj => ?_⟩ fun h'' tk acc' c' k2 hS'' hacc' => ?_⟩)
      (by rw [hacc.1]; omega) (by show (acc.push _).size ≤ sizeLine + 1; rw [Array.size_push, hacc.1]; omega)
    · show base ≤ (h'.update S _).objs.size
      rw [Heap.size_update, hz]
      exact Nat.le_succ_of_le hb
    · by_cases q : T = S
      · subst q
        rw [Heap.get?_update_self _ hS' rfl]
        exact fun z => by cases z
      · rw [Heap.get?_update_other _ _ (Ne.symm q), z]
        exact fun z => by cases z
    · rw [Array.getElem?_push]
      by_cases q : j = i
      · subst q
        rw [if_pos hacc.1.symm]
        exact ⟨_, _, _, rfl, hx, hb, (Heap.get?_update_other _ _ (Ne.symm TS)).trans ht⟩
      · have hj' : j < i := by omega
        rw [if_neg (by rw [hacc.1]; exact q)]
        obtain ⟨T, x', t, q1, q2, q3, q4⟩ := hacc.2 j hj'
        have nS : S ≠ T := Nat.ne_of_lt (Nat.lt_of_lt_of_le Sb q3)
        exact ⟨T, x', t, q1, q2, q3, (Heap.get?_update_other _ _ nS).trans (keep T _ (Nat.ne_of_gt (Nat.lt_of_lt_of_le eb q3)) (Nat.ne_of_gt (Nat.lt_of_lt_of_le ib q3)) q4)⟩
    · exact hR h'' tk acc' c' (fun b o n1 n2 n3 z => k2 b o n1 n2 n3 ((Heap.get?_update_other _ _ (Ne.symm n1)).trans (keep b o n2 n3 z))) hS'' hacc'
theorem enm_collect {e it l : Addr} {items : Array Value} {old : Value} {Q : List Value → Shared → Prop} (hh : A.in1.handled = none) (hei : e ≠ it) (hle : l ≠ e) (hli : l ≠ it) (hit : s.heap.IsListIter it l 0) (hl : s.heap.IsList l items) (he0 : IsEnum s.heap e it 0 old) (le : e < s.heap.objs.size) (li : it < s.heap.objs.size) (ll : l < s.heap.objs.size) (hn : items.size ≤ sizeLine)
    (hQ : ∀ h' tk acc, s.heap.objs.size < h'.objs.size → (∀ b o, b < s.heap.objs.size → b ≠ e → b ≠ it → s.heap.get? b = some o → h'.get? b = some o) → EnAcc h' s.heap.objs.size items acc items.size → Q acc.toList { s with heap := h', toks := tk }) : wpAny (model prog w) A (collect (.ref e)) Q E s := by
  have hSI : s.heap.objs.size ≠ e := Nat.ne_of_gt le
  have hst : EnSt s.heap e it l items 0 := ⟨hit, hl, .inl ⟨old, he0⟩⟩
  have T0 : ∀ {h : Heap}, EnSt h e it l items 0 → ({ s with heap := h } : Shared).TypeIs (.ref e) "enumerate" := fun {h} x => by
    rcases x.2.2 with ⟨old, he⟩ | ⟨old, T, f, oT, he, _⟩
    · exact ⟨_, he, rfl⟩
    · exact ⟨_, he, rfl⟩
  unfold collect
  refine wpAny_bind (wpAny_runValue (codeAny_builtin F.entry_proto_collect ?_))
  rw [Around.under_plainId F.plain_proto_collect _]
  show wpAny _ A.in1 (newList [] >>= fun l => again (.builtin "list.__iadd__" ⟨[l, .ref e], []⟩)) _ _ s
  refine wpAny_bind (wpAny_newObj_type ?_)
  refine wpAny_pure ⟨plainId_quiet F.plain_list_iadd _, codeAny_builtin F.entry_list_iadd ?_⟩
  rw [Around.under_plainId F.plain_list_iadd _]
  have keep1 : ∀ b o, s.heap.get? b = some o → (s.heap.push { cls := .type "list", data := .seq ([] : List Value).toArray }).get? b = some o := fun b o z => Heap.get?_push_of_some _ z
  have hst₁ : EnSt (s.heap.push { cls := .type "list", data := .seq ([] : List Value).toArray }) e it l items 0 := hst.keep (S := s.heap.objs.size) (fun b o _ z => keep1 b o z) (Nat.ne_of_lt le) (Nat.ne_of_lt li) (Nat.ne_of_lt ll) fun T oT z => by rw [keep1 T oT z]; exact fun z => by cases z
  show wpAny _ A.in1 (Builtin.List.listExtendWith (.ref s.heap.objs.size) (.ref e) (.ref s.heap.objs.size)) _ _ _
  unfold Builtin.List.listExtendWith
  refine wpAny_bind (wpAny_typeOf (T0 hst₁) ?_)
  have h1 : Builtin.List.listSameRef (.ref s.heap.objs.size) (.ref e) = false := by simp [Builtin.List.listSameRef, hSI]
  have h2 : (Value.type "enumerate" == Value.type "list") = false := by decide
  have h3 : (Value.type "enumerate" == Value.type "tuple") = false := by decide
  simp only [h1, h2, h3, Bool.or_false, Bool.false_eq_true, if_false]
  have self : ∀ {Q' : Value → Shared → Prop} {E' : Value → Shared → Prop} (s' : Shared), s'.heap = s.heap.push { cls := .type "list", data := .seq ([] : List Value).toArray } → Q' (.ref e) s' → wpAny (model prog w) A.in1 (pyIter (.ref e)) Q' E' s' := fun s' es q => by
    exact wpAny_pyIter_enum (by rw [es]; exact keep1 e _ he0) q
  refine wpAny_bind (self _ rfl ?_)
  refine wpAny_bind (wpAny_holding ?_)
  unfold Builtin.List.listLengthHint
  refine wpAny_bind (wpAny_specialOf (T0 hst₁) F.enm_no_len ?_)
  show wpAny _ A.in1 (specialOf (Value.ref e) (Str.ofString "__length_hint__") >>= _) _ _ _
  refine wpAny_bind (wpAny_specialOf (T0 hst₁) F.enm_no_hint ?_)
  refine wpAny_pure ?_
  show wpAny _ A.in1 (rule "list.extend.makes-room" >>= fun _ => Builtin.List.listTouch (.ref s.heap.objs.size) >>= fun _ =>
    again (.builtin "list.extend.loop" ⟨[.ref s.heap.objs.size, .ref e, .ref s.heap.objs.size], []⟩)) _ _ _
  refine wpAny_bind (wpAny_rule ?_)
  have hS₁ : (s.heap.push { cls := .type "list", data := .seq ([] : List Value).toArray }).get? s.heap.objs.size = some { cls := .type "list", data := .seq ([] : List Value).toArray } := Heap.get?_push_size _ rfl
  refine wpAny_bind ?_
  show wpAny _ A.in1 (updateSeq s.heap.objs.size (·.push .none) >>= fun _ => updateSeq s.heap.objs.size (·.pop)) _ _ _
  refine wpAny_bind (wpAny_updateSeq hS₁ rfl ?_)
  have hS₂ := Heap.get?_update_self (Obj.mapSeq (·.push Value.none)) hS₁ rfl
  refine wpAny_updateSeq hS₂ rfl ?_
  have hS₃ := Heap.get?_update_self (Obj.mapSeq (·.pop)) hS₂ rfl
  have oth : ∀ b o, b ≠ s.heap.objs.size → (s.heap.push { cls := .type "list", data := .seq ([] : List Value).toArray }).get? b = some o →
      (((s.heap.push { cls := .type "list", data := .seq ([] : List Value).toArray }).update s.heap.objs.size (Obj.mapSeq (·.push Value.none))).update s.heap.objs.size (Obj.mapSeq (·.pop))).get? b = some o :=
    fun b o hb e => (Heap.get?_update_other _ _ (Ne.symm hb)).trans ((Heap.get?_update_other _ _ (Ne.symm hb)).trans e)
  have hst₃ := hst₁.keep (h' := (((s.heap.push { cls := .type "list", data := .seq ([] : List Value).toArray }).update s.heap.objs.size (Obj.mapSeq (·.push Value.none))).update s.heap.objs.size (Obj.mapSeq (·.pop)))) (S := s.heap.objs.size) (fun b o n z => oth b o n z) (Nat.ne_of_lt le) (Nat.ne_of_lt li) (Nat.ne_of_lt ll) fun T oT z => by
    by_cases q : T = s.heap.objs.size
    · rw [q, hS₃]
      exact fun z => by cases z
    · rw [oth T oT q z]
      exact fun z => by cases z
  refine wpAny_pure ⟨plainId_quiet F.plain_extend_loop _, enm_loop (base := s.heap.objs.size + 1) hh hei hle hli (Nat.ne_of_lt le) (Nat.ne_of_lt li) (Nat.ne_of_lt ll) (Nat.lt_succ_of_lt le) (Nat.lt_succ_of_lt li) (Nat.lt_succ_self _) hn _ items.size 0 _ _ _ rfl (Nat.zero_le _) ?_ hst₃ hS₃ ⟨rfl, fun j hj => absurd hj (Nat.not_lt_zero _)⟩ fun h' tk acc' c' k2 hS' hacc => ?_⟩
  · show s.heap.objs.size + 1 ≤ (((s.heap.push _).update s.heap.objs.size _).update s.heap.objs.size _).objs.size
    rw [Heap.size_update, Heap.size_update, Heap.size_push]
    exact Nat.le_refl _
  show wpAny _ A (load s.heap.objs.size >>= _) _ _ { s with heap := h', toks := tk }
  refine wpAny_bind (wpAny_load hS' ?_)
  refine wpAny_pure (hQ h' tk acc' (Heap.lt_size hS') (fun b o lb n1 n2 z => k2 b o (Nat.ne_of_lt lb) n1 n2 (oth b o (Nat.ne_of_lt lb) (keep1 b o z))) ⟨hacc.1, fun j hj => ?_⟩)
  obtain ⟨T, x', t, q1, q2, q3, q4⟩ := hacc.2 j hj
  exact ⟨T, x', t, q1, q2, Nat.le_of_succ_le q3, q4⟩
theorem code_tuple_new_enm {e it l : Addr} {items : Array Value} {old : Value} {Q₁ : Value → Shared → Prop} (hh : A.handled = none) (hei : e ≠ it) (hle : l ≠ e) (hli : l ≠ it) (hit : s.heap.IsListIter it l 0) (hl : s.heap.IsList l items) (he0 : IsEnum s.heap e it 0 old) (le : e < s.heap.objs.size) (li : it < s.heap.objs.size) (ll : l < s.heap.objs.size) (hn : items.size ≤ sizeLine)
    (h : ∀ h' tk acc, s.heap.objs.size < h'.objs.size → (∀ b o, b < s.heap.objs.size → b ≠ e → b ≠ it → s.heap.get? b = some o → h'.get? b = some o) → EnAcc h' s.heap.objs.size items acc items.size → Q₁ (.ref h'.objs.size) { s with heap := h'.push { cls := .type "tuple", data := .seq acc }, toks := tk }) :
    codeAny (model prog w) A (.call (.builtin "tuple.__new__") ⟨[.type "tuple", .ref e], []⟩) (wants Q₁ E) s := by
  refine codeAny_of_tree ?_
  show wpAny _ A.in1 (do checkBuiltinCall "tuple.__new__" ⟨[.type "tuple", .ref e], []⟩; again (.builtin "tuple.__new__" ⟨[.type "tuple", .ref e], []⟩)) _ _ s
  refine wpAny_bind (wpAny_of_eq (F.newCall_tuple_1 _) (wpAny_pure ⟨plainId_quiet F.plain_tuple_new _, codeAny_builtin F.entry_tuple_new ?_⟩))
  rw [Around.under_plainId F.plain_tuple_new _]
  have hsub := sub_tuple_self
  have hinit := init_tuple_lookup
  have hmh := madeHere_tuple
  have hTI : s.TypeIs (.ref e) "enumerate" := ⟨_, he0, rfl⟩
  wp_walk using wpAny_typeOf hTI, enm_collect (by simp [hh]) hei hle hli hit hl he0 le li ll hn
  intro h' tk acc hz hk hacc
  show wpAny _ _ (Builtin.Tuple.tupleExact acc.toList.toArray >>= fun v => ret v) _ _ _
  unfold Builtin.Tuple.tupleExact
  refine wpAny_bind (wpAny_newObj_type ?_ (by show acc.toList.toArray.size ≤ sizeLine; simp only [Array.toArray_toList]; rw [hacc.1]; exact hn))
  refine wpAny_pure ?_
  have e' : acc.toList.toArray = acc := by simp
  rw [e']
  exact h h' tk acc hz hk hacc
theorem call_tuple_enm {e it l : Addr} {items : Array Value} {old : Value} {Q : Value → Shared → Prop} (hh : A.handled = none) (hei : e ≠ it) (hle : l ≠ e) (hli : l ≠ it) (hit : s.heap.IsListIter it l 0) (hl : s.heap.IsList l items) (he0 : IsEnum s.heap e it 0 old) (le : e < s.heap.objs.size) (li : it < s.heap.objs.size) (ll : l < s.heap.objs.size) (hn : items.size ≤ sizeLine)
    (h : ∀ h' tk acc, s.heap.objs.size < h'.objs.size → (∀ b o, b < s.heap.objs.size → b ≠ e → b ≠ it → s.heap.get? b = some o → h'.get? b = some o) → EnAcc h' s.heap.objs.size items acc items.size → Q (.ref h'.objs.size) { s with heap := h'.push { cls := .type "tuple", data := .seq acc }, toks := tk }) :
    wpAny (model prog w) A (call (.type "tuple") [.ref e]) Q E s := by
  refine callType_codes (Q₁ := fun obj s₁ => s₁.TypeIs obj "tuple" ∧ Q obj s₁) F.called_tuple (F.typeCall_tuple_1 _) F.entry_object_init
    (code_tuple_new_enm (by simp [hh]) hei hle hli hit hl he0 le li ll hn fun h' tk acc hz hk hacc => ⟨⟨_, Heap.get?_push_size _ rfl, rfl⟩, h h' tk acc hz hk hacc⟩) fun obj s₁ h₁ => ?_
  exact ⟨h₁.1, F.args_object_init_2 obj _, object_init_meets F.called_tuple.init.lookup F.called_tuple.made (by decide) prog w A.in1 _ s₁ ⟨h₁.1, rfl, h₁.2⟩⟩
end
end PySem

/-! tuple(enumerate(xs)) in the hand layer. -/
namespace Dv
open PySem PySem.Spec PyProof.Rows L2 GxR Gx LiI
/-- the pairs of places and items -/
def enK : Nat → List V → List (Key × V)
  | _, [] => []
  | j, x :: xs => (Sum.inl (j : Int), x) :: enK (j + 1) xs
theorem enK_len : ∀ (xs : List V) (j : Nat), (enK j xs).length = xs.length
  | [], _ => rfl
  | _ :: xs, j => congrArg (· + 1) (enK_len xs (j + 1))
theorem enK_at : ∀ (xs : List V) (j i : Nat), (enK j xs)[i]? = (xs[i]?).map fun x => (Sum.inl ((j + i : Nat) : Int), x)
  | [], _, _ => rfl
  | x :: xs, j, 0 => rfl
  | x :: xs, j, i + 1 => by
    show (enK (j + 1) xs)[i]? = _
    rw [enK_at xs (j + 1) i, show j + 1 + i = j + (i + 1) by omega]
    rfl
def unR : Value → Addr
  | .ref a => a
  | _ => 0
section
variable {X : Cx}
theorem en_laid {pins : List (Addr × Obj)} {σ : L2.St} {H : Hp} {s : Shared} {h' : Heap} {tk : Nat} {xs : List V} {items acc : Array Value} (I : Inv X pins σ H s) (hz : xs.length ≤ sizeLine) (rv : Vals xs items.toList)
    (hk : ∀ b o, s.heap.get? b = some o → h'.get? b = some o) (hb : s.heap.objs.size ≤ h'.objs.size) (ac : EnAcc h' s.heap.objs.size items acc items.size) :
    ∃ (H' : Hp) (as : List Addr), (∀ b o, H b = some o → H' b = some o) ∧ H h'.objs.size = none ∧ (∀ t ∈ as, H t = none) ∧ h'.objs.size ∉ as ∧ H' h'.objs.size = some (.tup (as.map V.ref)) ∧ Paired (fun (t : Addr) (q : Key × V) => H' t = some (.tup [kV q.1, q.2])) as (enK 0 xs) ∧
      Inv X pins σ H' { s with heap := h'.push { cls := .type "tuple", data := .seq acc }, toks := tk } := by
  have lx : xs.length = items.size := by rw [← Array.length_toList]; exact rv.length
  obtain ⟨asz, acp⟩ := ac
  generalize eas : acc.toList.map unR = as
  have la : as.length = items.size := by rw [← eas, List.length_map, Array.length_toList, asz]
  have get : ∀ j (hj : j < as.length), ∃ x t, acc[j]? = some (.ref as[j]) ∧ items[j]? = some x ∧ s.heap.objs.size ≤ as[j] ∧ h'.get? as[j] = some { cls := .type "tuple", data := .seq #[.int (j : Int) t, x] } := fun j hj => by
    obtain ⟨T, x, t, q1, q2, q3, q4⟩ := acp j (by omega)
    have : as[j] = T := by
      subst eas
      rw [List.getElem_map, Array.getElem_toList]
      rw [(Array.getElem?_eq_some_iff.mp q1).2]
      rfl
    rw [this]
    exact ⟨x, t, q1, q2, q3, q4⟩
  have hacc : acc.toList = as.map Value.ref := by
    refine List.ext_getElem (by rw [Array.length_toList, List.length_map, la, asz]) fun i h1 h2 => ?_
    rw [List.length_map] at h2
    obtain ⟨x, t, q1, _⟩ := get i h2
    rw [List.getElem_map, Array.getElem_toList]
    exact (Array.getElem?_eq_some_iff.mp q1).2
  have nd : as.Nodup := by
    refine List.pairwise_iff_getElem.mpr fun i j hi hj lt e => ?_
    obtain ⟨x, t, _, _, _, q4⟩ := get i hi
    obtain ⟨y, u, _, _, _, r4⟩ := get j hj
    rw [← e, q4] at r4
    have := Option.some.inj r4
    injection this with _ _ d _
    injection d with d
    have z := congrArg (fun (a : Array Value) => a[0]?) d
    simp at z
    omega
  have above : ∀ t ∈ as, s.heap.objs.size ≤ t ∧ t < h'.objs.size := fun t ht => by
    obtain ⟨j, hj, rfl⟩ := List.getElem_of_mem ht
    obtain ⟨_, _, _, _, q3, q4⟩ := get j hj
    exact ⟨q3, Heap.lt_size q4⟩
  have hSn : h'.objs.size ∉ as := fun z => Nat.lt_irrefl _ (above _ z).2
  have new : ∀ t ∈ as, H t = none := fun t ht => I.hok.fresh (above t ht).1
  have newS : H h'.objs.size = none := I.hok.fresh hb
  have hk2 : ∀ b o, s.heap.get? b = some o → (h'.push { cls := .type "tuple", data := .seq acc }).get? b = some o := fun b o q => Heap.get?_push_of_some _ (hk b o q)
  have lk : as.length = (enK 0 xs).length := by rw [enK_len]; omega
  have atP := putT_at as (enK 0 xs) (upd H h'.objs.size (.tup (as.map V.ref))) lk nd
  have off : ∀ b, b ∉ as → b ≠ h'.objs.size → putT (upd H h'.objs.size (.tup (as.map V.ref))) as (enK 0 xs) b = H b := fun b h1 h2 => by rw [putT_off as (enK 0 xs) _ h1, upd_ne h2]
  have low : ∀ b o, s.heap.get? b = some o → b ∉ as ∧ b ≠ h'.objs.size := fun b o e => ⟨fun z => absurd (Heap.lt_size e) (Nat.not_lt.mpr (above b z).1), Nat.ne_of_lt (Nat.lt_of_lt_of_le (Heap.lt_size e) hb)⟩
  have kp : ∀ b u, H b = some u → (putT (upd H h'.objs.size (.tup (as.map V.ref))) as (enK 0 xs)) b = some u := fun b u e => by
    rw [off b (fun z => by rw [new b z] at e; cases e) (fun z => by rw [z, newS] at e; cases e)]
    exact e
  have eS : putT (upd H h'.objs.size (.tup (as.map V.ref))) as (enK 0 xs) h'.objs.size = some (.tup (as.map V.ref)) := by rw [putT_off as (enK 0 xs) _ hSn, upd_same]
  refine ⟨putT (upd H h'.objs.size (.tup (as.map V.ref))) as (enK 0 xs), as, kp, newS, new, hSn, eS, atP, ?_⟩
  refine I.call' (ch := []) rfl ⟨fun b o q _ _ _ => hk2 b o q, fun b o q _ _ _ => ⟨o.slots, hk2 b o q⟩, fun b o q n _ => ?_, fun b o q _ => ⟨o, hk2 b o q⟩, fun b xs q => kp b _ q, fun b o u q => kp b _ q, fun b ps q => ⟨#[], by rw [kp b _ q]; simp⟩⟩ (fun b u q => ?_) I.bare fun b z => by simp at z
  · obtain ⟨z1, z2⟩ := low b o q
    rw [off b z1 z2]
    exact n
  · by_cases hb : b ∈ as
    · obtain ⟨j, pk, e1, e2, e3⟩ := paired_ix atP hb
      rw [e3] at q
      cases q
      have hj : j < as.length := (List.getElem?_eq_some_iff.mp e1).1
      have ej : as[j] = b := (List.getElem?_eq_some_iff.mp e1).2
      obtain ⟨x, t, _, q2, _, q4⟩ := get j hj
      rw [ej] at q4
      rw [enK_at, Nat.zero_add] at e2
      obtain ⟨v, hv, ev⟩ := Option.map_eq_some_iff.mp e2
      subst ev
      obtain ⟨y, g1, g2⟩ := LiI.paired_get rv hv
      rw [Array.getElem?_toList, q2] at g1
      cases g1
      exact ⟨by show 2 ≤ sizeLine; decide, [.int j t, x], .cons ⟨_, rfl⟩ (.cons g2 .nil), ⟨_, Heap.get?_push_of_some _ q4, rfl, _, rfl⟩⟩
    · by_cases hb2 : b = h'.objs.size
      · rw [hb2] at q ⊢
        rw [eS] at q
        cases q
        refine ⟨by rw [List.length_map]; omega, acc.toList, by rw [hacc]; exact LiI.vals_refs as, ?_⟩
        rw [Array.toArray_toList]
        exact ⟨_, Heap.get?_push_size _ rfl, rfl, _, rfl⟩
      · rw [off b hb hb2] at q
        exact (I.hok b u q).stay (fun d v _ y => hk2 d v y) (fun d y => kp d _ y) fun d xs y => kp d _ y
def tTupEnum (K : PySem.W.Frag) (ta : TE) : TE := fun σ H Q => ta σ H fun x H1 => ∃ (l : Addr) (xs : List V), x = .ref l ∧ SqL K H1 l xs ∧ xs.length ≤ 100000 ∧
  ∀ (H' : Hp) (p : Addr) (ts : List Addr), (∀ b o, H1 b = some o → H' b = some o) → H1 p = none → (∀ t ∈ ts, H1 t = none) → p ∉ ts → H' p = some (.tup (ts.map V.ref)) → Paired (fun (t : Addr) (q : Key × V) => H' t = some (.tup [kV q.1, q.2])) ts (enK 0 xs) → Q (.ref p) H'
theorem pe_tupEnum {a : Expr} {ta : TE} {p p2 q pos : Pos} (hg : Gl X "tuple") (hm : X.mg "tuple" = none) (hg2 : Gl X "enumerate") (hm2 : X.mg "enumerate" = none) (ha : PE X a ta) (hc : X.calm = true := by rfl)
    (na : starEach [a] X.env = (false, eval a X.env) :: starEach [] X.env := by rfl) : PE X (.Call (.Name "tuple" p) [.Call (.Name "enumerate" p2) [a] [] q] [] pos) (tTupEnum X.K ta) := by
  refine ⟨fun pins s σ H Q I h => ?_⟩
  refine Call_ (ld_blt I hg hm (u := .type "tuple") (by decide +kernel) ?_)
  refine PyProof.Rows.callWith_type1 (PyProof.Rows.args_cons ?_ rfl) rfl rfl
  refine Call_ (ld_blt I hg2 hm2 boot_enumerate ?_)
  refine PyProof.Rows.callWith_type1 (PyProof.Rows.args_cons (thn (ha.run pins s σ H _ I h) fun v s1 ⟨x, H1, I1, r1, q1⟩ => PyProof.Rows.args_nil ?_) na) na rfl
  obtain ⟨l, xs, rfl, hq, hl, q1⟩ := q1
  cases r1
  obtain ⟨its, rv, pl, hz⟩ := I1.list hq
  refine call_enumerate_list pl.isList fun h' he hit hsz hk => ?_
  refine PyProof.Rows.args_nil ?_
  have ll : l < s1.heap.objs.size := by obtain ⟨o, ho, _⟩ := pl.isList; exact Heap.lt_size ho
  have li : its.toArray.size = xs.length := by rw [List.size_toArray, ← rv.length]
  refine call_tuple_enm (s := { s1 with heap := h' }) (e := s1.heap.objs.size + 1) (it := s1.heap.objs.size) (l := l) (I1.ok.hd hc) (Nat.succ_ne_self _) (Nat.ne_of_lt (Nat.lt_succ_of_lt ll)) (Nat.ne_of_lt ll) hit (pl.isList.at fun o z => hk l o z) he (by show _ < h'.objs.size; rw [hsz]; exact Nat.lt_succ_self _) (by show _ < h'.objs.size; rw [hsz]; omega) (by show _ < h'.objs.size; rw [hsz]; exact Nat.lt_of_lt_of_le ll (by omega)) (by rw [li]; unfold sizeLine; omega) fun h'' tk acc sz hk2 ac => ?_
  have sz' : s1.heap.objs.size + 2 < h''.objs.size := by rw [← hsz]; exact sz
  obtain ⟨H', as, k1, k2, k3, k4, k5, k6, J⟩ := en_laid (tk := tk) (h' := h'') (items := its.toArray) I1 (by unfold sizeLine; omega) rv (fun b o z => hk2 b o (by
      have := Heap.lt_size z
      show b < h'.objs.size
      rw [hsz]
      exact Nat.lt_of_lt_of_le this (by omega)) (Nat.ne_of_lt (Nat.lt_succ_of_lt (Heap.lt_size z))) (Nat.ne_of_lt (Heap.lt_size z)) (hk b o z)) (by omega) ⟨ac.1, fun j hj => by
      obtain ⟨T, x, t, z1, z2, z3, z4⟩ := ac.2 j hj
      refine ⟨T, x, t, z1, z2, Nat.le_trans ?_ z3, z4⟩
      show s1.heap.objs.size ≤ h'.objs.size
      rw [hsz]
      omega⟩
  exact ⟨.ref _, H', J, rfl, q1 H' _ as k1 k2 k3 k4 k5 k6⟩
end
end Dv

/-! Top lists: the machine and what it does. -/
namespace Dv
open PySem PySem.Spec PyProof.Rows L2 GxR Gx
def srcK (k held at' : Nat) : List Int := (((List.range at').map fun (j : Nat) => (j : Int)) ++ [-1] ++ (List.range' at' (held - at')).map fun (j : Nat) => (j : Int)).take k
def movK (k held at' : Nat) : List Int := srcK k held at' ++ (List.range' (srcK k held at').length (k - (srcK k held at').length)).map fun (j : Nat) => (j : Int)
def enP (l : List Int) : List (Int × Int) := l.zipIdx.map fun p => ((p.2 : Int), p.1)
def putK' (k held at' : Nat) (c : C) : Case := ⟨if at' < held then .all [c, .less at' (-1)] else c, movK k held at', enP (srcK k held at'), 0⟩
def grpK (k held : Nat) (c : C) : List Case := (List.range (held + 1)).map fun at' => putK' k held at' c
def topC (k : Nat) : List Case := (List.range k).flatMap (fun held => grpK k held (.emp held)) ++ grpK k k .tru
def topM (k : Nat) : M := ⟨1, k, [[topC k]]⟩
/-- the place of x in a falling list -/
def posD (x : Int) : List Int → Nat
  | [] => 0
  | y :: l => if y < x then 0 else posD x l + 1
theorem posD_le (x : Int) : ∀ l : List Int, posD x l ≤ l.length
  | [] => Nat.le_refl _
  | y :: l => by
    unfold posD
    split
    · exact Nat.zero_le _
    · exact Nat.succ_le_succ (posD_le x l)
theorem posD_before (x : Int) : ∀ {l : List Int} {j : Nat}, j < posD x l → ∀ y, l[j]? = some y → ¬ y < x
  | [], j, h, y, e => by cases e
  | z :: l, j, h, y, e => by
    unfold posD at h
    split at h
    · exact absurd h (Nat.not_lt_zero _)
    · next c =>
      cases j with
      | zero => cases e; exact c
      | succ j => exact posD_before x (Nat.lt_of_succ_lt_succ h) y e
theorem posD_here (x : Int) : ∀ {l : List Int} (y : Int), l[posD x l]? = some y → y < x
  | [], y, e => by cases e
  | z :: l, y, e => by
    unfold posD at e
    split at e
    · next c => cases e; exact c
    · exact posD_here x y e
def insD (x : Int) (l : List Int) : List Int := l.take (posD x l) ++ [x] ++ l.drop (posD x l)
def regK (k : Nat) (d : List Int) : List (Option Int) := d.map some ++ List.replicate (k - d.length) none
theorem regK_at {k : Nat} {d : List Int} {j : Nat} (hd : d.length ≤ k) : (regK k d)[j]?.getD none = d[j]? := by
  unfold regK
  by_cases h : j < d.length
  · rw [List.getElem?_append_left (by rw [List.length_map]; exact h), List.getElem?_map, List.getElem?_eq_getElem h]
    rfl
  · rw [List.getElem?_append_right (by rw [List.length_map]; omega), List.getElem?_eq_none (by omega : d.length ≤ j), List.getElem?_replicate]
    split <;> rfl
theorem worthN {v : Int} {h : List (Option Int)} : worth v h (-1) = some v := rfl
theorem worth_reg {v : Int} {k : Nat} {d : List Int} {j : Nat} (hd : d.length ≤ k) : worth v (regK k d) (j : Int) = d[j]? := by
  unfold worth
  rw [if_neg (by omega), if_neg (by omega), Int.toNat_natCast, regK_at hd]
/-- the case of a group that is carried out -/
theorem grp_find {k held : Nat} {c : C} {x : Int} {d : List Int} (hd : d.length ≤ k) (hc : hold x (regK k d) c = true) (hl : d.length = held) :
    (grpK k held c).find? (holdC x (regK k d)) = some (putK' k held (posD x d) c) := by
  have le := posD_le x d
  have hw : ∀ at', holdC x (regK k d) (putK' k held at' c) = if at' < held then ltO d[at']? (some x) else true := fun at' => by
    show hold x (regK k d) (if at' < held then .all [c, .less at' (-1)] else c) = _
    by_cases h : at' < held
    · rw [if_pos h, if_pos h]
      have e : hold x (regK k d) (.all [c, .less at' (-1)]) = (hold x (regK k d) c && (ltO (worth x (regK k d) at') (worth x (regK k d) (-1)) && true)) := by simp only [hold, holdA]
      rw [e, hc, worth_reg hd, worthN]
      simp
    · rw [if_neg h, if_neg h, hc]
  unfold grpK
  rw [List.find?_eq_some_iff_append]
  refine ⟨?_, (List.range (posD x d)).map (fun at' => putK' k held at' c), (List.range' (posD x d + 1) (held - posD x d)).map (fun at' => putK' k held at' c), ?_, fun a ha => ?_⟩
  · rw [hw]
    split
    · next h =>
      have e : d[posD x d]? = some d[posD x d] := List.getElem?_eq_getElem (by omega)
      rw [e]
      exact decide_eq_true (posD_here x _ e)
    · rfl
  · have : List.range (held + 1) = List.range (posD x d) ++ posD x d :: List.range' (posD x d + 1) (held - posD x d) := by
      rw [List.range_eq_range', List.range_eq_range', show held + 1 = posD x d + (held - posD x d + 1) by omega, ← List.range'_append_1, Nat.zero_add, List.range'_succ]
    rw [this, List.map_append, List.map_cons]
  · obtain ⟨j, hj, rfl⟩ := List.mem_map.mp ha
    rw [List.mem_range] at hj
    rw [hw, if_pos (by omega), List.getElem?_eq_getElem (show j < d.length by omega)]
    show (!decide (d[j] < x)) = true
    rw [decide_eq_false (posD_before x hj _ (List.getElem?_eq_getElem (by omega)))]
    rfl
theorem grp_none {k held : Nat} {x : Int} {d : List Int} (hd : d.length ≤ k) (hl : held < d.length) : (grpK k held (.emp held)).find? (holdC x (regK k d)) = none := by
  rw [List.find?_eq_none]
  intro a ha
  obtain ⟨at', _, rfl⟩ := List.mem_map.mp ha
  have e : hold x (regK k d) (.emp held) = false := by
    unfold hold
    rw [worth_reg hd, List.getElem?_eq_getElem hl]
    rfl
  show ¬ hold x (regK k d) (if at' < held then .all [.emp held, .less at' (-1)] else .emp held) = true
  split
  · unfold hold holdA
    rw [e]
    simp
  · rw [e]
    simp
theorem top_find {k : Nat} {x : Int} {d : List Int} (hd : d.length ≤ k) : ∃ c, (topC k).find? (holdC x (regK k d)) = some (putK' k d.length (posD x d) c) := by
  unfold topC
  rw [List.find?_append, List.find?_flatMap]
  have low : ∀ n ≤ d.length, (List.range n).findSome? (fun held => (grpK k held (.emp held)).find? (holdC x (regK k d))) = none := fun n hn => by
    rw [List.findSome?_eq_none_iff]
    intro held hh
    rw [List.mem_range] at hh
    exact grp_none hd (by omega)
  by_cases h : d.length = k
  · rw [low k (by omega)]
    exact ⟨.tru, by rw [Option.none_or]; rw [← h] at hd ⊢; exact grp_find (k := d.length) (by omega) rfl rfl⟩
  · refine ⟨.emp d.length, ?_⟩
    have : List.range k = List.range d.length ++ d.length :: List.range' (d.length + 1) (k - d.length - 1) := by
      rw [List.range_eq_range', List.range_eq_range', show k = d.length + (k - d.length - 1 + 1) by omega, ← List.range'_append_1, Nat.zero_add, List.range'_succ]
      congr 3
      omega
    rw [this, List.findSome?_append, low _ (Nat.le_refl _), List.findSome?_cons, grp_find hd _ rfl]
    · rfl
    · unfold hold
      rw [worth_reg hd, List.getElem?_eq_none (Nat.le_refl _)]
      rfl
theorem insD_len (x : Int) (l : List Int) : (insD x l).length = l.length + 1 := by
  have := posD_le x l
  unfold insD
  rw [List.length_append, List.length_append, List.length_take, List.length_drop]
  show min _ _ + 1 + _ = _
  omega
theorem src_worth {k : Nat} {x : Int} {d : List Int} (hd : d.length ≤ k) : (srcK k d.length (posD x d)).map (worth x (regK k d)) = ((insD x d).take k).map some := by
  have le := posD_le x d
  unfold srcK insD
  rw [List.map_take, List.map_take]
  congr 1
  rw [List.map_append, List.map_append, List.map_append, List.map_append, List.map_map, List.map_map]
  congr 1
  · congr 1
    refine List.ext_getElem (by simp; omega) fun i h1 h2 => ?_
    rw [List.length_map, List.length_range] at h1
    rw [List.getElem_map, List.getElem_map, List.getElem_range, List.getElem_take]
    show worth x (regK k d) (i : Int) = _
    rw [worth_reg hd, List.getElem?_eq_getElem (by omega)]
  · refine List.ext_getElem (by simp) fun i h1 h2 => ?_
    rw [List.length_map, List.length_range'] at h1
    rw [List.getElem_map, List.getElem_map, List.getElem_range', List.getElem_drop]
    show worth x (regK k d) ((posD x d + 1 * i : Nat) : Int) = _
    rw [worth_reg hd, Nat.one_mul, List.getElem?_eq_getElem (by omega)]
theorem src_len {k : Nat} {x : Int} {d : List Int} (hd : d.length ≤ k) : (srcK k d.length (posD x d)).length = ((insD x d).take k).length := by
  have := congrArg List.length (src_worth (x := x) hd)
  rwa [List.length_map, List.length_map] at this
def enA (d : List Int) : List (Int × Option Int) := d.zipIdx.map fun p => ((p.2 : Int), some p.1)
theorem top_read {k : Nat} {x : Int} {d : List Int} (hd : d.length ≤ k) : readM (topM k) 0 (regK k d) (0, x) = (0, regK k ((insD x d).take k), enA ((insD x d).take k)) := by
  obtain ⟨c, hc⟩ := top_find (k := k) (x := x) hd
  have e : M.cases (topM k) 0 0 = topC k := rfl
  have e1 : readM (topM k) 0 (regK k d) (0, x) = (match (M.cases (topM k) 0 0).find? (holdC x (regK k d)) with | none => (0, regK k d, []) | some c => (c.nxt, keptC x (regK k d) c, saidC x (regK k d) c)) := rfl
  rw [e1, e, hc]
  have sw := src_worth (x := x) hd
  have sl := src_len (x := x) hd
  show (0, (movK k d.length (posD x d)).map (worth x (regK k d)), (enP (srcK k d.length (posD x d))).map (fun p => (p.1, worth x (regK k d) p.2))) = _
  congr 1
  congr 1
  · unfold movK
    rw [List.map_append, sw]
    show _ = ((insD x d).take k).map some ++ List.replicate (k - ((insD x d).take k).length) none
    congr 1
    rw [sl]
    refine List.ext_getElem (by simp) fun i h1 h2 => ?_
    rw [List.length_replicate] at h2
    rw [List.getElem_replicate, List.getElem_map, List.getElem_map, List.getElem_range', worth_reg hd]
    rw [List.length_take, insD_len] at h2
    refine List.getElem?_eq_none ?_
    rw [List.length_take, insD_len]
    omega
  · unfold enP enA
    rw [List.map_map]
    refine List.ext_getElem (by simp [sl]) fun i h1 h2 => ?_
    rw [List.length_map, List.length_zipIdx] at h1 h2
    rw [List.getElem_map, List.getElem_map, List.getElem_zipIdx, List.getElem_zipIdx]
    show (((0 + i : Nat) : Int), worth x (regK k d) (srcK k d.length (posD x d))[i]) = (((0 + i : Nat) : Int), some ((insD x d).take k)[i])
    have g := congrArg (fun z => z[i]?) sw
    simp only [List.getElem?_map, List.getElem?_eq_getElem h1, List.getElem?_eq_getElem h2, Option.map_some] at g
    rw [Option.some.inj g]
/-- the values so far, falling -/
def fallD (xs : List Int) : List Int := xs.foldl (fun l x => insD x l) []
theorem fallD_snoc (xs : List Int) (x : Int) : fallD (xs ++ [x]) = insD x (fallD xs) := by unfold fallD; rw [List.foldl_append]; rfl
theorem posD_take (x : Int) : ∀ (l : List Int) (k : Nat), posD x (l.take k) = min (posD x l) k
  | [], k => by simp [posD]
  | y :: l, 0 => by simp [posD]
  | y :: l, k + 1 => by
    rw [List.take_succ_cons]
    unfold posD
    split
    · simp
    · rw [posD_take x l k]
      omega
theorem ins_take (x : Int) (l : List Int) (k : Nat) : (insD x (l.take k)).take k = (insD x l).take k := by
  have le := posD_le x l
  unfold insD
  rw [posD_take]
  rcases Nat.lt_or_ge (posD x l) k with h | h
  · have cut : ∀ (A B : List Int) (n : Nat), k - A.length ≤ n → (A ++ B.take n).take k = (A ++ B).take k := fun A B n hn => by rw [List.take_append, List.take_append, List.take_take, Nat.min_eq_left hn]
    rw [Nat.min_eq_left (by omega), List.take_take, Nat.min_eq_left (by omega), List.drop_take, cut]
    rw [List.length_append, List.length_take]
    show k - (min _ _ + 1) ≤ _
    omega
  · rw [Nat.min_eq_right h]
    rw [List.take_take, Nat.min_self]
    have a1 : (l.take k).length = k := by rw [List.length_take]; omega
    have a2 : k ≤ (l.take (posD x l)).length := by rw [List.length_take]; omega
    rw [List.append_assoc, List.append_assoc, List.take_append_of_le_length (by omega), List.take_take, Nat.min_self, List.take_append_of_le_length a2, List.take_take, Nat.min_eq_left h]
def topDue (k : Nat) (xs : List Int) : List (List (Int × Option Int)) := (List.range xs.length).map fun i => enA ((fallD (xs.take (i + 1))).take k)
theorem top_due (k : Nat) (xs : List Int) : answersM (topM k) (0, List.replicate k none) (asLog xs) = topDue k xs := by
  have h := answersM_rows (topM k) (asLog xs) (fun i => (0, regK k ((fallD (xs.take i)).take k))) (fun i => enA ((fallD (xs.take (i + 1))).take k)) fun i e he => by
    obtain ⟨rfl, hi⟩ := asLog_get he
    show readM (topM k) 0 (regK k ((fallD (xs.take i)).take k)) (0, xs.getD i 0) = (0, regK k ((fallD (xs.take (i + 1))).take k), enA ((fallD (xs.take (i + 1))).take k))
    rw [top_read (by rw [List.length_take]; exact Nat.min_le_left _ _), ins_take]
    have : xs.take (i + 1) = xs.take i ++ [xs.getD i 0] := by rw [List.take_add_one, List.getD_eq_getElem?_getD, List.getElem?_eq_getElem hi]; rfl
    rw [this, fallD_snoc]
  have e : regK k ((fallD (xs.take 0)).take k) = List.replicate k none := by
    show regK k (([] : List Int).take k) = _
    rw [List.take_nil]
    rfl
  rw [e] at h
  rw [h, asLog_len]
  rfl
end Dv

/-! Top lists: falling lists, right machines, pairs as data. -/
namespace Dv
open PySem PySem.Spec PyProof.Rows L2 GxR Gx
theorem insD_perm (x : Int) (l : List Int) : (insD x l).Perm (x :: l) := by
  unfold insD
  rw [List.append_assoc]
  have h : (l.take (posD x l) ++ ([x] ++ l.drop (posD x l))).Perm (x :: (l.take (posD x l) ++ l.drop (posD x l))) := List.perm_middle
  rwa [List.take_append_drop] at h
theorem insD_fall {x : Int} {l : List Int} (h : l.Pairwise (fun a b => b ≤ a)) : (insD x l).Pairwise (fun a b => b ≤ a) := by
  have le := posD_le x l
  have w := List.pairwise_iff_getElem.mp h
  have bef : ∀ y ∈ l.take (posD x l), x ≤ y := fun y hy => by
    obtain ⟨j, hj, rfl⟩ := List.getElem_of_mem hy
    rw [List.length_take] at hj
    rw [List.getElem_take]
    have := posD_before x (l := l) (j := j) (by omega) _ (List.getElem?_eq_getElem (by omega))
    omega
  have aft : ∀ y ∈ l.drop (posD x l), y ≤ x := fun y hy => by
    obtain ⟨j, hj, rfl⟩ := List.getElem_of_mem hy
    rw [List.length_drop] at hj
    rw [List.getElem_drop]
    have hp : posD x l < l.length := by omega
    have := posD_here x (l := l) _ (List.getElem?_eq_getElem hp)
    by_cases z : j = 0
    · subst z
      simp only [Nat.add_zero]
      omega
    · have := w (posD x l) (posD x l + j) hp (by omega) (by omega)
      omega
  unfold insD
  refine List.pairwise_append.mpr ⟨List.pairwise_append.mpr ⟨h.sublist (List.take_sublist _ _), List.pairwise_singleton _ _, fun a ha b hb => ?_⟩, h.sublist (List.drop_sublist _ _), fun a ha b hb => ?_⟩
  · obtain rfl := List.mem_singleton.mp hb
    exact bef a ha
  · rcases List.mem_append.mp ha with q | q
    · have := bef a q
      have := aft b hb
      omega
    · obtain rfl := List.mem_singleton.mp q
      exact aft b hb
theorem fallD_both (xs : List Int) : ∀ n, (fallD (xs.take n)).Pairwise (fun a b => b ≤ a) ∧ (fallD (xs.take n)).Perm (xs.take n)
  | 0 => ⟨List.Pairwise.nil, List.Perm.nil⟩
  | n + 1 => by
    have ih := fallD_both xs n
    rw [List.take_add_one]
    cases e : xs[n]? with
    | none => simpa using ih
    | some x =>
      show (fallD (xs.take n ++ [x])).Pairwise _ ∧ (fallD (xs.take n ++ [x])).Perm (xs.take n ++ [x])
      rw [fallD_snoc]
      refine ⟨insD_fall ih.1, (insD_perm x _).trans ?_⟩
      exact ((List.Perm.cons x ih.2).trans (List.perm_append_comm (l₁ := [x]) (l₂ := xs.take n)))
theorem fall_of_sorted {xs ys : List Int} (s : ys.Pairwise (· ≤ ·)) (p : ys.Perm xs) : ys.reverse = fallD xs := by
  have f := fallD_both xs xs.length
  rw [List.take_length] at f
  refine List.Perm.eq_of_pairwise (le := fun a b => b ≤ a) (fun a b _ _ h1 h2 => Int.le_antisymm h2 h1) (List.pairwise_reverse.mpr s) f.1 ?_
  exact (List.reverse_perm ys).trans (p.trans f.2.symm)
theorem src_mem {k held a : Nat} (ha : a ≤ held) {z : Int} (h : z ∈ srcK k held a) : z = -1 ∨ ∃ j : Nat, j < held ∧ z = j := by
  unfold srcK at h
  have h := List.mem_of_mem_take h
  rw [List.mem_append, List.mem_append, List.mem_singleton, List.mem_map, List.mem_map] at h
  rcases h with (⟨j, hj, e⟩ | e) | ⟨j, hj, e⟩
  · rw [List.mem_range] at hj
    exact .inr ⟨j, by omega, e.symm⟩
  · exact .inl e
  · rw [List.mem_range'_1] at hj
    exact .inr ⟨j, by omega, e.symm⟩
theorem src_le (k held a : Nat) : (srcK k held a).length ≤ k := by unfold srcK; rw [List.length_take]; exact Nat.min_le_left _ _
theorem put_ok {k held a : Nat} {c : C} (hk : 1 ≤ k) (hk2 : k ≤ 6) (hh : held ≤ k) (ha : a ≤ held) (hc : okC k 2 c) (hc3 : okC k 3 c) : okCase k 1 3 (putK' k held a c) := by
  have sl := src_le k held a
  have sm : ∀ z ∈ srcK k held a, -2 ≤ z ∧ z < (k : Int) := fun z hz => by
    rcases src_mem ha hz with e | ⟨j, hj, e⟩ <;> omega
  refine ⟨?_, ?_, fun z hz => ?_, fun p hp => ?_, ?_, by show 0 < 1; decide⟩
  · show okC k 3 (if a < held then .all [c, .less a (-1)] else c)
    split
    · unfold okC okCs okCs okCs
      refine ⟨by show 2 ≤ 100000; decide, hc, ?_, trivial⟩
      unfold okC plOk
      omega
    · exact hc3
  · show (movK k held a).length = k
    unfold movK
    rw [List.length_append, List.length_map, List.length_range']
    omega
  · unfold putK' movK at hz
    rcases List.mem_append.mp hz with q | q
    · exact sm z q
    · obtain ⟨j, hj, rfl⟩ := List.mem_map.mp q
      rw [List.mem_range'_1] at hj
      omega
  · unfold putK' enP at hp
    obtain ⟨q, hq, rfl⟩ := List.mem_map.mp hp
    have := List.mem_zipIdx hq
    refine ⟨by show (0 : Int) ≤ (q.2 : Nat); omega, ?_⟩
    exact sm _ (by rw [this.2.2]; exact List.getElem_mem _)
  · show (enP (srcK k held a)).length ≤ 1000
    unfold enP
    rw [List.length_map, List.length_zipIdx]
    omega
theorem top_ok {k : Nat} (hk : 1 ≤ k) (hk2 : k ≤ 6) : okM 3 (topM k) := by
  have len : (topC k).length ≤ 1000 := by
    rcases (by omega : k = 1 ∨ k = 2 ∨ k = 3 ∨ k = 4 ∨ k = 5 ∨ k = 6) with rfl | rfl | rfl | rfl | rfl | rfl <;> decide
  refine ⟨by show 1 ≤ 1; decide, by show 1 ≤ 1000; decide, by show k ≤ 1000; omega, by show 0 < 1; decide, by show 1 ≤ 1000; decide, fun s hs => ?_, fun s hs cs hcs => ?_⟩
  · obtain rfl := List.mem_singleton.mp hs
    rfl
  · obtain rfl := List.mem_singleton.mp hs
    obtain rfl := List.mem_singleton.mp hcs
    refine ⟨len, fun c hc => ?_⟩
    unfold topC at hc
    rcases List.mem_append.mp hc with q | q
    · obtain ⟨held, hh, q⟩ := List.mem_flatMap.mp q
      rw [List.mem_range] at hh
      obtain ⟨a, ha, rfl⟩ := List.mem_map.mp q
      rw [List.mem_range] at ha
      show okCase k 1 3 (putK' k held a (.emp held))
      refine put_ok hk hk2 (by omega) (by omega) ?_ ?_ <;> (unfold okC plOk; omega)
    · obtain ⟨a, ha, rfl⟩ := List.mem_map.mp q
      rw [List.mem_range] at ha
      show okCase k 1 3 (putK' k k a .tru)
      refine put_ok hk hk2 (by omega) (by omega) ?_ ?_ <;> (unfold okC; trivial)
end Dv

/-! tuple(enumerate(xs)) as data. -/
namespace Dv
open PySem PySem.Spec PyProof.Rows L2 GxR Gx
variable {K : PySem.W.Frag} {T : List Addr} {H H' : Hp}
theorem Ex.of_ext (kp : ∀ b o, H b = some o → H' b = some o) : Ex T [] H H' :=
  ⟨fun b o _ h _ => kp b o h, fun b xs h => h.imp (kp b _) (fun ⟨o, h⟩ => ⟨o, kp b _ h⟩), fun h P hP => let ⟨ps, e, t⟩ := h P hP; ⟨ps, kp P _ e, t⟩, fun b o h => ⟨o, kp b o h⟩⟩
theorem enum_ats : ∀ (src : List Int) (j : Nat) (ts : List Addr), Paired (fun (t : Addr) (q : Key × V) => H' t = some (.tup [kV q.1, q.2])) ts (enK j (src.map V.int)) →
    Ats K H' (ts.map V.ref) ((src.zipIdx j).map fun p => encSay ((p.2 : Int), p.1))
  | [], _, [], _ => Ats.mk_nil
  | [], _, t :: ts, h => by cases h
  | x :: src, _, [], h => by cases h
  | x :: src, j, t :: ts, h => by
    cases h with
    | cons a b => exact Ats.mk (at_tup.mpr ⟨t, _, rfl, SqT.of a, Ats.mk (at_int.mpr rfl) (Ats.mk (at_int.mpr rfl) Ats.mk_nil)⟩) (enum_ats src (j + 1) ts b)
theorem enum_at {p : Addr} {ts : List Addr} {src : List Int} (hp : H' p = some (.tup (ts.map V.ref))) (h : Paired (fun (t : Addr) (q : Key × V) => H' t = some (.tup [kV q.1, q.2])) ts (enK 0 (src.map V.int))) :
    At K H' (.ref p) (.tup ((enP src).map encSay)) := by
  refine at_tup.mpr ⟨p, _, rfl, SqT.of hp, ?_⟩
  have := enum_ats (K := K) src 0 ts h
  unfold enP
  rw [List.map_map]
  exact this
theorem Col.puts {ms : List Addr} {D0 : Addr} {H0 H1 H2 : Hp} {ds es : List D} {zs : List V} (c : Col K T ms D0 H0 H1 ds) (free : H0 D0 = none) (nD : D0 ∉ ms) (wd : Wd T H0) (e : Ex T ms H1 H2) (hz : Ats K H2 zs es) :
    ∃ acc, H2 D0 = some (.lst acc) ∧ acc.length = ds.length ∧ Col K T ms D0 H0 (upd H2 D0 (.lst (acc ++ zs))) (ds ++ es) := by
  obtain ⟨ex, xs, hD, ats⟩ := c
  have hD2 : H2 D0 = some (.lst xs) := e.lst nD hD
  have exw : Ex T [D0] H2 (upd H2 D0 (.lst (xs ++ zs))) := Ex.write (by simp) hD2
  exact ⟨xs, hD2, ats.length, (ex.trans e).put free wd, xs ++ zs, upd_same, ((ats.ext e).append hz).ext exw⟩
theorem grp_take {k held : Nat} {c : C} {j : Nat} : ((List.range j).map fun a => putK' k held a c) ++ [putK' k held j c] = (List.range (j + 1)).map fun a => putK' k held a c := by
  rw [List.range_succ, List.map_append]
  rfl
theorem grp_len {k held : Nat} {c : C} : (grpK k held c).length = held + 1 := by unfold grpK; rw [List.length_map, List.length_range]
theorem groups_len (k : Nat) : ∀ i, ((List.range i).flatMap fun held => grpK k held (.emp held)).length ≤ i * (i + 1)
  | 0 => by simp
  | i + 1 => by
    rw [List.range_succ, List.flatMap_append, List.length_append]
    have := groups_len k i
    show _ + (grpK k i (.emp i) ++ []).length ≤ _
    rw [List.append_nil, grp_len, Nat.succ_mul, Nat.mul_succ]
    have : i * (i + 1) = i * i + i := Nat.mul_succ i i
    omega
end Dv

/-! Top lists are made of tuples. -/
namespace Dv
open PySem PySem.Spec PyProof.Rows L2 GxR Gx
theorem tuDs_of {α : Type} {f : α → D} {n : Nat} : ∀ {l : List α}, (∀ a ∈ l, tuD n (f a)) → tuDs n (l.map f)
  | [], _ => by rw [List.map_nil]; unfold tuDs; trivial
  | a :: l, h => by
    rw [List.map_cons]
    unfold tuDs
    exact ⟨h a (by simp), tuDs_of fun b hb => h b (by simp [hb])⟩
theorem tuD_int {n : Nat} {i : Int} : tuD n (.int i) := by cases n <;> (unfold tuD; trivial)
theorem put_tu {k held a : Nat} {c : C} (h6 : k ≤ 6) (hc : tuD 2 (encC c)) (hc4 : tuD 4 (encC c)) : tuD 5 (encCase (putK' k held a c)) := by
  have sl := src_le k held a
  have c1 : tuD 4 (encC (if a < held then .all [c, .less a (-1)] else c)) := by
    split
    · have e : encC (.all [c, .less a (-1)]) = .tup [.str "all", .tup [encC c, .tup [.str "less", .int a, .int (-1)]]] := by simp only [encC, encCs]
      rw [e]
      simp [tuD, tuDs, hc]
    · exact hc4
  have c2 : tuD 4 (.tup ((movK k held a).map .int)) := by
    unfold tuD
    refine ⟨?_, tuDs_of fun z _ => tuD_int⟩
    rw [List.length_map]
    unfold movK
    rw [List.length_append, List.length_map, List.length_range']
    omega
  have c3 : tuD 4 (.tup ((enP (srcK k held a)).map encSay)) := by
    unfold tuD
    refine ⟨?_, tuDs_of fun z _ => ?_⟩
    · unfold enP
      rw [List.length_map, List.length_map, List.length_zipIdx]
      omega
    · unfold encSay
      simp [tuD, tuDs]
  show tuD 5 (.tup [encC (if a < held then .all [c, .less a (-1)] else c), .tup ((movK k held a).map .int), .tup ((enP (srcK k held a)).map encSay), .int 0])
  simp only [tuD, tuDs]
  unfold tuD at c2 c3
  exact ⟨by show 4 ≤ 100000; decide, c1, c2, c3, trivial, trivial⟩
theorem top_tu {k : Nat} (hk : 1 ≤ k) (hk2 : k ≤ 6) : tuD 9 (encM (topM k)) := by
  have len : (topC k).length ≤ 1000 := ((top_ok hk hk2).cases [topC k] (List.mem_singleton.mpr rfl) (topC k) (List.mem_singleton.mpr rfl)).1
  have cs : tuDs 5 ((topC k).map encCase) := tuDs_of fun c hc => by
    unfold topC at hc
    rcases List.mem_append.mp hc with q | q
    · obtain ⟨held, hh, q⟩ := List.mem_flatMap.mp q
      obtain ⟨a, ha, rfl⟩ := List.mem_map.mp q
      exact put_tu hk2 (by simp [encC, tuD, tuDs]) (by simp [encC, tuD, tuDs])
    · obtain ⟨a, ha, rfl⟩ := List.mem_map.mp q
      exact put_tu hk2 (by simp [encC, tuD, tuDs]) (by simp [encC, tuD, tuDs])
  have e : encM (topM k) = .tup [.int 1, .int k, .tup [.tup [.tup ((topC k).map encCase)]]] := rfl
  rw [e]
  simp only [tuD, tuDs]
  refine ⟨by show 3 ≤ 100000; decide, trivial, trivial, ⟨by show 1 ≤ 100000; decide, ⟨by show 1 ≤ 100000; decide, ⟨by rw [List.length_map]; omega, cs⟩, trivial⟩, trivial⟩, trivial⟩
end Dv

open PySem PySem.Spec PyProof.Rows L2 GxR Gx
namespace Dv
/-! built machines, turned: the same answers on negated values -/
def negs (xs : List Int) : List Int := xs.map fun x => -x
theorem negs_len (xs : List Int) : (negs xs).length = xs.length := List.length_map ..
theorem negs_get (xs : List Int) (k : Nat) : (negs xs).getD k 0 = -(xs.getD k 0) := by
  unfold negs
  rw [List.getD_eq_getElem?_getD, List.getD_eq_getElem?_getD, List.getElem?_map]
  cases xs[k]? <;> simp
theorem negs_negs (xs : List Int) : negs (negs xs) = xs := by
  unfold negs
  rw [List.map_map, List.map_congr_left (g := id) (fun x _ => by simp), List.map_id]
theorem negs_take (xs : List Int) (k : Nat) : (negs xs).take k = negs (xs.take k) := by unfold negs; rw [List.map_take]
theorem asLog_neg (xs : List Int) : (asLog (negs xs)).map (chL fun x => -x) = asLog xs := by
  unfold asLog negs
  rw [List.map_map, List.map_map]
  refine List.map_congr_left fun x _ => ?_
  show ((0 : Nat), - -x) = (0, x)
  rw [Int.neg_neg]
theorem turn_answers (m : M) (xs : List Int) : answersM (turnM m) ((0, List.replicate m.regs none) : Ct) (asLog xs) = (answersM m ((0, List.replicate m.regs none) : Ct) (asLog (negs xs))).map (List.map (chE fun x => -x)) := by
  have h := answersM_turn fall_neg m ((0, List.replicate m.regs none) : Ct) (asLog (negs xs))
  rw [asLog_neg] at h
  rw [← h]
  unfold mapC
  rw [mapH_rep]
theorem rows_neg (xs : List Int) (f g : List Int → Nat → List (Int × Option Int)) (h : ∀ k, k < xs.length → (f (negs xs) k).map (chE fun x => -x) = g xs k) :
    ((List.range (negs xs).length).map (f (negs xs))).map (List.map (chE fun x => -x)) = (List.range xs.length).map (g xs) := by
  rw [negs_len, List.map_map]
  refine List.map_congr_left fun k hk => ?_
  exact h k (List.mem_range.mp hk)
-- records
def lowRow (xs : List Int) (k : Nat) : List (Int × Option Int) := if (xs.take k).all (fun y => decide (xs.getD k 0 < y)) = true then [(0, some (xs.getD k 0))] else []
def lowDue (xs : List Int) : List (List (Int × Option Int)) := (List.range xs.length).map (lowRow xs)
theorem low_turn (xs : List Int) : (recDue (negs xs)).map (List.map (chE fun x => -x)) = lowDue xs := by
  refine rows_neg xs recRow lowRow fun k _ => ?_
  unfold recRow lowRow
  rw [negs_get, negs_take]
  have e : (negs (xs.take k)).all (fun y => decide (y < -(xs.getD k 0))) = (xs.take k).all (fun y => decide (xs.getD k 0 < y)) := by
    unfold negs
    rw [List.all_map]
    refine List.all_congr rfl fun y => ?_
    show decide (-y < -(xs.getD k 0)) = decide (xs.getD k 0 < y)
    exact decide_eq_decide.mpr (by omega)
  rw [e]
  split
  · show [((0 : Int), some (- -(xs.getD k 0)))] = _
    rw [Int.neg_neg]
  · rfl
-- the top list
theorem enA_neg (l : List Int) : (enA l).map (chE fun x => -x) = enA (negs l) := by
  unfold enA negs
  rw [List.zipIdx_map, List.map_map, List.map_map]
  rfl
theorem fall_negs (xs : List Int) : fallD (negs xs) = negs (fallD xs).reverse := by
  have b := fallD_both xs xs.length
  rw [List.take_length] at b
  have s : (negs (fallD xs)).Pairwise (· ≤ ·) := by
    unfold negs
    rw [List.pairwise_map]
    exact b.1.imp fun h => by omega
  have p : (negs (fallD xs)).Perm (negs xs) := b.2.map _
  rw [← fall_of_sorted s p]
  unfold negs
  rw [List.map_reverse]
def lowestDue (k : Nat) (xs : List Int) : List (List (Int × Option Int)) := (List.range xs.length).map fun i => enA ((fallD (xs.take (i + 1))).reverse.take k)
theorem lowest_turn (k : Nat) (xs : List Int) : (topDue k (negs xs)).map (List.map (chE fun x => -x)) = lowestDue k xs := by
  refine rows_neg xs (fun xs i => enA ((fallD (xs.take (i + 1))).take k)) (fun xs i => enA ((fallD (xs.take (i + 1))).reverse.take k)) fun i _ => ?_
  show (enA ((fallD ((negs xs).take (i + 1))).take k)).map _ = enA ((fallD (xs.take (i + 1))).reverse.take k)
  rw [enA_neg, negs_take, fall_negs, ← negs_take, negs_negs]
-- the band
def bandSay' (o : Option (Int × Int)) : List (Int × Option Int) :=
  match o with
  | none => []
  | some (l, h) => [(0, some h), (1, some l)]
def bandRow' (xs : List Int) (k : Nat) : List (Int × Option Int) := if bandO xs (k + 1) = bandO xs k then [] else bandSay' (bandO xs (k + 1))
def bandDue' (xs : List Int) : List (List (Int × Option Int)) := (List.range xs.length).map (bandRow' xs)
def negB (o : Option (Int × Int)) : Option (Int × Int) := o.map fun p => (-p.2, -p.1)
theorem negB_inj {a b : Option (Int × Int)} (h : negB a = negB b) : a = b := by
  cases a with
  | none => cases b with
    | none => rfl
    | some q => cases h
  | some p => cases b with
    | none => cases h
    | some q =>
      obtain ⟨l, h1⟩ := p
      obtain ⟨l', h1'⟩ := q
      have e := Option.some.inj h
      have e1 := (Prod.mk.inj e).1
      have e2 := (Prod.mk.inj e).2
      dsimp only at e1 e2
      rw [show l = l' by omega, show h1 = h1' by omega]
theorem bandStep_le {o : Option (Int × Int)} (h : ∀ l u, o = some (l, u) → l ≤ u) (x l u : Int) (e : bandStep o x = some (l, u)) : l ≤ u := by
  cases o with
  | none =>
    have := Prod.mk.inj (Option.some.inj e)
    omega
  | some p =>
    obtain ⟨a, b⟩ := p
    have hab := h a b rfl
    unfold bandStep at e
    dsimp only at e
    split at e
    · have := Prod.mk.inj (Option.some.inj e); omega
    · split at e
      · have := Prod.mk.inj (Option.some.inj e); omega
      · have := Prod.mk.inj (Option.some.inj e); omega
theorem bandStep_neg (o : Option (Int × Int)) (hle : ∀ l u, o = some (l, u) → l ≤ u) (x : Int) : bandStep (negB o) (-x) = negB (bandStep o x) := by
  cases o with
  | none => rfl
  | some p =>
    obtain ⟨l, h⟩ := p
    have hl := hle l h rfl
    show bandStep (some (-h, -l)) (-x) = _
    unfold bandStep
    dsimp only
    by_cases c1 : x < l
    · rw [if_neg (by omega), if_pos (show -l < -x by omega), if_pos c1]
      rfl
    · by_cases c2 : h < x
      · rw [if_pos (show -x < -h by omega), if_neg c1, if_pos c2]
        rfl
      · rw [if_neg (by omega), if_neg (by omega), if_neg c1, if_neg c2]
        rfl
theorem bandO_le (xs : List Int) : ∀ k l u, bandO xs k = some (l, u) → l ≤ u
  | 0, l, u, h => by cases h
  | k + 1, l, u, h => bandStep_le (bandO_le xs k) _ _ _ h
theorem bandO_neg (xs : List Int) : ∀ k, bandO (negs xs) k = negB (bandO xs k)
  | 0 => rfl
  | k + 1 => by
    show bandStep (bandO (negs xs) k) ((negs xs).getD k 0) = negB (bandStep (bandO xs k) (xs.getD k 0))
    rw [bandO_neg xs k, negs_get, bandStep_neg _ (bandO_le xs k)]
theorem band_turn (xs : List Int) : (bandDue (negs xs)).map (List.map (chE fun x => -x)) = bandDue' xs := by
  refine rows_neg xs bandRow bandRow' fun k _ => ?_
  unfold bandRow bandRow'
  rw [bandO_neg, bandO_neg]
  by_cases c : bandO xs (k + 1) = bandO xs k
  · rw [if_pos c, if_pos (by rw [c])]
    rfl
  · rw [if_neg c, if_neg (fun h => c (negB_inj h))]
    generalize bandO xs (k + 1) = o
    cases o with
    | none => rfl
    | some p =>
      show [((0 : Int), some (- -p.2)), (1, some (- -p.1))] = [(0, some p.2), (1, some p.1)]
      rw [Int.neg_neg, Int.neg_neg]
-- turning points
def turnsRow' (xs : List Int) (k : Nat) : List (Int × Option Int) :=
  if k < 2 then [] else if xs.getD (k - 1) 0 < xs.getD (k - 2) 0 ∧ xs.getD (k - 1) 0 < xs.getD k 0 then [(0, some (xs.getD (k - 1) 0))] else
  if xs.getD (k - 2) 0 < xs.getD (k - 1) 0 ∧ xs.getD k 0 < xs.getD (k - 1) 0 then [(1, some (xs.getD (k - 1) 0))] else []
def turnsDue' (xs : List Int) : List (List (Int × Option Int)) := (List.range xs.length).map (turnsRow' xs)
theorem turns_turn (xs : List Int) : (turnsDue (negs xs)).map (List.map (chE fun x => -x)) = turnsDue' xs := by
  refine rows_neg xs turnsRow turnsRow' fun k _ => ?_
  unfold turnsRow turnsRow'
  rw [negs_get, negs_get, negs_get]
  by_cases c0 : k < 2
  · rw [if_pos c0, if_pos c0]; rfl
  rw [if_neg c0, if_neg c0]
  by_cases c1 : xs.getD (k - 1) 0 < xs.getD (k - 2) 0 ∧ xs.getD (k - 1) 0 < xs.getD k 0
  · rw [if_pos c1, if_pos (by omega)]
    show [((0 : Int), some (- -_))] = _
    rw [Int.neg_neg]
  · rw [if_neg c1, if_neg (by omega)]
    by_cases c2 : xs.getD (k - 2) 0 < xs.getD (k - 1) 0 ∧ xs.getD k 0 < xs.getD (k - 1) 0
    · rw [if_pos c2, if_pos (by omega)]
      show [((1 : Int), some (- -_))] = _
      rw [Int.neg_neg]
    · rw [if_neg c2, if_neg (by omega)]
      rfl
-- runs
def firstF (xs : List Int) : Nat → Nat
  | 0 => 0
  | k + 1 => if 0 < k ∧ xs.getD (k - 1) 0 ≤ xs.getD k 0 then k else firstF xs k
theorem firstF_lt (xs : List Int) : ∀ k, firstF xs k ≤ k
  | 0 => Nat.le_refl _
  | k + 1 => by
    unfold firstF
    have := firstF_lt xs k
    split <;> omega
theorem firstI_neg (xs : List Int) : ∀ k, firstI (negs xs) k = firstF xs k
  | 0 => rfl
  | k + 1 => by
    show (if 0 < k ∧ (negs xs).getD k 0 ≤ (negs xs).getD (k - 1) 0 then k else firstI (negs xs) k) = (if 0 < k ∧ xs.getD (k - 1) 0 ≤ xs.getD k 0 then k else firstF xs k)
    rw [negs_get, negs_get, firstI_neg xs k]
    by_cases c : 0 < k ∧ xs.getD (k - 1) 0 ≤ xs.getD k 0
    · rw [if_pos c, if_pos (by omega)]
    · rw [if_neg c, if_neg (by omega)]
def fallsRow (xs : List Int) (k : Nat) : List (Int × Option Int) := if 0 < k ∧ xs.getD (k - 1) 0 ≤ xs.getD k 0 then [(0, some (xs.getD (firstF xs k) 0))] else []
def fallsDue (xs : List Int) : List (List (Int × Option Int)) := (List.range xs.length).map (fallsRow xs)
theorem falls_turn (xs : List Int) : (runsDue (negs xs)).map (List.map (chE fun x => -x)) = fallsDue xs := by
  refine rows_neg xs runsRow fallsRow fun k _ => ?_
  unfold runsRow fallsRow
  rw [negs_get, negs_get, negs_get, firstI_neg]
  by_cases c : 0 < k ∧ xs.getD (k - 1) 0 ≤ xs.getD k 0
  · rw [if_pos c, if_pos (by omega)]
    show [((0 : Int), some (- -_))] = _
    rw [Int.neg_neg]
  · rw [if_neg c, if_neg (by omega)]
    rfl
def fiveM (k : Nat) : List M := [recM, topM k, bandM, turnsM, runsM]
def fiveT (k : Nat) (xs : List Int) : List (List (List (Int × Option Int))) := [lowDue xs, lowestDue k xs, bandDue' xs, turnsDue' xs, fallsDue xs]
theorem five_turn (k : Nat) (xs : List Int) : (fiveM k).map (fun m => answersM (turnM m) ((0, List.replicate m.regs none) : Ct) (asLog xs)) = fiveT k xs := by
  unfold fiveM fiveT
  simp only [List.map_cons, List.map_nil, turn_answers]
  rw [← low_turn, ← lowest_turn, ← band_turn, ← turns_turn, ← falls_turn]
  rw [← rec_due, ← top_due, ← band_due, ← turns_due, ← runs_due]
  rfl
theorem five_ok {k : Nat} (h1 : 1 ≤ k) (h2 : k ≤ 6) : ∀ m ∈ fiveM k, okM 3 m ∧ m.tags = 1 := fun m hm => by
  unfold fiveM at hm
  simp only [List.mem_cons, List.not_mem_nil, or_false] at hm
  rcases hm with rfl | rfl | rfl | rfl | rfl
  · exact ⟨recM_ok, rfl⟩
  · exact ⟨top_ok h1 h2, rfl⟩
  · exact ⟨bandM_ok, rfl⟩
  · exact ⟨turnsM_ok, rfl⟩
  · exact ⟨runsM_ok, rfl⟩
end Dv

open PySem PySem.Spec PyProof.Rows L2 GxR Gx
namespace Dv
/-! the spotter: what it is and what it says -/
def prs (p : List Int) : List (Int × Int) := p.zipIdx.map fun q => (q.1, (q.2 : Int))
theorem prs_len (p : List Int) : (prs p).length = p.length := by unfold prs; rw [List.length_map, List.length_zipIdx]
theorem prs_get (p : List Int) (j : Nat) (h : j < p.length) : (prs p)[j]? = some (p.getD j 0, (j : Int)) := by
  unfold prs
  rw [List.getElem?_map, List.getElem?_zipIdx, List.getElem?_eq_getElem h]
  show some (p[j], ((0 + j : Nat) : Int)) = _
  rw [Nat.zero_add, List.getD_eq_getElem?_getD, List.getElem?_eq_getElem h]
  rfl
theorem mem_prs {p : List Int} {q : Int × Int} (h : q ∈ prs p) : ∃ j : Nat, j < p.length ∧ q = (p.getD j 0, (j : Int)) := by
  obtain ⟨j, hj, e⟩ := List.getElem_of_mem h
  rw [prs_len] at hj
  refine ⟨j, hj, ?_⟩
  have := prs_get p j hj
  rw [List.getElem?_eq_getElem (by rw [prs_len]; exact hj), e] at this
  exact Option.some.inj this
structure Srt2 (L : List (Int × Int)) (p : List Int) : Prop where
  perm : L.Perm (prs p)
  le : L.Pairwise fun x y => x.1 ≤ y.1
theorem Srt2.len {L : List (Int × Int)} {p : List Int} (s : Srt2 L p) : L.length = p.length := by rw [s.perm.length_eq, prs_len]
theorem Srt2.at {L : List (Int × Int)} {p : List Int} (s : Srt2 L p) {q : Int × Int} (h : q ∈ L) : ∃ j : Nat, j < p.length ∧ q = (p.getD j 0, (j : Int)) := mem_prs (s.perm.mem_iff.mp h)
theorem Srt2.has {L : List (Int × Int)} {p : List Int} (s : Srt2 L p) {j : Nat} (h : j < p.length) : (p.getD j 0, (j : Int)) ∈ L :=
  s.perm.mem_iff.mpr (List.mem_of_getElem? (prs_get p j h))
def plc (n : Nat) (j : Int) : Int := if j = (n : Int) - 1 then -1 else j
def adjC (n : Nat) (x y : Int × Int) : C := if x.1 < y.1 then .less (plc n x.2) (plc n y.2) else .same (plc n x.2) (plc n y.2)
def adjs (L : List (Int × Int)) : List ((Int × Int) × (Int × Int)) := L.zip L.tail
def orderC (n : Nat) (L : List (Int × Int)) : C := .all ((adjs L).map fun q => adjC n q.1 q.2)
def movS (n : Nat) : List Int := ((List.range (n - 1)).map (fun (j : Nat) => (j : Int)) ++ [-1]).drop 1
def spotM (n : Nat) (L : List (Int × Int)) : M := ⟨1, n - 1, [[[⟨orderC n L, movS n, [(0, -1)], 0⟩, ⟨.tru, movS n, [], 0⟩]]]⟩
theorem movS_eq {n : Nat} (h : 1 ≤ n) : movS n = (List.range (n - 1)).map fun (i : Nat) => plc n ((i + 1 : Nat) : Int) := by
  unfold movS
  refine List.ext_getElem (by simp) fun i h1 h2 => ?_
  rw [List.length_map, List.length_range] at h2
  rw [List.getElem_drop, List.getElem_map, List.getElem_range]
  unfold plc
  by_cases c : 1 + i < n - 1
  · rw [List.getElem_append_left (by simpa using c), List.getElem_map, List.getElem_range, if_neg (by omega)]
    omega
  · rw [List.getElem_append_right (by simp; omega), if_pos (by omega)]
    simp
/-- the value at a place of the last n ones, the k-th one being read -/
def wn (xs : List Int) (n k j : Nat) : Option Int := if n ≤ k + j + 1 then some (xs.getD (k + j + 1 - n) 0) else none
def hS (xs : List Int) (n k : Nat) : List (Option Int) := (List.range (n - 1)).map (wn xs n k)
theorem hS_zero (xs : List Int) (n : Nat) : hS xs n 0 = List.replicate (n - 1) none := by
  unfold hS
  refine List.ext_getElem (by simp) fun i h1 h2 => ?_
  rw [List.length_map, List.length_range] at h1
  rw [List.getElem_map, List.getElem_range, List.getElem_replicate]
  unfold wn
  rw [if_neg (by omega)]
theorem wn_next (xs : List Int) (n k j : Nat) : wn xs n k (j + 1) = wn xs n (k + 1) j := by
  unfold wn
  rw [show k + (j + 1) + 1 = k + 1 + j + 1 by omega]
theorem worth_plc {xs : List Int} {n k j : Nat} (hj : j < n) : worth (xs.getD k 0) (hS xs n k) (plc n (j : Int)) = wn xs n k j := by
  unfold plc
  by_cases c : (j : Int) = (n : Int) - 1
  · rw [if_pos c]
    show some (xs.getD k 0) = _
    unfold wn
    rw [if_pos (by omega), show k + j + 1 - n = k by omega]
  · rw [if_neg c, worth_at (by omega), Int.toNat_natCast]
    unfold hS
    rw [List.getElem?_map, List.getElem?_range (by omega)]
    rfl
theorem kept_spot {xs : List Int} {n k : Nat} (hn : 1 ≤ n) (c : C) (sy : List (Int × Int)) : keptC (xs.getD k 0) (hS xs n k) ⟨c, movS n, sy, 0⟩ = hS xs n (k + 1) := by
  show (movS n).map (worth (xs.getD k 0) (hS xs n k)) = _
  rw [movS_eq hn, List.map_map]
  unfold hS
  refine List.map_congr_left fun i hi => ?_
  have hi' := List.mem_range.mp hi
  show worth (xs.getD k 0) (hS xs n k) (plc n ((i + 1 : Nat) : Int)) = _
  rw [worth_plc (by omega), wn_next]
theorem spot_read {xs : List Int} {n k : Nat} {L : List (Int × Int)} (hn : 1 ≤ n) : readM (spotM n L) 0 (hS xs n k) (0, xs.getD k 0) = (0, hS xs n (k + 1), if hold (xs.getD k 0) (hS xs n k) (orderC n L) = true then [(0, some (xs.getD k 0))] else []) := by
  unfold spotM
  rw [read_one]
  by_cases c : hold (xs.getD k 0) (hS xs n k) (orderC n L) = true
  · rw [List.find?_cons_of_pos (by exact c), if_pos c]
    show (0, keptC _ _ _, _) = _
    rw [kept_spot hn]
    rfl
  · rw [List.find?_cons_of_neg (by exact c), List.find?_cons_of_pos (by show hold _ _ .tru = true; unfold hold; rfl), if_neg c]
    show (0, keptC _ _ _, _) = _
    rw [kept_spot hn]
    rfl
def okAdj (w : Nat → Option Int) (x y : Int × Int) : Bool := if x.1 < y.1 then ltO (w x.2.toNat) (w y.2.toNat) else eqO (w x.2.toNat) (w y.2.toNat)
theorem zip_tail_mem {α : Type} {L : List α} {q : α × α} (h : q ∈ L.zip L.tail) : q.1 ∈ L ∧ q.2 ∈ L := by
  have := List.of_mem_zip (a := q.1) (b := q.2) h
  exact ⟨this.1, List.mem_of_mem_tail this.2⟩
theorem holdA_of {α : Type} (v : Int) (h : List (Option Int)) (f : α → C) : ∀ l : List α, holdA v h (l.map f) = l.all fun a => hold v h (f a)
  | [] => by unfold holdA; rfl
  | a :: l => by rw [List.map_cons, holdA_cons, holdA_of v h f l]; rfl
theorem hold_less' (v : Int) (h : List (Option Int)) (a b : Int) : hold v h (.less a b) = ltO (worth v h a) (worth v h b) := by unfold hold; rfl
theorem hold_same' (v : Int) (h : List (Option Int)) (a b : Int) : hold v h (.same a b) = eqO (worth v h a) (worth v h b) := by unfold hold; rfl
theorem order_hold {xs : List Int} {n k : Nat} {L : List (Int × Int)} {p : List Int} (s : Srt2 L p) (hn : n = p.length) : hold (xs.getD k 0) (hS xs n k) (orderC n L) = (adjs L).all fun q => okAdj (wn xs n k) q.1 q.2 := by
  unfold orderC
  have e : ∀ cs : List C, hold (xs.getD k 0) (hS xs n k) (.all cs) = holdA (xs.getD k 0) (hS xs n k) cs := fun cs => by conv => lhs; unfold hold
  rw [e, holdA_of]
  rw [Bool.eq_iff_iff, List.all_eq_true, List.all_eq_true]
  refine forall_congr' fun q => forall_congr' fun hq => ?_
  obtain ⟨a, ha, e1⟩ := s.at (zip_tail_mem hq).1
  obtain ⟨b, hb, e2⟩ := s.at (zip_tail_mem hq).2
  unfold adjC okAdj
  rw [e1, e2]
  dsimp only
  rw [Int.toNat_natCast, Int.toNat_natCast]
  split
  · rw [hold_less', worth_plc (by omega), worth_plc (by omega)]
  · rw [hold_same', worth_plc (by omega), worth_plc (by omega)]
/-- the adjacent ones stand so: all do -/
theorem adj_pw {α : Type} {R : α → α → Prop} (tr : ∀ x y z, R x y → R y z → R x z) : ∀ {L : List α}, (∀ q ∈ L.zip L.tail, R q.1 q.2) → L.Pairwise R
  | [], _ => .nil
  | [x], _ => List.pairwise_singleton _ _
  | x :: y :: t, h => by
    have hz : (x :: y :: t).zip (x :: y :: t).tail = (x, y) :: (y :: t).zip (y :: t).tail := rfl
    have ih := adj_pw tr (L := y :: t) fun q hq => h q (by rw [hz]; exact List.mem_cons_of_mem _ hq)
    have h1 : R x y := h (x, y) (by rw [hz]; exact List.mem_cons_self)
    refine List.pairwise_cons.mpr ⟨fun z hz => ?_, ih⟩
    rcases List.mem_cons.mp hz with rfl | hz
    · exact h1
    · exact tr x y z h1 ((List.pairwise_cons.mp ih).1 z hz)
theorem pw_adj {α : Type} {R : α → α → Prop} : ∀ {L : List α}, L.Pairwise R → ∀ q ∈ L.zip L.tail, R q.1 q.2
  | [], _, q, h => by cases h
  | [x], _, q, h => by cases h
  | x :: y :: t, p, q, h => by
    have hz : (x :: y :: t).zip (x :: y :: t).tail = (x, y) :: (y :: t).zip (y :: t).tail := rfl
    rw [hz] at h
    have p2 := List.pairwise_cons.mp p
    rcases List.mem_cons.mp h with rfl | h
    · exact p2.1 y List.mem_cons_self
    · exact pw_adj p2.2 q h
theorem okAdj_some {u : Nat → Int} {x y : Int × Int} (w : Nat → Option Int) (hx : w x.2.toNat = some (u x.2.toNat)) (hy : w y.2.toNat = some (u y.2.toNat)) :
    okAdj w x y = true ↔ if x.1 < y.1 then u x.2.toNat < u y.2.toNat else u x.2.toNat = u y.2.toNat := by
  unfold okAdj
  rw [hx, hy]
  split
  · unfold ltO; exact decide_eq_true_iff
  · unfold eqO; exact decide_eq_true_iff
/-- the same order -/
def Iso (n : Nat) (u v : Nat → Int) : Prop := ∀ a b, a < n → b < n → (u a < u b ↔ v a < v b)
theorem order_iso {n : Nat} {L : List (Int × Int)} {p : List Int} {w : Nat → Option Int} {u : Nat → Int} (s : Srt2 L p) (hn : n = p.length) (hw : ∀ j, j < n → w j = some (u j)) :
    (adjs L).all (fun q => okAdj w q.1 q.2) = true ↔ Iso n u (fun j => p.getD j 0) := by
  rw [List.all_eq_true]
  constructor
  · intro h
    have pw := adj_pw (R := fun x y : Int × Int => x.1 ≤ y.1 ∧ (x.1 < y.1 → u x.2.toNat < u y.2.toNat) ∧ (x.1 = y.1 → u x.2.toNat = u y.2.toNat)) (fun x y z h1 h2 => by
      refine ⟨by omega, fun c => ?_, fun c => ?_⟩
      · by_cases c1 : x.1 < y.1
        · have := h1.2.1 c1
          by_cases c2 : y.1 < z.1
          · have := h2.2.1 c2; omega
          · have := h2.2.2 (by omega); omega
        · have := h1.2.2 (by omega)
          have := h2.2.1 (by omega)
          omega
      · have := h1.2.2 (by omega)
        have := h2.2.2 (by omega)
        omega) (L := L) fun q hq => by
      have hle := pw_adj s.le q hq
      obtain ⟨a, ha, e1⟩ := s.at (zip_tail_mem hq).1
      obtain ⟨b, hb, e2⟩ := s.at (zip_tail_mem hq).2
      have ea : q.1.2.toNat = a := by rw [e1]; exact Int.toNat_natCast a
      have eb : q.2.2.toNat = b := by rw [e2]; exact Int.toNat_natCast b
      have := (okAdj_some (u := u) w (by rw [ea]; exact hw a (by omega)) (by rw [eb]; exact hw b (by omega))).mp (h q hq)
      refine ⟨hle, fun c => ?_, fun c => ?_⟩
      · rwa [if_pos c] at this
      · rwa [if_neg (by omega)] at this
    have key : ∀ a b, a < n → b < n → ((p.getD a 0 < p.getD b 0 → u a < u b) ∧ (p.getD a 0 = p.getD b 0 → u a = u b)) := fun a b ha hb => by
      obtain ⟨i, hi, ei⟩ := List.getElem_of_mem (s.has (show a < p.length by omega))
      obtain ⟨j, hj, ej⟩ := List.getElem_of_mem (s.has (show b < p.length by omega))
      have pg := List.pairwise_iff_getElem.mp pw
      rcases Nat.lt_trichotomy i j with c | c | c
      · have := pg i j hi hj c
        rw [ei, ej] at this
        dsimp only at this
        rw [Int.toNat_natCast, Int.toNat_natCast] at this
        exact ⟨this.2.1, this.2.2⟩
      · subst c
        rw [ei] at ej
        have e := Prod.mk.inj ej
        have : a = b := by omega
        subst this
        exact ⟨fun c => by omega, fun _ => rfl⟩
      · have := pg j i hj hi c
        rw [ei, ej] at this
        dsimp only at this
        rw [Int.toNat_natCast, Int.toNat_natCast] at this
        exact ⟨fun c => by omega, fun c => (this.2.2 c.symm).symm⟩
    intro a b ha hb
    have k1 := key a b ha hb
    have k2 := key b a hb ha
    constructor
    · intro c
      show p.getD a 0 < p.getD b 0
      by_cases c1 : p.getD a 0 < p.getD b 0
      · exact c1
      · by_cases c2 : p.getD b 0 < p.getD a 0
        · have := k2.1 c2; omega
        · have := k1.2 (by omega); omega
    · exact k1.1
  · intro h q hq
    have hle := pw_adj s.le q hq
    obtain ⟨a, ha, e1⟩ := s.at (zip_tail_mem hq).1
    obtain ⟨b, hb, e2⟩ := s.at (zip_tail_mem hq).2
    have ea : q.1.2.toNat = a := by rw [e1]; exact Int.toNat_natCast a
    have eb : q.2.2.toNat = b := by rw [e2]; exact Int.toNat_natCast b
    refine (okAdj_some (u := u) w (by rw [ea]; exact hw a (by omega)) (by rw [eb]; exact hw b (by omega))).mpr ?_
    have h1 := h a b (by omega) (by omega)
    have h2 := h b a (by omega) (by omega)
    dsimp only at h1 h2
    have f1 : q.1.1 = p.getD a 0 := by rw [e1]
    have f2 : q.2.1 = p.getD b 0 := by rw [e2]
    rw [f1, f2] at hle
    rw [ea, eb, f1, f2]
    split <;> omega
theorem order_short {L : List (Int × Int)} {p : List Int} {w : Nat → Option Int} (s : Srt2 L p) (h2 : 2 ≤ p.length) (hw : w 0 = none) : (adjs L).all (fun q => okAdj w q.1 q.2) = false := by
  have l := s.len
  obtain ⟨i, hi, ei⟩ := List.getElem_of_mem (s.has (show 0 < p.length by omega))
  refine Bool.eq_false_iff.mpr fun h => ?_
  rw [List.all_eq_true] at h
  have bad1 : ∀ x y : Int × Int, w x.2.toNat = none → okAdj w x y = false := fun x y e => by
    unfold okAdj
    rw [e]
    split
    · unfold ltO; rfl
    · unfold eqO; rfl
  have bad2 : ∀ x y : Int × Int, w y.2.toNat = none → okAdj w x y = false := fun x y e => by
    unfold okAdj
    rw [e]
    split
    · cases w x.2.toNat <;> (unfold ltO; rfl)
    · cases w x.2.toNat <;> (unfold eqO; rfl)
  have zl : (adjs L).length = L.length - 1 := by unfold adjs; rw [List.length_zip, List.length_tail]; omega
  by_cases c : i + 1 < L.length
  · have hm : (L[i], L[i + 1]) ∈ adjs L := by
      refine List.mem_of_getElem? (i := i) ?_
      unfold adjs
      rw [List.getElem?_eq_getElem (by rw [List.length_zip, List.length_tail]; omega), List.getElem_zip, List.getElem_tail]
    have := h _ hm
    rw [bad1 _ _ (by rw [ei]; exact hw)] at this
    cases this
  · have hm : (L[i - 1], L[i]) ∈ adjs L := by
      refine List.mem_of_getElem? (i := i - 1) ?_
      unfold adjs
      rw [List.getElem?_eq_getElem (by rw [List.length_zip, List.length_tail]; omega), List.getElem_zip, List.getElem_tail]
      have : i - 1 + 1 = i := by omega
      simp only [this]
    have := h _ hm
    rw [bad2 _ _ (by rw [ei]; exact hw)] at this
    cases this
-- ranks
def rankI (u : List Int) : List Int := u.map fun x => (cnt (srt u) x : Int)
theorem rankI_len (u : List Int) : (rankI u).length = u.length := List.length_map ..
theorem rankI_get (u : List Int) {j : Nat} (h : j < u.length) : (rankI u).getD j 0 = (cnt (srt u) (u.getD j 0) : Int) := by
  unfold rankI
  rw [List.getD_eq_getElem?_getD, List.getD_eq_getElem?_getD, List.getElem?_map, List.getElem?_eq_getElem h]
  rfl
theorem mem_getD {u : List Int} {j : Nat} (h : j < u.length) : u.getD j 0 ∈ u := by
  rw [List.getD_eq_getElem?_getD, List.getElem?_eq_getElem h]
  exact List.getElem_mem h
theorem rankI_iso (u : List Int) : Iso u.length (fun j => u.getD j 0) (fun j => (rankI u).getD j 0) := fun a b ha hb => by
  dsimp only
  rw [rankI_get u ha, rankI_get u hb]
  have := cnt_lt (srt_sorted u) (mem_srt.mpr (mem_getD ha)) (mem_srt.mpr (mem_getD hb))
  omega
theorem rankI_map {p : List Int} {g : Int → Int} (r : ∀ x ∈ p, ∀ y ∈ p, (g x < g y ↔ x < y)) : rankI (p.map g) = rankI p := by
  unfold rankI
  rw [srt_map p (fun x hx y hy h => (r x hx y hy).mpr h), List.map_map]
  refine List.map_congr_left fun x hx => ?_
  show ((cnt ((srt p).map g) (g x) : Nat) : Int) = _
  rw [cnt_map fun y hy => r y (mem_srt.mp hy) x hx]
theorem idx_get {p : List Int} {x : Int} (h : x ∈ p) : p.idxOf x < p.length ∧ p.getD (p.idxOf x) 0 = x := by
  have hl := List.idxOf_lt_length_iff.mpr h
  refine ⟨hl, ?_⟩
  rw [List.getD_eq_getElem?_getD, List.getElem?_eq_getElem hl]
  exact List.getElem_idxOf hl
theorem rankI_of_iso {u p : List Int} (hl : u.length = p.length) (h : Iso p.length (fun j => u.getD j 0) (fun j => p.getD j 0)) : rankI u = rankI p := by
  have eq : ∀ a b, a < p.length → b < p.length → p.getD a 0 = p.getD b 0 → u.getD a 0 = u.getD b 0 := fun a b ha hb e => by
    have h1 := h a b ha hb
    have h2 := h b a hb ha
    dsimp only at h1 h2
    omega
  have e : u = p.map fun x => u.getD (p.idxOf x) 0 := by
    refine List.ext_getElem (by rw [List.length_map, hl]) fun i h1 h2 => ?_
    rw [List.getElem_map]
    have hi : i < p.length := by omega
    have hm : p.getD i 0 = p[i] := by rw [List.getD_eq_getElem?_getD, List.getElem?_eq_getElem hi]; rfl
    have hg := idx_get (List.getElem_mem hi)
    have := eq i (p.idxOf p[i]) hi hg.1 (by rw [hg.2, hm])
    rw [← this, List.getD_eq_getElem?_getD, List.getElem?_eq_getElem h1]
    rfl
  rw [e]
  refine rankI_map fun x hx y hy => ?_
  have gx := idx_get hx
  have gy := idx_get hy
  have := h _ _ gx.1 gy.1
  dsimp only at this
  rw [gx.2, gy.2] at this
  exact this
theorem rank_iff {u p : List Int} (hp : rankI p = p) : rankI u = p ↔ u.length = p.length ∧ Iso p.length (fun j => u.getD j 0) (fun j => p.getD j 0) := by
  constructor
  · intro h
    have hl : u.length = p.length := by rw [← rankI_len u, h]
    refine ⟨hl, ?_⟩
    have := rankI_iso u
    rw [h, hl] at this
    exact this
  · rintro ⟨hl, h⟩
    rw [rankI_of_iso hl h, hp]
theorem rankI_rank (u : List Int) : rankI (rankI u) = rankI u := (rankI_of_iso (by rw [rankI_len]) (fun a b ha hb => by
  rw [rankI_len] at ha hb
  exact rankI_iso u a b ha hb)).symm
-- what it says
def lastN (xs : List Int) (n k : Nat) : List Int := (xs.take (k + 1)).drop (k + 1 - n)
theorem lastN_len {xs : List Int} {n k : Nat} (h : k < xs.length) : (lastN xs n k).length = min n (k + 1) := by
  unfold lastN
  rw [List.length_drop, List.length_take]
  omega
theorem lastN_get {xs : List Int} {n k j : Nat} (h : k < xs.length) (hn : n ≤ k + 1) (hj : j < n) : wn xs n k j = some ((lastN xs n k).getD j 0) := by
  unfold wn lastN
  rw [if_pos (by omega), List.getD_eq_getElem?_getD, List.getD_eq_getElem?_getD, List.getElem?_drop, List.getElem?_take_of_lt (by omega), show k + 1 - n + j = k + j + 1 - n by omega]
theorem order_rank {xs : List Int} {n k : Nat} {L : List (Int × Int)} {p : List Int} (s : Srt2 L p) (hn : n = p.length) (hn1 : 1 ≤ n) (hp : rankI p = p) (hk : k < xs.length) :
    hold (xs.getD k 0) (hS xs n k) (orderC n L) = decide (rankI (lastN xs n k) = p) := by
  rw [order_hold s hn]
  by_cases c : n ≤ k + 1
  · rw [Bool.eq_iff_iff, decide_eq_true_iff, order_iso (u := fun j => (lastN xs n k).getD j 0) s hn fun j hj => lastN_get hk c hj, rank_iff hp]
    rw [lastN_len hk, hn]
    constructor
    · intro h
      exact ⟨by omega, h⟩
    · intro h
      exact h.2
  · rw [order_short s (by omega) (by unfold wn; rw [if_neg (by omega)]), decide_eq_false fun h => ?_]
    have := congrArg List.length h
    rw [rankI_len, lastN_len hk] at this
    omega
def spotRow (p xs : List Int) (k : Nat) : List (Int × Option Int) := if rankI (lastN xs p.length k) = p then [(0, some (xs.getD k 0))] else []
def spotDue (p xs : List Int) : List (List (Int × Option Int)) := (List.range xs.length).map (spotRow p xs)
theorem spot_due {L : List (Int × Int)} {p : List Int} (s : Srt2 L p) (h1 : 1 ≤ p.length) (hp : rankI p = p) (xs : List Int) : answersM (spotM p.length L) (0, List.replicate (p.length - 1) none) (asLog xs) = spotDue p xs := by
  rw [← hS_zero xs]
  rw [answersM_rows (spotM p.length L) (asLog xs) (fun k => (0, hS xs p.length k)) (spotRow p xs) fun k e he => ?_]
  · rw [asLog_len]
    rfl
  obtain ⟨rfl, hk⟩ := asLog_get he
  rw [spot_read h1, order_rank s rfl h1 hp hk]
  unfold spotRow
  by_cases c : rankI (lastN xs p.length k) = p
  · rw [decide_eq_true c, if_pos rfl, if_pos c]
  · rw [decide_eq_false c, if_neg (by decide), if_neg c]
-- turned
def oppo (p : List Int) (mx : Int) : List Int := p.map fun r => mx - r
theorem srt_dense {p : List Int} (hp : rankI p = p) : srt p = (List.range (srt p).length).map fun (i : Nat) => (i : Int) := by
  refine List.ext_getElem (by simp) fun i h1 h2 => ?_
  rw [List.getElem_map, List.getElem_range]
  have hm := mem_srt.mp (List.getElem_mem h1)
  obtain ⟨j, hj, ej⟩ := List.getElem_of_mem hm
  have e := rankI_get p hj
  rw [hp] at e
  have gj : p.getD j 0 = (srt p)[i] := by rw [List.getD_eq_getElem?_getD, List.getElem?_eq_getElem hj]; exact ej
  rw [gj, cnt_at (srt_sorted p) h1] at e
  exact e
theorem oppo_dense {p : List Int} (hp : rankI p = p) {mx : Int} (hmx : mx = ((srt p).length : Int) - 1) : rankI (oppo p mx) = oppo p mx := by
  have memp : ∀ z, z ∈ p ↔ 0 ≤ z ∧ z < (srt p).length := fun z => by
    rw [← mem_srt, srt_dense hp, List.mem_map]
    constructor
    · rintro ⟨i, hi, rfl⟩
      have := List.mem_range.mp hi
      rw [← srt_dense hp]
      omega
    · rw [← srt_dense hp]
      rintro ⟨h0, h1⟩
      exact ⟨z.toNat, List.mem_range.mpr (by omega), by omega⟩
  have e : srt (oppo p mx) = srt p := by
    refine srt_unique (srt_sorted _) (srt_sorted _) fun y => ?_
    rw [mem_srt, mem_srt]
    unfold oppo
    rw [List.mem_map]
    constructor
    · rintro ⟨r, hr, rfl⟩
      have := (memp r).mp hr
      exact (memp _).mpr (by omega)
    · intro hy
      have := (memp y).mp hy
      exact ⟨mx - y, (memp _).mpr (by omega), by omega⟩
  unfold rankI
  rw [e]
  have hm : ∀ y ∈ oppo p mx, y ∈ p := fun y hy => mem_srt.mp (by rw [← e]; exact mem_srt.mpr hy)
  conv => rhs; rw [← List.map_id (oppo p mx)]
  refine List.map_congr_left fun y hy => ?_
  have h0 := (memp y).mp (hm y hy)
  have hl : y.toNat < (srt p).length := by omega
  have hg : (srt p)[y.toNat] = y := by
    have : (srt p)[y.toNat]? = ((List.range (srt p).length).map fun (i : Nat) => (i : Int))[y.toNat]? := by rw [← srt_dense hp]
    rw [List.getElem?_eq_getElem hl, List.getElem?_map, List.getElem?_range hl] at this
    have := Option.some.inj this
    dsimp only at this
    omega
  have := cnt_at (srt_sorted p) hl
  rw [hg] at this
  rw [this]
  show ((y.toNat : Nat) : Int) = id y
  show ((y.toNat : Nat) : Int) = y
  omega
theorem rank_neg {p u : List Int} (hp : rankI p = p) {mx : Int} (hmx : mx = ((srt p).length : Int) - 1) : rankI (negs u) = p ↔ rankI u = oppo p mx := by
  rw [rank_iff hp, rank_iff (oppo_dense hp hmx), negs_len]
  have lo : (oppo p mx).length = p.length := List.length_map ..
  rw [lo]
  refine and_congr Iff.rfl ?_
  have og : ∀ j, j < p.length → (oppo p mx).getD j 0 = mx - p.getD j 0 := fun j hj => by
    unfold oppo
    rw [List.getD_eq_getElem?_getD, List.getD_eq_getElem?_getD, List.getElem?_map, List.getElem?_eq_getElem hj]
    rfl
  constructor
  · intro h a b ha hb
    have := h b a hb ha
    dsimp only at this ⊢
    rw [negs_get, negs_get] at this
    rw [og a ha, og b hb]
    omega
  · intro h a b ha hb
    have := h b a hb ha
    dsimp only at this ⊢
    rw [og a ha, og b hb] at this
    rw [negs_get, negs_get]
    omega
theorem lastN_neg (xs : List Int) (n k : Nat) : lastN (negs xs) n k = negs (lastN xs n k) := by
  unfold lastN
  rw [negs_take]
  unfold negs
  rw [List.map_drop]
theorem spot_turn {p : List Int} (hp : rankI p = p) {mx : Int} (hmx : mx = ((srt p).length : Int) - 1) (xs : List Int) : (spotDue p (negs xs)).map (List.map (chE fun x => -x)) = spotDue (oppo p mx) xs := by
  refine rows_neg xs (spotRow p) (spotRow (oppo p mx)) fun k _ => ?_
  unfold spotRow
  rw [show (oppo p mx).length = p.length from List.length_map .., lastN_neg, negs_get]
  by_cases c : rankI (negs (lastN xs p.length k)) = p
  · rw [if_pos c, if_pos ((rank_neg hp hmx).mp c)]
    show [((0 : Int), some (- -_))] = _
    rw [Int.neg_neg]
  · rw [if_neg c, if_neg fun h => c ((rank_neg hp hmx).mpr h)]
    rfl
end Dv

open PySem PySem.Spec PyProof.Rows L2 GxR Gx
namespace Dv
theorem walk_enumT {K : PySem.W.Frag} {a : Addr} {xs : List V} : Walk (Ent.IteT K a) xs.length (fun H => SqT K H a xs) (YPair (fun i => some (.int (i : Nat))) (fun i => xs[i]?)) := by
  refine ⟨fun i _ hi q => ⟨xs, xs[i], q, by simp [hi]⟩, fun _ q => ⟨xs, q, Nat.le_refl _⟩, fun i H v H' _ q y => ?_⟩
  obtain ⟨T, x, h1, h2, h3, h4⟩ := y
  exact ⟨T, .int (i : Nat), x, h1, h2, h3, rfl, h4 xs q⟩
/-- new pairs of ints -/
def Two (H : Hp) (zs : List V) (qs : List (Int × Int)) : Prop := zs.length = qs.length ∧ ∀ (i : Nat) (z : V) (q : Int × Int), zs[i]? = some z → qs[i]? = some q → ∃ t, z = .ref t ∧ H t = some (.tup [.int q.1, .int q.2])
theorem Two.nil {H : Hp} : Two H [] [] := ⟨rfl, fun i z q h => by simp at h⟩
theorem Ex.tupR {T ms : List Addr} {H H1 : Hp} (a : Ex T ms H H1) {t : Addr} {xs : List V} (h : H t = some (.tup xs)) (n : t ∉ ms) : H1 t = some (.tup xs) := a.keep t _ n h fun ps e => by cases e
theorem Two.ext {T : List Addr} {H H1 : Hp} {zs : List V} {qs : List (Int × Int)} (w : Two H zs qs) (a : Ex T [] H H1) : Two H1 zs qs := ⟨w.1, fun i z q h1 h2 => by
  obtain ⟨t, e, ht⟩ := w.2 i z q h1 h2
  exact ⟨t, e, a.tupR ht (by simp)⟩⟩
theorem Two.snoc {H : Hp} {zs : List V} {qs : List (Int × Int)} (w : Two H zs qs) {t : Addr} {q : Int × Int} (h : H t = some (.tup [.int q.1, .int q.2])) : Two H (zs ++ [.ref t]) (qs ++ [q]) := by
  refine ⟨by rw [List.length_append, List.length_append, w.1]; rfl, fun i z r h1 h2 => ?_⟩
  by_cases c : i < zs.length
  · rw [List.getElem?_append_left c] at h1
    rw [List.getElem?_append_left (by rw [← w.1]; exact c)] at h2
    exact w.2 i z r h1 h2
  · rw [List.getElem?_append_right (by omega)] at h1
    rw [List.getElem?_append_right (by rw [← w.1]; omega), ← w.1] at h2
    have e0 : i - zs.length = 0 := by
      have := (List.getElem?_eq_some_iff.mp h1).1
      simp at this
      omega
    rw [e0] at h1 h2
    cases h1
    cases h2
    exact ⟨t, rfl, h⟩
def kOf (H : Hp) : V → Int × Int
  | .ref t => match H t with
    | some (.tup [.int i, .int j]) => (i, j)
    | _ => (0, 0)
  | _ => (0, 0)
theorem kOf_at {H : Hp} {t : Addr} {q : Int × Int} (h : H t = some (.tup [.int q.1, .int q.2])) : kOf H (.ref t) = q := by
  show (match H t with
    | some (.tup [.int i, .int j]) => (i, j)
    | _ => (0, 0)) = q
  rw [h]
theorem Two.keys {H : Hp} {zs : List V} {qs : List (Int × Int)} (w : Two H zs qs) : zs.map (kOf H) = qs := by
  refine List.ext_getElem (by rw [List.length_map, w.1]) fun i h1 h2 => ?_
  rw [List.length_map] at h1
  obtain ⟨t, e, ht⟩ := w.2 i _ _ (List.getElem?_eq_getElem h1) (List.getElem?_eq_getElem h2)
  rw [List.getElem_map, e, kOf_at ht]
theorem Two.each {H : Hp} {zs : List V} {qs : List (Int × Int)} (w : Two H zs qs) : ∀ x ∈ zs, ∃ t, x = .ref t ∧ H t = some (.tup [.int (kOf H x).1, .int (kOf H x).2]) := fun x hx => by
  obtain ⟨i, hi, e⟩ := List.getElem_of_mem hx
  obtain ⟨t, e2, ht⟩ := w.2 i _ _ (List.getElem?_eq_getElem hi) (List.getElem?_eq_getElem (by rw [← w.1]; exact hi))
  rw [e] at e2
  subst e2
  exact ⟨t, rfl, by rw [kOf_at ht]; exact ht⟩
theorem Two.of_each {H : Hp} {zs : List V} (h : ∀ x ∈ zs, ∃ t, x = .ref t ∧ H t = some (.tup [.int (kOf H x).1, .int (kOf H x).2])) : Two H zs (zs.map (kOf H)) := by
  refine ⟨(List.length_map _).symm, fun i z q h1 h2 => ?_⟩
  rw [List.getElem?_map, h1] at h2
  cases h2
  exact h z (List.mem_of_getElem? h1)
theorem sorted_two {H : Hp} {zs ys : List V} {p : List Int} (w : Two H zs (prs p)) (s : SrtO.Srtd (ltP (kOf H)) ys) (b : ys.Perm zs) : Srt2 (ys.map (kOf H)) p ∧ Two H ys (ys.map (kOf H)) := by
  refine ⟨⟨?_, ?_⟩, Two.of_each fun x hx => w.each x (b.mem_iff.mp hx)⟩
  · rw [← w.keys]
    exact b.map _
  · rw [List.pairwise_map]
    refine s.imp fun {x y} h => ?_
    have := SrtO.lexB_no.mp h
    omega
end Dv

open PySem PySem.Spec PyProof.Rows L2 GxR Gx
namespace Dv
/-! max of a tuple of ints; a slice with both bounds -/
section
variable {prog : Program} {w : World} {A : Around} {E : Value → Shared → Prop} {s : Shared} {l : Addr} {xs : Array (Int × Tok)}
theorem iter_intTup {Q : Value → Shared → Prop} (hl : s.heap.IsTuple l (intItems xs))
    (h : ∀ s₂ : Shared, s₂ = { s with heap := s.heap.push { cls := .type "tuple_iterator", data := .fields #[.ref l, .int 0 0] } } →
      (s₂.heap.IsTupleIter s.heap.objs.size l 0 ∧ s₂.heap.IsTuple l (intItems xs)) → (∀ b ∈ [s.heap.objs.size, l], b < s₂.heap.objs.size) → l ≠ s.heap.objs.size → Q (.ref s.heap.objs.size) s₂) :
    wpAny (model prog w) A (pyIter (.ref l)) Q E s := by
  have hlt : l < s.heap.objs.size := by obtain ⟨_, e, _⟩ := hl; exact Heap.lt_size e
  refine wpAny_pyIter_tuple hl (h _ rfl ⟨⟨_, Heap.get?_push_size _ rfl, rfl, rfl⟩, hl.push _⟩ (fun b hb => ?_) (Nat.ne_of_lt hlt))
  show b < (s.heap.push _).objs.size
  rw [Heap.size_push]
  rcases List.mem_cons.mp hb with rfl | hb
  · exact Nat.lt_succ_self _
  · rcases List.mem_cons.mp hb with rfl | hb
    · exact Nat.lt_succ_of_lt hlt
    · cases hb
theorem oldT_kept {h' : Heap} (hk : ∀ b o, b ∉ [s.heap.objs.size] → (s.heap.push { cls := .type "tuple_iterator", data := .fields #[.ref l, .int 0 0] }).get? b = some o → h'.get? b = some o) :
    ∀ b o, s.heap.get? b = some o → h'.get? b = some o := fun b o e => by
  refine hk b o (fun hm => ?_) (Heap.get?_push_of_some _ e)
  rcases List.mem_cons.mp hm with e1 | hm
  · exact absurd (e1 ▸ Heap.lt_size e) (Nat.lt_irrefl _)
  · cases hm
theorem max_intTup {Q : Value → Shared → Prop} (hh : A.handled = none) (hl : s.heap.IsTuple l (intItems xs)) (hne : 0 < xs.size)
    (h : ∀ v h' tk, (intItems xs)[argBest (fun i j => decide (numAt xs i > numAt xs j)) (xs.size - 1)]? = some v → (∀ b o, s.heap.get? b = some o → h'.get? b = some o) → Q v { s with heap := h', toks := tk }) :
    wpAny (model prog w) A (call (.builtin "max") [.ref l]) Q E s := by
  refine call_max_walk (iter_intTup hl fun s₂ e st hfp hlI => ?_)
  subst e
  refine ⟨_, _, _, _, _, _, _, rfl, Walks.tuple (A := A.in1) hh _ l hlI (intItems xs), st, hfp, by simpa [intItems] using hne, CmpOf.ints_gt (numAt xs) (fun _ _ => intItems_at), fun v h' tk hP hk => ?_⟩
  exact h v h' tk (by simpa [intItems] using hP) (oldT_kept hk)
theorem maxT_raw {its : List Value} {ns : List Int} {Q : Value → Shared → Prop} (hh : A.handled = none) (hl : s.heap.IsTuple l its.toArray) (hi : IntsAre its ns) (hne : 0 < ns.length)
    (h : ∀ h' tk M t', (∀ b o, s.heap.get? b = some o → h'.get? b = some o) → M ∈ ns → (∀ a, a ∈ ns → a ≤ M) → Q (.int M t') { s with heap := h', toks := tk }) : wpAny (model prog w) A (call (.builtin "max") [.ref l]) Q E s := by
  obtain ⟨xs, e⟩ := hi.allInts.items
  have hn : numsOf (intItems xs).toList = ns := by rw [← e]; exact hi.numsOf
  rw [nums_intItems] at hn
  subst hn
  rw [e] at hl
  have hsz : 0 < xs.size := by simpa using hne
  refine max_intTup hh hl hsz fun v h' tk hv hk => ?_
  obtain ⟨t, rfl⟩ := intItems_at hv
  obtain ⟨h1, h2⟩ := argBest_gt (numAt xs) (xs.size - 1)
  refine h h' tk _ t hk ?_ fun a ha => ?_
  · rw [numAt_eq]; exact PySem.getD_mem (by rw [List.length_map, Array.length_toList]; omega)
  · obtain ⟨j, hj, rfl⟩ := PySem.mem_getD ha
    rw [List.length_map, Array.length_toList] at hj
    rw [← numAt_eq]; exact h2 j (by omega)
end
def rMaxT (K : PySem.W.Frag) : List V → Hp → VK → Prop := fun vs H Q => ∃ (a : Addr) (ns : List Int), vs = [V.ref a] ∧ SqT K H a (ns.map V.int) ∧ 0 < ns.length ∧ ∀ m, m ∈ ns → (∀ y, y ∈ ns → y ≤ m) → Q (.int m) H
theorem cr_maxT {X : Cx} (hc : X.calm = true) : CallR X (.builtin "max") (rMaxT X.K) := by
  intro pins s σ H vs us Q I r h
  obtain ⟨a, ns, rfl, hs, hne, q⟩ := h
  obtain ⟨its, rv, hl, _⟩ := I.tuple hs
  rw [Vals.ref1 r]
  exact maxT_raw (I.ok.hd hc) (show s.heap.IsTuple a its.toArray from hl) rv.ints hne fun h' tk m t' hk h1 h2 => ⟨.int _, H, I.kept hk, ⟨_, rfl⟩, q m h1 h2⟩
theorem cut_mid {xs : List V} {i j : Int} (h0 : 0 ≤ i) (h1 : 0 ≤ j) : cutV xs (some i) (some j) = (xs.take j.toNat).drop i.toNat := by
  obtain ⟨a, rfl⟩ := Int.eq_ofNat_of_zero_le h0
  obtain ⟨b, rfl⟩ := Int.eq_ofNat_of_zero_le h1
  unfold cutV
  rw [HT.sIx_nat, HT.sIx_nat, Int.toNat_natCast, Int.toNat_natCast]
  refine List.ext_getElem? fun k => ?_
  rw [List.getElem?_drop]
  by_cases c : a + k < min b xs.length
  · rw [List.getElem?_take_of_lt (by omega), List.getElem?_take_of_lt (by omega), List.getElem?_drop, Nat.min_eq_left (by omega)]
  · rw [List.getElem?_eq_none (by rw [List.length_take, List.length_drop]; omega), List.getElem?_eq_none (by rw [List.length_take]; omega)]
theorem max_dense {p : List Int} (hp : rankI p = p) {m : Int} (hm : m ∈ p) (hy : ∀ y, y ∈ p → y ≤ m) : m = ((srt p).length : Int) - 1 := by
  have memp : ∀ z, z ∈ p ↔ 0 ≤ z ∧ z < (srt p).length := fun z => by
    rw [← mem_srt, srt_dense hp, List.mem_map]
    constructor
    · rintro ⟨i, hi, rfl⟩
      have := List.mem_range.mp hi
      rw [← srt_dense hp]
      omega
    · rw [← srt_dense hp]
      rintro ⟨h0, h1⟩
      exact ⟨z.toNat, List.mem_range.mpr (by omega), by omega⟩
  have h1 := (memp m).mp hm
  have h2 := hy (((srt p).length : Int) - 1) ((memp _).mpr (by omega))
  omega
theorem spot_ok {p : List Int} {L : List (Int × Int)} (s : Srt2 L p) (h1 : 1 ≤ p.length) (hl : p.length ≤ 1000) : okM 3 (spotM p.length L) := by
  have pl : ∀ j : Nat, j < p.length → plOk (p.length - 1 : Nat) (plc p.length (j : Int)) := fun j hj => by
    unfold plc plOk
    split
    · omega
    · omega
  have hmov : ∀ z ∈ movS p.length, -2 ≤ z ∧ z < ((p.length - 1 : Nat) : Int) := fun z hz => by
    rw [movS_eq h1] at hz
    obtain ⟨i, hi, rfl⟩ := List.mem_map.mp hz
    have hi' := List.mem_range.mp hi
    have := pl (i + 1) (by omega)
    unfold plOk at this
    omega
  have hml : (movS p.length).length = p.length - 1 := by rw [movS_eq h1, List.length_map, List.length_range]
  have hc : okC (p.length - 1) 3 (orderC p.length L) := by
    unfold orderC
    refine okC_all ?_ (okCs_of fun c hc => ?_)
    · rw [List.length_map]
      unfold adjs
      rw [List.length_zip, s.len]
      omega
    · obtain ⟨q, hq, rfl⟩ := List.mem_map.mp hc
      obtain ⟨a, ha, e1⟩ := s.at (zip_tail_mem hq).1
      obtain ⟨b, hb, e2⟩ := s.at (zip_tail_mem hq).2
      unfold adjC
      rw [e1, e2]
      split
      · exact okC_less (pl a ha) (pl b hb)
      · exact okC_same (pl a ha) (pl b hb)
  refine ok_one (by omega) (by show 2 ≤ 1000; decide) fun c hm => ?_
  simp only [List.mem_cons, List.not_mem_nil, or_false] at hm
  rcases hm with rfl | rfl
  · exact ok_case hc hml hmov (fun q hq => by
      obtain rfl := List.mem_singleton.mp hq
      refine ⟨by decide, by decide, ?_⟩
      show (-1 : Int) < _
      omega) (by show 1 ≤ 1000; decide)
  · exact ok_case okC_tru hml hmov (fun q hq => by cases hq) (by show 0 ≤ 1000; decide)
theorem spot_tu {p : List Int} {L : List (Int × Int)} (s : Srt2 L p) (h1 : 1 ≤ p.length) (hl : p.length ≤ 1000) : tuD 9 (encM (spotM p.length L)) := by
  have hml : (movS p.length).length = p.length - 1 := by rw [movS_eq h1, List.length_map, List.length_range]
  have co : tuD 4 (encC (orderC p.length L)) := by
    unfold orderC encC
    simp only [tuD, tuDs]
    refine ⟨by show 2 ≤ 100000; decide, trivial, ⟨?_, ?_⟩, trivial⟩
    · rw [encCs_length, List.length_map]
      unfold adjs
      rw [List.length_zip, s.len]
      omega
    · rw [encCs_map, List.map_map]
      refine tuDs_of fun q _ => ?_
      show tuD 2 (encC (adjC p.length q.1 q.2))
      unfold adjC
      split <;> simp [encC, tuD, tuDs]
  have cm : tuD 4 (.tup ((movS p.length).map .int)) := by
    unfold tuD
    exact ⟨by rw [List.length_map]; omega, tuDs_of fun z _ => tuD_int⟩
  have e : encM (spotM p.length L) = .tup [.int 1, .int ((p.length - 1 : Nat) : Int), .tup [.tup [.tup [.tup [encC (orderC p.length L), .tup ((movS p.length).map .int), .tup [.tup [.int 0, .int (-1)]], .int 0], .tup [encC .tru, .tup ((movS p.length).map .int), .tup [], .int 0]]]]] := rfl
  have ct : tuD 4 (encC .tru) := by simp [encC, tuD, tuDs]
  rw [e]
  unfold tuD at cm
  simp only [tuD, tuDs, List.length_cons, List.length_nil]
  exact ⟨by decide, trivial, trivial, ⟨by decide, ⟨by decide, ⟨by decide, ⟨by decide, co, cm, ⟨by decide, ⟨by decide, trivial, trivial, trivial⟩, trivial⟩, trivial, trivial⟩, ⟨by decide, ct, cm, ⟨by decide, trivial⟩, trivial, trivial⟩, trivial⟩, trivial⟩, trivial⟩, trivial⟩
end Dv

open PySem PySem.Spec PyProof.Rows L2 GxR Gx
namespace Dv
/-! built machines together -/
def mxO (xs : List Int) (k : Nat) : Option Int := (bandO xs k).map (·.2)
theorem band_some (xs : List Int) (k : Nat) : ∃ p, bandO xs (k + 1) = some p := by
  show ∃ p, bandStep (bandO xs k) (xs.getD k 0) = some p
  unfold bandStep
  cases bandO xs k with
  | none => exact ⟨_, rfl⟩
  | some p =>
    obtain ⟨l, h⟩ := p
    dsimp only
    split
    · exact ⟨_, rfl⟩
    · split <;> exact ⟨_, rfl⟩
theorem fall_head {xs : List Int} {k : Nat} {l h : Int} (h0 : 0 < k) (hk : k ≤ xs.length) (e : bandO xs k = some (l, h)) : (fallD (xs.take k)).take 1 = [h] := by
  obtain ⟨l', h', e', hl, hh, ha⟩ := bandO_spec xs k h0 hk
  rw [e] at e'
  cases e'
  have b := fallD_both xs k
  cases ed : fallD (xs.take k) with
  | nil =>
    have := b.2.mem_iff.mpr hh
    rw [ed] at this
    cases this
  | cons x t =>
    rw [ed] at b
    have hx := b.2.mem_iff.mp (List.mem_cons_self)
    have h1 := (ha x hx).2
    have h2 : h ≤ x := by
      rcases List.mem_cons.mp (b.2.mem_iff.mpr hh) with r | r
      · omega
      · exact (List.pairwise_cons.mp b.1).1 h r
    have : x = h := by omega
    rw [this]
    rfl
/-- a record is a new greatest value -/
theorem rec_new {xs : List Int} {k : Nat} (hk : k < xs.length) {l h : Int} (e : bandO xs (k + 1) = some (l, h)) :
    recRow xs k = if (match mxO xs k with | none => true | some b => decide (b < h)) = true then [(0, some h)] else [] := by
  unfold recRow mxO
  cases eo : bandO xs k with
  | none =>
    have h0 : k = 0 := by
      cases k with
      | zero => rfl
      | succ k =>
        obtain ⟨p, hp⟩ := band_some xs k
        rw [hp] at eo
        cases eo
    subst h0
    have : bandO xs 1 = some (xs.getD 0 0, xs.getD 0 0) := rfl
    rw [this] at e
    have := Prod.mk.inj (Option.some.inj e)
    rw [this.2]
    rfl
  | some p =>
    obtain ⟨l0, h0⟩ := p
    have k0 : 0 < k := by
      cases k with
      | zero => cases eo
      | succ k => omega
    obtain ⟨l', h', e', hl, hh, ha⟩ := bandO_spec xs k k0 (by omega)
    rw [eo] at e'
    cases e'
    have lh := (ha h0 hh).1
    have es : bandStep (some (l0, h0)) (xs.getD k 0) = some (l, h) := by rw [← eo]; exact e
    unfold bandStep at es
    dsimp only at es
    have all : ((xs.take k).all fun y => decide (y < xs.getD k 0)) = decide (h0 < xs.getD k 0) := by
      rw [Bool.eq_iff_iff, List.all_eq_true, decide_eq_true_iff]
      constructor
      · intro q
        have := q h0 hh
        rwa [decide_eq_true_iff] at this
      · intro q y hy
        have := (ha y hy).2
        rw [decide_eq_true_iff]
        omega
    rw [all]
    show (if decide (h0 < xs.getD k 0) = true then _ else _) = (if decide (h0 < h) = true then _ else _)
    by_cases c : h0 < xs.getD k 0
    · rw [if_neg (by omega), if_pos c] at es
      have := Prod.mk.inj (Option.some.inj es)
      rw [decide_eq_true c, if_pos rfl, decide_eq_true (by omega), if_pos rfl, this.2]
    · have : h = h0 := by
        by_cases c2 : xs.getD k 0 < l0
        · rw [if_pos c2] at es
          have := Prod.mk.inj (Option.some.inj es)
          omega
        · rw [if_neg c2, if_neg c] at es
          have := Prod.mk.inj (Option.some.inj es)
          omega
      rw [decide_eq_false c, if_neg (by decide), decide_eq_false (by omega), if_neg (by decide)]
theorem enA_take (d : List Int) (k : Nat) : (enA d).take k = enA (d.take k) := by
  unfold enA
  refine List.ext_getElem? fun i => ?_
  by_cases c : i < k
  · rw [List.getElem?_take_of_lt c, List.getElem?_map, List.getElem?_map, List.getElem?_zipIdx, List.getElem?_zipIdx, List.getElem?_take_of_lt c]
  · rw [List.getElem?_eq_none (by rw [List.length_take]; omega), List.getElem?_eq_none (by rw [List.length_map, List.length_zipIdx, List.length_take]; omega)]
theorem enA_len (d : List Int) : (enA d).length = d.length := by unfold enA; rw [List.length_map, List.length_zipIdx]
theorem fall_len (xs : List Int) (k : Nat) : (fallD (xs.take k)).length = min k xs.length := by rw [(fallD_both xs k).2.length_eq, List.length_take]
theorem enA_at (d : List Int) {i : Nat} (h : i < d.length) : (enA d)[i]? = some ((i : Int), some d[i]) := by
  unfold enA
  rw [List.getElem?_map, List.getElem?_zipIdx, List.getElem?_eq_getElem h]
  show some (((0 + i : Nat) : Int), some d[i]) = _
  rw [Nat.zero_add]
/-- a falling list, sorted and reversed, is itself -/
theorem fall_sorted {d ys : List Int} (hd : d.Pairwise (fun a b => b ≤ a)) (p : ys.Perm d) (s : ys.Pairwise (· ≤ ·)) : ys.reverse = d := by
  have s2 : ys.reverse.Pairwise (fun a b => b ≤ a) := List.pairwise_reverse.mpr s
  exact (((List.reverse_perm ys).trans p)).eq_of_pairwise (fun a b _ _ h1 h2 => by omega) s2 hd
-- turning points
def tagsOf (xs : List Int) : Nat → Option Int
  | 0 => none
  | k + 1 => if 0 < k ∧ xs.getD k 0 = xs.getD (k - 1) 0 then none else
    match (turnsRow xs k) with
    | [] => tagsOf xs k
    | p :: _ => some p.1
theorem turns_inv (xs : List Int) : ∀ k, (tagsOf xs (k + 1) = some 0 → 0 < k ∧ xs.getD k 0 < xs.getD (k - 1) 0) ∧ (tagsOf xs (k + 1) = some 1 → 0 < k ∧ xs.getD (k - 1) 0 < xs.getD k 0) ∧ (∀ t, tagsOf xs (k + 1) = some t → t = 0 ∨ t = 1)
  | 0 => by
    have : tagsOf xs 1 = none := by unfold tagsOf turnsRow; simp [tagsOf]
    rw [this]
    exact ⟨fun h => (by cases h), fun h => (by cases h), fun t h => (by cases h)⟩
  | k + 1 => by
    have ih := turns_inv xs k
    unfold tagsOf
    by_cases c : 0 < k + 1 ∧ xs.getD (k + 1) 0 = xs.getD (k + 1 - 1) 0
    · rw [if_pos c]
      exact ⟨fun h => (by cases h), fun h => (by cases h), fun t h => (by cases h)⟩
    rw [if_neg c]
    have ne : ¬ xs.getD (k + 1) 0 = xs.getD k 0 := fun h => c ⟨by omega, h⟩
    show _ ∧ _ ∧ _
    unfold turnsRow
    by_cases c0 : k + 1 < 2
    · rw [if_pos c0]
      dsimp only
      have k0 : k = 0 := by omega
      subst k0
      have : tagsOf xs 1 = none := by unfold tagsOf turnsRow; simp [tagsOf]
      rw [this]
      exact ⟨fun h => (by cases h), fun h => (by cases h), fun t h => (by cases h)⟩
    rw [if_neg c0]
    have e1 : k + 1 - 1 = k := by omega
    have e2 : k + 1 - 2 = k - 1 := by omega
    rw [e1, e2]
    by_cases c1 : xs.getD (k - 1) 0 < xs.getD k 0 ∧ xs.getD (k + 1) 0 < xs.getD k 0
    · rw [if_pos c1]
      dsimp only
      exact ⟨fun _ => ⟨by omega, c1.2⟩, fun h => (by cases h), fun t h => (by cases h; exact .inl rfl)⟩
    rw [if_neg c1]
    by_cases c2 : xs.getD k 0 < xs.getD (k - 1) 0 ∧ xs.getD k 0 < xs.getD (k + 1) 0
    · rw [if_pos c2]
      dsimp only
      exact ⟨fun h => (by cases h), fun _ => ⟨by omega, c2.2⟩, fun t h => (by cases h; exact .inr rfl)⟩
    rw [if_neg c2]
    dsimp only
    refine ⟨fun h => ?_, fun h => ?_, ih.2.2⟩
    · have := ih.1 h
      omega
    · have := ih.2.1 h
      omega
theorem turns_alter (xs : List Int) (k : Nat) (c : ¬ (0 < k ∧ xs.getD k 0 = xs.getD (k - 1) 0)) {p : Int × Option Int} {r : List (Int × Option Int)} (h : turnsRow xs k = p :: r) : r = [] ∧ tagsOf xs k ≠ some p.1 := by
  unfold turnsRow at h
  by_cases c0 : k < 2
  · rw [if_pos c0] at h; cases h
  rw [if_neg c0] at h
  obtain ⟨j, rfl⟩ : ∃ j, k = j + 1 := ⟨k - 1, by omega⟩
  have ih := turns_inv xs j
  have e1 : j + 1 - 1 = j := by omega
  have e2 : j + 1 - 2 = j - 1 := by omega
  rw [e1, e2] at h
  by_cases c1 : xs.getD (j - 1) 0 < xs.getD j 0 ∧ xs.getD (j + 1) 0 < xs.getD j 0
  · rw [if_pos c1] at h
    cases h
    refine ⟨rfl, fun h => ?_⟩
    have := ih.1 h
    omega
  rw [if_neg c1] at h
  by_cases c2 : xs.getD j 0 < xs.getD (j - 1) 0 ∧ xs.getD j 0 < xs.getD (j + 1) 0
  · rw [if_pos c2] at h
    cases h
    refine ⟨rfl, fun h => ?_⟩
    have := ih.2.1 h
    omega
  rw [if_neg c2] at h
  cases h
theorem turns_eq_none (xs : List Int) (k : Nat) (c : 0 < k ∧ xs.getD k 0 = xs.getD (k - 1) 0) : turnsRow xs k = [] := by
  unfold turnsRow
  split
  · rfl
  · rw [if_neg (by omega), if_neg (by omega)]
-- patterns
theorem get_some {xs : List Int} {i j : Nat} (h : i < xs.length) (e : i = j) : xs[i]? = some (xs.getD j 0) := by
  subst e
  rw [List.getD_eq_getElem?_getD, List.getElem?_eq_getElem h]
  rfl
theorem last3 {xs : List Int} {k : Nat} (h2 : 2 ≤ k) (hk : k < xs.length) : lastN xs 3 k = [xs.getD (k - 2) 0, xs.getD (k - 1) 0, xs.getD k 0] := by
  refine List.ext_getElem? fun i => ?_
  have hl := lastN_len (n := 3) hk
  unfold lastN at hl ⊢
  match i with
  | 0 => rw [List.getElem?_drop, List.getElem?_take_of_lt (by omega)]; exact get_some (by omega) (by omega)
  | 1 => rw [List.getElem?_drop, List.getElem?_take_of_lt (by omega)]; exact get_some (by omega) (by omega)
  | 2 => rw [List.getElem?_drop, List.getElem?_take_of_lt (by omega)]; exact get_some (by omega) (by omega)
  | i + 3 =>
    rw [List.getElem?_eq_none (by omega), List.getElem?_eq_none (by show [_, _, _].length ≤ i + 3; simp)]
theorem iso3 {a b c p q r : Int} : Iso 3 (fun j => [a, b, c].getD j 0) (fun j => [p, q, r].getD j 0) ↔ ((a < b ↔ p < q) ∧ (b < a ↔ q < p) ∧ (b < c ↔ q < r) ∧ (c < b ↔ r < q) ∧ (a < c ↔ p < r) ∧ (c < a ↔ r < p)) := by
  constructor
  · intro h
    exact ⟨h 0 1 (by omega) (by omega), h 1 0 (by omega) (by omega), h 1 2 (by omega) (by omega), h 2 1 (by omega) (by omega), h 0 2 (by omega) (by omega), h 2 0 (by omega) (by omega)⟩
  · rintro ⟨h1, h2, h3, h4, h5, h6⟩ i j hi hj
    have ci : i = 0 ∨ i = 1 ∨ i = 2 := by omega
    have cj : j = 0 ∨ j = 1 ∨ j = 2 := by omega
    rcases ci with rfl | rfl | rfl <;> rcases cj with rfl | rfl | rfl
    · exact ⟨fun h => absurd h (Int.lt_irrefl _), fun h => absurd h (Int.lt_irrefl _)⟩
    · exact h1
    · exact h5
    · exact h2
    · exact ⟨fun h => absurd h (Int.lt_irrefl _), fun h => absurd h (Int.lt_irrefl _)⟩
    · exact h3
    · exact h6
    · exact h4
    · exact ⟨fun h => absurd h (Int.lt_irrefl _), fun h => absurd h (Int.lt_irrefl _)⟩
theorem rank3 {a b c p q r : Int} (hp : rankI [p, q, r] = [p, q, r]) : rankI [a, b, c] = [p, q, r] ↔ ((a < b ↔ p < q) ∧ (b < a ↔ q < p) ∧ (b < c ↔ q < r) ∧ (c < b ↔ r < q) ∧ (a < c ↔ p < r) ∧ (c < a ↔ r < p)) := by
  rw [rank_iff hp]
  show (3 = 3 ∧ Iso 3 _ _) ↔ _
  rw [iso3]
  exact ⟨fun h => h.2, fun h => ⟨rfl, h⟩⟩
def highP : List (List Int) := [[0, 1, 0], [0, 2, 1], [1, 2, 0]]
def lowP : List (List Int) := [[1, 0, 1], [1, 0, 2], [2, 0, 1]]
theorem high_ok : ∀ p ∈ highP, rankI p = p ∧ p.length = 3 := by decide
theorem low_ok : ∀ p ∈ lowP, rankI p = p ∧ p.length = 3 := by decide
def tells (p xs : List Int) (k : Nat) : Bool := decide (0 < (spotRow p xs k).length)
theorem tells_iff {p xs : List Int} {k : Nat} : tells p xs k = true ↔ rankI (lastN xs p.length k) = p := by
  unfold tells spotRow
  rw [decide_eq_true_iff]
  split
  · rename_i h; exact ⟨fun _ => h, fun _ => by show 0 < 1; decide⟩
  · rename_i h; exact ⟨fun q => absurd q (by show ¬ 0 < 0; decide), fun q => absurd q h⟩
theorem tells_short {p xs : List Int} {k : Nat} (hl : p.length = 3) (h : k < 2) (hk : k < xs.length) : tells p xs k = false := by
  refine Bool.eq_false_iff.mpr fun h2 => ?_
  have := congrArg List.length (tells_iff.mp h2)
  rw [rankI_len, lastN_len hk, hl] at this
  omega
theorem high_count {xs : List Int} {k : Nat} (hk : k < xs.length) : (highP.filter fun p => tells p xs k).length = if 2 ≤ k ∧ xs.getD (k - 2) 0 < xs.getD (k - 1) 0 ∧ xs.getD k 0 < xs.getD (k - 1) 0 then 1 else 0 := by
  by_cases c : k < 2
  · rw [if_neg (by omega), List.filter_eq_nil_iff.mpr fun p hp => by rw [tells_short (high_ok p hp).2 c hk]; decide, List.length_nil]
  have t : ∀ p q r : Int, rankI [p, q, r] = [p, q, r] → (tells [p, q, r] xs k = true ↔ ((xs.getD (k - 2) 0 < xs.getD (k - 1) 0 ↔ p < q) ∧ (xs.getD (k - 1) 0 < xs.getD (k - 2) 0 ↔ q < p) ∧ (xs.getD (k - 1) 0 < xs.getD k 0 ↔ q < r) ∧ (xs.getD k 0 < xs.getD (k - 1) 0 ↔ r < q) ∧ (xs.getD (k - 2) 0 < xs.getD k 0 ↔ p < r) ∧ (xs.getD k 0 < xs.getD (k - 2) 0 ↔ r < p))) := fun p q r hp => by
    rw [tells_iff, show [p, q, r].length = 3 from rfl, last3 (by omega) hk]
    exact rank3 hp
  have t1 := t 0 1 0 (by decide)
  have t2 := t 0 2 1 (by decide)
  have t3 := t 1 2 0 (by decide)
  generalize xs.getD (k - 2) 0 = a at *
  generalize xs.getD (k - 1) 0 = b at *
  generalize xs.getD k 0 = d at *
  unfold highP
  simp only [List.filter_cons, List.filter_nil]
  by_cases c2 : a < b ∧ d < b
  · rw [if_pos (show 2 ≤ k ∧ a < b ∧ d < b from ⟨by omega, c2⟩)]
    rcases Int.lt_trichotomy a d with h | h | h
    · have f1 : ¬ tells [0, 1, 0] xs k = true := by rw [t1]; omega
      have f2 : tells [0, 2, 1] xs k = true := by rw [t2]; omega
      have f3 : ¬ tells [1, 2, 0] xs k = true := by rw [t3]; omega
      rw [if_neg f1, if_pos f2, if_neg f3]; rfl
    · have f1 : tells [0, 1, 0] xs k = true := by rw [t1]; omega
      have f2 : ¬ tells [0, 2, 1] xs k = true := by rw [t2]; omega
      have f3 : ¬ tells [1, 2, 0] xs k = true := by rw [t3]; omega
      rw [if_pos f1, if_neg f2, if_neg f3]; rfl
    · have f1 : ¬ tells [0, 1, 0] xs k = true := by rw [t1]; omega
      have f2 : ¬ tells [0, 2, 1] xs k = true := by rw [t2]; omega
      have f3 : tells [1, 2, 0] xs k = true := by rw [t3]; omega
      rw [if_neg f1, if_neg f2, if_pos f3]; rfl
  · rw [if_neg (show ¬ (2 ≤ k ∧ a < b ∧ d < b) from fun h => c2 h.2)]
    have f1 : ¬ tells [0, 1, 0] xs k = true := by rw [t1]; omega
    have f2 : ¬ tells [0, 2, 1] xs k = true := by rw [t2]; omega
    have f3 : ¬ tells [1, 2, 0] xs k = true := by rw [t3]; omega
    rw [if_neg f1, if_neg f2, if_neg f3]; rfl
theorem low_count {xs : List Int} {k : Nat} (hk : k < xs.length) : (lowP.filter fun p => tells p xs k).length = if 2 ≤ k ∧ xs.getD (k - 1) 0 < xs.getD (k - 2) 0 ∧ xs.getD (k - 1) 0 < xs.getD k 0 then 1 else 0 := by
  by_cases c : k < 2
  · rw [if_neg (by omega), List.filter_eq_nil_iff.mpr fun p hp => by rw [tells_short (low_ok p hp).2 c hk]; decide, List.length_nil]
  have t : ∀ p q r : Int, rankI [p, q, r] = [p, q, r] → (tells [p, q, r] xs k = true ↔ ((xs.getD (k - 2) 0 < xs.getD (k - 1) 0 ↔ p < q) ∧ (xs.getD (k - 1) 0 < xs.getD (k - 2) 0 ↔ q < p) ∧ (xs.getD (k - 1) 0 < xs.getD k 0 ↔ q < r) ∧ (xs.getD k 0 < xs.getD (k - 1) 0 ↔ r < q) ∧ (xs.getD (k - 2) 0 < xs.getD k 0 ↔ p < r) ∧ (xs.getD k 0 < xs.getD (k - 2) 0 ↔ r < p))) := fun p q r hp => by
    rw [tells_iff, show [p, q, r].length = 3 from rfl, last3 (by omega) hk]
    exact rank3 hp
  have t1 := t 1 0 1 (by decide)
  have t2 := t 1 0 2 (by decide)
  have t3 := t 2 0 1 (by decide)
  generalize xs.getD (k - 2) 0 = a at *
  generalize xs.getD (k - 1) 0 = b at *
  generalize xs.getD k 0 = d at *
  unfold lowP
  simp only [List.filter_cons, List.filter_nil]
  by_cases c2 : b < a ∧ b < d
  · rw [if_pos (show 2 ≤ k ∧ b < a ∧ b < d from ⟨by omega, c2⟩)]
    rcases Int.lt_trichotomy a d with h | h | h
    · have f1 : ¬ tells [1, 0, 1] xs k = true := by rw [t1]; omega
      have f2 : tells [1, 0, 2] xs k = true := by rw [t2]; omega
      have f3 : ¬ tells [2, 0, 1] xs k = true := by rw [t3]; omega
      rw [if_neg f1, if_pos f2, if_neg f3]; rfl
    · have f1 : tells [1, 0, 1] xs k = true := by rw [t1]; omega
      have f2 : ¬ tells [1, 0, 2] xs k = true := by rw [t2]; omega
      have f3 : ¬ tells [2, 0, 1] xs k = true := by rw [t3]; omega
      rw [if_pos f1, if_neg f2, if_neg f3]; rfl
    · have f1 : ¬ tells [1, 0, 1] xs k = true := by rw [t1]; omega
      have f2 : ¬ tells [1, 0, 2] xs k = true := by rw [t2]; omega
      have f3 : tells [2, 0, 1] xs k = true := by rw [t3]; omega
      rw [if_neg f1, if_neg f2, if_pos f3]; rfl
  · rw [if_neg (show ¬ (2 ≤ k ∧ b < a ∧ b < d) from fun h => c2 h.2)]
    have f1 : ¬ tells [1, 0, 1] xs k = true := by rw [t1]; omega
    have f2 : ¬ tells [1, 0, 2] xs k = true := by rw [t2]; omega
    have f3 : ¬ tells [2, 0, 1] xs k = true := by rw [t3]; omega
    rw [if_neg f1, if_neg f2, if_neg f3]; rfl
theorem spotted_tags {xs : List Int} {k : Nat} (hk : k < xs.length) : (turnsRow xs k).map (·.1) = List.replicate (highP.filter fun p => tells p xs k).length 0 ++ List.replicate (lowP.filter fun p => tells p xs k).length 1 := by
  rw [high_count hk, low_count hk]
  unfold turnsRow
  by_cases c0 : k < 2
  · rw [if_pos c0, if_neg (by omega), if_neg (by omega)]; rfl
  rw [if_neg c0]
  by_cases c1 : xs.getD (k - 2) 0 < xs.getD (k - 1) 0 ∧ xs.getD k 0 < xs.getD (k - 1) 0
  · rw [if_pos c1, if_pos ⟨by omega, c1⟩, if_neg (by omega)]; rfl
  rw [if_neg c1, if_neg (show ¬ (2 ≤ k ∧ xs.getD (k - 2) 0 < xs.getD (k - 1) 0 ∧ xs.getD k 0 < xs.getD (k - 1) 0) from fun h => c1 h.2)]
  by_cases c2 : xs.getD (k - 1) 0 < xs.getD (k - 2) 0 ∧ xs.getD (k - 1) 0 < xs.getD k 0
  · rw [if_pos c2, if_pos ⟨by omega, c2⟩]; rfl
  · rw [if_neg c2, if_neg (show ¬ (2 ≤ k ∧ xs.getD (k - 1) 0 < xs.getD (k - 2) 0 ∧ xs.getD (k - 1) 0 < xs.getD k 0) from fun h => c2 h.2)]; rfl
-- runs
theorem runs_ended (xs : List Int) (k : Nat) : (0 < (runsRow xs k).length) ↔ (0 < k ∧ xs.getD k 0 ≤ xs.getD (k - 1) 0) := by
  unfold runsRow
  split
  · rename_i h; exact ⟨fun _ => h, fun _ => by show 0 < 1; decide⟩
  · rename_i h; exact ⟨fun q => absurd q (by show ¬ 0 < 0; decide), fun q => absurd q h⟩
theorem takeT_any {K : PySem.W.Frag} {H : Hp} {T : List Addr} {Q : VK} {v0 : V} {ds : List D} {av : Int} (h : At K H v0 (.tup ds)) (h0 : 0 ≤ av) (q : ∀ v H', At K H' v (.tup (ds.take av.toNat)) → Ex T [] H H' → Q v H') : rSlA K v0 none (some av) H Q := by
  obtain ⟨a, xs, rfl, sq, ats⟩ := at_tup.mp h
  refine ⟨a, xs, rfl, sq, fun hw => q (.ref a) H ?_ Ex.refl, fun _ p np => q (.ref p) _ ?_ (Ex.new np)⟩
  · obtain ⟨k, rfl⟩ := Int.eq_ofNat_of_zero_le h0
    have := hw.2
    rw [HT.sIx_nat] at this
    rw [Int.toNat_natCast, List.take_of_length_le (by rw [← ats.length]; omega)]
    exact h
  · rw [cut_take h0]
    exact At.laid np (ats.takeD _)
end Dv

namespace Law
open PySem PySem.Spec PyProof.Rows L2 GxR Gx Dv
def topS (i : Nat) : Stmt := PySem.Challenge.pw_anyvalues_k25_whole_built_machines_toget.main.body.getD i (.Pass ⟨0, 0, 0, 0⟩)
abbrev s__worth : Stmt := topS 4
abbrev s_holds : Stmt := topS 3
abbrev s_case_at : Stmt := topS 6
abbrev s_read : Stmt := topS 7
abbrev s_beginning : Stmt := topS 5
abbrev s_answers_from : Stmt := topS 9
abbrev s_answers : Stmt := topS 8
abbrev s__law_draws : Stmt := topS 26
abbrev s__law_take : Stmt := topS 27
abbrev s__law_cell : Stmt := topS 28
abbrev s__law_base : Stmt := topS 31
abbrev s__law_value : Stmt := topS 30
abbrev s__reader : Stmt := topS 19
abbrev s__put_at : Stmt := topS 15
abbrev s_records : Stmt := topS 13
abbrev s_top_list : Stmt := topS 14
abbrev s_band : Stmt := topS 16
abbrev s_turning_points : Stmt := topS 17
abbrev s_runs : Stmt := topS 18
abbrev s__place : Stmt := topS 24
abbrev s__in_order : Stmt := topS 23
abbrev s_spotter : Stmt := topS 22
abbrev s__law_values : Stmt := topS 34
abbrev s__law_as_log : Stmt := topS 35
abbrev s__law_greatest : Stmt := topS 40
abbrev s__law_lists : Stmt := topS 41
abbrev s__law_turns : Stmt := topS 42
abbrev s__law_spotted : Stmt := topS 43
abbrev s_law : Stmt := topS 44
section
variable {P : Program} {w : World} {K : PySem.W.Frag} {mg : Str → Option Value} {base : Heap}
theorem sc__worth : FnScope ["source", "value", "held"] ["source", "value", "held"] (defScope s__worth) := ⟨rfl, rfl, rfl, by decide +kernel, rfl, by decide +kernel, by decide +kernel⟩
def sp__worth (K : PySem.W.Frag) : Sp := fun vs H Q _ => ∃ (p v : Int) (hv : V) (h : List (Option Int)), vs = [.int p, .int v, hv] ∧ At K H hv (encH h) ∧ -2 ≤ p ∧ p < h.length ∧ Q (oV (worth v h p)) H
theorem ok__worth {f : Addr} {fd : FuncData} {k : Nat} {t1 t2 : Tok} (F : Fun K "_worth" "_worth" s__worth f fd) (mN : mg "NEW" = some (.int (-1) t1)) (mN2 : mg "NOTHING" = some (.int (-2) t2)) : FnOk P w K mg base CX0 (k + 1) f fd ["source", "value", "held"] (sp__worth K) := by
  refine F.ok sc__worth (fun vs H Q E h => ?_) (fun cdv A outer s H vs Q E hr h => ?_)
  · obtain ⟨p, v, hv, h, rfl, _⟩ := h
    rfl
  obtain ⟨p, v, hv, h, rfl, hh, h0, h1, q⟩ := h
  refine ⟨_, pss_cons (ps_if (pt_cmpR op_eq (pv 0) (pe_glob (v := .int (-1)) rfl mN ⟨_, rfl⟩) (nomark _)) (pss_one (ps_ret (pv 1))) pss_nil)
    (pss_cons (ps_if (pt_cmpR op_eq (pv 0) (pe_glob (v := .int (-2)) rfl mN2 ⟨_, rfl⟩) (nomark _)) (pss_one (ps_ret pe_non)) pss_nil)
    (pss_one (ps_ret (pe_ix ix_tup (pv 2) (pv 0) (fun _ _ => rfl))))), ?_⟩
  refine ⟨_, rfl, rfl, _, rfl, ite2 (fun c => ?_) (fun c => ?_)⟩
  · have e : p = -1 := by simpa using c
    subst e
    exact ⟨_, rfl, q⟩
  have n1 : p ≠ -1 := by simpa using c
  refine ⟨_, rfl, rfl, _, rfl, ite2 (fun c => ?_) (fun c => ?_)⟩
  · have e : p = -2 := by simpa using c
    subst e
    exact q
  have n2 : p ≠ -2 := by simpa using c
  obtain ⟨a, rfl, sq⟩ := at_encH.mp hh
  exact ⟨_, rfl, _, rfl, a, _, _, _, rfl, rfl, sq, oV_at (v := v) (by omega) h1, q⟩

theorem sc_holds : FnScope ["condition", "value", "held", "word", "one", "other"] ["condition", "value", "held"] (defScope s_holds) := ⟨rfl, rfl, rfl, by decide +kernel, rfl, by decide +kernel, by decide +kernel⟩
def sp_holds (K : PySem.W.Frag) (T : List Addr) (n : Nat) : Sp := fun vs H Q _ => ∃ (x hv : V) (c : C) (v : Int) (h : List (Option Int)), vs = [x, .int v, hv] ∧ At K H x (encC c) ∧ At K H hv (encH h) ∧ Wd T H ∧ (∃ m, n = m + 1 ∧ okC h.length m c) ∧
  ∀ H', Ex T [] H H' → Q (.bl (hold v h c)) H'

theorem ok_holds {f fW c PT : Addr} {fd fdW : FuncData} {T : List Addr} (hPT : PT ∈ T) (F : FunT K "holds" "holds" s_holds f fd c) (bF : Binds K fd ["condition", "value", "held"] []) (mF : mg "holds" = some (.ref f))
    (TB : TabB base mg c PT) (mAll : mg "all" = none) (mAny : mg "any" = none)
    (W : FnOk P w K mg base CX0 1 fW fdW ["source", "value", "held"] (sp__worth K)) (kW : PySem.W.keepIn K (.ref fW) = true) (bW : Binds K fdW ["source", "value", "held"] []) (mW : mg "_worth" = some (.ref fW)) :
    ∀ n : Nat, FnOk P w K mg base CX0 (2 * n + 1) f fd ["condition", "value", "held"] (sp_holds K T n) := by
  intro n
  induction n with
  | zero =>
    have no : ∀ vs H Q E, ¬ sp_holds K T 0 vs H Q E := fun vs H Q E h => by
      obtain ⟨x, hv, c, v, h, _, _, _, _, ⟨m, e, _⟩, _⟩ := h
      omega
    exact ⟨fun vs H Q E h => absurd h (no vs H Q E), fun A outer s H args us vs Q E _ _ _ _ h => absurd h (no vs H Q E)⟩
  | succ n ih =>
  refine F.ok sc_holds (fun vs H Q E h => ?_) (fun A outer s H vs Q E hr h => ?_)
  · obtain ⟨x, hv, c, v, h, rfl, _⟩ := h
    rfl
  obtain ⟨x, hv, c, v, h, rfl, hx, hh, wd, ⟨n', en, ok⟩, q⟩ := h
  obtain rfl : n = n' := by omega
  have hr1 : Room 1 _ := hr.mono (by omega)
  refine ⟨_, pss_cons (ps_set (i := 3) sc_holds.nd rfl (.inl rfl) (pe_ix ix_tup (pv 0) pe_int (fun _ _ => rfl)))
    (pss_cons (ps_if (pt_cmpR op_eq (pv 3) pe_str (nomark _))
      (pss_one (ps_ret (pe_allG (k := 2 * n + 1) (es := [("part", none), ("value", some 1), ("held", some 2)]) hr (by rfl) mAll TB rfl ⟨by rfl, by rfl, by rfl, by (show freeOk (defScope s_holds) _ = true; decide +kernel), by (show capsOk ["condition", "value", "held", "word", "one", "other"] _ _ = true; decide +kernel)⟩
        (pi_tup (pe_ix ix_tup (pv 0) pe_int (fun _ _ => rfl))) (fun _ _ _ _ _ _ _ => pg_name (i := 0) (show (["part", "value", "held"] : List Str).Nodup by decide +kernel) rfl (.inl rfl) (.inr rfl))
        (fun _ _ _ _ _ _ _ hr' => pe_call ih hr' (by rfl) mF F.kp bF .nil pass0 (pa_cons (pv 0) (pa_cons (pv 1) (pa_cons (pv 2) pa_nil)))) (fun _ => rfl)))) pss_nil)
    (pss_cons (ps_if (pt_cmpR op_eq (pv 3) pe_str (nomark _))
      (pss_one (ps_ret (pe_anyG (k := 2 * n + 1) (es := [("part", none), ("value", some 1), ("held", some 2)]) hr (by rfl) mAny TB rfl ⟨by rfl, by rfl, by rfl, by (show freeOk (defScope s_holds) _ = true; decide +kernel), by (show capsOk ["condition", "value", "held", "word", "one", "other"] _ _ = true; decide +kernel)⟩
        (pi_tup (pe_ix ix_tup (pv 0) pe_int (fun _ _ => rfl))) (fun _ _ _ _ _ _ _ => pg_name (i := 0) (show (["part", "value", "held"] : List Str).Nodup by decide +kernel) rfl (.inl rfl) (.inr rfl))
        (fun _ _ _ _ _ _ _ hr' => pe_call ih hr' (by rfl) mF F.kp bF .nil pass0 (pa_cons (pv 0) (pa_cons (pv 1) (pa_cons (pv 2) pa_nil)))) (fun _ => rfl)))) pss_nil)
    (pss_cons (ps_if (pt_cmpR op_eq (pv 3) pe_str (nomark _))
      (pss_one (ps_ret (pe_not (pe_call ih (hr.mono (by omega)) (by rfl) mF F.kp bF .nil pass0 (pa_cons (pe_ix ix_tup (pv 0) pe_int (fun _ _ => rfl)) (pa_cons (pv 1) (pa_cons (pv 2) pa_nil))))))) pss_nil)
    (pss_cons (ps_if (pt_cmpR op_in_seq (pv 3) (pe_tup (pa_cons pe_str (pa_cons pe_str pa_nil))) rfl)
      (pss_one (ps_ret (pe_cmpR op_eq (pv 3) pe_str (nomark _)))) pss_nil)
    (pss_cons (ps_set (i := 4) sc_holds.nd rfl (.inl rfl) (pe_call W hr1 (by rfl) mW kW bW .nil pass0 (pa_cons (pe_ix ix_tup (pv 0) pe_int (fun _ _ => rfl)) (pa_cons (pv 1) (pa_cons (pv 2) pa_nil)))))
    (pss_cons (ps_if (pt_cmpR op_eq (pv 3) pe_str (nomark _)) (pss_one (ps_ret (pe_cmp (pc_isN (pv 4)) rfl))) pss_nil)
    (pss_cons (ps_set (i := 5) sc_holds.nd rfl (.inl rfl) (pe_call W hr1 (by rfl) mW kW bW .nil pass0 (pa_cons (pe_ix ix_tup (pv 0) pe_int (fun _ _ => rfl)) (pa_cons (pv 1) (pa_cons (pv 2) pa_nil)))))
    (pss_cons (ps_if (pw_or (pt_cmp (pc_isN (pv 4)) rfl) (pw_or1 (pt_cmp (pc_isN (pv 5)) rfl))).pt (pss_one (ps_ret pe_bl)) pss_nil)
    (pss_one (ps_ret (pe_ifExp (pt_cmpR op_eq (pv 3) pe_str (nomark _)) (pe_cmpR op_lt (pv 4) (pv 5) (nomark _)) (pe_cmpR op_eq (pv 4) (pv 5) (nomark _))))))))))))), ?_⟩
  cases c with
  | all cs =>
    unfold encC at hx
    cases n with
    | zero => unfold okC at ok; exact ok.elim
    | succ n =>
    unfold okC at ok
    obtain ⟨oc, ok⟩ := ok
    obtain ⟨a, x1, x2, rfl, sq, e1, e2⟩ := hx.t2
    cases at_str.mp e1
    obtain ⟨b, xs, rfl, sqb, ats⟩ := at_tup.mp e2
    refine ⟨_, rfl, a, _, _, _, rfl, rfl, sq, rfl, ?_⟩
    refine ⟨_, rfl, rfl, _, rfl, ifStrEq ?_⟩
    refine ⟨_, rfl, a, _, _, _, rfl, rfl, sq, rfl, b, rfl, ⟨_, sqb⟩, wd PT hPT, fun H2 ht => ?_⟩
    refine ⟨fun i m σ' H' => i + m = cs.length ∧ Ex T [] H H' ∧ (∃ y, σ' = [y, some (.int v), some hv]) ∧ holdA v h cs = holdA v h (cs.drop i), ⟨cs.length, by omega, Ex.tab (wd PT hPT) ht, ⟨_, rfl⟩, rfl⟩, ?_⟩
    rintro i m σ' H' ⟨him, ex, ⟨y, rfl⟩, hd⟩
    have hl : xs.length = cs.length := by rw [ats.length, encCs_length]
    by_cases hi : i < cs.length
    · obtain ⟨x, hx1, hx2⟩ := part_at ats hi
      refine .inr ⟨⟨xs, x, ex.sqT sqb, hx1⟩, ?_⟩
      rintro x' H'' ⟨rfl, hy⟩
      have e : x' = x := Option.some.inj ((hy xs (ex.sqT sqb)).symm.trans hx1)
      subst e
      refine ⟨_, rfl, _, rfl, _, rfl, _, hv, cs[i], v, h, rfl, hx2.ext ex, hh.ext ex, ex.wd wd, ⟨n, rfl, okCs_get ok (List.getElem?_eq_getElem hi)⟩, fun H3 ex3 => ⟨_, rfl, ?_⟩⟩
      have hdc : holdA v h (cs.drop i) = (hold v h cs[i] && holdA v h (cs.drop (i + 1))) := by rw [List.drop_eq_getElem_cons hi, holdA_cons]
      cases hb : hold v h cs[i] with
      | true =>
        rw [if_neg (by decide)]
        refine ⟨m - 1, by omega, by omega, ex.trans ex3, ⟨_, rfl⟩, ?_⟩
        rw [hd, hdc, hb, Bool.true_and]
      | false =>
        rw [if_pos rfl]
        have hz : hold v h (.all cs) = false := by unfold hold; rw [hd, hdc, hb, Bool.false_and]
        rw [← hz]
        exact q _ (ex.trans ex3)
    · refine .inl ⟨⟨xs, ex.sqT sqb, by omega⟩, ?_⟩
      have hz : hold v h (.all cs) = true := by unfold hold; rw [hd, List.drop_eq_nil_of_le (by omega)]; unfold holdA; rfl
      show Q (.bl true) H'
      rw [← hz]
      exact q _ ex
  | any cs =>
    unfold encC at hx
    cases n with
    | zero => unfold okC at ok; exact ok.elim
    | succ n =>
    unfold okC at ok
    obtain ⟨oc, ok⟩ := ok
    obtain ⟨a, x1, x2, rfl, sq, e1, e2⟩ := hx.t2
    cases at_str.mp e1
    obtain ⟨b, xs, rfl, sqb, ats⟩ := at_tup.mp e2
    refine ⟨_, rfl, a, _, _, _, rfl, rfl, sq, rfl, ?_⟩
    refine ⟨_, rfl, rfl, _, rfl, ifStrNe (by decide +kernel) ?_⟩
    refine ⟨_, rfl, rfl, _, rfl, ifStrEq ?_⟩
    refine ⟨_, rfl, a, _, _, _, rfl, rfl, sq, rfl, b, rfl, ⟨_, sqb⟩, wd PT hPT, fun H2 ht => ?_⟩
    refine ⟨fun i m σ' H' => i + m = cs.length ∧ Ex T [] H H' ∧ (∃ y, σ' = [y, some (.int v), some hv]) ∧ holdE v h cs = holdE v h (cs.drop i), ⟨cs.length, by omega, Ex.tab (wd PT hPT) ht, ⟨_, rfl⟩, rfl⟩, ?_⟩
    rintro i m σ' H' ⟨him, ex, ⟨y, rfl⟩, hd⟩
    have hl : xs.length = cs.length := by rw [ats.length, encCs_length]
    by_cases hi : i < cs.length
    · obtain ⟨x, hx1, hx2⟩ := part_at ats hi
      refine .inr ⟨⟨xs, x, ex.sqT sqb, hx1⟩, ?_⟩
      rintro x' H'' ⟨rfl, hy⟩
      have e : x' = x := Option.some.inj ((hy xs (ex.sqT sqb)).symm.trans hx1)
      subst e
      refine ⟨_, rfl, _, rfl, _, rfl, _, hv, cs[i], v, h, rfl, hx2.ext ex, hh.ext ex, ex.wd wd, ⟨n, rfl, okCs_get ok (List.getElem?_eq_getElem hi)⟩, fun H3 ex3 => ⟨_, rfl, ?_⟩⟩
      have hdc : holdE v h (cs.drop i) = (hold v h cs[i] || holdE v h (cs.drop (i + 1))) := by rw [List.drop_eq_getElem_cons hi, holdE_cons]
      cases hb : hold v h cs[i] with
      | false =>
        rw [if_neg (by decide)]
        refine ⟨m - 1, by omega, by omega, ex.trans ex3, ⟨_, rfl⟩, ?_⟩
        rw [hd, hdc, hb, Bool.false_or]
      | true =>
        rw [if_pos rfl]
        have hz : hold v h (.any cs) = true := by unfold hold; rw [hd, hdc, hb, Bool.true_or]
        rw [← hz]
        exact q _ (ex.trans ex3)
    · refine .inl ⟨⟨xs, ex.sqT sqb, by omega⟩, ?_⟩
      have hz : hold v h (.any cs) = false := by unfold hold; rw [hd, List.drop_eq_nil_of_le (by omega)]; unfold holdE; rfl
      show Q (.bl false) H'
      rw [← hz]
      exact q _ ex
  | nt c =>
    unfold encC at hx
    cases n with
    | zero => unfold okC at ok; exact ok.elim
    | succ n =>
    unfold okC at ok
    obtain ⟨a, x1, x2, rfl, sq, e1, e2⟩ := hx.t2
    cases at_str.mp e1
    refine ⟨_, rfl, a, _, _, _, rfl, rfl, sq, rfl, ?_⟩
    refine ⟨_, rfl, rfl, _, rfl, ifStrNe (by decide +kernel) ?_⟩
    refine ⟨_, rfl, rfl, _, rfl, ifStrNe (by decide +kernel) ?_⟩
    refine ⟨_, rfl, rfl, _, rfl, ifStrEq ?_⟩
    refine ⟨_, rfl, a, _, _, _, rfl, rfl, sq, rfl, _, rfl, _, rfl, x2, hv, c, v, h, rfl, e2, hh, wd, ⟨n, rfl, ok⟩, fun H3 ex3 => ⟨_, rfl, ?_⟩⟩
    have q' := q H3 ex3
    unfold hold at q'
    exact q'
  | tru =>
    unfold encC at hx
    obtain ⟨a, x1, rfl, sq, e1⟩ := hx.t1
    cases at_str.mp e1
    refine ⟨_, rfl, a, _, _, _, rfl, rfl, sq, rfl, ?_⟩
    refine ⟨_, rfl, rfl, _, rfl, ifStrNe (by decide +kernel) ?_⟩
    refine ⟨_, rfl, rfl, _, rfl, ifStrNe (by decide +kernel) ?_⟩
    refine ⟨_, rfl, rfl, _, rfl, ifStrNe (by decide +kernel) ?_⟩
    refine ⟨_, rfl, by decide, fun p np => ⟨p, _, rfl, .inr (SqT.of upd_same), rfl, rfl, _, rfl, ?_⟩⟩
    have e : inV (V.str "true") [V.str "true", V.str "false"] = true := by decide +kernel
    rw [if_neg Bool.false_ne_true, e]
    refine iteT ⟨_, rfl, rfl, ?_⟩
    rw [decStr, show decide (("true" : Str) = "true") = true by decide +kernel]
    exact q _ (Ex.new np)
  | fls =>
    unfold encC at hx
    obtain ⟨a, x1, rfl, sq, e1⟩ := hx.t1
    cases at_str.mp e1
    refine ⟨_, rfl, a, _, _, _, rfl, rfl, sq, rfl, ?_⟩
    refine ⟨_, rfl, rfl, _, rfl, ifStrNe (by decide +kernel) ?_⟩
    refine ⟨_, rfl, rfl, _, rfl, ifStrNe (by decide +kernel) ?_⟩
    refine ⟨_, rfl, rfl, _, rfl, ifStrNe (by decide +kernel) ?_⟩
    refine ⟨_, rfl, by decide, fun p np => ⟨p, _, rfl, .inr (SqT.of upd_same), rfl, rfl, _, rfl, ?_⟩⟩
    have e : inV (V.str "false") [V.str "true", V.str "false"] = true := by decide +kernel
    rw [if_neg Bool.false_ne_true, e]
    refine iteT ⟨_, rfl, rfl, ?_⟩
    rw [decStr, show decide (("false" : Str) = "true") = false by decide +kernel]
    exact q _ (Ex.new np)
  | emp a' =>
    unfold encC at hx
    unfold okC plOk at ok
    obtain ⟨a, x1, x2, rfl, sq, e1, e2⟩ := hx.t2
    cases at_str.mp e1
    cases at_int.mp e2
    refine ⟨_, rfl, a, _, _, _, rfl, rfl, sq, rfl, ?_⟩
    refine ⟨_, rfl, rfl, _, rfl, ifStrNe (by decide +kernel) ?_⟩
    refine ⟨_, rfl, rfl, _, rfl, ifStrNe (by decide +kernel) ?_⟩
    refine ⟨_, rfl, rfl, _, rfl, ifStrNe (by decide +kernel) ?_⟩
    refine ⟨_, rfl, by decide, fun p np => ⟨p, _, rfl, .inr (SqT.of upd_same), rfl, rfl, _, rfl, ?_⟩⟩
    have e : inV (V.str "empty") [V.str "true", V.str "false"] = false := by decide +kernel
    rw [if_neg Bool.false_ne_true, e]
    refine iteF ?_
    have ex0 : Ex T [] H (upd H p (.tup [V.str "true", V.str "false"])) := Ex.new np
    refine ⟨_, rfl, a, _, _, _, rfl, rfl, ex0.sqT sq, rfl, _, rfl, _, rfl, a', v, hv, h, rfl, hh.ext ex0, by omega, ok.2, ?_⟩
    refine ⟨_, rfl, rfl, _, rfl, ifStrEq ⟨_, rfl, ?_⟩⟩
    have q' := q _ ex0
    unfold hold at q'
    have e3 : decide (oV (worth v h a') = V.non) = (worth v h a').isNone := by cases worth v h a' <;> rfl
    show Q (.bl (decide (oV (worth v h a') = V.non))) _
    rw [e3]
    exact q'
  | less a' b' =>
    unfold encC at hx
    unfold okC plOk at ok
    obtain ⟨a, x1, x2, x3, rfl, sq, e1, e2, e3⟩ := hx.t3
    cases at_str.mp e1
    cases at_int.mp e2
    cases at_int.mp e3
    refine ⟨_, rfl, a, _, _, _, rfl, rfl, sq, rfl, ?_⟩
    refine ⟨_, rfl, rfl, _, rfl, ifStrNe (by decide +kernel) ?_⟩
    refine ⟨_, rfl, rfl, _, rfl, ifStrNe (by decide +kernel) ?_⟩
    refine ⟨_, rfl, rfl, _, rfl, ifStrNe (by decide +kernel) ?_⟩
    refine ⟨_, rfl, by decide, fun p np => ⟨p, _, rfl, .inr (SqT.of upd_same), rfl, rfl, _, rfl, ?_⟩⟩
    have e : inV (V.str "less") [V.str "true", V.str "false"] = false := by decide +kernel
    rw [if_neg Bool.false_ne_true, e]
    refine iteF ?_
    have ex0 : Ex T [] H (upd H p (.tup [V.str "true", V.str "false"])) := Ex.new np
    refine ⟨_, rfl, a, _, _, _, rfl, rfl, ex0.sqT sq, rfl, _, rfl, _, rfl, a', v, hv, h, rfl, hh.ext ex0, by omega, ok.1.2, ?_⟩
    refine ⟨_, rfl, rfl, _, rfl, ifStrNe (by decide +kernel) ?_⟩
    refine ⟨_, rfl, a, _, _, _, rfl, rfl, ex0.sqT sq, rfl, _, rfl, _, rfl, b', v, hv, h, rfl, hh.ext ex0, by omega, ok.2.2, ?_⟩
    have q' := q _ ex0
    unfold hold at q'
    refine ⟨_, rfl, _, rfl, ?_⟩
    generalize worth v h a' = wa at q' ⊢
    generalize worth v h b' = wb at q' ⊢
    cases wa with
    | none => exact iteT q'
    | some x =>
      refine iteF ⟨_, rfl, _, rfl, ?_⟩
      cases wb with
      | none => exact iteT q'
      | some y => exact iteF ⟨_, rfl, rfl, _, rfl, ifStrEq ⟨_, rfl, _, rfl, x, y, rfl, rfl, q'⟩⟩
  | same a' b' =>
    unfold encC at hx
    unfold okC plOk at ok
    obtain ⟨a, x1, x2, x3, rfl, sq, e1, e2, e3⟩ := hx.t3
    cases at_str.mp e1
    cases at_int.mp e2
    cases at_int.mp e3
    refine ⟨_, rfl, a, _, _, _, rfl, rfl, sq, rfl, ?_⟩
    refine ⟨_, rfl, rfl, _, rfl, ifStrNe (by decide +kernel) ?_⟩
    refine ⟨_, rfl, rfl, _, rfl, ifStrNe (by decide +kernel) ?_⟩
    refine ⟨_, rfl, rfl, _, rfl, ifStrNe (by decide +kernel) ?_⟩
    refine ⟨_, rfl, by decide, fun p np => ⟨p, _, rfl, .inr (SqT.of upd_same), rfl, rfl, _, rfl, ?_⟩⟩
    have e : inV (V.str "same") [V.str "true", V.str "false"] = false := by decide +kernel
    rw [if_neg Bool.false_ne_true, e]
    refine iteF ?_
    have ex0 : Ex T [] H (upd H p (.tup [V.str "true", V.str "false"])) := Ex.new np
    refine ⟨_, rfl, a, _, _, _, rfl, rfl, ex0.sqT sq, rfl, _, rfl, _, rfl, a', v, hv, h, rfl, hh.ext ex0, by omega, ok.1.2, ?_⟩
    refine ⟨_, rfl, rfl, _, rfl, ifStrNe (by decide +kernel) ?_⟩
    refine ⟨_, rfl, a, _, _, _, rfl, rfl, ex0.sqT sq, rfl, _, rfl, _, rfl, b', v, hv, h, rfl, hh.ext ex0, by omega, ok.2.2, ?_⟩
    have q' := q _ ex0
    unfold hold at q'
    refine ⟨_, rfl, _, rfl, ?_⟩
    generalize worth v h a' = wa at q' ⊢
    generalize worth v h b' = wb at q' ⊢
    cases wa with
    | none => exact iteT q'
    | some x =>
      refine iteF ⟨_, rfl, _, rfl, ?_⟩
      cases wb with
      | none => exact iteT q'
      | some y =>
        refine iteF ⟨_, rfl, rfl, _, rfl, ?_⟩
        refine ifStrNe (by decide +kernel) ⟨_, rfl, _, rfl, rfl, ?_⟩
        have e4 : decide (V.int x = V.int y) = eqO (some x) (some y) := by
          show decide (V.int x = V.int y) = decide (x = y)
          by_cases hxy : x = y
          · rw [hxy, decide_eq_true rfl, decide_eq_true rfl]
          · rw [decide_eq_false hxy, decide_eq_false fun e => hxy (V.int.inj e)]
        show Q (.bl (decide (V.int x = V.int y))) _
        rw [e4]
        exact q'

abbrev N_case_at : List Str := ["machine", "content", "entry", "standing", "held", "tag", "value", "number", "case"]
theorem sc_case_at : FnScope N_case_at ["machine", "content", "entry"] (defScope s_case_at) := ⟨rfl, rfl, rfl, by decide +kernel, rfl, by decide +kernel, by decide +kernel⟩
def sp_case_at (K : PySem.W.Frag) (T : List Addr) (n : Nat) : Sp := fun vs H Q _ => ∃ (xm xc xe : V) (m : M) (st : Nat) (h : List (Option Int)) (e : Nat × Int), vs = [xm, xc, xe] ∧ At K H xm (encM m) ∧ At K H xc (encCt st h) ∧ At K H xe (encE e) ∧ Wd T H ∧ okM n m ∧ st < m.steps.length ∧ e.1 < m.tags ∧ h.length = m.regs ∧
  ∀ H', Ex T [] H H' → Q (oN (idxC e.2 h (m.cases st e.1))) H'
theorem ok_case_at {f g : Addr} {fd gd : FuncData} {T : List Addr} {n k : Nat} (F : Fun K "case_at" "case_at" s_case_at f fd) (me : mg "enumerate" = none)
    (G : FnOk P w K mg base CX0 k g gd ["condition", "value", "held"] (sp_holds K T (n + 1))) (kG : PySem.W.keepIn K (.ref g) = true) (bG : Binds K gd ["condition", "value", "held"] []) (mG : mg "holds" = some (.ref g)) :
    FnOk P w K mg base CX0 (k + 1) f fd ["machine", "content", "entry"] (sp_case_at K T n) := by
  refine F.ok sc_case_at (fun vs H Q E h => ?_) (fun cdv A outer s H vs Q E hr h => ?_)
  · obtain ⟨xm, xc, xe, m, st, h, e, rfl, _⟩ := h
    rfl
  obtain ⟨xm, xc, xe, m, st, h, e, rfl, hm, hc, he, wd, ok, hst, htg, hlen, q⟩ := h
  refine ⟨_, pss_cons (ps_asg (pv 1) (pg_tup rfl (pgs_cons (pg_name (i := 3) sc_case_at.nd rfl (.inl rfl)) (pgs_cons (pg_name (i := 4) sc_case_at.nd rfl (.inl rfl)) pgs_nil))))
    (pss_cons (ps_asg (pv 2) (pg_tup rfl (pgs_cons (pg_name (i := 5) sc_case_at.nd rfl (.inl rfl)) (pgs_cons (pg_name (i := 6) sc_case_at.nd rfl (.inl rfl)) pgs_nil))))
    (pss_cons (ps_for PassesOwn.never rfl (Ent.pi_enumT (by rfl) me (pa_cons (pe_ix ix_tup (pe_ix ix_tup (pe_ix ix_tup (pv 0) pe_int (fun _ _ => rfl)) (pv 3) (fun _ _ => rfl)) (pv 5) (fun _ _ => rfl)) pa_nil)) (pg_tup rfl (pgs_cons (pg_name (i := 7) sc_case_at.nd rfl (.inl rfl)) (pgs_cons (pg_name (i := 8) sc_case_at.nd rfl (.inl rfl)) pgs_nil)))
      (pss_one (ps_if (pt_val (pe_call G hr (by rfl) mG kG bG .nil pass0 (pa_cons (pe_ix ix_tup (pv 8) pe_int (fun _ _ => rfl)) (pa_cons (pv 6) (pa_cons (pv 4) pa_nil))))) (pss_one (ps_ret (pv 7))) pss_nil)))
    (pss_one (ps_ret pe_non)))), ?_⟩
  obtain ⟨am, y1, y2, y3, rfl, sqm, h1, h2, h3⟩ := hm.t3
  cases at_int.mp h1
  cases at_int.mp h2
  obtain ⟨as', xs, rfl, sqs, ats⟩ := at_tup.mp h3
  obtain ⟨ac, z1, hv, rfl, sqc, g1, hh⟩ := hc.t2
  cases at_int.mp g1
  obtain ⟨ae, w1, w2, rfl, sqe, f1, f2⟩ := he.t2
  cases at_int.mp f1
  cases at_int.mp f2
  obtain ⟨s', hs1, hs2, clen, okc⟩ := M.cases_at ok hst htg
  obtain ⟨xst, hx1, hx2⟩ := ats.at hs1
  obtain ⟨ast, xts, rfl, sqst, atst⟩ := at_tup.mp hx2
  obtain ⟨xcs, hc1, hc2⟩ := atst.at hs2
  obtain ⟨acs, ys, rfl, sqcs, atcs⟩ := at_tup.mp hc2
  have yl := atcs.len
  refine ⟨_, rfl, ac, [_, _], rfl, sqc, rfl, _, [_], rfl, _, [], rfl, rfl, ?_⟩
  refine ⟨_, rfl, ae, [_, _], rfl, sqe, rfl, _, [_], rfl, _, [], rfl, rfl, ?_⟩
  refine ⟨_, rfl, am, _, _, _, rfl, rfl, sqm, rfl, _, rfl, as', _, _, _, rfl, rfl, sqs, at_natI hx1, _, rfl, ast, _, _, _, rfl, rfl, sqst, at_natI hc1, acs, ys, rfl, sqcs, ?_⟩
  refine ⟨fun i k' σ' H' => (∃ y7 y8, σ' = [some (.ref am), some (.ref ac), some (.ref ae), some (.int st), some hv, some (.int e.1), some (.int e.2), y7, y8]) ∧ Ex T [] H H' ∧ i + k' = ys.length ∧ ∀ j c, j < i → (m.cases st e.1)[j]? = some c → holdC e.2 h c = false,
    ⟨ys.length, ⟨_, _, rfl⟩, Ex.refl, by omega, fun j c hj _ => absurd hj (by omega)⟩, ?_⟩
  rintro i k' σ' H' ⟨⟨y7, y8, rfl⟩, ex, hik, hno⟩
  by_cases hi : i < ys.length
  · have hi' : i < (m.cases st e.1).length := by omega
    obtain ⟨x, hx1', hx2'⟩ := atcs.at (List.getElem?_eq_getElem hi')
    refine .inr ⟨⟨ys, x, ex.sqT sqcs, hx1'⟩, fun σ2 H2 => (∃ y7 y8, σ2 = [some (.ref am), some (.ref ac), some (.ref ae), some (.int st), some hv, some (.int e.1), some (.int e.2), y7, y8]) ∧ Ex T [] H H2 ∧ ∀ j c, j < i + 1 → (m.cases st e.1)[j]? = some c → holdC e.2 h c = false, fun σ2 H2 hN => ?_, ?_⟩
    · exact ⟨k' - 1, by omega, hN.1, hN.2.1, by omega, hN.2.2⟩
    rintro v H2 ⟨T2, x', rfl, nT, rfl, hy⟩
    have e1 : x' = x := Option.some.inj ((hy ys (ex.sqT sqcs)).symm.trans hx1')
    subst e1
    have exT : Ex T [] H' (upd H' T2 (.tup [.int (i : Nat), x'])) := Ex.new nT
    have ex2 := ex.trans exT
    refine ⟨T2, [_, _], rfl, SqT.of upd_same, rfl, _, [_], rfl, _, [], rfl, rfl, ?_⟩
    obtain ⟨acase, c1, c2, c3, c4, rfl, sqcase, d1, d2, d3, d4⟩ := (hx2'.ext ex2).t4
    have okci := okc _ (List.getElem_mem hi')
    refine ⟨_, rfl, acase, _, _, _, rfl, rfl, sqcase, rfl, _, rfl, _, rfl, c1, hv, _, e.2, h, rfl, d1, hh.ext ex2, ex2.wd wd, ⟨n, rfl, by rw [hlen]; exact okci.cond⟩, fun H3 ex3 => ⟨_, rfl, ?_⟩⟩
    cases hb : hold e.2 h (m.cases st e.1)[i].cond with
    | true =>
      refine iteT ⟨_, rfl, ?_⟩
      have z := q H3 (ex2.trans ex3)
      rw [idxC_drop e.2 h _ hno (List.getElem?_eq_getElem hi') hb] at z
      exact z
    | false =>
      refine iteF ⟨⟨_, _, rfl⟩, ex2.trans ex3, fun j c hj hjc => ?_⟩
      by_cases ej : j = i
      · subst ej
        rw [List.getElem?_eq_getElem hi'] at hjc
        cases hjc
        exact hb
      · exact hno j c (by omega) hjc
  · refine .inl ⟨⟨ys, ex.sqT sqcs, by omega⟩, ?_⟩
    have z := q H' ex
    rw [idxC_none e.2 h _ fun j c hj => hno j c (by have := (List.getElem?_eq_some_iff.mp hj).1; omega) hj] at z
    exact z

abbrev N_read : List Str := ["machine", "content", "entry", "number", "standing", "held", "tag", "value", "_", "moves", "says", "following", "said", "kept", "told", "source"]
theorem sc_read : FnScope N_read ["machine", "content", "entry"] (defScope s_read) := ⟨rfl, rfl, rfl, by decide +kernel, rfl, by decide +kernel, by decide +kernel⟩
def sp_read (K : PySem.W.Frag) (T : List Addr) (n : Nat) : Sp := fun vs H Q _ => ∃ (xm xc xe : V) (m : M) (st : Nat) (h : List (Option Int)) (e : Nat × Int), vs = [xm, xc, xe] ∧ At K H xm (encM m) ∧ At K H xc (encCt st h) ∧ At K H xe (encE e) ∧ Wd T H ∧ okM n m ∧ st < m.steps.length ∧ e.1 < m.tags ∧ h.length = m.regs ∧
  ∀ v H', At K H' v (encR (readM m st h e)) → Ex T [] H H' → Q v H'
theorem ok_read {f g gw : Addr} {fd gd gwd : FuncData} {T : List Addr} {n k : Nat} (F : Fun K "read" "read" s_read f fd) (mt : mg "tuple" = none)
    (G : FnOk P w K mg base CX0 k g gd ["machine", "content", "entry"] (sp_case_at K T n)) (kG : PySem.W.keepIn K (.ref g) = true) (bG : Binds K gd ["machine", "content", "entry"] []) (mG : mg "case_at" = some (.ref g))
    (W : FnOk P w K mg base CX0 k gw gwd ["source", "value", "held"] (sp__worth K)) (kW : PySem.W.keepIn K (.ref gw) = true) (bW : Binds K gwd ["source", "value", "held"] []) (mW : mg "_worth" = some (.ref gw)) :
    FnOk P w K mg base CX0 (k + 1) f fd ["machine", "content", "entry"] (sp_read K T n) := by
  refine F.ok sc_read (fun vs H Q E h => ?_) (fun cdv A outer s H vs Q E hr h => ?_)
  · obtain ⟨xm, xc, xe, m, st, h, e, rfl, _⟩ := h
    rfl
  obtain ⟨xm, xc, xe, m, st, h, e, rfl, hm, hc, he, wd, ok, hst, htg, hlen, q⟩ := h
  refine ⟨_, pss_cons (ps_set (i := 3) sc_read.nd rfl (.inl rfl) (pe_call G hr (by rfl) mG kG bG .nil pass0 (pa_cons (pv 0) (pa_cons (pv 1) (pa_cons (pv 2) pa_nil)))))
    (pss_cons (ps_if (pt_cmp (pc_isN (pv 3)) rfl) (pss_one (ps_ret (pe_tup (pa_cons (pv 1) (pa_cons (pe_tup pa_nil) pa_nil))))) pss_nil)
    (pss_cons (ps_asg (pv 1) (pg_tup rfl (pgs_cons (pg_name (i := 4) sc_read.nd rfl (.inl rfl)) (pgs_cons (pg_name (i := 5) sc_read.nd rfl (.inr rfl)) pgs_nil))))
    (pss_cons (ps_asg (pv 2) (pg_tup rfl (pgs_cons (pg_name (i := 6) sc_read.nd rfl (.inl rfl)) (pgs_cons (pg_name (i := 7) sc_read.nd rfl (.inr rfl)) pgs_nil))))
    (C8.pss_cut (ps_asg (pe_ix ix_tup (pe_ix ix_tup (pe_ix ix_tup (pe_ix ix_tup (pv 0) pe_int (fun _ _ => rfl)) (pv 4) (fun _ _ => rfl)) (pv 6) (fun _ _ => rfl)) (pv 3) (fun _ _ => rfl))
      (pg_tup rfl (pgs_cons (pg_name (i := 8) sc_read.nd rfl (.inl rfl)) (pgs_cons (pg_name (i := 9) sc_read.nd rfl (.inl rfl)) (pgs_cons (pg_name (i := 10) sc_read.nd rfl (.inl rfl)) (pgs_cons (pg_name (i := 11) sc_read.nd rfl (.inl rfl)) pgs_nil))))))
    (C8.pss_cut (ps_set (i := 12) sc_read.nd rfl (.inl rfl) (pe_callTy call_tuple_of (by rfl) mt (by decide +kernel) (pa_cons
      (pe_lc (own := [("told", 14), ("source", 15)]) (g := gTup K 2 (gCons (gName 14) (gCons (gName 15) gNil))) (tt := tYes) rfl sc_read.nd (pi_tup (pv 10)) (blkOk_by (N := N_read) (sc := defScope s_read) (by decide +kernel))
        (fun _ _ _ _ _ => pg_tup rfl (pgs_cons (pg_name (i := 14) sc_read.nd rfl (.inl rfl)) (pgs_cons (pg_name (i := 15) sc_read.nd rfl (.inl rfl)) pgs_nil))) (fun _ _ _ _ _ => pts_nil)
        (fun _ _ _ _ _ => pe_tup (pa_cons (pv 14) (pa_cons (pe_call W hr (by rfl) mW kW bW .nil pass0 (pa_cons (pv 15) (pa_cons (pv 7) (pa_cons (pv 5) pa_nil)))) pa_nil)))) pa_nil)))
    (pss_cons (ps_set (i := 13) sc_read.nd rfl (.inl rfl) (pe_callTy call_tuple_of (by rfl) mt (by decide +kernel) (pa_cons
      (pe_lc (own := [("source", 15)]) (g := gName 15) (tt := tYes) rfl sc_read.nd (pi_tup (pv 9)) (blkOk_by (N := N_read) (sc := defScope s_read) (by decide +kernel))
        (fun _ _ _ _ _ => pg_name (i := 15) sc_read.nd rfl (.inl rfl)) (fun _ _ _ _ _ => pts_nil)
        (fun _ _ _ _ _ => pe_call W hr (by rfl) mW kW bW .nil pass0 (pa_cons (pv 15) (pa_cons (pv 7) (pa_cons (pv 5) pa_nil))))) pa_nil)))
    (pss_one (ps_ret (pe_tup (pa_cons (pe_tup (pa_cons (pv 11) (pa_cons (pv 13) pa_nil))) (pa_cons (pv 12) pa_nil)))))))))))
    , ?_⟩
  refine ⟨_, rfl, _, rfl, _, rfl, xm, xc, xe, m, st, h, e, rfl, hm, hc, he, wd, ok, hst, htg, hlen, fun H1 ex1 => ?_⟩
  have fm := idxC_find e.2 h (m.cases st e.1)
  obtain ⟨am, y1, y2, y3, rfl, sqm, h1, h2, h3⟩ := (hm.ext ex1).t3
  cases at_int.mp h1
  cases at_int.mp h2
  obtain ⟨as', xs, rfl, sqs, ats⟩ := at_tup.mp h3
  obtain ⟨ac, z1, hv, rfl, sqc, g1, hh⟩ := (hc.ext ex1).t2
  cases at_int.mp g1
  obtain ⟨ae, w1, w2, rfl, sqe, f1, f2⟩ := (he.ext ex1).t2
  cases at_int.mp f1
  cases at_int.mp f2
  rcases fm with ⟨e1, e2⟩ | ⟨j, c, e1, hj, e2⟩
  · rw [e1]
    refine ⟨_, rfl, true, congrArg V.bl (decide_eq_true rfl), iteT ⟨_, rfl, ?_⟩⟩
    refine ⟨by show 0 ≤ sizeLine; decide, fun p np => ⟨by show 2 ≤ sizeLine; decide, fun p2 np2 => ?_⟩⟩
    have exA : Ex T [] H1 (upd H1 p (.tup [])) := Ex.new np
    refine q _ _ ?_ ((ex1.trans exA).trans (Ex.new np2))
    have er : readM m st h e = (st, h, []) := by unfold readM; rw [e2]
    rw [er]
    exact At.laid np2 (Ats.mk ((hc.ext ex1).ext exA) (Ats.mk (At.laid np Ats.mk_nil) Ats.mk_nil))
  rw [e1]
  obtain ⟨s', hs1, hs2, clen, okc⟩ := M.cases_at ok hst htg
  obtain ⟨xst, hx1, hx2⟩ := ats.at hs1
  obtain ⟨ast, xts, rfl, sqst, atst⟩ := at_tup.mp hx2
  obtain ⟨xcs, hc1, hc2⟩ := atst.at hs2
  obtain ⟨acs, ys, rfl, sqcs, atcs⟩ := at_tup.mp hc2
  obtain ⟨xca, hca1, hca2⟩ := atcs.at hj
  obtain ⟨acase, c1, c2, c3, c4, rfl, sqcase, d1, d2, d3, d4⟩ := hca2.t4
  cases at_int.mp d4
  obtain ⟨amv, mvs, rfl, sqmv, atmv⟩ := at_tup.mp d2
  obtain ⟨asy, sys, rfl, sqsy, atsy⟩ := at_tup.mp d3
  have okci := okc _ (List.mem_of_getElem? hj)
  refine ⟨_, rfl, false, congrArg V.bl (decide_eq_false (fun z => by cases z)), iteF ?_⟩
  refine ⟨_, rfl, ac, [_, _], rfl, sqc, rfl, _, [_], rfl, _, [], rfl, rfl, ?_⟩
  refine ⟨_, rfl, ae, [_, _], rfl, sqe, rfl, _, [_], rfl, _, [], rfl, rfl, ?_⟩
  refine ⟨fun σ' H' => σ' = [some (.ref am), some (.ref ac), some (.ref ae), some (.int j), some (.int st), some hv, some (.int e.1), some (.int e.2), some c1, some (.ref amv), some (.ref asy), some (.int c.nxt), none, none, none, none] ∧ H1 = H', ?_, ?_⟩
  · refine ⟨_, rfl, am, _, _, _, rfl, rfl, sqm, rfl, _, rfl, as', _, _, _, rfl, rfl, sqs, at_natI hx1, _, rfl, ast, _, _, _, rfl, rfl, sqst, at_natI hc1, _, rfl, acs, _, _, _, rfl, rfl, sqcs, at_natI hca1, ?_⟩
    exact ⟨acase, [_, _, _, _], rfl, sqcase, rfl, _, [_, _, _], rfl, _, [_, _], rfl, _, [_], rfl, _, [], rfl, rfl, rfl, rfl⟩
  rintro σ' H' ⟨rfl, rfl⟩
  have lsay : sys.length = c.says.length := atsy.len
  have lmv : mvs.length = c.moves.length := atmv.len
  refine ⟨fun σ' H' => ∃ l, σ' = [some (.ref am), some (.ref ac), some (.ref ae), some (.int j), some (.int st), some hv, some (.int e.1), some (.int e.2), some c1, some (.ref amv), some (.ref asy), some (.int c.nxt), some l, none, none, none] ∧ Ex T [] H1 H' ∧ At K H' l (encA (saidC e.2 h c)), ?_, ?_⟩
  · refine ⟨_, rfl, asy, rfl, ⟨_, sqsy⟩, fun D nD => lc_tup (xs := sys) (fun i H' => Col K T [] D H1 H' (((saidC e.2 h c).take i).map encA1)) (Col.start Ex.refl nD) (fun i H' _ c' => c'.1.sqT sqsy) ?_ ?_⟩
    · rintro i x H' hi cl
      have hi' : i < c.says.length := by rw [← lsay]; exact (List.getElem?_eq_some_iff.mp hi).1
      obtain ⟨x', hx1', hx2'⟩ := atsy.at (List.getElem?_eq_getElem hi')
      rw [hi] at hx1'
      cases hx1'
      obtain ⟨ap, p1, p2, rfl, sqp, q1, q2⟩ := (hx2'.ext cl.1).t2
      cases at_int.mp q1
      cases at_int.mp q2
      have sb := okci.say _ (List.getElem_mem hi')
      refine ⟨ap, [_, _], rfl, sqp, rfl, _, [_], rfl, _, [], rfl, rfl, wipe2 (by decide), yesIf ⟨_, rfl, _, rfl, _, rfl, _, rfl, _, e.2, hv, h, rfl, hh.ext cl.1, sb.2.1, by omega, by show 2 ≤ sizeLine; decide, fun p np => ?_⟩⟩
      obtain ⟨acc, k1, k2, k3⟩ := cl.put nD (by simp) (ex1.wd wd) (Ex.new np) (x := .ref p) (d := encA1 (c.says[i].1, worth e.2 h c.says[i].2)) (At.laid np (Ats.mk (at_int.mpr rfl) (Ats.mk (at_encO.mpr rfl) Ats.mk_nil))) (take_len _ _ _ _ (by unfold saidC; rw [List.length_map]; have := okci.slen; omega))
      refine ⟨acc, k1, k2, ?_⟩
      rw [take_map] at k3
      · exact k3
      · unfold saidC
        rw [List.getElem?_map, List.getElem?_eq_getElem hi']
        rfl
    · rintro H2 cl
      rw [lsay, show c.says.length = (saidC e.2 h c).length by unfold saidC; rw [List.length_map], List.take_length] at cl
      obtain ⟨exs, as0, hD0, ats0⟩ := cl
      refine ⟨D, _, rfl, .inl ⟨SqL.of hD0, fun l nl => ?_⟩⟩
      have hS := At.laid nl ats0
      exact ⟨_, rfl, exs.trans (Ex.new nl), hS⟩
  rintro σ' Hs ⟨ls, rfl, exl, hS⟩
  refine ⟨_, rfl, amv, rfl, ⟨_, exl.sqT sqmv⟩, fun D2 nD2 => lc_tup (xs := mvs) (fun i H' => Col K T [] D2 Hs H' (((keptC e.2 h c).take i).map encO)) (Col.start Ex.refl nD2) (fun i H' _ c' => (exl.trans c'.1).sqT sqmv) ?_ ?_⟩
  · rintro i x H' hi cl
    have hi' : i < c.moves.length := by rw [← lmv]; exact (List.getElem?_eq_some_iff.mp hi).1
    obtain ⟨x', hx1', hx2'⟩ := atmv.at (List.getElem?_eq_getElem hi')
    rw [hi] at hx1'
    cases hx1'
    cases at_int.mp hx2'
    have sb := okci.mv _ (List.getElem_mem hi')
    refine ⟨wipe1, yesIf ⟨_, rfl, _, rfl, _, rfl, _, e.2, hv, h, rfl, hh.ext (exl.trans cl.1), sb.1, by omega, ?_⟩⟩
    obtain ⟨acc, k1, k2, k3⟩ := cl.put nD2 (by simp) (exl.wd (ex1.wd wd)) Ex.refl (d := encO (worth e.2 h c.moves[i])) (at_encO.mpr rfl) (take_len _ _ _ _ (by unfold keptC; rw [List.length_map, okci.mlen]; have := ok.rmax; omega))
    refine ⟨acc, k1, k2, ?_⟩
    rw [take_map] at k3
    · exact k3
    · unfold keptC
      rw [List.getElem?_map, List.getElem?_eq_getElem hi']
      rfl
  · rintro H3 cl
    rw [lmv, show c.moves.length = (keptC e.2 h c).length by unfold keptC; rw [List.length_map], List.take_length] at cl
    obtain ⟨exk, ks0, hK0, atk0⟩ := cl
    refine ⟨D2, _, rfl, .inl ⟨SqL.of hK0, fun l2 nl2 => ?_⟩⟩
    refine ⟨_, rfl, _, rfl, by show 2 ≤ sizeLine; decide, fun l3 nl3 => ⟨_, rfl, by show 2 ≤ sizeLine; decide, fun l4 nl4 => ?_⟩⟩
    have e2' : Ex T [] H3 (upd H3 l2 (.tup ks0)) := Ex.new nl2
    have e3' : Ex T [] (upd H3 l2 (.tup ks0)) (upd (upd H3 l2 (.tup ks0)) l3 (.tup [.int (c.nxt : Nat), .ref l2])) := Ex.new nl3
    have er : readM m st h e = (c.nxt, keptC e.2 h c, saidC e.2 h c) := by unfold readM; rw [e2]
    refine q _ _ ?_ ((((((ex1.trans exl).trans exk).trans e2').trans e3')).trans (Ex.new nl4))
    rw [er]
    exact At.laid nl4 (Ats.mk (At.laid nl3 (Ats.mk (at_int.mpr rfl) (Ats.mk (At.laid nl2 atk0) Ats.mk_nil))) (Ats.mk (((hS.ext exk).ext e2').ext e3') Ats.mk_nil))

theorem sc_beginning : FnScope ["machine"] ["machine"] (defScope s_beginning) := ⟨rfl, rfl, rfl, by decide +kernel, rfl, by decide +kernel, by decide +kernel⟩
def sp_beginning (K : PySem.W.Frag) (T : List Addr) : Sp := fun vs H Q _ => ∃ (xm : V) (m : M), vs = [xm] ∧ At K H xm (encM m) ∧ m.regs ≤ 1000 ∧
  ∀ v H', At K H' v (encCt 0 (List.replicate m.regs none)) → Ex T [] H H' → Q v H'
theorem rep_non {H : Hp} {n : Nat} {l : Addr} (h : SqT K H l (List.replicate n [V.non]).flatten) : At K H (.ref l) (encH (List.replicate n none)) := by
  rw [flat_rep] at h
  refine at_tup.mpr ⟨l, _, rfl, h, ?_⟩
  rw [List.map_replicate]
  exact ats_rep (at_non.mpr rfl) n
theorem ok_beginning {f : Addr} {fd : FuncData} {T : List Addr} {k : Nat} (F : Fun K "beginning" "beginning" s_beginning f fd) :
    FnOk P w K mg base CX0 (k + 1) f fd ["machine"] (sp_beginning K T) := by
  refine F.ok sc_beginning (fun vs H Q E h => ?_) (fun cdv A outer s H vs Q E hr h => ?_)
  · obtain ⟨xm, m, rfl, _⟩ := h
    rfl
  obtain ⟨xm, m, rfl, hm, hr0, q⟩ := h
  refine ⟨_, pss_one (ps_ret (pe_tup (pa_cons pe_int (pa_cons (pe_op Tm.op_repN (pe_tup (pa_cons pe_non pa_nil)) (pe_ix ix_tup (pv 0) pe_int (fun _ _ => rfl))) pa_nil)))), ?_⟩
  obtain ⟨am, y1, y2, y3, rfl, sqm, h1, h2, h3⟩ := hm.t3
  cases at_int.mp h2
  refine ⟨by show 1 ≤ sizeLine; decide, fun p np => ⟨_, rfl, am, _, _, _, rfl, rfl, (Ex.new (T := T) (ms := []) np).sqT sqm, rfl, p, (m.regs : Int), [.non], rfl, rfl, SqT.of upd_same, by simp, by omega, by omega, by show 1 ≤ 1000; decide, fun l H' hH sq => ⟨by show 2 ≤ sizeLine; decide, fun l2 nl2 => ?_⟩⟩⟩
  have e1 : Ex T [] H H' := by
    rcases hH with rfl | ⟨n2, rfl⟩
    · exact Ex.new np
    · exact (Ex.new np).trans (Ex.new n2)
  exact q _ _ (At.laid nl2 (Ats.mk (at_int.mpr rfl) (Ats.mk (rep_non sq) Ats.mk_nil))) (e1.trans (Ex.new nl2))

abbrev N_answers_from : List Str := ["machine", "content", "log", "told", "entry", "said"]
theorem sc_answers_from : FnScope N_answers_from ["machine", "content", "log"] (defScope s_answers_from) := ⟨rfl, rfl, rfl, by decide +kernel, rfl, by decide +kernel, by decide +kernel⟩
def sp_answers_from (K : PySem.W.Frag) (T : List Addr) (n : Nat) : Sp := fun vs H Q _ => ∃ (xm xc xl : V) (m : M) (c : Ct) (es : List (Nat × Int)), vs = [xm, xc, xl] ∧ At K H xm (encM m) ∧ At K H xc (encCt c.1 c.2) ∧ Lg K H xl es ∧ Wd T H ∧ okM n m ∧ okCt m c ∧ (∀ e ∈ es, e.1 < m.tags) ∧ es.length ≤ 5000 ∧
  ∀ v H', At K H' v (.tup ((answersM m c es).map encA)) → Ex T [] H H' → Q v H'
theorem ok_answers_from {f g : Addr} {fd gd : FuncData} {T : List Addr} {n k : Nat} (F : Fun K "answers_from" "answers_from" s_answers_from f fd) (mt : mg "tuple" = none)
    (G : FnOk P w K mg base CX0 k g gd ["machine", "content", "entry"] (sp_read K T n)) (kG : PySem.W.keepIn K (.ref g) = true) (bG : Binds K gd ["machine", "content", "entry"] []) (mG : mg "read" = some (.ref g)) :
    FnOk P w K mg base CX0 (k + 1) f fd ["machine", "content", "log"] (sp_answers_from K T n) := by
  refine F.ok sc_answers_from (fun vs H Q E h => ?_) (fun cdv A outer s H vs Q E hr h => ?_)
  · obtain ⟨xm, xc, xl, m, c, es, rfl, _⟩ := h
    rfl
  obtain ⟨xm, xc, xl, m, c, es, rfl, hm, hc, hlog, wd, ok, okc0, htag, hlen, q⟩ := h
  refine ⟨_, pss_cons (ps_set (i := 3) sc_answers_from.nd rfl (.inl rfl) (pe_lst pa_nil))
    (pss_cons (ps_for PassesOwn.never rfl (pi_or (pi_list (pv 2)) (pi_tup (pv 2))) (pg_name (i := 4) sc_answers_from.nd rfl (.inl rfl))
      (pss_cons (ps_asg (pe_call G hr (by rfl) mG kG bG .nil pass0 (pa_cons (pv 0) (pa_cons (pv 1) (pa_cons (pv 4) pa_nil)))) (pg_tup rfl (pgs_cons (pg_name (i := 1) sc_answers_from.nd rfl (.inl rfl)) (pgs_cons (pg_name (i := 5) sc_answers_from.nd rfl (.inl rfl)) pgs_nil))))
      (pss_one (ps_expr (pe_bm PySem.F.plainAttrs_list PySem.F.slot_list_append PySem.F.type_list_append mt_append (pv 3) (pa_cons (pv 5) pa_nil))))))
    (pss_one (ps_ret (pe_callTy call_tuple_of (by rfl) mt (by decide +kernel) (pa_cons (pv 3) pa_nil))))), ?_⟩
  obtain ⟨al, xs, rfl, hsq, ats⟩ := hlog
  have xl := ats.len
  refine ⟨Nat.zero_le _, fun F0 nF => ?_⟩
  rcases hsq with hq | hq
  · refine .inl ⟨_, rfl, al, rfl, ⟨_, (Ex.new (T := T) (ms := []) nF).sqL (by simp) hq⟩, for_list (xs := xs) (fun i σ' H' => (∃ xc y4 y5, σ' = [some xm, some xc, some (.ref al), some (.ref F0), y4, y5] ∧ At K H' xc (encCt (contM m c (es.take i)).1 (contM m c (es.take i)).2)) ∧ Col K T [] F0 H H' ((answersM m c (es.take i)).map encA)) ⟨⟨_, _, _, rfl, hc.ext (T := T) (ms := []) (Ex.new nF)⟩, Col.start Ex.refl nF⟩ (fun i σ' H' _ z => z.2.1.sqL (by simp) hq) ?_ ?_⟩
    · rintro i x σ' H' hxi ⟨⟨xc, y4, y5, rfl, atc⟩, cl⟩
      have hi' : i < es.length := by rw [← xl]; exact (List.getElem?_eq_some_iff.mp hxi).1
      obtain ⟨x', hx1', hx2'⟩ := ats.at (List.getElem?_eq_getElem hi')
      rw [hxi] at hx1'
      cases hx1'
      have okc := okCt.cont ok (es := es.take i) okc0 fun e he => htag e (List.mem_of_mem_take he)
      have et : es.take (i + 1) = es.take i ++ [es[i]] := by rw [List.take_add_one, List.getElem?_eq_getElem hi']; rfl
      refine ⟨_, rfl, _, rfl, _, rfl, xm, xc, x, m, (contM m c (es.take i)).1, (contM m c (es.take i)).2, es[i], rfl, hm.ext cl.1, atc, hx2'.ext cl.1, cl.1.wd wd, ok, okc.st, htag _ (List.getElem_mem hi'), okc.len, fun v H1 at1 ex1 => ?_⟩
      obtain ⟨av, v1, v2, rfl, sqv, ac1, ac2⟩ := at1.t2
      obtain ⟨acc, k1, k2, k3⟩ := cl.put nF (by simp) wd ex1 ac2 (by rw [List.length_map, answersM_length, List.length_take]; exact Nat.le_trans (Nat.min_le_right _ _) hlen)
      refine ⟨av, [_, _], rfl, sqv, rfl, _, [_], rfl, _, [], rfl, rfl, ?_⟩
      refine ⟨_, rfl, .inl ⟨rfl, _, .inl (.inl k1)⟩, _, rfl, F0, _, _, rfl, rfl, k1, k2, ⟨⟨_, _, _, rfl, ?_⟩, ?_⟩⟩
      · rw [et, contM_append]
        exact ac1.ext (T := T) (ms := [F0]) (Ex.write (by simp) k1)
      · rw [et, answersM_append, List.map_append]
        exact k3
    · rintro σ' H' ⟨⟨xc, y4, y5, rfl, atc⟩, ex, xs', hF, ats'⟩
      rw [xl, List.take_length] at ats'
      refine ⟨_, rfl, F0, _, rfl, .inl ⟨SqL.of hF, fun l nl => ?_⟩⟩
      exact q _ _ (At.laid nl ats') (ex.trans (Ex.new nl))
  · refine .inr ⟨_, rfl, al, rfl, ⟨_, (Ex.new (T := T) (ms := []) nF).sqT hq⟩, for_tup (xs := xs) (fun i σ' H' => (∃ xc y4 y5, σ' = [some xm, some xc, some (.ref al), some (.ref F0), y4, y5] ∧ At K H' xc (encCt (contM m c (es.take i)).1 (contM m c (es.take i)).2)) ∧ Col K T [] F0 H H' ((answersM m c (es.take i)).map encA)) ⟨⟨_, _, _, rfl, hc.ext (T := T) (ms := []) (Ex.new nF)⟩, Col.start Ex.refl nF⟩ (fun i σ' H' _ z => z.2.1.sqT hq) ?_ ?_⟩
    · rintro i x σ' H' hxi ⟨⟨xc, y4, y5, rfl, atc⟩, cl⟩
      have hi' : i < es.length := by rw [← xl]; exact (List.getElem?_eq_some_iff.mp hxi).1
      obtain ⟨x', hx1', hx2'⟩ := ats.at (List.getElem?_eq_getElem hi')
      rw [hxi] at hx1'
      cases hx1'
      have okc := okCt.cont ok (es := es.take i) okc0 fun e he => htag e (List.mem_of_mem_take he)
      have et : es.take (i + 1) = es.take i ++ [es[i]] := by rw [List.take_add_one, List.getElem?_eq_getElem hi']; rfl
      refine ⟨_, rfl, _, rfl, _, rfl, xm, xc, x, m, (contM m c (es.take i)).1, (contM m c (es.take i)).2, es[i], rfl, hm.ext cl.1, atc, hx2'.ext cl.1, cl.1.wd wd, ok, okc.st, htag _ (List.getElem_mem hi'), okc.len, fun v H1 at1 ex1 => ?_⟩
      obtain ⟨av, v1, v2, rfl, sqv, ac1, ac2⟩ := at1.t2
      obtain ⟨acc, k1, k2, k3⟩ := cl.put nF (by simp) wd ex1 ac2 (by rw [List.length_map, answersM_length, List.length_take]; exact Nat.le_trans (Nat.min_le_right _ _) hlen)
      refine ⟨av, [_, _], rfl, sqv, rfl, _, [_], rfl, _, [], rfl, rfl, ?_⟩
      refine ⟨_, rfl, .inl ⟨rfl, _, .inl (.inl k1)⟩, _, rfl, F0, _, _, rfl, rfl, k1, k2, ⟨⟨_, _, _, rfl, ?_⟩, ?_⟩⟩
      · rw [et, contM_append]
        exact ac1.ext (T := T) (ms := [F0]) (Ex.write (by simp) k1)
      · rw [et, answersM_append, List.map_append]
        exact k3
    · rintro σ' H' ⟨⟨xc, y4, y5, rfl, atc⟩, ex, xs', hF, ats'⟩
      rw [xl, List.take_length] at ats'
      refine ⟨_, rfl, F0, _, rfl, .inl ⟨SqL.of hF, fun l nl => ?_⟩⟩
      exact q _ _ (At.laid nl ats') (ex.trans (Ex.new nl))

theorem sc_answers : FnScope ["machine", "log"] ["machine", "log"] (defScope s_answers) := ⟨rfl, rfl, rfl, by decide +kernel, rfl, by decide +kernel, by decide +kernel⟩
def begM (m : M) : Ct := (0, List.replicate m.regs none)
theorem begM_ok {m : M} {n : Nat} (ok : okM n m) : okCt m (begM m) := ⟨ok.some, List.length_replicate ..⟩
def sp_answers (K : PySem.W.Frag) (T : List Addr) (n : Nat) : Sp := fun vs H Q _ => ∃ (xm xl : V) (m : M) (es : List (Nat × Int)), vs = [xm, xl] ∧ At K H xm (encM m) ∧ Lg K H xl es ∧ Wd T H ∧ okM n m ∧ (∀ e ∈ es, e.1 < m.tags) ∧ es.length ≤ 5000 ∧
  ∀ v H', At K H' v (.tup ((answersM m (begM m) es).map encA)) → Ex T [] H H' → Q v H'
theorem ok_answers {f g gb : Addr} {fd gd gbd : FuncData} {T : List Addr} {n k : Nat} (F : Fun K "answers" "answers" s_answers f fd)
    (G : FnOk P w K mg base CX0 k g gd ["machine", "content", "log"] (sp_answers_from K T n)) (kG : PySem.W.keepIn K (.ref g) = true) (bG : Binds K gd ["machine", "content", "log"] []) (mG : mg "answers_from" = some (.ref g))
    (GB : FnOk P w K mg base CX0 k gb gbd ["machine"] (sp_beginning K T)) (kB : PySem.W.keepIn K (.ref gb) = true) (bB : Binds K gbd ["machine"] []) (mB : mg "beginning" = some (.ref gb)) :
    FnOk P w K mg base CX0 (k + 1) f fd ["machine", "log"] (sp_answers K T n) := by
  refine F.ok sc_answers (fun vs H Q E h => ?_) (fun cdv A outer s H vs Q E hr h => ?_)
  · obtain ⟨xm, xl, m, es, rfl, _⟩ := h
    rfl
  obtain ⟨xm, xl, m, es, rfl, hm, hlog, wd, ok, htag, hlen, q⟩ := h
  refine ⟨_, pss_one (ps_ret (pe_call G hr (by rfl) mG kG bG .nil pass0 (pa_cons (pv 0) (pa_cons (pe_call GB hr (by rfl) mB kB bB .nil pass0 (pa_cons (pv 0) pa_nil)) (pa_cons (pv 1) pa_nil))))), ?_⟩
  refine ⟨_, rfl, _, rfl, xm, m, rfl, hm, ok.rmax, fun v1 H1 at1 ex1 => ?_⟩
  exact ⟨_, rfl, xm, v1, xl, m, begM m, es, rfl, hm.ext ex1, at1, hlog.ext ex1, ex1.wd wd, ok, begM_ok ok, htag, hlen, fun v H' at' ex' => q v H' at' (ex1.trans ex')⟩

abbrev N__law_draws : List Str := ["script", "many", "cells", "rest", "draws", "k", "at", "once", "cell"]
theorem sc__law_draws : FnScope N__law_draws ["script", "many"] (defScope s__law_draws) := ⟨rfl, rfl, rfl, by decide +kernel, rfl, by decide +kernel, by decide +kernel⟩
def sp__law_draws (K : PySem.W.Frag) (T : List Addr) : Sp := fun vs H Q _ => ∃ (a : Addr) (ns : List Int) (many : Int), vs = [.ref a, .int many] ∧ SqL K H a (ns.map V.int) ∧ ns.length ≤ 63 ∧ 0 ≤ many ∧ many ≤ 5000 ∧ Wd T H ∧
  ∀ (r : Addr) (H' : Hp), H r = none → Ex T [] H H' → Dr H' r → Q (.ref r) H'
theorem ok__law_draws {f : Addr} {fd : FuncData} {k : Nat} {T : List Addr} (F : Fun K "_law_draws" "_law_draws" s__law_draws f fd) (ml : mg "len" = none) (mi : mg "int" = none) (mli : mg "list" = none) (mr : mg "range" = none) :
    FnOk P w K mg base CX0 (k + 1) f fd ["script", "many"] (sp__law_draws K T) := by
  refine F.ok sc__law_draws (fun vs H Q E h => ?_) (fun cdv A outer s H vs Q E hr h => ?_)
  · obtain ⟨a, ns, many, rfl, _⟩ := h
    rfl
  obtain ⟨a, ns, many, rfl, hS, h63, m0, m1, wd, q⟩ := h
  refine ⟨_, pss_cons (ps_setLc (i := 2) (own := [("cell", 8)]) (g := gName 8) (tt := tYes) rfl sc__law_draws.nd rfl rfl (sw_true rfl rfl rfl (by decide +kernel)) (pi_list (pv 0)) (blkOk_by (N := N__law_draws) (sc := defScope s__law_draws) (by decide +kernel))
      (fun _ _ _ _ _ => pg_name (i := 8) sc__law_draws.nd rfl (.inl rfl)) (fun _ _ _ _ _ => pts_nil) (fun _ _ _ _ _ => pe_callTy call_int1 (by rfl) mi (by decide +kernel) (pa_cons (pv 8) pa_nil)))
    (C8.pss_cut (ps_if (pt_cmpR op_eq (pe_callB call_len_seq (by rfl) ml PySem.boot_len (pa_cons (pv 2) pa_nil)) pe_int (nomark _))
      (pss_one (ps_expr (pe_bm PySem.F.plainAttrs_list PySem.F.slot_list_append PySem.F.type_list_append mt_append (pv 2) (pa_cons pe_int pa_nil)))) pss_nil)
    (pss_cons (ps_set (i := 3) sc__law_draws.nd rfl (.inl rfl) (pe_callTy call_list_of (by rfl) mli (by decide +kernel) (pa_cons (pv 2) pa_nil)))
    (pss_cons (ps_set (i := 4) sc__law_draws.nd rfl (.inl rfl) (pe_lst pa_nil))
    (pss_cons (ps_for PassesOwn.never rfl (pi_range1 rfl mr (pa_cons (pv 1) pa_nil)) (pg_name (i := 5) sc__law_draws.nd rfl (.inl rfl))
      (pss_cons (ps_set (i := 6) sc__law_draws.nd rfl (.inl rfl) (pe_op op_mod (pv 5) (pe_callB call_len_seq (by rfl) ml PySem.boot_len (pa_cons (pv 2) pa_nil))))
      (pss_one (ps_if (pt_cmpR op_ge (pe_ix ix_list (pv 2) (pv 6) (fun _ _ => rfl)) (pe_op op_pow pe_int pe_int) (nomark _))
        (pss_cons (ps_expr (pe_bm PySem.F.plainAttrs_list PySem.F.slot_list_append PySem.F.type_list_append mt_append (pv 4) (pa_cons (pe_op op_mod (pe_callTy call_int1 (by rfl) mi (by decide +kernel) (pa_cons (pe_ix ix_list (pv 3) (pv 6) (fun _ _ => rfl)) pa_nil)) pe_int) pa_nil)))
        (pss_one (ps_asg (pe_op op_fdiv (pe_ix ix_list (pv 3) (pv 6) (fun _ _ => rfl)) pe_int) (pg_sub (pv 3) (pv 6) set_list))))
        (pss_cons (ps_set (i := 7) sc__law_draws.nd rfl (.inl rfl) (pe_op op_mod (pe_callTy call_int1 (by rfl) mi (by decide +kernel) (pa_cons (pe_op op_add (pe_op op_add (pe_op op_mul (pe_ix ix_list (pv 2) (pv 6) (fun _ _ => rfl)) pe_int) (pe_op op_mul (pv 5) pe_int)) pe_int) pa_nil)) pe_int))
        (pss_one (ps_expr (pe_bm PySem.F.plainAttrs_list PySem.F.slot_list_append PySem.F.type_list_append mt_append (pv 4) (pa_cons (pe_op op_mod (pe_callTy call_int1 (by rfl) mi (by decide +kernel) (pa_cons (pe_op op_add (pe_op op_add (pe_op op_mul (pv 7) (pv 7)) (pe_op op_mul pe_int (pv 7))) (pv 5)) pa_nil)) pe_int) pa_nil)))))))))
    (pss_cons (ps_expr (pe_bm0 PySem.F.plainAttrs_list PySem.F.slot_list_reverse PySem.F.type_list_reverse mt_reverse (pv 4)))
    (pss_one (ps_ret (pv 4)))))))), ?_⟩
  refine ⟨_, rfl, a, rfl, ⟨_, hS⟩, fun D nD => lc_list (xs := ns.map V.int) (fun i H' => Ex T [] H H' ∧ H' D = some (.lst ((ns.take i).map V.int))) ⟨Ex.new nD, upd_same⟩ (fun i H' _ ⟨e, _⟩ => e.sqL (by simp) hS) ?_ ?_⟩
  · rintro i x H' hi ⟨ex, hd⟩
    rw [List.getElem?_map] at hi
    cases e : ns[i]? with
    | none => rw [e] at hi; cases hi
    | some z =>
      rw [e] at hi
      cases hi
      refine ⟨rfl, ?_⟩
      refine yesIf ?_
      refine ⟨_, rfl, .inl ⟨z, rfl, _, hd, ?_, ex.put nD wd, ?_⟩⟩
      · rw [List.length_map, List.length_take]
        exact small5000 (by omega)
      · rw [upd_same, List.take_add_one, e, List.map_append]
        rfl
  rintro H1 ⟨ex1, hD⟩
  rw [List.length_map, List.take_length] at hD
  refine ⟨fun σ' H' => σ' = [some (.ref a), some (.int many), some (.ref D), none, none, none, none, none, none] ∧ ∃ zs : List Int, Ex T [] H H' ∧ H' D = some (.lst (zs.map V.int)) ∧ 0 < zs.length ∧ zs.length ≤ 64, ?_, ?_⟩
  · refine ⟨_, rfl, D, _, rfl, .inl (SqL.of hD), rfl, _, rfl, ite2 (fun c => ?_) (fun c => ?_)⟩
    · refine ⟨_, rfl, .inl ⟨rfl, _, SqL.of hD⟩, D, _, _, rfl, rfl, hD, ?_, rfl, ns ++ [0], ex1.put nD wd, ?_, ?_, ?_⟩
      · rw [List.length_map]
        exact small5000 (by omega)
      · rw [upd_same, iv_snoc]
      · rw [List.length_append]; exact Nat.succ_pos _
      · rw [List.length_append]; show ns.length + 1 ≤ 64; omega
    · refine ⟨rfl, ns, ex1, hD, ?_, by omega⟩
      rw [List.length_map] at c
      cases ns with
      | nil => exact absurd rfl c
      | cons => exact Nat.succ_pos _
  rintro σ' H2 ⟨rfl, zs, ex2, hD, hz0, hz1⟩
  refine ⟨_, rfl, D, _, rfl, .inl (SqL.of hD), fun R nR => ?_⟩
  have ex3 : Ex T [] H (upd H2 R (.lst (zs.map V.int))) := ex2.trans (Ex.new nR)
  refine ⟨Nat.zero_le _, fun W nW => ?_⟩
  have ex4 : Ex T [] H (upd (upd H2 R (.lst (zs.map V.int))) W (.lst [])) := ex3.trans (Ex.new nW)
  have nR0 : H R = none := ex2.free nR
  have nW0 : H W = none := ex3.free nW
  have nDR : D ≠ R := ne_of_none hD nR
  have hD3 : (upd H2 R (.lst (zs.map V.int))) D = some (.lst (zs.map V.int)) := by rw [upd_ne nDR]; exact hD
  have nDW : D ≠ W := ne_of_none hD3 nW
  have nRW : R ≠ W := ne_of_none upd_same nW
  refine ⟨_, rfl, many, rfl, by omega, by omega, for_range (lo := 0) (n := many.toNat) (fun i σ' H' => (∃ y5 y6 y7, σ' = [some (.ref a), some (.int many), some (.ref D), some (.ref R), some (.ref W), y5, y6, y7, none]) ∧ Ex T [] H H' ∧ H' D = some (.lst (zs.map V.int)) ∧
    (∃ rs : List Int, H' R = some (.lst (rs.map V.int)) ∧ rs.length = zs.length) ∧ ∃ ds : List Int, H' W = some (.lst (ds.map V.int)) ∧ ds.length ≤ i) ?_ ?_ ?_⟩
  · refine ⟨⟨_, _, _, rfl⟩, ex4, ?_, ⟨zs, ?_, rfl⟩, [], upd_same, Nat.le_refl _⟩
    · rw [upd_ne nDW]; exact hD3
    · rw [upd_ne nRW, upd_same]
  · rintro i σ' H' hi ⟨⟨y5, y6, y7, rfl⟩, ex, hD, ⟨rs, hR, hrl⟩, ds, hW, hdl⟩
    have hm : (((zs.map V.int).length : Nat) : Int) = zs.length := by rw [List.length_map]
    have hat0 : 0 ≤ (0 + (i : Int)) % (((zs.map V.int).length : Nat) : Int) := Int.emod_nonneg _ (by omega)
    have hat1 : (0 + (i : Int)) % (((zs.map V.int).length : Nat) : Int) < zs.length := by
      have := Int.emod_lt_of_pos (0 + (i : Int)) (b := (((zs.map V.int).length : Nat) : Int)) (by omega)
      omega
    have sz : (ds.map V.int).length < sizeLine := by rw [List.length_map]; exact small5000 (by omega)
    refine ⟨_, rfl, _, rfl, D, _, rfl, .inl (SqL.of hD), _, _, rfl, rfl, by omega, ?_⟩
    refine ⟨_, rfl, _, rfl, D, _, _, _, rfl, rfl, SqL.of hD, iv_at hat0 hat1, _, _, rfl, rfl, ⟨by decide, by decide, by decide⟩, _, _, rfl, rfl, _, rfl, ite2 (fun c => ?_) (fun c => ?_)⟩
    · refine ⟨_, rfl, .inl ⟨rfl, _, .inl (.inl hW)⟩, _, rfl, _, rfl, R, _, _, _, rfl, rfl, SqL.of hR, iv_at hat0 (by rw [hrl]; exact hat1), .inl ⟨_, rfl, _, _, rfl, rfl, (by show (0 : Int) < 1000; decide), W, _, _, rfl, rfl, hW, sz, ?_⟩⟩
      have hR1 : (upd H' W (.lst (ds.map V.int ++ [.int (rs.getD ((0 + (i : Int)) % (((zs.map V.int).length : Nat) : Int)).toNat 0 % 1000)]))) R = some (.lst (rs.map V.int)) := by rw [upd_ne nRW]; exact hR
      refine ⟨_, rfl, _, rfl, R, _, _, _, rfl, rfl, SqL.of hR1, iv_at hat0 (by rw [hrl]; exact hat1), _, _, rfl, rfl, ⟨by decide, by decide⟩, _, rfl, _, rfl, R, _, _, _, rfl, rfl, hR1, ix_nat hat0 (by rw [show (rs.map V.int).length = zs.length from (List.length_map _).trans hrl]; exact hat1), ?_⟩
      refine ⟨⟨_, _, _, rfl⟩, (ex.put nW0 wd).put nR0 wd, ?_, ⟨_, by rw [upd_same, iv_set], by rw [List.length_set]; exact hrl⟩, _, by rw [upd_ne (Ne.symm nRW), upd_same, iv_snoc], by rw [List.length_append]; exact Nat.succ_le_succ hdl⟩
      rw [upd_ne nDR, upd_ne nDW]
      exact hD
    · refine ⟨_, rfl, _, rfl, D, _, _, _, rfl, rfl, SqL.of hD, iv_at hat0 hat1, _, _, rfl, rfl, .inr ⟨by decide, by decide⟩, _, rfl, _, _, rfl, rfl, .inr ⟨by decide, by decide⟩, _, _, rfl, rfl, _, _, rfl, rfl, .inl ⟨_, rfl, _, _, rfl, rfl, (by show (0 : Int) < 2147483647; decide), ?_⟩⟩
      have o0 : 0 ≤ (zs.getD ((0 + (i : Int)) % (((zs.map V.int).length : Nat) : Int)).toNat 0 * 48271 + (0 + (i : Int)) * 69621 + 11) % 2147483647 := Int.emod_nonneg _ (by decide)
      have o1 : (zs.getD ((0 + (i : Int)) % (((zs.map V.int).length : Nat) : Int)).toNat 0 * 48271 + (0 + (i : Int)) * 69621 + 11) % 2147483647 < 2147483647 := Int.emod_lt_of_pos _ (by decide)
      refine ⟨_, rfl, .inl ⟨rfl, _, .inl (.inl hW)⟩, _, rfl, _, rfl, _, _, rfl, rfl, .inl ⟨?_, ?_⟩, _, rfl, _, _, rfl, rfl, .inl ⟨by decide, by decide⟩, _, _, rfl, rfl, _, rfl, _, _, rfl, rfl, .inl ⟨_, rfl, _, _, rfl, rfl, (by show (0 : Int) < 1000003; decide), W, _, _, rfl, rfl, hW, sz, ?_⟩⟩
      · exact Int.lt_of_lt_of_le (by decide) o0
      · exact Int.lt_trans o1 (by decide)
      refine ⟨⟨_, _, _, rfl⟩, ex.put nW0 wd, ?_, ⟨rs, ?_, hrl⟩, _, by rw [upd_same, iv_snoc], by rw [List.length_append]; exact Nat.succ_le_succ hdl⟩
      · rw [upd_ne nDW]; exact hD
      · rw [upd_ne nRW]; exact hR
  · rintro σ' H' ⟨⟨y5, y6, y7, rfl⟩, ex, hD, ⟨rs, hR, hrl⟩, ds, hW, hdl⟩
    refine ⟨_, rfl, .inl ⟨rfl, _, .inl (.inl hW)⟩, W, _, rfl, rfl, hW, _, rfl, ?_⟩
    exact q W _ nW0 (ex.put nW0 wd) ⟨ds.reverse, by rw [upd_same, List.map_reverse]⟩

abbrev N__law_take : List Str := ["draws", "many"]
theorem sc__law_take : FnScope N__law_take ["draws", "many"] (defScope s__law_take) := ⟨rfl, rfl, rfl, by decide +kernel, rfl, by decide +kernel, by decide +kernel⟩
def sp__law_take (T : List Addr) : Sp := fun vs H Q _ => ∃ (dr : Addr) (m : Int), vs = [.ref dr, .int m] ∧ 0 < m ∧ Dr H dr ∧ ∀ x H', 0 ≤ x → x < m → Ex T [dr] H H' → Dr H' dr → Q (.int x) H'
theorem ok__law_take {f : Addr} {fd : FuncData} {k : Nat} {T : List Addr} (F : Fun K "_law_take" "_law_take" s__law_take f fd) (ml : mg "len" = none) (mi : mg "int" = none) :
    FnOk P w K mg base CX0 (k + 1) f fd ["draws", "many"] (sp__law_take T) := by
  refine F.ok sc__law_take (fun vs H Q E h => ?_) (fun cdv A outer s H vs Q E hr h => ?_)
  · obtain ⟨dr, m, rfl, _⟩ := h
    rfl
  obtain ⟨dr, m, rfl, hm, ⟨ds, hd⟩, q⟩ := h
  refine ⟨_, pss_cons (ps_if (pt_cmpR op_eq (pe_callB call_len_seq (by rfl) ml PySem.boot_len (pa_cons (pv 0) pa_nil)) pe_int (nomark _)) (pss_one (ps_ret pe_int)) pss_nil)
    (pss_one (ps_ret (pe_op op_mod (pe_callTy call_int1 (by rfl) mi (by decide +kernel) (pa_cons (pe_bm0 PySem.F.plainAttrs_list PySem.F.slot_list_pop PySem.F.type_list_pop mt_pop (pv 0)) pa_nil)) (pv 1)))), ?_⟩
  refine ⟨_, rfl, dr, _, rfl, .inl (SqL.of hd), rfl, _, rfl, ite2 (fun c => ?_) (fun c => ?_)⟩
  · exact q 0 H (Int.le_refl 0) hm Ex.refl ⟨ds, hd⟩
  have hl : 0 < ds.length := by
    rw [List.length_map] at c
    cases ds with
    | nil => exact absurd rfl c
    | cons => exact Nat.succ_pos _
  have e1 : (ds.map V.int)[(ds.map V.int).length - 1]? = some (.int (ds.getD (ds.length - 1) 0)) := by
    rw [List.length_map, List.getElem?_map, List.getD_eq_getElem?_getD, List.getElem?_eq_getElem (by omega)]
    rfl
  refine ⟨_, rfl, .inl ⟨rfl, _, .inl (.inl hd)⟩, dr, _, _, rfl, rfl, hd, e1, .inl ⟨_, rfl, _, rfl, _, _, rfl, rfl, hm, ?_⟩⟩
  exact q _ _ (Int.emod_nonneg _ (by omega)) (Int.emod_lt_of_pos _ hm) (Ex.write (by simp) hd) ⟨ds.dropLast, by rw [upd_same, List.map_dropLast]⟩

abbrev N__law_cell : List Str := ["script", "draws"]
theorem sc__law_cell : FnScope N__law_cell ["script", "draws"] (defScope s__law_cell) := ⟨rfl, rfl, rfl, by decide +kernel, rfl, by decide +kernel, by decide +kernel⟩
def sp__law_cell (K : PySem.W.Frag) (T : List Addr) : Sp := fun vs H Q _ => ∃ (a dr : Addr) (ns : List Int), vs = [.ref a, .ref dr] ∧ (∀ H', Ex T [dr] H H' → SqL K H' a (ns.map V.int)) ∧ Dr H dr ∧ ∀ x H', (x = 0 ∨ x ∈ ns) → Ex T [dr] H H' → Dr H' dr → Q (.int x) H'
theorem ok__law_cell {f g : Addr} {fd gd : FuncData} {k : Nat} {T : List Addr} (F : Fun K "_law_cell" "_law_cell" s__law_cell f fd) (ml : mg "len" = none) (mi : mg "int" = none)
    (G : FnOk P w K mg base CX0 k g gd ["draws", "many"] (sp__law_take T)) (kG : PySem.W.keepIn K (.ref g) = true) (bG : Binds K gd ["draws", "many"] []) (mG : mg "_law_take" = some (.ref g)) :
    FnOk P w K mg base CX0 (k + 1) f fd ["script", "draws"] (sp__law_cell K T) := by
  refine F.ok sc__law_cell (fun vs H Q E h => ?_) (fun cdv A outer s H vs Q E hr h => ?_)
  · obtain ⟨a, dr, ns, rfl, _⟩ := h
    rfl
  obtain ⟨a, dr, ns, rfl, hS', hd, q⟩ := h
  have hS := hS' H Ex.refl
  refine ⟨_, pss_cons (ps_if (pt_cmpR op_eq (pe_callB call_len_seq (by rfl) ml PySem.boot_len (pa_cons (pv 0) pa_nil)) pe_int (nomark _)) (pss_one (ps_ret pe_int)) pss_nil)
    (pss_one (ps_ret (pe_callTy call_int1 (by rfl) mi (by decide +kernel) (pa_cons (pe_ix ix_list (pv 0) (pe_call G hr (by rfl) mG kG bG .nil pass0 (pa_cons (pv 1) (pa_cons (pe_callB call_len_seq (by rfl) ml PySem.boot_len (pa_cons (pv 0) pa_nil)) pa_nil))) (fun _ _ => rfl)) pa_nil)))), ?_⟩
  refine ⟨_, rfl, a, _, rfl, .inl hS, rfl, _, rfl, ite2 (fun c => ?_) (fun c => ?_)⟩
  · exact q 0 H (.inl rfl) Ex.refl hd
  have hl : 0 < ns.length := by
    rw [List.length_map] at c
    cases ns with
    | nil => exact absurd rfl c
    | cons => exact Nat.succ_pos _
  refine ⟨_, rfl, _, rfl, _, rfl, a, _, rfl, .inl hS, dr, _, rfl, by rw [List.length_map]; omega, hd, fun x H' x0 x1 ex hd' => ?_⟩
  rw [List.length_map] at x1
  exact ⟨a, _, _, _, rfl, rfl, hS' H' ex, iv_at x0 x1, .inl ⟨_, rfl, q _ _ (.inr (by rw [List.getD_eq_getElem?_getD, List.getElem?_eq_getElem (show x.toNat < ns.length by omega)]; exact List.getElem_mem _)) ex hd'⟩⟩

abbrev N__law_base : List Str := ["draws", "cell"]
theorem sc__law_base : FnScope N__law_base ["draws", "cell"] (defScope s__law_base) := ⟨rfl, rfl, rfl, by decide +kernel, rfl, by decide +kernel, by decide +kernel⟩
def sp__law_base (T : List Addr) : Sp := fun vs H Q _ => ∃ (dr : Addr) (c : Int), vs = [.ref dr, .int c] ∧ Dr H dr ∧ ∀ x H', (x = 0 ∨ x = -3 ∨ x = c) → Ex T [dr] H H' → Dr H' dr → Q (.int x) H'
theorem ok__law_base {f g : Addr} {fd gd : FuncData} {k : Nat} {T : List Addr} (F : Fun K "_law_base" "_law_base" s__law_base f fd)
    (G : FnOk P w K mg base CX0 k g gd ["draws", "many"] (sp__law_take T)) (kG : PySem.W.keepIn K (.ref g) = true) (bG : Binds K gd ["draws", "many"] []) (mG : mg "_law_take" = some (.ref g)) :
    FnOk P w K mg base CX0 (k + 1) f fd ["draws", "cell"] (sp__law_base T) := by
  refine F.ok sc__law_base (fun vs H Q E h => ?_) (fun cdv A outer s H vs Q E hr h => ?_)
  · obtain ⟨dr, c, rfl, _⟩ := h
    rfl
  obtain ⟨dr, c, rfl, hd, q⟩ := h
  refine ⟨_, pss_one (ps_ret (pe_ix ix_list (pe_lst (pa_cons pe_int (pa_cons (pe_un un_neg pe_int) (pa_cons (pv 1) pa_nil))))
        (pe_call G hr (by rfl) mG kG bG .nil pass0 (pa_cons (pv 0) (pa_cons pe_int pa_nil))) (fun _ _ => rfl))), ?_⟩
  refine ⟨_, rfl, _, rfl, by show 3 ≤ sizeLine; decide, fun p np => ?_⟩
  obtain ⟨ds, hd1'⟩ := hd
  have ne : dr ≠ p := ne_of_none hd1' np
  refine ⟨_, rfl, dr, 3, rfl, by decide, ⟨ds, by rw [upd_ne ne]; exact hd1'⟩, fun y H2 y0 y1 ex2 hd2 => ?_⟩
  have hp : H2 p = some (.lst (([0, -3, c] : List Int).map V.int)) := ex2.keep p _ (by simpa using ne.symm) upd_same (fun ps e => by cases e)
  exact ⟨p, _, _, _, rfl, rfl, SqL.of hp, iv_at y0 y1, q _ _ (by rcases (by omega : y = 0 ∨ y = 1 ∨ y = 2) with rfl | rfl | rfl; exact .inl rfl; exact .inr (.inl rfl); exact .inr (.inr rfl)) ((Ex.new np).trans ex2) hd2⟩

abbrev N__law_value : List Str := ["draws", "base", "wide"]
theorem sc__law_value : FnScope N__law_value ["draws", "base", "wide"] (defScope s__law_value) := ⟨rfl, rfl, rfl, by decide +kernel, rfl, by decide +kernel, by decide +kernel⟩
def sp__law_value (T : List Addr) : Sp := fun vs H Q _ => ∃ (dr : Addr) (b m : Int), vs = [.ref dr, .int b, .int m] ∧ 0 < m ∧ Dr H dr ∧ ∀ x H', x.natAbs ≤ b.natAbs + m.natAbs + 1000 → Ex T [dr] H H' → Dr H' dr → Q (.int x) H'
theorem ok__law_value {f g : Addr} {fd gd : FuncData} {k : Nat} {T : List Addr} (F : Fun K "_law_value" "_law_value" s__law_value f fd)
    (G : FnOk P w K mg base CX0 k g gd ["draws", "many"] (sp__law_take T)) (kG : PySem.W.keepIn K (.ref g) = true) (bG : Binds K gd ["draws", "many"] []) (mG : mg "_law_take" = some (.ref g)) :
    FnOk P w K mg base CX0 (k + 1) f fd ["draws", "base", "wide"] (sp__law_value T) := by
  refine F.ok sc__law_value (fun vs H Q E h => ?_) (fun cdv A outer s H vs Q E hr h => ?_)
  · obtain ⟨dr, b, m, rfl, _⟩ := h
    rfl
  obtain ⟨dr, b, m, rfl, hm, hd, q⟩ := h
  refine ⟨_, pss_cons (ps_if (pt_cmpR op_eq (pe_call G hr (by rfl) mG kG bG .nil pass0 (pa_cons (pv 0) (pa_cons pe_int pa_nil))) pe_int (nomark _))
      (pss_one (ps_ret (pe_ix ix_list (pe_lst (pa_cons (pe_op op_add (pv 1) pe_int) (pa_cons (pe_op op_sub (pv 1) pe_int) (pa_cons pe_int (pa_cons (pe_un un_neg (pv 1)) pa_nil)))))
        (pe_call G hr (by rfl) mG kG bG .nil pass0 (pa_cons (pv 0) (pa_cons pe_int pa_nil))) (fun _ _ => rfl)))) pss_nil)
    (pss_one (ps_ret (pe_op op_add (pv 1) (pe_call G hr (by rfl) mG kG bG .nil pass0 (pa_cons (pv 0) (pa_cons (pv 2) pa_nil)))))), ?_⟩
  refine ⟨_, rfl, dr, 12, rfl, by decide, hd, fun x H1 x0 x1 ex1 hd1 => ⟨rfl, _, rfl, ite2 (fun c => ?_) (fun c => ?_)⟩⟩
  · refine ⟨_, rfl, _, _, rfl, rfl, _, rfl, _, _, rfl, rfl, _, rfl, _, rfl, by show 4 ≤ sizeLine; decide, fun p np => ?_⟩
    obtain ⟨ds, hd1'⟩ := hd1
    have ne : dr ≠ p := ne_of_none hd1' np
    refine ⟨_, rfl, dr, 4, rfl, by decide, ⟨ds, by rw [upd_ne ne]; exact hd1'⟩, fun y H2 y0 y1 ex2 hd2 => ?_⟩
    have hp : H2 p = some (.lst (([b + 1000, b - 1000, 0, -b] : List Int).map V.int)) := ex2.keep p _ (by simpa using ne.symm) upd_same (fun ps e => by cases e)
    exact ⟨p, _, _, _, rfl, rfl, SqL.of hp, iv_at y0 y1, q _ _ (by rcases (by omega : y = 0 ∨ y = 1 ∨ y = 2 ∨ y = 3) with rfl | rfl | rfl | rfl; (show (b + 1000).natAbs ≤ _; omega); (show (b - 1000).natAbs ≤ _; omega); (show (0 : Int).natAbs ≤ _; omega); (show (-b).natAbs ≤ _; omega)) ((ex1.trans (Ex.new np)).trans ex2) hd2⟩
  · exact ⟨_, rfl, _, rfl, _, rfl, dr, m, rfl, hm, hd1, fun y H2 y0 y1 ex2 hd2 => ⟨_, _, rfl, rfl, q _ _ (by omega) (ex1.trans ex2) hd2⟩⟩

abbrev N__reader : List Str := ["registers", "cases"]
theorem sc__reader : FnScope N__reader ["registers", "cases"] (defScope s__reader) := ⟨rfl, rfl, rfl, by decide +kernel, rfl, by decide +kernel, by decide +kernel⟩
def sp__reader (K : PySem.W.Frag) (T : List Addr) : Sp := fun vs H Q _ => ∃ (r : Int) (x : V) (d : D), vs = [.int r, x] ∧ At K H x d ∧ ∀ v H', At K H' v (.tup [.int 1, .int r, .tup [.tup [d]]]) → Ex T [] H H' → Q v H'
theorem ok__reader {f : Addr} {fd : FuncData} {k : Nat} {T : List Addr} (F : Fun K "_reader" "_reader" s__reader f fd) :
    FnOk P w K mg base CX0 (k + 1) f fd ["registers", "cases"] (sp__reader K T) := by
  refine F.ok sc__reader (fun vs H Q E h => ?_) (fun cdv A outer s H vs Q E hr h => ?_)
  · obtain ⟨r, x, d, rfl, _⟩ := h
    rfl
  obtain ⟨r, x, d, rfl, hx, q⟩ := h
  refine ⟨_, (pss_one (ps_ret (pe_tup (pa_cons pe_int (pa_cons (pv 0) (pa_cons (pe_tup (pa_cons (pe_tup (pa_cons (pv 1) pa_nil)) pa_nil)) pa_nil)))))), ?_⟩
  refine ⟨_, rfl, _, rfl, ?_⟩
  refine ⟨by show 1 ≤ sizeLine; decide, fun p1 n1 => ⟨by show 1 ≤ sizeLine; decide, fun p2 n2 => ⟨by show 3 ≤ sizeLine; decide, fun p3 n3 => ?_⟩⟩⟩
  have a1 := At.laid (K := K) (xs := [x]) n1 (Ats.mk hx Ats.mk_nil)
  have e1 := Ex.new (T := T) (ms := []) (o := HO.tup [x]) n1
  have a2 := At.laid (K := K) (xs := [.ref p1]) n2 (Ats.mk a1 Ats.mk_nil)
  have e2 := Ex.new (T := T) (ms := []) (o := HO.tup [.ref p1]) n2
  have a3 := At.laid (K := K) (xs := [.int 1, .int r, .ref p2]) n3 (Ats.mk (at_int.mpr rfl) (Ats.mk (at_int.mpr rfl) (Ats.mk a2 Ats.mk_nil)))
  exact q _ _ a3 ((e1.trans e2).trans (Ex.new n3))

abbrev N__put_at : List Str := ["k", "held", "at", "condition", "sources", "moves"]
theorem sc__put_at : FnScope N__put_at ["k", "held", "at", "condition"] (defScope s__put_at) := ⟨rfl, rfl, rfl, by decide +kernel, rfl, by decide +kernel, by decide +kernel⟩
def sp__put_at (K : PySem.W.Frag) (T : List Addr) : Sp := fun vs H Q _ => ∃ (k held a : Nat) (x : V) (c : C), vs = [.int k, .int held, .int a, x] ∧ At K H x (encC c) ∧ k ≤ 6 ∧ held ≤ k ∧ a ≤ held ∧ Wd T H ∧
  ∀ v H', At K H' v (encCase (putK' k held a c)) → Ex T [] H H' → Q v H'
theorem ok__put_at {f : Addr} {fd : FuncData} {k : Nat} {T : List Addr} (F : Fun K "_put_at" "_put_at" s__put_at f fd) (m_list : mg "list" = none) (m_range : mg "range" = none) (m_len : mg "len" = none) (m_tuple : mg "tuple" = none) (m_enumerate : mg "enumerate" = none) {t_NEW : Tok} (m_NEW : mg "NEW" = some (.int (-1) t_NEW)) :
    FnOk P w K mg base CX0 (k + 1) f fd ["k", "held", "at", "condition"] (sp__put_at K T) := by
  refine F.ok sc__put_at (fun vs H Q E h => ?_) (fun cdv A outer s H vs Q E hr h => ?_)
  · obtain ⟨k, held, a, x, c, rfl, _⟩ := h
    rfl
  obtain ⟨k, held, a, x, c, rfl, hx, hk, hh, ha, wd, q⟩ := h
  refine ⟨_, (C8.pss_cut (ps_if (pt_cmpR op_lt (pv 2) (pv 1) (nomark _))
      (pss_one (ps_set (i := 3) sc__put_at.nd rfl (.inl rfl) (pe_tup (pa_cons pe_str (pa_cons (pe_tup (pa_cons (pv 3) (pa_cons (pe_tup (pa_cons pe_str (pa_cons (pv 2) (pa_cons (pe_glob (v := .int (-1)) rfl m_NEW ⟨_, rfl⟩) pa_nil)))) pa_nil))) pa_nil)))))
      pss_nil)
    (pss_cons (ps_set (i := 4) sc__put_at.nd rfl (.inl rfl) (pe_slice sl_list (pe_op op_cat (pe_op op_cat (pe_listRg rfl (by rfl) m_list (prg_1 (by rfl) m_range (pv 2))) (pe_lst (pa_cons (pe_glob (v := .int (-1)) rfl m_NEW ⟨_, rfl⟩) pa_nil))) (pe_listRg rfl (by rfl) m_list (prg_2 (by rfl) m_range (pv 2) (pv 1)))) po_none (po_some (pv 0))))
    (pss_cons (ps_set (i := 5) sc__put_at.nd rfl (.inl rfl) (pe_op op_cat (pv 4) (pe_listRg rfl (by rfl) m_list (prg_2 (by rfl) m_range (pe_callB call_len_seq (by rfl) m_len PySem.boot_len (pa_cons (pv 4) pa_nil)) (pv 0)))))
    (pss_one (ps_ret (pe_tup (pa_cons (pv 3) (pa_cons (pe_callTy call_tuple_of (by rfl) m_tuple (by decide +kernel) (pa_cons (pv 5) pa_nil)) (pa_cons (pe_tupEnum (by rfl) m_tuple (by rfl) m_enumerate (pv 4)) (pa_cons pe_int pa_nil)))))))))), ?_⟩
  refine ⟨fun σ' H' => (∃ x', σ' = [some (.int k), some (.int held), some (.int a), some x', none, none] ∧ At K H' x' (encC (if a < held then .all [c, .less a (-1)] else c))) ∧ Ex T [] H H', ?_, ?_⟩
  · refine ⟨_, rfl, _, rfl, _, _, rfl, rfl, _, rfl, ?_⟩
    by_cases z : a < held
    · rw [decide_eq_true (show (a : Int) < held by omega), if_pos z]
      refine iteT ?_
      refine ⟨_, rfl, _, rfl, by show 3 ≤ sizeLine; decide, fun p1 n1 => ⟨by show 2 ≤ sizeLine; decide, fun p2 n2 => ⟨by show 2 ≤ sizeLine; decide, fun p3 n3 => ?_⟩⟩⟩
      have e1 := Ex.new (T := T) (ms := []) (o := HO.tup [.str "less", .int a, .int (-1)]) n1
      have a1 := At.laid (K := K) (xs := [.str "less", .int a, .int (-1)]) n1 (Ats.mk (at_str.mpr rfl) (Ats.mk (at_int.mpr rfl) (Ats.mk (at_int.mpr rfl) Ats.mk_nil)))
      have a2 := At.laid (K := K) (xs := [x, .ref p1]) n2 (Ats.mk (hx.ext e1) (Ats.mk a1 Ats.mk_nil))
      have a3 := At.laid (K := K) (xs := [.str "all", .ref p2]) n3 (Ats.mk (at_str.mpr rfl) (Ats.mk a2 Ats.mk_nil))
      refine ⟨⟨_, rfl, ?_⟩, (e1.trans (Ex.new n2)).trans (Ex.new n3)⟩
      have e : encC (.all [c, .less a (-1)]) = .tup [.str "all", .tup [encC c, .tup [.str "less", .int a, .int (-1)]]] := by simp only [encC, encCs]
      rw [e]
      exact a3
    · rw [decide_eq_false (show ¬ (a : Int) < held by omega), if_neg z]
      exact iteF ⟨⟨x, rfl, hx⟩, Ex.refl⟩
  rintro σ1 H1 ⟨⟨x', rfl, hx'⟩, ex1⟩
  have rg : ∀ i j : Nat, rgV (i : Int) (j : Int) = ((List.range' i (j - i)).map fun (z : Nat) => (z : Int)).map V.int := fun i j => by
    unfold rgV
    rw [show ((j : Int) - (i : Int)).toNat = j - i by omega]
    refine List.ext_getElem (by simp) fun z h1 h2 => ?_
    rw [List.getElem_map, List.getElem_map, List.getElem_map, List.getElem_range, List.getElem_range']
    congr 1
    omega
  have wd1 := ex1.wd wd
  refine ⟨_, rfl, _, rfl, RgOk.of_le (by decide) (by omega) (by decide) (by omega), fun p1 n1 => ⟨by show 1 ≤ sizeLine; decide, fun p2 n2 => ?_⟩⟩
  have e1 := Ex.new (T := T) (ms := []) (o := HO.lst (rgV 0 (a : Int))) n1
  have e2 := e1.trans (Ex.new (T := T) (ms := []) (o := HO.lst [.int (-1)]) n2)
  refine ⟨p1, p2, _, _, rfl, rfl, (Ex.new (T := T) (ms := []) n2).lst (by simp) upd_same, upd_same, ?_, fun p3 n3 => ?_⟩
  · rw [rgV_length]
    show _ + 1 ≤ sizeLine
    unfold sizeLine
    omega
  refine ⟨_, rfl, _, rfl, _, _, rfl, rfl, RgOk.of_le (by omega) (by omega) (by omega) (by omega), fun p4 n4 => ?_⟩
  refine ⟨p3, p4, _, _, rfl, rfl, (Ex.new (T := T) (ms := []) n4).lst (by simp) upd_same, upd_same, ?_, fun p5 n5 => ?_⟩
  · rw [List.length_append, rgV_length, rgV_length]
    show _ + 1 + _ ≤ sizeLine
    unfold sizeLine
    omega
  have e6 := ((e2.trans (Ex.new (T := T) (ms := []) (o := HO.lst (rgV 0 (a : Int) ++ [.int (-1)])) n3)).trans (Ex.new (T := T) (ms := []) (o := HO.lst (rgV (a : Int) (held : Int))) n4)).trans (Ex.new (T := T) (ms := []) (o := HO.lst (rgV 0 (a : Int) ++ [.int (-1)] ++ rgV (a : Int) (held : Int))) n5)
  refine ⟨_, rfl, (k : Int), rfl, p5, _, rfl, SqL.of upd_same, fun p6 n6 => ?_⟩
  have es : cutV (rgV 0 (a : Int) ++ [.int (-1)] ++ rgV (a : Int) (held : Int)) none (some (k : Int)) = (srcK k held a).map V.int := by
    rw [cut_take (by omega), Int.toNat_natCast]
    have r0 := rg 0 a
    rw [Nat.sub_zero, ← List.range_eq_range'] at r0
    unfold srcK
    rw [List.map_take, List.map_append, List.map_append, ← rg a held, ← r0]
    rfl
  rw [es]
  have e7 := e6.trans (Ex.new (T := T) (ms := []) (o := HO.lst ((srcK k held a).map V.int)) n6)
  have sl := src_le k held a
  refine ⟨_, rfl, _, rfl, p6, _, rfl, .inl (SqL.of upd_same), _, rfl, _, _, rfl, rfl, RgOk.of_le (by omega) (by omega) (by rw [List.length_map]; omega) (by omega), fun p7 n7 => ?_⟩
  refine ⟨p6, p7, _, _, rfl, rfl, (Ex.new (T := T) (ms := []) n7).lst (by simp) upd_same, upd_same, ?_, fun p8 n8 => ?_⟩
  · rw [List.length_map, rgV_length]
    unfold sizeLine
    omega
  have em : (srcK k held a).map V.int ++ rgV (((srcK k held a).map V.int).length : Nat) (k : Int) = (movK k held a).map V.int := by
    unfold movK
    rw [List.map_append, rg, List.length_map]
  rw [em]
  have f8 := (Ex.new (T := T) (ms := []) (o := HO.lst (rgV (((srcK k held a).map V.int).length : Nat) (k : Int))) n7).trans (Ex.new (T := T) (ms := []) (o := HO.lst ((movK k held a).map V.int)) n8)
  have e9 := e7.trans f8
  have h6 := f8.lst (p := p6) (by simp) upd_same
  refine ⟨_, rfl, _, rfl, p8, _, rfl, .inl ⟨SqL.of upd_same, fun p9 n9 => ?_⟩⟩
  have f9 := Ex.new (T := T) (ms := []) (o := HO.tup ((movK k held a).map V.int)) n9
  have am := At.laid (K := K) n9 (ats_int.mpr (rfl : (movK k held a).map V.int = _))
  refine ⟨_, rfl, p6, _, rfl, SqL.of (f9.lst (by simp) h6), by rw [List.length_map]; omega, fun H' p ts kp _ _ _ hp pr => ?_⟩
  have f10 : Ex T [] _ H' := Ex.of_ext kp
  have ae := enum_at (K := K) hp pr
  refine ⟨by show 4 ≤ sizeLine; decide, fun p11 n11 => ?_⟩
  refine q _ _ (At.laid n11 (Ats.mk (hx'.ext ((e9.trans f9).trans f10)) (Ats.mk (am.ext f10) (Ats.mk ae (Ats.mk (at_int.mpr rfl) Ats.mk_nil))))) ?_
  exact ((ex1.trans ((e9.trans f9).trans f10)).trans (Ex.new n11))

abbrev N_records : List Str := ["greater"]
theorem sc_records : FnScope N_records [] (defScope s_records) := ⟨rfl, rfl, rfl, by decide +kernel, rfl, by decide +kernel, by decide +kernel⟩
def recM_D : D := (.tup [.int 1, (.int 1), .tup [.tup [(.tup [(.tup [(.tup [(.str "any"), (.tup [(.tup [(.str "empty"), (.int 0)]), (.tup [(.str "less"), (.int 0), (.int (-1))])])]), (.tup [(.int (-1))]), (.tup [(.tup [(.int 0), (.int (-1))])]), (.int 0)])])]]])
theorem recM_enc : Dv.encM recM = recM_D := by
  unfold Dv.encM recM recM_D
  simp only [encSt, encCases, encCase, List.map_cons, List.map_nil, encSay, encC, encCs]
  rfl
def sp_records (K : PySem.W.Frag) (T : List Addr) : Sp := fun vs H Q _ => vs = [] ∧ ∀ v H', At K H' v (Dv.encM recM) → Ex T [] H H' → Q v H'
theorem ok_records {f : Addr} {fd : FuncData} {k : Nat} {T : List Addr} (F : Fun K "records" "records" s_records f fd) {a_FIRST_ENTRY : Addr} (m_FIRST_ENTRY : mg "FIRST_ENTRY" = some (.ref a_FIRST_ENTRY)) (q_FIRST_ENTRY : ∀ H, SqT K H a_FIRST_ENTRY [.str "empty", .int (0)]) {t_NEW : Tok} (m_NEW : mg "NEW" = some (.int (-1) t_NEW))
    {a__reader : Addr} {d__reader : FuncData} (G__reader : FnOk P w K mg base CX0 k a__reader d__reader ["registers", "cases"] (sp__reader K T)) (k__reader : PySem.W.keepIn K (.ref a__reader) = true) (b__reader : Binds K d__reader ["registers", "cases"] []) (m__reader : mg "_reader" = some (.ref a__reader)) :
    FnOk P w K mg base CX0 (k + 1) f fd [] (sp_records K T) := by
  refine F.ok sc_records (fun vs H Q E h => ?_) (fun cdv A outer s H vs Q E hr h => ?_)
  · obtain ⟨rfl, _⟩ := h
    rfl
  obtain ⟨rfl, q⟩ := h
  rw [recM_enc] at q
  refine ⟨_, (pss_cons (ps_set (i := 0) sc_records.nd rfl (.inl rfl) (pe_tup (pa_cons pe_str (pa_cons (pe_tup (pa_cons (pe_glob (v := .ref a_FIRST_ENTRY) rfl m_FIRST_ENTRY rfl) (pa_cons (pe_tup (pa_cons pe_str (pa_cons pe_int (pa_cons (pe_glob (v := .int (-1)) rfl m_NEW ⟨_, rfl⟩) pa_nil)))) pa_nil))) pa_nil))))
    (pss_one (ps_ret (pe_call G__reader hr (by rfl) m__reader k__reader b__reader .nil pass0 (pa_cons pe_int (pa_cons (pe_tup (pa_cons (pe_tup (pa_cons (pv 0) (pa_cons (pe_tup (pa_cons (pe_glob (v := .int (-1)) rfl m_NEW ⟨_, rfl⟩) pa_nil)) (pa_cons (pe_tup (pa_cons (pe_tup (pa_cons pe_int (pa_cons (pe_glob (v := .int (-1)) rfl m_NEW ⟨_, rfl⟩) pa_nil))) pa_nil)) (pa_cons pe_int pa_nil))))) pa_nil)) pa_nil)))))), ?_⟩
  have gl_FIRST_ENTRY : ∀ H, At K H (.ref a_FIRST_ENTRY) (.tup [.str "empty", .int 0]) := fun H => at_tup.mpr ⟨_, _, rfl, q_FIRST_ENTRY H, (Ats.mk (at_str.mpr rfl) (Ats.mk (at_int.mpr rfl) Ats.mk_nil))⟩
  refine ⟨by show 3 ≤ sizeLine; decide, fun p0 n0 => ?_⟩
  have a0 := At.laid (K := K) (xs := [.str "less", .int 0, .int (-1)]) n0 (Ats.mk (at_str.mpr rfl) (Ats.mk (at_int.mpr rfl) (Ats.mk (at_int.mpr rfl) Ats.mk_nil)))
  have e0 := Ex.new (T := T) (ms := []) (o := HO.tup [.str "less", .int 0, .int (-1)]) n0
  refine ⟨by show 2 ≤ sizeLine; decide, fun p1 n1 => ?_⟩
  have a1 := At.laid (K := K) (xs := [.ref a_FIRST_ENTRY, .ref p0]) n1 (Ats.mk (gl_FIRST_ENTRY _) (Ats.mk a0 Ats.mk_nil))
  have e1 := Ex.new (T := T) (ms := []) (o := HO.tup [.ref a_FIRST_ENTRY, .ref p0]) n1
  refine ⟨by show 2 ≤ sizeLine; decide, fun p2 n2 => ?_⟩
  have a2 := At.laid (K := K) (xs := [.str "any", .ref p1]) n2 (Ats.mk (at_str.mpr rfl) (Ats.mk a1 Ats.mk_nil))
  have e2 := Ex.new (T := T) (ms := []) (o := HO.tup [.str "any", .ref p1]) n2
  refine ⟨_, rfl, ?_⟩
  refine ⟨by show 1 ≤ sizeLine; decide, fun p3 n3 => ?_⟩
  have a3 := At.laid (K := K) (xs := [.int (-1)]) n3 (Ats.mk (at_int.mpr rfl) Ats.mk_nil)
  have e3 := Ex.new (T := T) (ms := []) (o := HO.tup [.int (-1)]) n3
  refine ⟨by show 2 ≤ sizeLine; decide, fun p4 n4 => ?_⟩
  have a4 := At.laid (K := K) (xs := [.int 0, .int (-1)]) n4 (Ats.mk (at_int.mpr rfl) (Ats.mk (at_int.mpr rfl) Ats.mk_nil))
  have e4 := Ex.new (T := T) (ms := []) (o := HO.tup [.int 0, .int (-1)]) n4
  refine ⟨by show 1 ≤ sizeLine; decide, fun p5 n5 => ?_⟩
  have a5 := At.laid (K := K) (xs := [.ref p4]) n5 (Ats.mk a4 Ats.mk_nil)
  have e5 := Ex.new (T := T) (ms := []) (o := HO.tup [.ref p4]) n5
  refine ⟨by show 4 ≤ sizeLine; decide, fun p6 n6 => ?_⟩
  have a6 := At.laid (K := K) (xs := [.ref p2, .ref p3, .ref p5, .int 0]) n6 (Ats.mk (((a2.ext e3).ext e4).ext e5) (Ats.mk ((a3.ext e4).ext e5) (Ats.mk a5 (Ats.mk (at_int.mpr rfl) Ats.mk_nil))))
  have e6 := Ex.new (T := T) (ms := []) (o := HO.tup [.ref p2, .ref p3, .ref p5, .int 0]) n6
  refine ⟨by show 1 ≤ sizeLine; decide, fun p7 n7 => ?_⟩
  have a7 := At.laid (K := K) (xs := [.ref p6]) n7 (Ats.mk a6 Ats.mk_nil)
  have e7 := Ex.new (T := T) (ms := []) (o := HO.tup [.ref p6]) n7
  exact ⟨_, _, _, rfl, a7, fun v H' at' e' => q v H' (by show At K H' v recM_D; exact at') ((((((((e0.trans e1).trans e2).trans e3).trans e4).trans e5).trans e6).trans e7).trans e')⟩

abbrev N_top_list : List Str := ["k", "cases", "held", "at"]
theorem sc_top_list : FnScope N_top_list ["k"] (defScope s_top_list) := ⟨rfl, rfl, rfl, by decide +kernel, rfl, by decide +kernel, by decide +kernel⟩
def sp_top_list (K : PySem.W.Frag) (T : List Addr) : Sp := fun vs H Q _ => ∃ (k : Nat), vs = [.int k] ∧ 1 ≤ k ∧ k ≤ 6 ∧ Wd T H ∧
  ∀ v H', At K H' v (encM (topM k)) → Ex T [] H H' → Q v H'
theorem ok_top_list {f : Addr} {fd : FuncData} {k : Nat} {T : List Addr} (F : Fun K "top_list" "top_list" s_top_list f fd) (m_range : mg "range" = none) (m_tuple : mg "tuple" = none) {a_TRUE_built : Addr} (m_TRUE_built : mg "TRUE_built" = some (.ref a_TRUE_built)) (q_TRUE_built : ∀ H, SqT K H a_TRUE_built [.str "true"])
    {a__put_at : Addr} {d__put_at : FuncData} (G__put_at : FnOk P w K mg base CX0 k a__put_at d__put_at ["k", "held", "at", "condition"] (sp__put_at K T)) (k__put_at : PySem.W.keepIn K (.ref a__put_at) = true) (b__put_at : Binds K d__put_at ["k", "held", "at", "condition"] []) (m__put_at : mg "_put_at" = some (.ref a__put_at))
    {a__reader : Addr} {d__reader : FuncData} (G__reader : FnOk P w K mg base CX0 k a__reader d__reader ["registers", "cases"] (sp__reader K T)) (k__reader : PySem.W.keepIn K (.ref a__reader) = true) (b__reader : Binds K d__reader ["registers", "cases"] []) (m__reader : mg "_reader" = some (.ref a__reader)) :
    FnOk P w K mg base CX0 (k + 1) f fd ["k"] (sp_top_list K T) := by
  refine F.ok sc_top_list (fun vs H Q E h => ?_) (fun cdv A outer s H vs Q E hr h => ?_)
  · obtain ⟨k, rfl, _⟩ := h
    rfl
  obtain ⟨k, rfl, k1, k6, wd, q⟩ := h
  refine ⟨_, (pss_cons (ps_set (i := 1) sc_top_list.nd rfl (.inl rfl) (pe_lst pa_nil))
    (pss_cons (ps_for PassesOwn.never rfl (pi_range1 rfl m_range (pa_cons (pv 0) pa_nil)) (pg_name (i := 2) sc_top_list.nd rfl (.inr rfl))
      (pss_one (ps_expr (pe_bm PySem.F.plainAttrs_list PySem.F.slot_list_extend PySem.F.type_list_extend mt_extend (pv 1) (pa_cons (pe_lc (own := [("at", 3)]) (g := (gName 3)) (tt := tYes) rfl sc_top_list.nd (pi_range1 rfl m_range (pa_cons (pe_op op_add (pv 2) pe_int) pa_nil)) (blkOk_by (N := N_top_list) (sc := defScope s_top_list) (by decide +kernel))
        (fun _ _ _ _ _ => (pg_name (i := 3) sc_top_list.nd rfl (.inl rfl))) (fun _ _ _ _ _ => pts_nil)
        (fun _ _ _ _ _ => (pe_call G__put_at hr (by rfl) m__put_at k__put_at b__put_at .nil pass0 (pa_cons (pv 0) (pa_cons (pv 2) (pa_cons (pv 3) (pa_cons (pe_tup (pa_cons pe_str (pa_cons (pv 2) pa_nil))) pa_nil))))))) pa_nil)))))
    (pss_cons (ps_expr (pe_bm PySem.F.plainAttrs_list PySem.F.slot_list_extend PySem.F.type_list_extend mt_extend (pv 1) (pa_cons (pe_lc (own := [("at", 3)]) (g := (gName 3)) (tt := tYes) rfl sc_top_list.nd (pi_range1 rfl m_range (pa_cons (pe_op op_add (pv 0) pe_int) pa_nil)) (blkOk_by (N := N_top_list) (sc := defScope s_top_list) (by decide +kernel))
        (fun _ _ _ _ _ => (pg_name (i := 3) sc_top_list.nd rfl (.inl rfl))) (fun _ _ _ _ _ => pts_nil)
        (fun _ _ _ _ _ => (pe_call G__put_at hr (by rfl) m__put_at k__put_at b__put_at .nil pass0 (pa_cons (pv 0) (pa_cons (pv 0) (pa_cons (pv 3) (pa_cons (pe_glob (v := .ref a_TRUE_built) rfl m_TRUE_built rfl) pa_nil))))))) pa_nil)))
    (pss_one (ps_ret (pe_call G__reader hr (by rfl) m__reader k__reader b__reader .nil pass0 (pa_cons (pv 0) (pa_cons (pe_callTy call_tuple_of (by rfl) m_tuple (by decide +kernel) (pa_cons (pv 1) pa_nil)) pa_nil)))))))), ?_⟩
  refine ⟨Nat.zero_le _, fun F0 nF => ?_⟩
  refine ⟨_, rfl, _, rfl, by omega, by omega, for_range (lo := 0) (n := k) (fun i σ' H' => (∃ y2, σ' = [some (.int (k : Nat)), some (.ref F0), y2, none]) ∧ Col K T [] F0 H H' (((List.range i).flatMap fun held => grpK k held (.emp held)).map encCase)) ⟨⟨_, rfl⟩, Col.start Ex.refl nF⟩ ?_ ?_⟩
  · rintro i σ' H1 hi ⟨⟨y2, rfl⟩, cl⟩
    have wd1 := cl.1.wd wd
    obtain ⟨xs0, hF0⟩ := (show ∃ xs0, H1 F0 = some (.lst xs0) from let ⟨_, xs, h, _⟩ := cl; ⟨xs, h⟩)
    refine ⟨_, rfl, .inl ⟨rfl, _, .inl (.inl hF0)⟩, _, rfl, _, _, rfl, rfl, ((i : Int) + 1), by rw [Int.zero_add], by omega, by omega, fun D nD => lc_range (lo := 0) (n := ((i : Int) + 1).toNat) (fun j H2 => Col K T [] D H1 H2 (((List.range j).map fun z => putK' k i z (.emp i)).map encCase)) (Col.start Ex.refl nD) ?_ ?_⟩
    · rintro j H2 hj cl2
      refine ⟨wipe1, yesIf ⟨_, rfl, _, rfl, _, rfl, _, rfl, by show 2 ≤ sizeLine; decide, fun p np => ?_⟩⟩
      have ep := Ex.new (T := T) (ms := []) (o := HO.tup [.str "empty", .int (0 + (i : Nat))]) np
      have ap := At.laid (K := K) (xs := [.str "empty", .int (0 + (i : Nat))]) (ds := [.str "empty", .int (i : Nat)]) np (Ats.mk (at_str.mpr rfl) (Ats.mk (at_int.mpr (by rw [Int.zero_add])) Ats.mk_nil))
      have ec : encC (.emp (i : Nat)) = .tup [.str "empty", .int (i : Nat)] := by simp only [encC]
      rw [← ec] at ap
      refine ⟨k, i, j, .ref p, .emp i, by rw [Int.zero_add, Int.zero_add]; rfl, ap, k6, by omega, by omega, ep.wd (cl2.1.wd wd1), fun v H3 at3 ex3 => ?_⟩
      obtain ⟨acc, z1, z2, z3⟩ := cl2.put nD (by simp) wd1 (ep.trans ex3) at3 (by rw [List.length_map, List.length_map, List.length_range]; omega)
      refine ⟨acc, z1, z2, ?_⟩
      rw [← grp_take, List.map_append]
      exact z3
    · rintro H2 ⟨exs, xs2, hD2, ats2⟩
      obtain ⟨acc, z1, z2, z3⟩ := cl.puts nF (by simp) wd exs ats2
      have hb := groups_len k i
      have hb2 : i * (i + 1) ≤ 1000 := by
        have : i * (i + 1) ≤ 6 * 7 := Nat.mul_le_mul (by omega) (by omega)
        omega
      refine ⟨F0, D, _, _, rfl, rfl, z1, hD2, ?_, ⟨_, rfl⟩, ?_⟩
      · have := ats2.length
        rw [List.length_map, List.length_map, List.length_range] at this
        rw [List.length_map] at z2
        unfold sizeLine
        omega
      · have e : (List.range (i + 1)).flatMap (fun held => grpK k held (.emp held)) = (List.range i).flatMap (fun held => grpK k held (.emp held)) ++ (List.range ((i : Int) + 1).toNat).map fun z => putK' k i z (.emp i) := by
          rw [List.range_succ, List.flatMap_append, show ((i : Int) + 1).toNat = i + 1 by omega]
          show _ ++ (grpK k i (.emp i) ++ []) = _
          rw [List.append_nil]
          rfl
        rw [e, List.map_append]
        exact z3
  · rintro σ' H1 ⟨⟨y2, rfl⟩, cl⟩
    have wd1 := cl.1.wd wd
    obtain ⟨xs0, hF0⟩ := (show ∃ xs0, H1 F0 = some (.lst xs0) from let ⟨_, xs, h, _⟩ := cl; ⟨xs, h⟩)
    refine ⟨_, rfl, .inl ⟨rfl, _, .inl (.inl hF0)⟩, _, rfl, _, _, rfl, rfl, ((k : Int) + 1), rfl, by omega, by omega, fun D nD => lc_range (lo := 0) (n := ((k : Int) + 1).toNat) (fun j H2 => Col K T [] D H1 H2 (((List.range j).map fun z => putK' k k z .tru).map encCase)) (Col.start Ex.refl nD) ?_ ?_⟩
    · rintro j H2 hj cl2
      have at0 : At K H2 (.ref a_TRUE_built) (encC .tru) := by
        rw [show encC .tru = .tup [.str "true"] by simp only [encC]]
        exact at_tup.mpr ⟨_, _, rfl, q_TRUE_built H2, Ats.mk (at_str.mpr rfl) Ats.mk_nil⟩
      refine ⟨wipe1, yesIf ⟨_, rfl, _, rfl, _, rfl, ?_⟩⟩
      refine ⟨k, k, j, .ref a_TRUE_built, .tru, by rw [Int.zero_add]; rfl, at0, k6, by omega, by omega, cl2.1.wd wd1, fun v H3 at3 ex3 => ?_⟩
      obtain ⟨acc, z1, z2, z3⟩ := cl2.put nD (by simp) wd1 ex3 at3 (by rw [List.length_map, List.length_map, List.length_range]; omega)
      refine ⟨acc, z1, z2, ?_⟩
      rw [← grp_take, List.map_append]
      exact z3
    · rintro H2 ⟨exs, xs2, hD2, ats2⟩
      obtain ⟨acc, z1, z2, z3⟩ := cl.puts nF (by simp) wd exs ats2
      have hb := groups_len k k
      have hb2 : k * (k + 1) ≤ 1000 := by
        have : k * (k + 1) ≤ 6 * 7 := Nat.mul_le_mul (by omega) (by omega)
        omega
      refine ⟨F0, D, _, _, rfl, rfl, z1, hD2, ?_, ?_⟩
      · have := ats2.length
        rw [List.length_map, List.length_map, List.length_range] at this
        rw [List.length_map] at z2
        unfold sizeLine
        omega
      rw [← List.map_append] at z3
      obtain ⟨ex9, xs9, hF9, ats9⟩ := z3
      refine ⟨_, rfl, _, rfl, F0, _, rfl, .inl ⟨SqL.of hF9, fun l nl => ?_⟩⟩
      have al := At.laid (K := K) nl ats9
      refine ⟨(k : Nat), .ref l, _, rfl, al, fun v H4 at4 ex4 => ?_⟩
      refine q v H4 ?_ ((ex9.trans (Ex.new nl)).trans ex4)
      have e : encM (topM k) = .tup [.int 1, .int k, .tup [.tup [.tup ((topC k).map encCase)]]] := rfl
      rw [e]
      exact at4

abbrev N_band : List Str := []
theorem sc_band : FnScope N_band [] (defScope s_band) := ⟨rfl, rfl, rfl, by decide +kernel, rfl, by decide +kernel, by decide +kernel⟩
def bandM_D : D := (.tup [.int 1, (.int 2), .tup [.tup [(.tup [(.tup [(.tup [(.str "empty"), (.int 0)]), (.tup [(.int (-1)), (.int (-1))]), (.tup [(.tup [(.int 0), (.int (-1))]), (.tup [(.int 1), (.int (-1))])]), (.int 0)]), (.tup [(.tup [(.str "less"), (.int (-1)), (.int 0)]), (.tup [(.int (-1)), (.int 1)]), (.tup [(.tup [(.int 0), (.int (-1))]), (.tup [(.int 1), (.int 1)])]), (.int 0)]), (.tup [(.tup [(.str "less"), (.int 1), (.int (-1))]), (.tup [(.int 0), (.int (-1))]), (.tup [(.tup [(.int 0), (.int 0)]), (.tup [(.int 1), (.int (-1))])]), (.int 0)])])]]])
theorem bandM_enc : Dv.encM bandM = bandM_D := by
  unfold Dv.encM bandM bandM_D
  simp only [encSt, encCases, encCase, List.map_cons, List.map_nil, encSay, encC, encCs]
  rfl
def sp_band (K : PySem.W.Frag) (T : List Addr) : Sp := fun vs H Q _ => vs = [] ∧ ∀ v H', At K H' v (Dv.encM bandM) → Ex T [] H H' → Q v H'
theorem ok_band {f : Addr} {fd : FuncData} {k : Nat} {T : List Addr} (F : Fun K "band" "band" s_band f fd) {a_FIRST_ENTRY : Addr} (m_FIRST_ENTRY : mg "FIRST_ENTRY" = some (.ref a_FIRST_ENTRY)) (q_FIRST_ENTRY : ∀ H, SqT K H a_FIRST_ENTRY [.str "empty", .int (0)]) {t_NEW : Tok} (m_NEW : mg "NEW" = some (.int (-1) t_NEW))
    {a__reader : Addr} {d__reader : FuncData} (G__reader : FnOk P w K mg base CX0 k a__reader d__reader ["registers", "cases"] (sp__reader K T)) (k__reader : PySem.W.keepIn K (.ref a__reader) = true) (b__reader : Binds K d__reader ["registers", "cases"] []) (m__reader : mg "_reader" = some (.ref a__reader)) :
    FnOk P w K mg base CX0 (k + 1) f fd [] (sp_band K T) := by
  refine F.ok sc_band (fun vs H Q E h => ?_) (fun cdv A outer s H vs Q E hr h => ?_)
  · obtain ⟨rfl, _⟩ := h
    rfl
  obtain ⟨rfl, q⟩ := h
  rw [bandM_enc] at q
  refine ⟨_, (pss_one (ps_ret (pe_call G__reader hr (by rfl) m__reader k__reader b__reader .nil pass0 (pa_cons pe_int (pa_cons (pe_tup (pa_cons (pe_tup (pa_cons (pe_glob (v := .ref a_FIRST_ENTRY) rfl m_FIRST_ENTRY rfl) (pa_cons (pe_tup (pa_cons (pe_glob (v := .int (-1)) rfl m_NEW ⟨_, rfl⟩) (pa_cons (pe_glob (v := .int (-1)) rfl m_NEW ⟨_, rfl⟩) pa_nil))) (pa_cons (pe_tup (pa_cons (pe_tup (pa_cons pe_int (pa_cons (pe_glob (v := .int (-1)) rfl m_NEW ⟨_, rfl⟩) pa_nil))) (pa_cons (pe_tup (pa_cons pe_int (pa_cons (pe_glob (v := .int (-1)) rfl m_NEW ⟨_, rfl⟩) pa_nil))) pa_nil))) (pa_cons pe_int pa_nil))))) (pa_cons (pe_tup (pa_cons (pe_tup (pa_cons pe_str (pa_cons (pe_glob (v := .int (-1)) rfl m_NEW ⟨_, rfl⟩) (pa_cons pe_int pa_nil)))) (pa_cons (pe_tup (pa_cons (pe_glob (v := .int (-1)) rfl m_NEW ⟨_, rfl⟩) (pa_cons pe_int pa_nil))) (pa_cons (pe_tup (pa_cons (pe_tup (pa_cons pe_int (pa_cons (pe_glob (v := .int (-1)) rfl m_NEW ⟨_, rfl⟩) pa_nil))) (pa_cons (pe_tup (pa_cons pe_int (pa_cons pe_int pa_nil))) pa_nil))) (pa_cons pe_int pa_nil))))) (pa_cons (pe_tup (pa_cons (pe_tup (pa_cons pe_str (pa_cons pe_int (pa_cons (pe_glob (v := .int (-1)) rfl m_NEW ⟨_, rfl⟩) pa_nil)))) (pa_cons (pe_tup (pa_cons pe_int (pa_cons (pe_glob (v := .int (-1)) rfl m_NEW ⟨_, rfl⟩) pa_nil))) (pa_cons (pe_tup (pa_cons (pe_tup (pa_cons pe_int (pa_cons pe_int pa_nil))) (pa_cons (pe_tup (pa_cons pe_int (pa_cons (pe_glob (v := .int (-1)) rfl m_NEW ⟨_, rfl⟩) pa_nil))) pa_nil))) (pa_cons pe_int pa_nil))))) pa_nil)))) pa_nil))))), ?_⟩
  have gl_FIRST_ENTRY : ∀ H, At K H (.ref a_FIRST_ENTRY) (.tup [.str "empty", .int 0]) := fun H => at_tup.mpr ⟨_, _, rfl, q_FIRST_ENTRY H, (Ats.mk (at_str.mpr rfl) (Ats.mk (at_int.mpr rfl) Ats.mk_nil))⟩
  refine ⟨by show 2 ≤ sizeLine; decide, fun p0 n0 => ?_⟩
  have a0 := At.laid (K := K) (xs := [.int (-1), .int (-1)]) n0 (Ats.mk (at_int.mpr rfl) (Ats.mk (at_int.mpr rfl) Ats.mk_nil))
  have e0 := Ex.new (T := T) (ms := []) (o := HO.tup [.int (-1), .int (-1)]) n0
  refine ⟨by show 2 ≤ sizeLine; decide, fun p1 n1 => ?_⟩
  have a1 := At.laid (K := K) (xs := [.int 0, .int (-1)]) n1 (Ats.mk (at_int.mpr rfl) (Ats.mk (at_int.mpr rfl) Ats.mk_nil))
  have e1 := Ex.new (T := T) (ms := []) (o := HO.tup [.int 0, .int (-1)]) n1
  refine ⟨by show 2 ≤ sizeLine; decide, fun p2 n2 => ?_⟩
  have a2 := At.laid (K := K) (xs := [.int 1, .int (-1)]) n2 (Ats.mk (at_int.mpr rfl) (Ats.mk (at_int.mpr rfl) Ats.mk_nil))
  have e2 := Ex.new (T := T) (ms := []) (o := HO.tup [.int 1, .int (-1)]) n2
  refine ⟨by show 2 ≤ sizeLine; decide, fun p3 n3 => ?_⟩
  have a3 := At.laid (K := K) (xs := [.ref p1, .ref p2]) n3 (Ats.mk (a1.ext e2) (Ats.mk a2 Ats.mk_nil))
  have e3 := Ex.new (T := T) (ms := []) (o := HO.tup [.ref p1, .ref p2]) n3
  refine ⟨by show 4 ≤ sizeLine; decide, fun p4 n4 => ?_⟩
  have a4 := At.laid (K := K) (xs := [.ref a_FIRST_ENTRY, .ref p0, .ref p3, .int 0]) n4 (Ats.mk (gl_FIRST_ENTRY _) (Ats.mk (((a0.ext e1).ext e2).ext e3) (Ats.mk a3 (Ats.mk (at_int.mpr rfl) Ats.mk_nil))))
  have e4 := Ex.new (T := T) (ms := []) (o := HO.tup [.ref a_FIRST_ENTRY, .ref p0, .ref p3, .int 0]) n4
  refine ⟨by show 3 ≤ sizeLine; decide, fun p5 n5 => ?_⟩
  have a5 := At.laid (K := K) (xs := [.str "less", .int (-1), .int 0]) n5 (Ats.mk (at_str.mpr rfl) (Ats.mk (at_int.mpr rfl) (Ats.mk (at_int.mpr rfl) Ats.mk_nil)))
  have e5 := Ex.new (T := T) (ms := []) (o := HO.tup [.str "less", .int (-1), .int 0]) n5
  refine ⟨by show 2 ≤ sizeLine; decide, fun p6 n6 => ?_⟩
  have a6 := At.laid (K := K) (xs := [.int (-1), .int 1]) n6 (Ats.mk (at_int.mpr rfl) (Ats.mk (at_int.mpr rfl) Ats.mk_nil))
  have e6 := Ex.new (T := T) (ms := []) (o := HO.tup [.int (-1), .int 1]) n6
  refine ⟨by show 2 ≤ sizeLine; decide, fun p7 n7 => ?_⟩
  have a7 := At.laid (K := K) (xs := [.int 0, .int (-1)]) n7 (Ats.mk (at_int.mpr rfl) (Ats.mk (at_int.mpr rfl) Ats.mk_nil))
  have e7 := Ex.new (T := T) (ms := []) (o := HO.tup [.int 0, .int (-1)]) n7
  refine ⟨by show 2 ≤ sizeLine; decide, fun p8 n8 => ?_⟩
  have a8 := At.laid (K := K) (xs := [.int 1, .int 1]) n8 (Ats.mk (at_int.mpr rfl) (Ats.mk (at_int.mpr rfl) Ats.mk_nil))
  have e8 := Ex.new (T := T) (ms := []) (o := HO.tup [.int 1, .int 1]) n8
  refine ⟨by show 2 ≤ sizeLine; decide, fun p9 n9 => ?_⟩
  have a9 := At.laid (K := K) (xs := [.ref p7, .ref p8]) n9 (Ats.mk (a7.ext e8) (Ats.mk a8 Ats.mk_nil))
  have e9 := Ex.new (T := T) (ms := []) (o := HO.tup [.ref p7, .ref p8]) n9
  refine ⟨by show 4 ≤ sizeLine; decide, fun p10 n10 => ?_⟩
  have a10 := At.laid (K := K) (xs := [.ref p5, .ref p6, .ref p9, .int 0]) n10 (Ats.mk ((((a5.ext e6).ext e7).ext e8).ext e9) (Ats.mk (((a6.ext e7).ext e8).ext e9) (Ats.mk a9 (Ats.mk (at_int.mpr rfl) Ats.mk_nil))))
  have e10 := Ex.new (T := T) (ms := []) (o := HO.tup [.ref p5, .ref p6, .ref p9, .int 0]) n10
  refine ⟨by show 3 ≤ sizeLine; decide, fun p11 n11 => ?_⟩
  have a11 := At.laid (K := K) (xs := [.str "less", .int 1, .int (-1)]) n11 (Ats.mk (at_str.mpr rfl) (Ats.mk (at_int.mpr rfl) (Ats.mk (at_int.mpr rfl) Ats.mk_nil)))
  have e11 := Ex.new (T := T) (ms := []) (o := HO.tup [.str "less", .int 1, .int (-1)]) n11
  refine ⟨by show 2 ≤ sizeLine; decide, fun p12 n12 => ?_⟩
  have a12 := At.laid (K := K) (xs := [.int 0, .int (-1)]) n12 (Ats.mk (at_int.mpr rfl) (Ats.mk (at_int.mpr rfl) Ats.mk_nil))
  have e12 := Ex.new (T := T) (ms := []) (o := HO.tup [.int 0, .int (-1)]) n12
  refine ⟨by show 2 ≤ sizeLine; decide, fun p13 n13 => ?_⟩
  have a13 := At.laid (K := K) (xs := [.int 0, .int 0]) n13 (Ats.mk (at_int.mpr rfl) (Ats.mk (at_int.mpr rfl) Ats.mk_nil))
  have e13 := Ex.new (T := T) (ms := []) (o := HO.tup [.int 0, .int 0]) n13
  refine ⟨by show 2 ≤ sizeLine; decide, fun p14 n14 => ?_⟩
  have a14 := At.laid (K := K) (xs := [.int 1, .int (-1)]) n14 (Ats.mk (at_int.mpr rfl) (Ats.mk (at_int.mpr rfl) Ats.mk_nil))
  have e14 := Ex.new (T := T) (ms := []) (o := HO.tup [.int 1, .int (-1)]) n14
  refine ⟨by show 2 ≤ sizeLine; decide, fun p15 n15 => ?_⟩
  have a15 := At.laid (K := K) (xs := [.ref p13, .ref p14]) n15 (Ats.mk (a13.ext e14) (Ats.mk a14 Ats.mk_nil))
  have e15 := Ex.new (T := T) (ms := []) (o := HO.tup [.ref p13, .ref p14]) n15
  refine ⟨by show 4 ≤ sizeLine; decide, fun p16 n16 => ?_⟩
  have a16 := At.laid (K := K) (xs := [.ref p11, .ref p12, .ref p15, .int 0]) n16 (Ats.mk ((((a11.ext e12).ext e13).ext e14).ext e15) (Ats.mk (((a12.ext e13).ext e14).ext e15) (Ats.mk a15 (Ats.mk (at_int.mpr rfl) Ats.mk_nil))))
  have e16 := Ex.new (T := T) (ms := []) (o := HO.tup [.ref p11, .ref p12, .ref p15, .int 0]) n16
  refine ⟨by show 3 ≤ sizeLine; decide, fun p17 n17 => ?_⟩
  have a17 := At.laid (K := K) (xs := [.ref p4, .ref p10, .ref p16]) n17 (Ats.mk ((((((((((((a4.ext e5).ext e6).ext e7).ext e8).ext e9).ext e10).ext e11).ext e12).ext e13).ext e14).ext e15).ext e16) (Ats.mk ((((((a10.ext e11).ext e12).ext e13).ext e14).ext e15).ext e16) (Ats.mk a16 Ats.mk_nil)))
  have e17 := Ex.new (T := T) (ms := []) (o := HO.tup [.ref p4, .ref p10, .ref p16]) n17
  exact ⟨_, _, _, rfl, a17, fun v H' at' e' => q v H' (by show At K H' v bandM_D; exact at') ((((((((((((((((((e0.trans e1).trans e2).trans e3).trans e4).trans e5).trans e6).trans e7).trans e8).trans e9).trans e10).trans e11).trans e12).trans e13).trans e14).trans e15).trans e16).trans e17).trans e')⟩

abbrev N_turning_points : List Str := ["peak", "valley"]
theorem sc_turning_points : FnScope N_turning_points [] (defScope s_turning_points) := ⟨rfl, rfl, rfl, by decide +kernel, rfl, by decide +kernel, by decide +kernel⟩
def turnsM_D : D := (.tup [.int 1, (.int 2), .tup [.tup [(.tup [(.tup [(.tup [(.str "all"), (.tup [(.tup [(.str "less"), (.int 0), (.int 1)]), (.tup [(.str "less"), (.int (-1)), (.int 1)])])]), (.tup [(.int 1), (.int (-1))]), (.tup [(.tup [(.int 0), (.int 1)])]), (.int 0)]), (.tup [(.tup [(.str "all"), (.tup [(.tup [(.str "less"), (.int 1), (.int 0)]), (.tup [(.str "less"), (.int 1), (.int (-1))])])]), (.tup [(.int 1), (.int (-1))]), (.tup [(.tup [(.int 1), (.int 1)])]), (.int 0)]), (.tup [(.tup [(.str "true")]), (.tup [(.int 1), (.int (-1))]), (.tup []), (.int 0)])])]]])
theorem turnsM_enc : Dv.encM turnsM = turnsM_D := by
  unfold Dv.encM turnsM turnsM_D
  simp only [encSt, encCases, encCase, List.map_cons, List.map_nil, encSay, encC, encCs]
  rfl
def sp_turning_points (K : PySem.W.Frag) (T : List Addr) : Sp := fun vs H Q _ => vs = [] ∧ ∀ v H', At K H' v (Dv.encM turnsM) → Ex T [] H H' → Q v H'
theorem ok_turning_points {f : Addr} {fd : FuncData} {k : Nat} {T : List Addr} (F : Fun K "turning_points" "turning_points" s_turning_points f fd) {t_NEW : Tok} (m_NEW : mg "NEW" = some (.int (-1) t_NEW)) {a_TRUE_built : Addr} (m_TRUE_built : mg "TRUE_built" = some (.ref a_TRUE_built)) (q_TRUE_built : ∀ H, SqT K H a_TRUE_built [.str "true"])
    {a__reader : Addr} {d__reader : FuncData} (G__reader : FnOk P w K mg base CX0 k a__reader d__reader ["registers", "cases"] (sp__reader K T)) (k__reader : PySem.W.keepIn K (.ref a__reader) = true) (b__reader : Binds K d__reader ["registers", "cases"] []) (m__reader : mg "_reader" = some (.ref a__reader)) :
    FnOk P w K mg base CX0 (k + 1) f fd [] (sp_turning_points K T) := by
  refine F.ok sc_turning_points (fun vs H Q E h => ?_) (fun cdv A outer s H vs Q E hr h => ?_)
  · obtain ⟨rfl, _⟩ := h
    rfl
  obtain ⟨rfl, q⟩ := h
  rw [turnsM_enc] at q
  refine ⟨_, (pss_cons (ps_set (i := 0) sc_turning_points.nd rfl (.inl rfl) (pe_tup (pa_cons pe_str (pa_cons (pe_tup (pa_cons (pe_tup (pa_cons pe_str (pa_cons pe_int (pa_cons pe_int pa_nil)))) (pa_cons (pe_tup (pa_cons pe_str (pa_cons (pe_glob (v := .int (-1)) rfl m_NEW ⟨_, rfl⟩) (pa_cons pe_int pa_nil)))) pa_nil))) pa_nil))))
    (pss_cons (ps_set (i := 1) sc_turning_points.nd rfl (.inl rfl) (pe_tup (pa_cons pe_str (pa_cons (pe_tup (pa_cons (pe_tup (pa_cons pe_str (pa_cons pe_int (pa_cons pe_int pa_nil)))) (pa_cons (pe_tup (pa_cons pe_str (pa_cons pe_int (pa_cons (pe_glob (v := .int (-1)) rfl m_NEW ⟨_, rfl⟩) pa_nil)))) pa_nil))) pa_nil))))
    (pss_one (ps_ret (pe_call G__reader hr (by rfl) m__reader k__reader b__reader .nil pass0 (pa_cons pe_int (pa_cons (pe_tup (pa_cons (pe_tup (pa_cons (pv 0) (pa_cons (pe_tup (pa_cons pe_int (pa_cons (pe_glob (v := .int (-1)) rfl m_NEW ⟨_, rfl⟩) pa_nil))) (pa_cons (pe_tup (pa_cons (pe_tup (pa_cons pe_int (pa_cons pe_int pa_nil))) pa_nil)) (pa_cons pe_int pa_nil))))) (pa_cons (pe_tup (pa_cons (pv 1) (pa_cons (pe_tup (pa_cons pe_int (pa_cons (pe_glob (v := .int (-1)) rfl m_NEW ⟨_, rfl⟩) pa_nil))) (pa_cons (pe_tup (pa_cons (pe_tup (pa_cons pe_int (pa_cons pe_int pa_nil))) pa_nil)) (pa_cons pe_int pa_nil))))) (pa_cons (pe_tup (pa_cons (pe_glob (v := .ref a_TRUE_built) rfl m_TRUE_built rfl) (pa_cons (pe_tup (pa_cons pe_int (pa_cons (pe_glob (v := .int (-1)) rfl m_NEW ⟨_, rfl⟩) pa_nil))) (pa_cons (pe_tup pa_nil) (pa_cons pe_int pa_nil))))) pa_nil)))) pa_nil))))))), ?_⟩
  have gl_TRUE : ∀ H, At K H (.ref a_TRUE_built) (.tup [.str "true"]) := fun H => at_tup.mpr ⟨_, _, rfl, q_TRUE_built H, (Ats.mk (at_str.mpr rfl) Ats.mk_nil)⟩
  refine ⟨by show 3 ≤ sizeLine; decide, fun p0 n0 => ?_⟩
  have a0 := At.laid (K := K) (xs := [.str "less", .int 0, .int 1]) n0 (Ats.mk (at_str.mpr rfl) (Ats.mk (at_int.mpr rfl) (Ats.mk (at_int.mpr rfl) Ats.mk_nil)))
  have e0 := Ex.new (T := T) (ms := []) (o := HO.tup [.str "less", .int 0, .int 1]) n0
  refine ⟨by show 3 ≤ sizeLine; decide, fun p1 n1 => ?_⟩
  have a1 := At.laid (K := K) (xs := [.str "less", .int (-1), .int 1]) n1 (Ats.mk (at_str.mpr rfl) (Ats.mk (at_int.mpr rfl) (Ats.mk (at_int.mpr rfl) Ats.mk_nil)))
  have e1 := Ex.new (T := T) (ms := []) (o := HO.tup [.str "less", .int (-1), .int 1]) n1
  refine ⟨by show 2 ≤ sizeLine; decide, fun p2 n2 => ?_⟩
  have a2 := At.laid (K := K) (xs := [.ref p0, .ref p1]) n2 (Ats.mk (a0.ext e1) (Ats.mk a1 Ats.mk_nil))
  have e2 := Ex.new (T := T) (ms := []) (o := HO.tup [.ref p0, .ref p1]) n2
  refine ⟨by show 2 ≤ sizeLine; decide, fun p3 n3 => ?_⟩
  have a3 := At.laid (K := K) (xs := [.str "all", .ref p2]) n3 (Ats.mk (at_str.mpr rfl) (Ats.mk a2 Ats.mk_nil))
  have e3 := Ex.new (T := T) (ms := []) (o := HO.tup [.str "all", .ref p2]) n3
  refine ⟨by show 3 ≤ sizeLine; decide, fun p4 n4 => ?_⟩
  have a4 := At.laid (K := K) (xs := [.str "less", .int 1, .int 0]) n4 (Ats.mk (at_str.mpr rfl) (Ats.mk (at_int.mpr rfl) (Ats.mk (at_int.mpr rfl) Ats.mk_nil)))
  have e4 := Ex.new (T := T) (ms := []) (o := HO.tup [.str "less", .int 1, .int 0]) n4
  refine ⟨by show 3 ≤ sizeLine; decide, fun p5 n5 => ?_⟩
  have a5 := At.laid (K := K) (xs := [.str "less", .int 1, .int (-1)]) n5 (Ats.mk (at_str.mpr rfl) (Ats.mk (at_int.mpr rfl) (Ats.mk (at_int.mpr rfl) Ats.mk_nil)))
  have e5 := Ex.new (T := T) (ms := []) (o := HO.tup [.str "less", .int 1, .int (-1)]) n5
  refine ⟨by show 2 ≤ sizeLine; decide, fun p6 n6 => ?_⟩
  have a6 := At.laid (K := K) (xs := [.ref p4, .ref p5]) n6 (Ats.mk (a4.ext e5) (Ats.mk a5 Ats.mk_nil))
  have e6 := Ex.new (T := T) (ms := []) (o := HO.tup [.ref p4, .ref p5]) n6
  refine ⟨by show 2 ≤ sizeLine; decide, fun p7 n7 => ?_⟩
  have a7 := At.laid (K := K) (xs := [.str "all", .ref p6]) n7 (Ats.mk (at_str.mpr rfl) (Ats.mk a6 Ats.mk_nil))
  have e7 := Ex.new (T := T) (ms := []) (o := HO.tup [.str "all", .ref p6]) n7
  refine ⟨_, rfl, ?_⟩
  refine ⟨by show 2 ≤ sizeLine; decide, fun p8 n8 => ?_⟩
  have a8 := At.laid (K := K) (xs := [.int 1, .int (-1)]) n8 (Ats.mk (at_int.mpr rfl) (Ats.mk (at_int.mpr rfl) Ats.mk_nil))
  have e8 := Ex.new (T := T) (ms := []) (o := HO.tup [.int 1, .int (-1)]) n8
  refine ⟨by show 2 ≤ sizeLine; decide, fun p9 n9 => ?_⟩
  have a9 := At.laid (K := K) (xs := [.int 0, .int 1]) n9 (Ats.mk (at_int.mpr rfl) (Ats.mk (at_int.mpr rfl) Ats.mk_nil))
  have e9 := Ex.new (T := T) (ms := []) (o := HO.tup [.int 0, .int 1]) n9
  refine ⟨by show 1 ≤ sizeLine; decide, fun p10 n10 => ?_⟩
  have a10 := At.laid (K := K) (xs := [.ref p9]) n10 (Ats.mk a9 Ats.mk_nil)
  have e10 := Ex.new (T := T) (ms := []) (o := HO.tup [.ref p9]) n10
  refine ⟨by show 4 ≤ sizeLine; decide, fun p11 n11 => ?_⟩
  have a11 := At.laid (K := K) (xs := [.ref p3, .ref p8, .ref p10, .int 0]) n11 (Ats.mk (((((((a3.ext e4).ext e5).ext e6).ext e7).ext e8).ext e9).ext e10) (Ats.mk ((a8.ext e9).ext e10) (Ats.mk a10 (Ats.mk (at_int.mpr rfl) Ats.mk_nil))))
  have e11 := Ex.new (T := T) (ms := []) (o := HO.tup [.ref p3, .ref p8, .ref p10, .int 0]) n11
  refine ⟨_, rfl, ?_⟩
  refine ⟨by show 2 ≤ sizeLine; decide, fun p12 n12 => ?_⟩
  have a12 := At.laid (K := K) (xs := [.int 1, .int (-1)]) n12 (Ats.mk (at_int.mpr rfl) (Ats.mk (at_int.mpr rfl) Ats.mk_nil))
  have e12 := Ex.new (T := T) (ms := []) (o := HO.tup [.int 1, .int (-1)]) n12
  refine ⟨by show 2 ≤ sizeLine; decide, fun p13 n13 => ?_⟩
  have a13 := At.laid (K := K) (xs := [.int 1, .int 1]) n13 (Ats.mk (at_int.mpr rfl) (Ats.mk (at_int.mpr rfl) Ats.mk_nil))
  have e13 := Ex.new (T := T) (ms := []) (o := HO.tup [.int 1, .int 1]) n13
  refine ⟨by show 1 ≤ sizeLine; decide, fun p14 n14 => ?_⟩
  have a14 := At.laid (K := K) (xs := [.ref p13]) n14 (Ats.mk a13 Ats.mk_nil)
  have e14 := Ex.new (T := T) (ms := []) (o := HO.tup [.ref p13]) n14
  refine ⟨by show 4 ≤ sizeLine; decide, fun p15 n15 => ?_⟩
  have a15 := At.laid (K := K) (xs := [.ref p7, .ref p12, .ref p14, .int 0]) n15 (Ats.mk (((((((a7.ext e8).ext e9).ext e10).ext e11).ext e12).ext e13).ext e14) (Ats.mk ((a12.ext e13).ext e14) (Ats.mk a14 (Ats.mk (at_int.mpr rfl) Ats.mk_nil))))
  have e15 := Ex.new (T := T) (ms := []) (o := HO.tup [.ref p7, .ref p12, .ref p14, .int 0]) n15
  refine ⟨by show 2 ≤ sizeLine; decide, fun p16 n16 => ?_⟩
  have a16 := At.laid (K := K) (xs := [.int 1, .int (-1)]) n16 (Ats.mk (at_int.mpr rfl) (Ats.mk (at_int.mpr rfl) Ats.mk_nil))
  have e16 := Ex.new (T := T) (ms := []) (o := HO.tup [.int 1, .int (-1)]) n16
  refine ⟨by show 0 ≤ sizeLine; decide, fun p17 n17 => ?_⟩
  have a17 := At.laid (K := K) (xs := []) n17 Ats.mk_nil
  have e17 := Ex.new (T := T) (ms := []) (o := HO.tup []) n17
  refine ⟨by show 4 ≤ sizeLine; decide, fun p18 n18 => ?_⟩
  have a18 := At.laid (K := K) (xs := [.ref a_TRUE_built, .ref p16, .ref p17, .int 0]) n18 (Ats.mk (gl_TRUE _) (Ats.mk (a16.ext e17) (Ats.mk a17 (Ats.mk (at_int.mpr rfl) Ats.mk_nil))))
  have e18 := Ex.new (T := T) (ms := []) (o := HO.tup [.ref a_TRUE_built, .ref p16, .ref p17, .int 0]) n18
  refine ⟨by show 3 ≤ sizeLine; decide, fun p19 n19 => ?_⟩
  have a19 := At.laid (K := K) (xs := [.ref p11, .ref p15, .ref p18]) n19 (Ats.mk (((((((a11.ext e12).ext e13).ext e14).ext e15).ext e16).ext e17).ext e18) (Ats.mk (((a15.ext e16).ext e17).ext e18) (Ats.mk a18 Ats.mk_nil)))
  have e19 := Ex.new (T := T) (ms := []) (o := HO.tup [.ref p11, .ref p15, .ref p18]) n19
  exact ⟨_, _, _, rfl, a19, fun v H' at' e' => q v H' (by show At K H' v turnsM_D; exact at') ((((((((((((((((((((e0.trans e1).trans e2).trans e3).trans e4).trans e5).trans e6).trans e7).trans e8).trans e9).trans e10).trans e11).trans e12).trans e13).trans e14).trans e15).trans e16).trans e17).trans e18).trans e19).trans e')⟩

abbrev N_runs : List Str := []
theorem sc_runs : FnScope N_runs [] (defScope s_runs) := ⟨rfl, rfl, rfl, by decide +kernel, rfl, by decide +kernel, by decide +kernel⟩
def runsM_D : D := (.tup [.int 1, (.int 2), .tup [.tup [(.tup [(.tup [(.tup [(.str "empty"), (.int 0)]), (.tup [(.int (-1)), (.int (-1))]), (.tup []), (.int 0)]), (.tup [(.tup [(.str "less"), (.int 1), (.int (-1))]), (.tup [(.int 0), (.int (-1))]), (.tup []), (.int 0)]), (.tup [(.tup [(.str "true")]), (.tup [(.int (-1)), (.int (-1))]), (.tup [(.tup [(.int 0), (.int 0)])]), (.int 0)])])]]])
theorem runsM_enc : Dv.encM runsM = runsM_D := by
  unfold Dv.encM runsM runsM_D
  simp only [encSt, encCases, encCase, List.map_cons, List.map_nil, encSay, encC, encCs]
  rfl
def sp_runs (K : PySem.W.Frag) (T : List Addr) : Sp := fun vs H Q _ => vs = [] ∧ ∀ v H', At K H' v (Dv.encM runsM) → Ex T [] H H' → Q v H'
theorem ok_runs {f : Addr} {fd : FuncData} {k : Nat} {T : List Addr} (F : Fun K "runs" "runs" s_runs f fd) {a_FIRST_ENTRY : Addr} (m_FIRST_ENTRY : mg "FIRST_ENTRY" = some (.ref a_FIRST_ENTRY)) (q_FIRST_ENTRY : ∀ H, SqT K H a_FIRST_ENTRY [.str "empty", .int (0)]) {t_NEW : Tok} (m_NEW : mg "NEW" = some (.int (-1) t_NEW)) {a_TRUE_built : Addr} (m_TRUE_built : mg "TRUE_built" = some (.ref a_TRUE_built)) (q_TRUE_built : ∀ H, SqT K H a_TRUE_built [.str "true"])
    {a__reader : Addr} {d__reader : FuncData} (G__reader : FnOk P w K mg base CX0 k a__reader d__reader ["registers", "cases"] (sp__reader K T)) (k__reader : PySem.W.keepIn K (.ref a__reader) = true) (b__reader : Binds K d__reader ["registers", "cases"] []) (m__reader : mg "_reader" = some (.ref a__reader)) :
    FnOk P w K mg base CX0 (k + 1) f fd [] (sp_runs K T) := by
  refine F.ok sc_runs (fun vs H Q E h => ?_) (fun cdv A outer s H vs Q E hr h => ?_)
  · obtain ⟨rfl, _⟩ := h
    rfl
  obtain ⟨rfl, q⟩ := h
  rw [runsM_enc] at q
  refine ⟨_, (pss_one (ps_ret (pe_call G__reader hr (by rfl) m__reader k__reader b__reader .nil pass0 (pa_cons pe_int (pa_cons (pe_tup (pa_cons (pe_tup (pa_cons (pe_glob (v := .ref a_FIRST_ENTRY) rfl m_FIRST_ENTRY rfl) (pa_cons (pe_tup (pa_cons (pe_glob (v := .int (-1)) rfl m_NEW ⟨_, rfl⟩) (pa_cons (pe_glob (v := .int (-1)) rfl m_NEW ⟨_, rfl⟩) pa_nil))) (pa_cons (pe_tup pa_nil) (pa_cons pe_int pa_nil))))) (pa_cons (pe_tup (pa_cons (pe_tup (pa_cons pe_str (pa_cons pe_int (pa_cons (pe_glob (v := .int (-1)) rfl m_NEW ⟨_, rfl⟩) pa_nil)))) (pa_cons (pe_tup (pa_cons pe_int (pa_cons (pe_glob (v := .int (-1)) rfl m_NEW ⟨_, rfl⟩) pa_nil))) (pa_cons (pe_tup pa_nil) (pa_cons pe_int pa_nil))))) (pa_cons (pe_tup (pa_cons (pe_glob (v := .ref a_TRUE_built) rfl m_TRUE_built rfl) (pa_cons (pe_tup (pa_cons (pe_glob (v := .int (-1)) rfl m_NEW ⟨_, rfl⟩) (pa_cons (pe_glob (v := .int (-1)) rfl m_NEW ⟨_, rfl⟩) pa_nil))) (pa_cons (pe_tup (pa_cons (pe_tup (pa_cons pe_int (pa_cons pe_int pa_nil))) pa_nil)) (pa_cons pe_int pa_nil))))) pa_nil)))) pa_nil))))), ?_⟩
  have gl_FIRST_ENTRY : ∀ H, At K H (.ref a_FIRST_ENTRY) (.tup [.str "empty", .int 0]) := fun H => at_tup.mpr ⟨_, _, rfl, q_FIRST_ENTRY H, (Ats.mk (at_str.mpr rfl) (Ats.mk (at_int.mpr rfl) Ats.mk_nil))⟩
  have gl_TRUE : ∀ H, At K H (.ref a_TRUE_built) (.tup [.str "true"]) := fun H => at_tup.mpr ⟨_, _, rfl, q_TRUE_built H, (Ats.mk (at_str.mpr rfl) Ats.mk_nil)⟩
  refine ⟨by show 2 ≤ sizeLine; decide, fun p0 n0 => ?_⟩
  have a0 := At.laid (K := K) (xs := [.int (-1), .int (-1)]) n0 (Ats.mk (at_int.mpr rfl) (Ats.mk (at_int.mpr rfl) Ats.mk_nil))
  have e0 := Ex.new (T := T) (ms := []) (o := HO.tup [.int (-1), .int (-1)]) n0
  refine ⟨by show 0 ≤ sizeLine; decide, fun p1 n1 => ?_⟩
  have a1 := At.laid (K := K) (xs := []) n1 Ats.mk_nil
  have e1 := Ex.new (T := T) (ms := []) (o := HO.tup []) n1
  refine ⟨by show 4 ≤ sizeLine; decide, fun p2 n2 => ?_⟩
  have a2 := At.laid (K := K) (xs := [.ref a_FIRST_ENTRY, .ref p0, .ref p1, .int 0]) n2 (Ats.mk (gl_FIRST_ENTRY _) (Ats.mk (a0.ext e1) (Ats.mk a1 (Ats.mk (at_int.mpr rfl) Ats.mk_nil))))
  have e2 := Ex.new (T := T) (ms := []) (o := HO.tup [.ref a_FIRST_ENTRY, .ref p0, .ref p1, .int 0]) n2
  refine ⟨by show 3 ≤ sizeLine; decide, fun p3 n3 => ?_⟩
  have a3 := At.laid (K := K) (xs := [.str "less", .int 1, .int (-1)]) n3 (Ats.mk (at_str.mpr rfl) (Ats.mk (at_int.mpr rfl) (Ats.mk (at_int.mpr rfl) Ats.mk_nil)))
  have e3 := Ex.new (T := T) (ms := []) (o := HO.tup [.str "less", .int 1, .int (-1)]) n3
  refine ⟨by show 2 ≤ sizeLine; decide, fun p4 n4 => ?_⟩
  have a4 := At.laid (K := K) (xs := [.int 0, .int (-1)]) n4 (Ats.mk (at_int.mpr rfl) (Ats.mk (at_int.mpr rfl) Ats.mk_nil))
  have e4 := Ex.new (T := T) (ms := []) (o := HO.tup [.int 0, .int (-1)]) n4
  refine ⟨by show 0 ≤ sizeLine; decide, fun p5 n5 => ?_⟩
  have a5 := At.laid (K := K) (xs := []) n5 Ats.mk_nil
  have e5 := Ex.new (T := T) (ms := []) (o := HO.tup []) n5
  refine ⟨by show 4 ≤ sizeLine; decide, fun p6 n6 => ?_⟩
  have a6 := At.laid (K := K) (xs := [.ref p3, .ref p4, .ref p5, .int 0]) n6 (Ats.mk ((a3.ext e4).ext e5) (Ats.mk (a4.ext e5) (Ats.mk a5 (Ats.mk (at_int.mpr rfl) Ats.mk_nil))))
  have e6 := Ex.new (T := T) (ms := []) (o := HO.tup [.ref p3, .ref p4, .ref p5, .int 0]) n6
  refine ⟨by show 2 ≤ sizeLine; decide, fun p7 n7 => ?_⟩
  have a7 := At.laid (K := K) (xs := [.int (-1), .int (-1)]) n7 (Ats.mk (at_int.mpr rfl) (Ats.mk (at_int.mpr rfl) Ats.mk_nil))
  have e7 := Ex.new (T := T) (ms := []) (o := HO.tup [.int (-1), .int (-1)]) n7
  refine ⟨by show 2 ≤ sizeLine; decide, fun p8 n8 => ?_⟩
  have a8 := At.laid (K := K) (xs := [.int 0, .int 0]) n8 (Ats.mk (at_int.mpr rfl) (Ats.mk (at_int.mpr rfl) Ats.mk_nil))
  have e8 := Ex.new (T := T) (ms := []) (o := HO.tup [.int 0, .int 0]) n8
  refine ⟨by show 1 ≤ sizeLine; decide, fun p9 n9 => ?_⟩
  have a9 := At.laid (K := K) (xs := [.ref p8]) n9 (Ats.mk a8 Ats.mk_nil)
  have e9 := Ex.new (T := T) (ms := []) (o := HO.tup [.ref p8]) n9
  refine ⟨by show 4 ≤ sizeLine; decide, fun p10 n10 => ?_⟩
  have a10 := At.laid (K := K) (xs := [.ref a_TRUE_built, .ref p7, .ref p9, .int 0]) n10 (Ats.mk (gl_TRUE _) (Ats.mk ((a7.ext e8).ext e9) (Ats.mk a9 (Ats.mk (at_int.mpr rfl) Ats.mk_nil))))
  have e10 := Ex.new (T := T) (ms := []) (o := HO.tup [.ref a_TRUE_built, .ref p7, .ref p9, .int 0]) n10
  refine ⟨by show 3 ≤ sizeLine; decide, fun p11 n11 => ?_⟩
  have a11 := At.laid (K := K) (xs := [.ref p2, .ref p6, .ref p10]) n11 (Ats.mk ((((((((a2.ext e3).ext e4).ext e5).ext e6).ext e7).ext e8).ext e9).ext e10) (Ats.mk ((((a6.ext e7).ext e8).ext e9).ext e10) (Ats.mk a10 Ats.mk_nil)))
  have e11 := Ex.new (T := T) (ms := []) (o := HO.tup [.ref p2, .ref p6, .ref p10]) n11
  exact ⟨_, _, _, rfl, a11, fun v H' at' e' => q v H' (by show At K H' v runsM_D; exact at') ((((((((((((e0.trans e1).trans e2).trans e3).trans e4).trans e5).trans e6).trans e7).trans e8).trans e9).trans e10).trans e11).trans e')⟩

abbrev N__place : List Str := ["at", "pattern"]
theorem sc__place : FnScope N__place ["at", "pattern"] (defScope s__place) := ⟨rfl, rfl, rfl, by decide +kernel, rfl, by decide +kernel, by decide +kernel⟩
def sp__place (K : PySem.W.Frag) : Sp := fun vs H Q _ => ∃ (j : Int) (a : Addr) (p : List Int), vs = [.int j, .ref a] ∧ SqT K H a (p.map V.int) ∧ Q (.int (plc p.length j)) H
theorem ok__place {f : Addr} {fd : FuncData} {k : Nat} {T : List Addr} (F : Fun K "_place" "_place" s__place f fd) (m_len : mg "len" = none) {t_NEW : Tok} (m_NEW : mg "NEW" = some (.int (-1) t_NEW)) :
    FnOk P w K mg base CX0 (k + 1) f fd ["at", "pattern"] (sp__place K) := by
  refine F.ok sc__place (fun vs H Q E h => ?_) (fun cdv A outer s H vs Q E hr h => ?_)
  · obtain ⟨j, a, p, rfl, _⟩ := h
    rfl
  obtain ⟨j, a, p, rfl, sq, q⟩ := h
  refine ⟨_, (pss_one (ps_ret (pe_ifExp (pt_cmpR op_eq (pv 0) (pe_op op_sub (pe_callB call_len_seq (by rfl) m_len PySem.boot_len (pa_cons (pv 1) pa_nil)) pe_int) (nomark _)) (pe_glob (v := .int (-1)) rfl m_NEW ⟨_, rfl⟩) (pv 0)))), ?_⟩
  refine ⟨_, rfl, _, rfl, a, _, rfl, .inr sq, _, _, rfl, rfl, rfl, _, rfl, ?_⟩
  rw [List.length_map]
  unfold plc at q
  by_cases c : j = (p.length : Int) - 1
  · rw [if_pos c] at q
    rw [decide_eq_true (congrArg V.int c)]
    exact iteT q
  · rw [if_neg c] at q
    rw [decide_eq_false (fun e => c (V.int.inj e))]
    exact iteF ⟨_, rfl, q⟩

abbrev N__in_order : List Str := ["pattern", "places", "parts", "low", "before", "high", "behind", "word", "at", "rank"]
theorem sc__in_order : FnScope N__in_order ["pattern"] (defScope s__in_order) := ⟨rfl, rfl, rfl, by decide +kernel, rfl, by decide +kernel, by decide +kernel⟩
def sp__in_order (K : PySem.W.Frag) (T : List Addr) : Sp := fun vs H Q _ => ∃ (a : Addr) (p : List Int), vs = [.ref a] ∧ SqT K H a (p.map V.int) ∧ 1 ≤ p.length ∧ p.length ≤ 1000 ∧ Wd T H ∧
  ∀ v H' L, Srt2 L p → At K H' v (encC (orderC p.length L)) → Ex T [] H H' → Q v H'
theorem ok__in_order {f : Addr} {fd : FuncData} {k : Nat} {T : List Addr} (F : Fun K "_in_order" "_in_order" s__in_order f fd) (m_sorted : mg "sorted" = none) (m_enumerate : mg "enumerate" = none) (m_zip : mg "zip" = none) (m_tuple : mg "tuple" = none)
    {a__place : Addr} {d__place : FuncData} (G__place : FnOk P w K mg base CX0 k a__place d__place ["at", "pattern"] (sp__place K)) (k__place : PySem.W.keepIn K (.ref a__place) = true) (b__place : Binds K d__place ["at", "pattern"] []) (m__place : mg "_place" = some (.ref a__place)) :
    FnOk P w K mg base CX0 (k + 1) f fd ["pattern"] (sp__in_order K T) := by
  refine F.ok sc__in_order (fun vs H Q E h => ?_) (fun cdv A outer s H vs Q E hr h => ?_)
  · obtain ⟨a, p, rfl, _⟩ := h
    rfl
  obtain ⟨a, p, rfl, sq, len1, len, wd, q⟩ := h
  refine ⟨_, (pss_cons (ps_set (i := 1) sc__in_order.nd rfl (.inl rfl) (pe_callB cr_sortedPO (by rfl) m_sorted boot_sorted (pa_cons (pe_lc (own := [("at", 8), ("rank", 9)]) (g := (gTup K 2 (gCons (gName 8) (gCons (gName 9) gNil)))) (tt := tYes) rfl sc__in_order.nd (Ent.pi_enumT (by rfl) m_enumerate (pa_cons (pv 0) pa_nil)) (blkOk_by (N := N__in_order) (sc := defScope s__in_order) (by decide +kernel))
        (fun _ _ _ _ _ => (pg_tup rfl (pgs_cons (pg_name (i := 8) sc__in_order.nd rfl (.inl rfl)) (pgs_cons (pg_name (i := 9) sc__in_order.nd rfl (.inl rfl)) pgs_nil)))) (fun _ _ _ _ _ => pts_nil)
        (fun _ _ _ _ _ => (pe_tup (pa_cons (pv 9) (pa_cons (pv 8) pa_nil))))) pa_nil)))
    (pss_cons (ps_set (i := 2) sc__in_order.nd rfl (.inl rfl) (pe_lst pa_nil))
    (pss_cons (ps_for PassesOwn.never rfl (pi_zip (by rfl) m_zip (pa_cons (pv 1) (pa_cons (pe_slice sl_list (pv 1) (po_some pe_int) po_none) pa_nil))) (pg_tup rfl (pgs_cons (pg_tup rfl (pgs_cons (pg_name (i := 3) sc__in_order.nd rfl (.inl rfl)) (pgs_cons (pg_name (i := 4) sc__in_order.nd rfl (.inl rfl)) pgs_nil))) (pgs_cons (pg_tup rfl (pgs_cons (pg_name (i := 5) sc__in_order.nd rfl (.inl rfl)) (pgs_cons (pg_name (i := 6) sc__in_order.nd rfl (.inl rfl)) pgs_nil))) pgs_nil)))
      (pss_cons (ps_set (i := 7) sc__in_order.nd rfl (.inl rfl) (pe_ifExp (pt_cmpR op_lt (pv 3) (pv 5) (nomark _)) pe_str pe_str))
      (pss_one (ps_expr (pe_bm PySem.F.plainAttrs_list PySem.F.slot_list_append PySem.F.type_list_append mt_append (pv 2) (pa_cons (pe_tup (pa_cons (pv 7) (pa_cons (pe_call G__place hr (by rfl) m__place k__place b__place .nil pass0 (pa_cons (pv 4) (pa_cons (pv 0) pa_nil))) (pa_cons (pe_call G__place hr (by rfl) m__place k__place b__place .nil pass0 (pa_cons (pv 6) (pa_cons (pv 0) pa_nil))) pa_nil)))) pa_nil))))))
    (pss_one (ps_ret (pe_tup (pa_cons pe_str (pa_cons (pe_callTy call_tuple_of (by rfl) m_tuple (by decide +kernel) (pa_cons (pv 2) pa_nil)) pa_nil)))))))), ?_⟩
  have ml : (p.map V.int).length = p.length := List.length_map ..
  refine ⟨_, rfl, a, _, rfl, sq, fun D nD => lc_it (walk_enumT (xs := p.map V.int)) (fun i H' => Ex T [] H H' ∧ ∃ zs, H' D = some (.lst zs) ∧ Two H' zs ((prs p).take i)) ⟨Ex.new nD, [], upd_same, Two.nil⟩ (fun i H' _ z => z.1.sqT sq) ?_ ?_⟩
  · rintro i x H1 H2 hi ⟨ex, zs, hD, tw⟩ ⟨t1, x1, x2, rfl, n1, rfl, e1, e2⟩
    rw [ml] at hi
    cases e1
    replace e2 : (p.map V.int)[i]? = some x2 := e2
    rw [List.getElem?_map, List.getElem?_eq_getElem hi] at e2
    cases e2
    have exn := Ex.new (T := T) (ms := []) (o := HO.tup [.int (i : Nat), .int p[i]]) n1
    refine ⟨t1, [_, _], rfl, SqT.of upd_same, rfl, _, [_], rfl, _, [], rfl, rfl, wipe2 (by decide), yesIf ⟨_, rfl, _, rfl, by show 2 ≤ sizeLine; decide, fun t2 n2 => ?_⟩⟩
    have ex2 := exn.trans (Ex.new (T := T) (ms := []) (o := HO.tup [.int p[i], .int (i : Nat)]) n2)
    have hD2 := ex2.lst (by simp) hD
    have tw2 := tw.ext ex2
    have eg : (prs p)[i]? = some (p[i], (i : Int)) := by
      rw [prs_get p i hi, List.getD_eq_getElem?_getD, List.getElem?_eq_getElem hi]
      rfl
    have h2 : upd (upd H1 t1 (HO.tup [.int (i : Nat), .int p[i]])) t2 (HO.tup [.int p[i], .int (i : Nat)]) t2 = some (.tup [.int p[i], .int (i : Nat)]) := upd_same
    generalize (upd (upd H1 t1 (HO.tup [.int (i : Nat), .int p[i]])) t2 (HO.tup [.int p[i], .int (i : Nat)])) = H3 at *
    have ne : t2 ≠ D := fun e => by rw [e, hD2] at h2; cases h2
    have exf := ex.trans ex2
    refine ⟨zs, hD2, ?_, exf.put nD wd, zs ++ [.ref t2], upd_same, ?_⟩
    · rw [tw.1, List.length_take, prs_len]
      exact small5000 (by omega)
    · rw [List.take_add_one, eg]
      have tw3 : Two (upd H3 D (.lst (zs ++ [.ref t2]))) zs ((prs p).take i) := ⟨tw2.1, fun j z r h3 h4 => by
        obtain ⟨t, e, ht⟩ := tw2.2 j z r h3 h4
        exact ⟨t, e, by rw [upd_ne (fun e => by rw [e, hD2] at ht; cases ht)]; exact ht⟩⟩
      exact tw3.snoc (by rw [upd_ne ne]; exact h2)
  rintro H1 ⟨ex, zs, hD, tw⟩
  rw [ml, ← prs_len p, List.take_length] at tw
  refine ⟨D, zs, kOf H1, rfl, SqL.of hD, tw.each, fun ys pl hs hb npl => ?_⟩
  obtain ⟨s2, tw1⟩ := sorted_two tw hs hb.perm
  generalize ys.map (kOf H1) = L at s2 tw1
  have ex1 := ex.trans (Ex.new (T := T) (ms := []) (o := HO.lst ys) npl)
  have tw2 := tw1.ext (Ex.new (T := T) (ms := []) (o := HO.lst ys) npl)
  have sl2 : SqL K (upd H1 pl (.lst ys)) pl ys := SqL.of upd_same
  generalize (upd H1 pl (.lst ys)) = H2 at *
  have yl : ys.length = p.length := by rw [tw1.1, s2.len]
  refine ⟨Nat.zero_le _, fun F0 nF => ?_⟩
  have exF := Ex.new (T := T) (ms := []) (o := HO.lst []) nF
  have slF : SqL K (upd H2 F0 (.lst [])) pl ys := exF.sqL (by simp) sl2
  have hF : (upd H2 F0 (.lst [])) F0 = some (.lst []) := upd_same
  refine ⟨_, rfl, _, rfl, 1, rfl, ?_⟩
  dsimp only [tNoPart]
  refine ⟨pl, _, rfl, slF, fun pd npd => ?_⟩
  have ec : cutV ys (some 1) none = ys.drop 1 := cut_drop2 (by decide) (by omega)
  rw [ec]
  have wd2 := ex1.wd wd
  have exd := Ex.new (T := T) (ms := []) (o := HO.lst (ys.drop 1)) npd
  have slP := exd.sqL (by simp) slF
  have hpd : upd (upd H2 F0 (.lst [])) pd (.lst (ys.drop 1)) pd = some (.lst (ys.drop 1)) := upd_same
  have nepd : pd ≠ F0 := fun e => by rw [e, upd_same] at npd; cases npd
  have cl0 : Col K T [] F0 H2 (upd (upd H2 F0 (.lst [])) pd (.lst (ys.drop 1))) [] := (Col.start Ex.refl nF).ext (by simp) exd
  generalize (upd (upd H2 F0 (.lst [])) pd (.lst (ys.drop 1))) = H3 at *
  have ll : L.length = ys.length := tw2.1.symm
  have al : (adjs L).length = ys.length - 1 := by unfold adjs; rw [List.length_zip, List.length_tail, ll]; omega
  refine ⟨pl, pd, ys, ys.drop 1, rfl, slP, SqL.of hpd, ?_⟩
  refine ⟨fun i m σ' H' => m = (ys.length - 1) - i ∧ i ≤ ys.length - 1 ∧ (∃ y3 y4 y5 y6 y7, σ' = [some (.ref a), some (.ref pl), some (.ref F0), y3, y4, y5, y6, y7, none, none]) ∧ Col K T [] F0 H2 H' (((adjs L).take i).map fun (q : (Int × Int) × (Int × Int)) => encC (adjC p.length q.1 q.2)) ∧ H' pd = some (.lst (ys.drop 1)), ⟨ys.length - 1, rfl, Nat.zero_le _, ⟨_, _, _, _, _, rfl⟩, cl0, hpd⟩, ?_⟩
  clear cl0 hpd slP
  rintro i m σ' H4 ⟨rfl, hi, ⟨y3, y4, y5, y6, y7, rfl⟩, cl, hpd⟩
  have slP := cl.1.sqL (by simp) sl2
  have slD : SqL K H4 pd (ys.drop 1) := SqL.of hpd
  by_cases hlt : i < ys.length - 1
  · have hi1 : i < L.length := by omega
    have hi2 : i + 1 < L.length := by omega
    have g1 : ys[i]? = some ys[i] := List.getElem?_eq_getElem (by omega)
    have g2 : (ys.drop 1)[i]? = some ys[i + 1] := by rw [List.getElem?_drop, Nat.add_comm]; exact List.getElem?_eq_getElem (by omega)
    refine .inr ⟨⟨ys, ys.drop 1, _, _, slP, slD, g1, g2⟩, fun σ' H' => (∃ y3 y4 y5 y6 y7, σ' = [some (.ref a), some (.ref pl), some (.ref F0), y3, y4, y5, y6, y7, none, none]) ∧ Col K T [] F0 H2 H' (((adjs L).take (i + 1)).map fun (q : (Int × Int) × (Int × Int)) => encC (adjC p.length q.1 q.2)) ∧ H' pd = some (.lst (ys.drop 1)), fun σ2 H2 z => ⟨(ys.length - 1) - (i + 1), by omega, rfl, by omega, z⟩, ?_⟩
    rintro v H5 ⟨t3, x, y, rfl, n3, rfl, f1, f2⟩
    have e1 := f1 _ slP
    have e2 := f2 _ slD
    rw [List.getElem?_drop, Nat.add_comm] at e2
    obtain ⟨ta, rfl, ha⟩ := tw2.2 i x _ e1 (List.getElem?_eq_getElem hi1)
    obtain ⟨tb, rfl, hb⟩ := tw2.2 (i + 1) y _ e2 (List.getElem?_eq_getElem hi2)
    have exn := Ex.new (T := T) (ms := []) (o := HO.tup [.ref ta, .ref tb]) n3
    have ha' := (cl.1.trans exn).tupR ha (by simp)
    have hb' := (cl.1.trans exn).tupR hb (by simp)
    have sqA : SqT K (upd H4 t3 (HO.tup [.ref ta, .ref tb])) a (p.map V.int) := ((ex1.trans cl.1).trans exn).sqT sq
    have clx := cl.ext (by simp) exn
    obtain ⟨_, zz, hF, _⟩ := clx
    have ea : (adjs L)[i]? = some (L[i], L[i + 1]) := by
      unfold adjs
      rw [List.getElem?_eq_getElem (by rw [List.length_zip, List.length_tail]; omega), List.getElem_zip, List.getElem_tail]
    refine ⟨t3, [_, _], rfl, SqT.of upd_same, rfl, _, [_], rfl, ta, [_, _], rfl, SqT.of ha', rfl, _, [_], rfl, _, [], rfl, rfl, _, [], rfl, tb, [_, _], rfl, SqT.of hb', rfl, _, [_], rfl, _, [], rfl, rfl, rfl, ?_⟩
    refine ⟨_, rfl, _, rfl, _, _, rfl, rfl, _, rfl, ?_⟩
    by_cases c : (L[i]).1 < (L[i + 1]).1
    · rw [decide_eq_true c]
      refine iteT ⟨_, rfl, .inl ⟨rfl, _, .inl (.inl hF)⟩, _, rfl, _, rfl, _, rfl, _, a, p, rfl, sqA, _, rfl, _, rfl, _, a, p, rfl, sqA, by show 3 ≤ sizeLine; decide, fun p1 n1 => ?_⟩
      have exq := exn.trans (Ex.new (T := T) (ms := []) (o := HO.tup [.str "less", .int (plc p.length (L[i]).2), .int (plc p.length (L[i + 1]).2)]) n1)
      have at1 := At.laid (K := K) (xs := [.str "less", .int (plc p.length (L[i]).2), .int (plc p.length (L[i + 1]).2)]) n1 (Ats.mk (at_str.mpr rfl) (Ats.mk (at_int.mpr rfl) (Ats.mk (at_int.mpr rfl) Ats.mk_nil)))
      obtain ⟨acc, k1, k2, k3⟩ := cl.put nF (by simp) wd2 exq (x := .ref p1) (d := encC (adjC p.length (L[i]) (L[i + 1]))) (by unfold adjC; rw [if_pos c]; unfold encC; exact at1) (take_len _ _ _ _ (by rw [al]; omega))
      rw [take_map _ (adjs L) ea] at k3
      exact ⟨F0, _, _, rfl, rfl, k1, k2, ⟨_, _, _, _, _, rfl⟩, k3, by rw [upd_ne nepd]; exact exq.lst (by simp) hpd⟩
    · rw [decide_eq_false c]
      refine iteF ⟨_, rfl, .inl ⟨rfl, _, .inl (.inl hF)⟩, _, rfl, _, rfl, _, rfl, _, a, p, rfl, sqA, _, rfl, _, rfl, _, a, p, rfl, sqA, by show 3 ≤ sizeLine; decide, fun p1 n1 => ?_⟩
      have exq := exn.trans (Ex.new (T := T) (ms := []) (o := HO.tup [.str "same", .int (plc p.length (L[i]).2), .int (plc p.length (L[i + 1]).2)]) n1)
      have at1 := At.laid (K := K) (xs := [.str "same", .int (plc p.length (L[i]).2), .int (plc p.length (L[i + 1]).2)]) n1 (Ats.mk (at_str.mpr rfl) (Ats.mk (at_int.mpr rfl) (Ats.mk (at_int.mpr rfl) Ats.mk_nil)))
      obtain ⟨acc, k1, k2, k3⟩ := cl.put nF (by simp) wd2 exq (x := .ref p1) (d := encC (adjC p.length (L[i]) (L[i + 1]))) (by unfold adjC; rw [if_neg c]; unfold encC; exact at1) (take_len _ _ _ _ (by rw [al]; omega))
      rw [take_map _ (adjs L) ea] at k3
      exact ⟨F0, _, _, rfl, rfl, k1, k2, ⟨_, _, _, _, _, rfl⟩, k3, by rw [upd_ne nepd]; exact exq.lst (by simp) hpd⟩
  · refine .inl ⟨⟨ys, ys.drop 1, slP, slD, .inr (by rw [List.length_drop]; omega)⟩, ?_⟩
    obtain ⟨exs, as0, hD0, ats0⟩ := cl
    rw [show i = (adjs L).length by omega, List.take_length] at ats0
    refine ⟨_, rfl, F0, _, rfl, .inl ⟨SqL.of hD0, fun l nl => ⟨by show 2 ≤ sizeLine; decide, fun l2 n2 => ?_⟩⟩⟩
    have a1 := At.laid (K := K) nl ats0
    have a2 := At.laid (K := K) (xs := [.str "all", .ref l]) n2 (Ats.mk (at_str.mpr rfl) (Ats.mk a1 Ats.mk_nil))
    refine q _ _ L s2 ?_ (((ex1.trans exs).trans (Ex.new nl)).trans (Ex.new n2))
    unfold orderC encC
    rw [encCs_map, List.map_map]
    exact a2

abbrev N_spotter : List Str := ["pattern", "earlier", "moves", "spotted"]
theorem sc_spotter : FnScope N_spotter ["pattern"] (defScope s_spotter) := ⟨rfl, rfl, rfl, by decide +kernel, rfl, by decide +kernel, by decide +kernel⟩
def sp_spotter (K : PySem.W.Frag) (T : List Addr) : Sp := fun vs H Q _ => ∃ (a : Addr) (p : List Int), vs = [.ref a] ∧ SqT K H a (p.map V.int) ∧ 1 ≤ p.length ∧ p.length ≤ 1000 ∧ Wd T H ∧
  ∀ v H' L, Srt2 L p → At K H' v (encM (spotM p.length L)) → Ex T [] H H' → Q v H'
theorem ok_spotter {f : Addr} {fd : FuncData} {k : Nat} {T : List Addr} (F : Fun K "spotter" "spotter" s_spotter f fd) (m_len : mg "len" = none) (m_tuple : mg "tuple" = none) (m_list : mg "list" = none) (m_range : mg "range" = none) {t_NEW : Tok} (m_NEW : mg "NEW" = some (.int (-1) t_NEW)) {a_TRUE_spotting : Addr} (m_TRUE_spotting : mg "TRUE_spotting" = some (.ref a_TRUE_spotting)) (q_TRUE_spotting : ∀ H, SqT K H a_TRUE_spotting [.str "true"])
    {a__in_order : Addr} {d__in_order : FuncData} (G__in_order : FnOk P w K mg base CX0 k a__in_order d__in_order ["pattern"] (sp__in_order K T)) (k__in_order : PySem.W.keepIn K (.ref a__in_order) = true) (b__in_order : Binds K d__in_order ["pattern"] []) (m__in_order : mg "_in_order" = some (.ref a__in_order)) :
    FnOk P w K mg base CX0 (k + 1) f fd ["pattern"] (sp_spotter K T) := by
  refine F.ok sc_spotter (fun vs H Q E h => ?_) (fun cdv A outer s H vs Q E hr h => ?_)
  · obtain ⟨a, p, rfl, _⟩ := h
    rfl
  obtain ⟨a, p, rfl, sq, len1, len, wd, q⟩ := h
  refine ⟨_, (pss_cons (ps_set (i := 1) sc_spotter.nd rfl (.inl rfl) (pe_op op_sub (pe_callB call_len_seq (by rfl) m_len PySem.boot_len (pa_cons (pv 0) pa_nil)) pe_int))
    (pss_cons (ps_set (i := 2) sc_spotter.nd rfl (.inl rfl) (pe_callTy call_tuple_of (by rfl) m_tuple (by decide +kernel) (pa_cons (pe_slice sl_list (pe_op op_cat (pe_listRg rfl (by rfl) m_list (prg_1 (by rfl) m_range (pv 1))) (pe_lst (pa_cons (pe_glob (v := .int (-1)) rfl m_NEW ⟨_, rfl⟩) pa_nil))) (po_some pe_int) po_none) pa_nil)))
    (pss_cons (ps_set (i := 3) sc_spotter.nd rfl (.inl rfl) (pe_tup (pa_cons (pe_call G__in_order hr (by rfl) m__in_order k__in_order b__in_order .nil pass0 (pa_cons (pv 0) pa_nil)) (pa_cons (pv 2) (pa_cons (pe_tup (pa_cons (pe_tup (pa_cons pe_int (pa_cons (pe_glob (v := .int (-1)) rfl m_NEW ⟨_, rfl⟩) pa_nil))) pa_nil)) (pa_cons pe_int pa_nil))))))
    (pss_one (ps_ret (pe_tup (pa_cons pe_int (pa_cons (pv 1) (pa_cons (pe_tup (pa_cons (pe_tup (pa_cons (pe_tup (pa_cons (pv 3) (pa_cons (pe_tup (pa_cons (pe_glob (v := .ref a_TRUE_spotting) rfl m_TRUE_spotting rfl) (pa_cons (pv 2) (pa_cons (pe_tup pa_nil) (pa_cons pe_int pa_nil))))) pa_nil))) pa_nil)) pa_nil)) pa_nil))))))))), ?_⟩
  have ml : (p.map V.int).length = p.length := List.length_map ..
  refine ⟨_, rfl, a, _, rfl, .inr sq, _, _, rfl, rfl, ?_⟩
  rw [ml]
  refine ⟨_, rfl, _, rfl, RgOk.of_le (by decide) (by omega) (by omega) (by omega), fun p1 n1 => ⟨by show 1 ≤ sizeLine; decide, fun p2 n2 => ?_⟩⟩
  have e1 := Ex.new (T := T) (ms := []) (o := HO.lst (rgV 0 ((p.length : Int) - 1))) n1
  have e2 := Ex.new (T := T) (ms := []) (o := HO.lst [.int (-1)]) n2
  refine ⟨p1, p2, _, _, rfl, rfl, e2.lst (by simp) upd_same, upd_same, ?_, fun p3 n3 => ?_⟩
  · rw [rgV_length]
    show _ + 1 ≤ sizeLine
    unfold sizeLine
    omega
  have e3 := Ex.new (T := T) (ms := []) (o := HO.lst (rgV 0 ((p.length : Int) - 1) ++ [.int (-1)])) n3
  refine ⟨1, rfl, ?_⟩
  dsimp only [tNoPart]
  refine ⟨p3, _, rfl, SqL.of upd_same, fun p4 n4 => ?_⟩
  have em : cutV (rgV 0 ((p.length : Int) - 1) ++ [.int (-1)]) (some 1) none = (movS p.length).map V.int := by
    rw [cut_drop2 (by decide) (by rw [List.length_append, rgV_length]; show (1 : Int) ≤ ((_ + 1 : Nat) : Int); omega)]
    unfold movS rgV
    rw [List.map_drop, List.map_append, List.map_map]
    refine congrArg (List.drop 1) (congrArg (· ++ [V.int (-1)]) ?_)
    rw [show ((p.length : Int) - 1 - 0).toNat = p.length - 1 by omega]
    refine List.map_congr_left fun i _ => ?_
    show V.int (0 + (i : Int)) = V.int (i : Int)
    rw [Int.zero_add]
  rw [em] at *
  have e4 := Ex.new (T := T) (ms := []) (o := HO.lst ((movS p.length).map V.int)) n4
  refine ⟨p4, _, rfl, .inl ⟨SqL.of upd_same, fun p5 n5 => ?_⟩⟩
  have e5 := Ex.new (T := T) (ms := []) (o := HO.tup ((movS p.length).map V.int)) n5
  have am := At.laid (K := K) n5 (ats_int.mpr (rfl : (movS p.length).map V.int = _))
  have ex5 := (((e1.trans e2).trans e3).trans e4).trans e5
  generalize (upd (upd (upd (upd (upd H p1 _) p2 _) p3 _) p4 _) p5 _) = H5 at *
  refine ⟨_, rfl, a, p, rfl, ex5.sqT sq, len1, len, ex5.wd wd, fun vo H6 L s2 ato ex6 => ?_⟩
  refine ⟨_, rfl, by show 2 ≤ sizeLine; decide, fun q1 m1 => ⟨by show 1 ≤ sizeLine; decide, fun q2 m2 => ⟨by show 4 ≤ sizeLine; decide, fun q3 m3 => ?_⟩⟩⟩
  have f1 := Ex.new (T := T) (ms := []) (o := HO.tup [.int 0, .int (-1)]) m1
  have b1 := At.laid (K := K) (xs := [.int 0, .int (-1)]) m1 (Ats.mk (at_int.mpr rfl) (Ats.mk (at_int.mpr rfl) Ats.mk_nil))
  have f2 := Ex.new (T := T) (ms := []) (o := HO.tup [.ref q1]) m2
  have b2 := At.laid (K := K) (xs := [.ref q1]) m2 (Ats.mk b1 Ats.mk_nil)
  have f3 := Ex.new (T := T) (ms := []) (o := HO.tup [vo, .ref p5, .ref q2, .int 0]) m3
  have fx := (f1.trans f2).trans f3
  have am6 := am.ext ex6
  have b3 : At K _ (.ref q3) (encCase ⟨orderC p.length L, movS p.length, [(0, -1)], 0⟩) := At.laid (K := K) (xs := [vo, .ref p5, .ref q2, .int 0]) m3 (Ats.mk (ato.ext (f1.trans f2)) (Ats.mk (am6.ext (f1.trans f2)) (Ats.mk b2 (Ats.mk (at_int.mpr rfl) Ats.mk_nil))))
  have ex7 := (ex5.trans ex6).trans fx
  have am7 := am6.ext fx
  generalize (upd (upd (upd H6 q1 _) q2 _) q3 _) = H7 at *
  clear b1 b2 f1 f2 f3 m1 m2 m3
  refine ⟨_, rfl, _, rfl, _, rfl, by show 0 ≤ sizeLine; decide, fun r0 s0 => ⟨by show 4 ≤ sizeLine; decide, fun r1 s1 => ⟨by show 2 ≤ sizeLine; decide, fun r2 s2' => ⟨by show 1 ≤ sizeLine; decide, fun r3 s3 => ⟨by show 1 ≤ sizeLine; decide, fun r4 s4 => ⟨by show 3 ≤ sizeLine; decide, fun r5 s5 => ?_⟩⟩⟩⟩⟩⟩
  have g0 := Ex.new (T := T) (ms := []) (o := HO.tup []) s0
  have c0 := At.laid (K := K) (xs := []) s0 Ats.mk_nil
  have g1 := Ex.new (T := T) (ms := []) (o := HO.tup [.ref a_TRUE_spotting, .ref p5, .ref r0, .int 0]) s1
  have atT : ∀ H', At K H' (.ref a_TRUE_spotting) (encC .tru) := fun H' => by
    rw [show encC .tru = .tup [.str "true"] by simp only [encC]]
    exact at_tup.mpr ⟨_, _, rfl, q_TRUE_spotting H', Ats.mk (at_str.mpr rfl) Ats.mk_nil⟩
  have c1 : At K _ (.ref r1) (encCase ⟨.tru, movS p.length, [], 0⟩) := At.laid (K := K) (xs := [.ref a_TRUE_spotting, .ref p5, .ref r0, .int 0]) s1 (Ats.mk (atT _) (Ats.mk (am7.ext g0) (Ats.mk c0 (Ats.mk (at_int.mpr rfl) Ats.mk_nil))))
  have g2 := Ex.new (T := T) (ms := []) (o := HO.tup [.ref q3, .ref r1]) s2'
  have c2 := At.laid (K := K) (xs := [.ref q3, .ref r1]) s2' (Ats.mk (b3.ext (g0.trans g1)) (Ats.mk c1 Ats.mk_nil))
  have g3 := Ex.new (T := T) (ms := []) (o := HO.tup [.ref r2]) s3
  have c3 := At.laid (K := K) (xs := [.ref r2]) s3 (Ats.mk c2 Ats.mk_nil)
  have g4 := Ex.new (T := T) (ms := []) (o := HO.tup [.ref r3]) s4
  have c4 := At.laid (K := K) (xs := [.ref r3]) s4 (Ats.mk c3 Ats.mk_nil)
  have g5 := Ex.new (T := T) (ms := []) (o := HO.tup [.int 1, .int ((p.length : Int) - 1), .ref r4]) s5
  have c5 : At K _ (.ref r5) (encM (spotM p.length L)) := At.laid (K := K) (xs := [.int 1, .int ((p.length : Int) - 1), .ref r4]) s5 (Ats.mk (at_int.mpr rfl) (Ats.mk (at_int.mpr (congrArg V.int (show (p.length : Int) - 1 = ((p.length - 1 : Nat) : Int) by omega))) (Ats.mk c4 Ats.mk_nil)))
  exact q _ _ L s2 c5 (ex7.trans (((((g0.trans g1).trans g2).trans g3).trans g4).trans g5))

abbrev N__law_values : List Str := ["draws", "cell", "most", "base", "wide", "stretch", "found", "k", "value"]
theorem sc__law_values : FnScope N__law_values ["draws", "cell", "most"] (defScope s__law_values) := ⟨rfl, rfl, rfl, by decide +kernel, rfl, by decide +kernel, by decide +kernel⟩
def sp__law_values (T : List Addr) : Sp := fun vs H Q _ => ∃ (dr : Addr) (c mo : Int), vs = [.ref dr, .int c, .int mo] ∧ 0 ≤ mo ∧ mo ≤ 1000 ∧ Wd T H ∧ Dr H dr ∧
  ∀ (r : Addr) (H' : Hp) (xs : List Int) (b : Int), (b = 0 ∨ b = -3 ∨ b = c) → H r = none → H' r = some (.lst (xs.map V.int)) → (xs.length : Int) ≤ mo → (∀ x ∈ xs, x.natAbs ≤ b.natAbs + 5000) → Ex T [dr] H H' → Dr H' dr → Q (.ref r) H'
theorem ok__law_values {f : Addr} {fd : FuncData} {k : Nat} {T : List Addr} (F : Fun K "_law_values" "_law_values" s__law_values f fd) (m_range : mg "range" = none) (m_len : mg "len" = none)
    {a__law_base : Addr} {d__law_base : FuncData} (G__law_base : FnOk P w K mg base CX0 k a__law_base d__law_base ["draws", "cell"] (sp__law_base T)) (k__law_base : PySem.W.keepIn K (.ref a__law_base) = true) (b__law_base : Binds K d__law_base ["draws", "cell"] []) (m__law_base : mg "_law_base" = some (.ref a__law_base))
    {a__law_take : Addr} {d__law_take : FuncData} (G__law_take : FnOk P w K mg base CX0 k a__law_take d__law_take ["draws", "many"] (sp__law_take T)) (k__law_take : PySem.W.keepIn K (.ref a__law_take) = true) (b__law_take : Binds K d__law_take ["draws", "many"] []) (m__law_take : mg "_law_take" = some (.ref a__law_take))
    {a__law_value : Addr} {d__law_value : FuncData} (G__law_value : FnOk P w K mg base CX0 k a__law_value d__law_value ["draws", "base", "wide"] (sp__law_value T)) (k__law_value : PySem.W.keepIn K (.ref a__law_value) = true) (b__law_value : Binds K d__law_value ["draws", "base", "wide"] []) (m__law_value : mg "_law_value" = some (.ref a__law_value)) :
    FnOk P w K mg base CX0 (k + 1) f fd ["draws", "cell", "most"] (sp__law_values T) := by
  refine F.ok sc__law_values (fun vs H Q E h => ?_) (fun cdv A outer s H vs Q E hr h => ?_)
  · obtain ⟨dr, c, mo, rfl, _⟩ := h
    rfl
  obtain ⟨dr, c, mo, rfl, m0, m1, wd, hd, q⟩ := h
  refine ⟨_, (pss_cons (ps_set (i := 3) sc__law_values.nd rfl (.inl rfl) (pe_call G__law_base hr (by rfl) m__law_base k__law_base b__law_base .nil pass0 (pa_cons (pv 0) (pa_cons (pv 1) pa_nil))))
    (pss_cons (ps_set (i := 4) sc__law_values.nd rfl (.inl rfl) (pe_ix ix_list (pe_lst (pa_cons pe_int (pa_cons pe_int (pa_cons pe_int (pa_cons pe_int (pa_cons pe_int pa_nil)))))) (pe_call G__law_take hr (by rfl) m__law_take k__law_take b__law_take .nil pass0 (pa_cons (pv 0) (pa_cons pe_int pa_nil))) (fun _ _ => rfl)))
    (pss_cons (ps_set (i := 5) sc__law_values.nd rfl (.inl rfl) (pe_call G__law_take hr (by rfl) m__law_take k__law_take b__law_take .nil pass0 (pa_cons (pv 0) (pa_cons pe_int pa_nil))))
    (pss_cons (ps_set (i := 6) sc__law_values.nd rfl (.inl rfl) (pe_lst pa_nil))
    (pss_cons (ps_for PassesOwn.never rfl (pi_range1 rfl m_range (pa_cons (pe_call G__law_take hr (by rfl) m__law_take k__law_take b__law_take .nil pass0 (pa_cons (pv 0) (pa_cons (pe_op op_add (pv 2) pe_int) pa_nil))) pa_nil)) (pg_name (i := 7) sc__law_values.nd rfl (.inl rfl))
      (pss_cons (ps_set (i := 8) sc__law_values.nd rfl (.inl rfl) (pe_call G__law_value hr (by rfl) m__law_value k__law_value b__law_value .nil pass0 (pa_cons (pv 0) (pa_cons (pv 3) (pa_cons (pv 4) pa_nil)))))
      (C8.pss_cut (ps_if (pw_and (pt_cmpR op_eq (pv 5) pe_int (nomark _)) (pw_and1 (pt_cmpR op_gt (pe_callB call_len_seq (by rfl) m_len PySem.boot_len (pa_cons (pv 6) pa_nil)) pe_int (nomark _)))).pt
        (pss_one (ps_set (i := 8) sc__law_values.nd rfl (.inl rfl) (pe_op op_add (pe_ix ix_list (pv 6) (pe_un un_neg pe_int) (fun _ _ => rfl)) (pe_ix ix_list (pe_lst (pa_cons pe_int (pa_cons pe_int (pa_cons pe_int (pa_cons pe_int (pa_cons (pe_un un_neg pe_int) (pa_cons (pe_un un_neg pe_int) pa_nil))))))) (pe_call G__law_take hr (by rfl) m__law_take k__law_take b__law_take .nil pass0 (pa_cons (pv 0) (pa_cons pe_int pa_nil))) (fun _ _ => rfl)))))
        pss_nil)
      (C8.pss_cut (ps_if (pw_and (pt_cmpR op_eq (pv 5) pe_int (nomark _)) (pw_and1 (pt_cmpR op_gt (pe_callB call_len_seq (by rfl) m_len PySem.boot_len (pa_cons (pv 6) pa_nil)) pe_int (nomark _)))).pt
        (pss_one (ps_set (i := 8) sc__law_values.nd rfl (.inl rfl) (pe_op op_sub (pe_ix ix_list (pv 6) (pe_un un_neg pe_int) (fun _ _ => rfl)) (pe_ix ix_list (pe_lst (pa_cons pe_int (pa_cons pe_int (pa_cons pe_int (pa_cons pe_int (pa_cons (pe_un un_neg pe_int) (pa_cons (pe_un un_neg pe_int) pa_nil))))))) (pe_call G__law_take hr (by rfl) m__law_take k__law_take b__law_take .nil pass0 (pa_cons (pv 0) (pa_cons pe_int pa_nil))) (fun _ _ => rfl)))))
        pss_nil)
      (pss_one (ps_expr (pe_bm PySem.F.plainAttrs_list PySem.F.slot_list_append PySem.F.type_list_append mt_append (pv 6) (pa_cons (pv 8) pa_nil))))))))
    (pss_one (ps_ret (pv 6)))))))), ?_⟩
  refine ⟨_, rfl, _, rfl, dr, c, rfl, hd, fun b H1 hb ex1 hd1 => ?_⟩
  refine ⟨by show 5 ≤ sizeLine; decide, fun p np => ⟨_, rfl, dr, 5, rfl, by decide, hd1.new np, fun y H2 y0 y1 ex2 hd2 => ?_⟩⟩
  have hp2 : H2 p = some (.lst (([2, 3, 5, 9, 40] : List Int).map V.int)) := ex2.lst (by simpa using hd1.ne np) upd_same
  obtain ⟨v, hv, hat⟩ := menu_at (xs := ([2, 3, 5, 9, 40] : List Int).map V.int) y0 y1
  obtain ⟨wi, hw, rfl⟩ := List.mem_map.mp hv
  have bw : 0 < wi ∧ wi ≤ 40 := by
    simp only [List.mem_cons, List.not_mem_nil, or_false] at hw
    omega
  refine ⟨p, _, _, _, rfl, rfl, SqL.of hp2, hat, ?_⟩
  refine ⟨_, rfl, dr, 4, rfl, by decide, hd2, fun s H3 s0 s1 ex3 hd3 => ?_⟩
  have exA : Ex T [dr] H H3 := (ex1.trans ((Ex.new np).trans ex2)).trans ex3
  clear hat hv hp2 hw ex2 ex3 ex1
  refine ⟨Nat.zero_le _, fun F0 nF => ?_⟩
  have neF : F0 ≠ dr := hd3.ne nF
  refine ⟨_, rfl, _, rfl, _, _, rfl, rfl, dr, mo + 1, rfl, by omega, hd3.new nF, fun n H4 n0 n1 ex4 hd4 => ?_⟩
  have hF4 : H4 F0 = some (.lst (([] : List Int).map V.int)) := ex4.lst (by simpa using neF) upd_same
  have ex04 : Ex T [dr] H H4 := (exA.trans (Ex.new nF)).trans ex4
  refine ⟨_, rfl, by omega, by omega, for_range (lo := 0) (n := n.toNat) (fun i σ' H' => (∃ y7 y8, σ' = [some (.ref dr), some (.int c), some (.int mo), some (.int b), some (.int wi), some (.int s), some (.ref F0), y7, y8]) ∧ Ex T [dr] H H' ∧ Dr H' dr ∧ ∃ xs : List Int, H' F0 = some (.lst (xs.map V.int)) ∧ xs.length = i ∧ ∀ x ∈ xs, x.natAbs ≤ b.natAbs + 1040 + 3 * i) ⟨⟨_, _, rfl⟩, ex04, hd4, [], hF4, rfl, fun x hx => by cases hx⟩ ?_ ?_⟩
  · rintro i σ' H5 hi ⟨⟨y7, y8, rfl⟩, ex5, hd5, xs, hF5, hl, hxs⟩
    refine ⟨_, rfl, _, rfl, _, rfl, dr, b, wi, rfl, bw.1, hd5, fun va H6 hva ex6 hd6 => ?_⟩
    have bv : va.natAbs ≤ b.natAbs + 1040 + 3 * (i + 1) := by omega
    have exv := ex5.trans ex6
    have hdv := hd6
    have hFv : H6 F0 = some (.lst (xs.map V.int)) := ex6.lst (by simpa using neF) hF5
    refine ⟨fun σ' H7 => (∃ va : Int, σ' = [some (.ref dr), some (.int c), some (.int mo), some (.int b), some (.int wi), some (.int s), some (.ref F0), some (.int (0 + (i : Int))), some (.int va)] ∧ va.natAbs ≤ b.natAbs + 1040 + 3 * (i + 1)) ∧ Ex T [dr] H H7 ∧ Dr H7 dr ∧ H7 F0 = some (.lst (xs.map V.int)), ?_, ?_⟩
    · refine ⟨_, rfl, rfl, _, rfl, ?_⟩
      by_cases cs : s = 0
      · rw [decide_eq_true (congrArg V.int cs)]
        refine iteT ⟨_, rfl, F0, _, rfl, .inl (SqL.of hFv), _, _, rfl, rfl, _, rfl, ?_⟩
        rw [List.length_map]
        by_cases cl : (0 : Int) < (xs.length : Nat)
        · rw [decide_eq_true cl]
          have cn : xs ≠ [] := fun e => by subst e; simp at cl
          refine iteT ⟨_, rfl, _, rfl, F0, _, _, _, rfl, rfl, SqL.of hFv, last_at cn, _, rfl, _, rfl, by show 6 ≤ sizeLine; decide, fun p5 np5 => ⟨_, rfl, dr, 6, rfl, by decide, hdv.new np5, fun z H6 z0 z1 ex6 hd6 => ?_⟩⟩
          have hp6 : H6 p5 = some (.lst (([1, 1, 2, 0, -1, -3] : List Int).map V.int)) := ex6.lst (by simpa using hdv.ne np5) upd_same
          obtain ⟨v, hv, hat⟩ := menu_at (xs := ([1, 1, 2, 0, -1, -3] : List Int).map V.int) z0 z1
          obtain ⟨t, ht, rfl⟩ := List.mem_map.mp hv
          have bt : t.natAbs ≤ 3 := by
            simp only [List.mem_cons, List.not_mem_nil, or_false] at ht
            rcases ht with rfl | rfl | rfl | rfl | rfl | rfl <;> decide
          have bl := hxs _ (List.getLast_mem cn)
          refine ⟨p5, _, _, _, rfl, rfl, SqL.of hp6, hat, _, _, rfl, rfl, ⟨_, rfl, by omega⟩, (exv.trans (Ex.new np5)).trans ex6, hd6, ex6.lst (by simpa using neF) (by rw [upd_ne (ne_of_none hFv np5)]; exact hFv)⟩
        · rw [decide_eq_false cl]
          exact iteF ⟨⟨_, rfl, bv⟩, exv, hdv, hFv⟩
      · rw [decide_eq_false (fun e => cs (V.int.inj e))]
        exact iteF ⟨⟨_, rfl, bv⟩, exv, hdv, hFv⟩
    rintro σ7 H7 ⟨⟨va, rfl, bv⟩, exv, hdv, hFv⟩
    refine ⟨fun σ' H8 => (∃ va : Int, σ' = [some (.ref dr), some (.int c), some (.int mo), some (.int b), some (.int wi), some (.int s), some (.ref F0), some (.int (0 + (i : Int))), some (.int va)] ∧ va.natAbs ≤ b.natAbs + 1040 + 3 * (i + 1)) ∧ Ex T [dr] H H8 ∧ Dr H8 dr ∧ H8 F0 = some (.lst (xs.map V.int)), ?_, ?_⟩
    · refine ⟨_, rfl, rfl, _, rfl, ?_⟩
      by_cases cs : s = 1
      · rw [decide_eq_true (congrArg V.int cs)]
        refine iteT ⟨_, rfl, F0, _, rfl, .inl (SqL.of hFv), _, _, rfl, rfl, _, rfl, ?_⟩
        rw [List.length_map]
        by_cases cl : (0 : Int) < (xs.length : Nat)
        · rw [decide_eq_true cl]
          have cn : xs ≠ [] := fun e => by subst e; simp at cl
          refine iteT ⟨_, rfl, _, rfl, F0, _, _, _, rfl, rfl, SqL.of hFv, last_at cn, _, rfl, _, rfl, by show 6 ≤ sizeLine; decide, fun p5 np5 => ⟨_, rfl, dr, 6, rfl, by decide, hdv.new np5, fun z H6 z0 z1 ex6 hd6 => ?_⟩⟩
          have hp6 : H6 p5 = some (.lst (([1, 1, 2, 0, -1, -3] : List Int).map V.int)) := ex6.lst (by simpa using hdv.ne np5) upd_same
          obtain ⟨v, hv, hat⟩ := menu_at (xs := ([1, 1, 2, 0, -1, -3] : List Int).map V.int) z0 z1
          obtain ⟨t, ht, rfl⟩ := List.mem_map.mp hv
          have bt : t.natAbs ≤ 3 := by
            simp only [List.mem_cons, List.not_mem_nil, or_false] at ht
            rcases ht with rfl | rfl | rfl | rfl | rfl | rfl <;> decide
          have bl := hxs _ (List.getLast_mem cn)
          refine ⟨p5, _, _, _, rfl, rfl, SqL.of hp6, hat, _, _, rfl, rfl, ⟨_, rfl, by omega⟩, (exv.trans (Ex.new np5)).trans ex6, hd6, ex6.lst (by simpa using neF) (by rw [upd_ne (ne_of_none hFv np5)]; exact hFv)⟩
        · rw [decide_eq_false cl]
          exact iteF ⟨⟨_, rfl, bv⟩, exv, hdv, hFv⟩
      · rw [decide_eq_false (fun e => cs (V.int.inj e))]
        exact iteF ⟨⟨_, rfl, bv⟩, exv, hdv, hFv⟩
    rintro σ8 H8 ⟨⟨va, rfl, bv⟩, exv, hdv, hFv⟩
    refine ⟨_, rfl, .inl ⟨rfl, _, .inl (.inl hFv)⟩, _, rfl, F0, _, _, rfl, rfl, hFv, by rw [List.length_map]; exact small5000 (by omega), ⟨_, _, rfl⟩, exv.put (exA.free nF) wd, hdv.put neF.symm, xs ++ [va], by rw [upd_same, iv_snoc], by rw [List.length_append, hl]; rfl, fun x hx => ?_⟩
    rcases List.mem_append.mp hx with h | h
    · have := hxs x h
      omega
    · obtain rfl := List.mem_singleton.mp h
      omega
  · rintro σ' H5 ⟨⟨y7, y8, rfl⟩, ex5, hd5, xs, hF5, hl, hxs⟩
    exact ⟨_, rfl, q F0 H5 xs b hb (exA.free nF) hF5 (by omega) (fun x hx => by have := hxs x hx; omega) ex5 hd5⟩

abbrev N__law_as_log : List Str := ["values", "value"]
theorem sc__law_as_log : FnScope N__law_as_log ["values"] (defScope s__law_as_log) := ⟨rfl, rfl, rfl, by decide +kernel, rfl, by decide +kernel, by decide +kernel⟩
def sp__law_as_log (K : PySem.W.Frag) (T : List Addr) : Sp := fun vs H Q _ => ∃ (a : Addr) (xs : List Int), vs = [.ref a] ∧ SqL K H a (xs.map V.int) ∧ xs.length ≤ 5000 ∧ Wd T H ∧ ∀ v H', At K H' v (.tup ((asLog xs).map encE)) → Ex T [] H H' → Q v H'
theorem ok__law_as_log {f : Addr} {fd : FuncData} {k : Nat} {T : List Addr} (F : Fun K "_law_as_log" "_law_as_log" s__law_as_log f fd) (m_tuple : mg "tuple" = none) :
    FnOk P w K mg base CX0 (k + 1) f fd ["values"] (sp__law_as_log K T) := by
  refine F.ok sc__law_as_log (fun vs H Q E h => ?_) (fun cdv A outer s H vs Q E hr h => ?_)
  · obtain ⟨a, xs, rfl, _⟩ := h
    rfl
  obtain ⟨a, xs, rfl, sq, len, wd, q⟩ := h
  refine ⟨_, (pss_one (ps_ret (pe_callTy call_tuple_of (by rfl) m_tuple (by decide +kernel) (pa_cons (pe_lc (own := [("value", 1)]) (g := (gName 1)) (tt := tYes) rfl sc__law_as_log.nd (pi_list (pv 0)) (blkOk_by (N := N__law_as_log) (sc := defScope s__law_as_log) (by decide +kernel))
        (fun _ _ _ _ _ => (pg_name (i := 1) sc__law_as_log.nd rfl (.inl rfl))) (fun _ _ _ _ _ => pts_nil)
        (fun _ _ _ _ _ => (pe_tup (pa_cons pe_int (pa_cons (pv 1) pa_nil))))) pa_nil)))), ?_⟩
  refine ⟨_, rfl, a, rfl, ⟨_, sq⟩, fun D nD => lc_list (xs := xs.map V.int) (fun i H' => Col K T [] D H H' (((asLog xs).take i).map encE)) (Col.start Ex.refl nD) (fun i H' _ c' => c'.1.sqL (by simp) sq) ?_ ?_⟩
  · rintro i x H' hi cl
    have hi' : i < xs.length := by have := (List.getElem?_eq_some_iff.mp hi).1; rw [List.length_map] at this; exact this
    rw [List.getElem?_map, List.getElem?_eq_getElem hi'] at hi
    cases hi
    refine ⟨wipe1, yesIf ⟨_, rfl, by show 2 ≤ sizeLine; decide, fun p np => ?_⟩⟩
    obtain ⟨acc, k1, k2, k3⟩ := cl.put nD (by simp) wd (Ex.new np) (x := .ref p) (d := encE (0, xs[i])) (At.laid np (Ats.mk (at_int.mpr rfl) (Ats.mk (at_int.mpr rfl) Ats.mk_nil))) (take_len _ _ _ _ (by rw [asLog_len]; exact len))
    refine ⟨acc, k1, k2, ?_⟩
    rw [take_map] at k3
    · exact k3
    · unfold asLog
      rw [List.getElem?_map, List.getElem?_eq_getElem hi']
      rfl
  · rintro H2 cl
    rw [List.length_map, ← asLog_len xs, List.take_length] at cl
    obtain ⟨exs, as0, hD0, ats0⟩ := cl
    exact ⟨D, _, rfl, .inl ⟨SqL.of hD0, fun l nl => q _ _ (At.laid nl ats0) (exs.trans (Ex.new nl))⟩⟩

abbrev N__law_greatest : List Str := ["values", "rows", "bands", "records_said", "last", "k", "before"]
theorem sc__law_greatest : FnScope N__law_greatest ["values", "rows", "bands", "records_said"] (defScope s__law_greatest) := ⟨rfl, rfl, rfl, by decide +kernel, rfl, by decide +kernel, by decide +kernel⟩
def sp__law_greatest (K : PySem.W.Frag) (T : List Addr) : Sp := fun vs H Q _ => ∃ (a : Addr) (vr vb vc : V) (xs : List Int), vs = [.ref a, vr, vb, vc] ∧ SqL K H a (xs.map V.int) ∧ At K H vr (.tup ((topDue 1 xs).map encA)) ∧ At K H vb (.tup ((bandDue xs).map encA)) ∧ At K H vc (.tup ((recDue xs).map encA)) ∧ xs.length ≤ 1000 ∧ Wd T H ∧
  ∀ H', Ex T [] H H' → Q (.bl true) H'
theorem ok__law_greatest {f : Addr} {fd : FuncData} {k : Nat} {T : List Addr} (F : Fun K "_law_greatest" "_law_greatest" s__law_greatest f fd) (m_range : mg "range" = none) (m_len : mg "len" = none) :
    FnOk P w K mg base CX0 (k + 1) f fd ["values", "rows", "bands", "records_said"] (sp__law_greatest K T) := by
  refine F.ok sc__law_greatest (fun vs H Q E h => ?_) (fun cdv A outer s H vs Q E hr h => ?_)
  · obtain ⟨a, vr, vb, vc, xs, rfl, _⟩ := h
    rfl
  obtain ⟨a, vr, vb, vc, xs, rfl, sq, atr, atb, atc, len, wd, q⟩ := h
  refine ⟨_, (pss_cons (ps_set (i := 4) sc__law_greatest.nd rfl (.inl rfl) pe_non)
    (pss_cons (ps_for PassesOwn.never rfl (pi_range1 rfl m_range (pa_cons (pe_callB call_len_seq (by rfl) m_len PySem.boot_len (pa_cons (pv 0) pa_nil)) pa_nil)) (pg_name (i := 5) sc__law_greatest.nd rfl (.inl rfl))
      (pss_cons (ps_set (i := 6) sc__law_greatest.nd rfl (.inl rfl) (pv 4))
      (C8.pss_cut (ps_if (pt_cmpR op_gt (pe_callB call_len_seq (by rfl) m_len PySem.boot_len (pa_cons (pe_ix ix_tup (pv 2) (pv 5) (fun _ _ => rfl)) pa_nil)) pe_int (nomark _))
        (pss_one (ps_set (i := 4) sc__law_greatest.nd rfl (.inl rfl) (pe_ix ix_tup (pe_ix ix_tup (pe_ix ix_tup (pv 2) (pv 5) (fun _ _ => rfl)) pe_int (fun _ _ => rfl)) pe_int (fun _ _ => rfl))))
        pss_nil)
      (pss_cons (ps_if (pw_or (pt_cmpR op_ne (pe_callB call_len_seq (by rfl) m_len PySem.boot_len (pa_cons (pe_ix ix_tup (pv 1) (pv 5) (fun _ _ => rfl)) pa_nil)) pe_int (nomark _)) (pw_or1 (pt_cmpR (op_neD hr.units) (pe_ix ix_tup (pe_ix ix_tup (pv 1) (pv 5) (fun _ _ => rfl)) pe_int (fun _ _ => rfl)) (pe_tup (pa_cons pe_int (pa_cons (pv 4) pa_nil))) (nomark _)))).pt
        (pss_one (ps_ret pe_bl))
        pss_nil)
      (pss_cons (ps_if (pt_cmpR op_ne (pe_cmpR op_eq (pe_callB call_len_seq (by rfl) m_len PySem.boot_len (pa_cons (pe_ix ix_tup (pv 3) (pv 5) (fun _ _ => rfl)) pa_nil)) pe_int (nomark _)) (pe_or (pe_cmp (pc_isN (pv 6)) rfl) (pe_one (pe_cmpR op_gt (pv 4) (pv 6) (nomark _)))) (nomark _))
        (pss_one (ps_ret pe_bl))
        pss_nil)
      (pss_one (ps_if (pw_and (pt_cmpR op_eq (pe_callB call_len_seq (by rfl) m_len PySem.boot_len (pa_cons (pe_ix ix_tup (pv 3) (pv 5) (fun _ _ => rfl)) pa_nil)) pe_int (nomark _)) (pw_and1 (pt_cmpR (op_neD hr.units) (pe_ix ix_tup (pv 3) (pv 5) (fun _ _ => rfl)) (pe_tup (pa_cons (pe_tup (pa_cons pe_int (pa_cons (pv 4) pa_nil))) pa_nil)) (nomark _)))).pt
        (pss_one (ps_ret pe_bl))
        pss_nil)))))))
    (pss_one (ps_ret pe_bl)))), ?_⟩
  have ml : (xs.map V.int).length = xs.length := List.length_map ..
  obtain ⟨ar, ur, rfl, sqr, tr⟩ := at_tup.mp atr
  obtain ⟨ab, ub, rfl, sqb, tb⟩ := at_tup.mp atb
  obtain ⟨ac, uc, rfl, sqc, tc⟩ := at_tup.mp atc
  refine ⟨_, rfl, a, _, rfl, .inl sq, _, rfl, by omega, by omega, for_range (lo := 0) (n := (xs.map V.int).length) (fun i σ' H' => (∃ y5 y6, σ' = [some (.ref a), some (.ref ar), some (.ref ab), some (.ref ac), some (oV (mxO xs i)), y5, y6]) ∧ Ex T [] H H') ⟨⟨_, _, rfl⟩, Ex.refl⟩ ?_ ?_⟩
  · rintro i σ' H1 hi ⟨⟨y5, y6, rfl⟩, ex1⟩
    have hi' : i < xs.length := by omega
    have zi : (0 : Int) + (i : Int) = ((i : Nat) : Int) := by omega
    obtain ⟨⟨l, h⟩, eo⟩ := band_some xs i
    have mx1 : mxO xs (i + 1) = some h := by unfold mxO; rw [eo]; rfl
    have gb : (bandDue xs)[i]? = some (bandRow xs i) := by unfold bandDue; rw [List.getElem?_map, List.getElem?_range hi']; rfl
    have gr : (topDue 1 xs)[i]? = some [(0, some h)] := by
      unfold topDue
      rw [List.getElem?_map, List.getElem?_range hi', Option.map_some, fall_head (by omega) (by omega) eo]
      rfl
    have gc : (recDue xs)[i]? = some (recRow xs i) := by unfold recDue; rw [List.getElem?_map, List.getElem?_range hi']; rfl
    obtain ⟨xb, hb1, hb2⟩ := tb.at gb
    obtain ⟨xr, hr1, hr2⟩ := tr.at gr
    obtain ⟨xc, hc1, hc2⟩ := tc.at gc
    -- before = last
    refine ⟨_, rfl, ?_⟩
    refine ⟨fun σ' H' => (σ' = [some (.ref a), some (.ref ar), some (.ref ab), some (.ref ac), some (oV (some h)), some (.int (0 + (i : Int))), some (oV (mxO xs i))]) ∧ Ex T [] H H', ?_, ?_⟩
    · obtain ⟨abr, vbs, rfl, sqbr, tbr⟩ := at_tup.mp (hb2.ext ex1)
      refine ⟨_, rfl, _, rfl, ab, _, _, _, rfl, rfl, ex1.sqT sqb, nat_at hb1, abr, _, rfl, .inr sqbr, _, _, rfl, rfl, _, rfl, ?_⟩
      have bl := tbr.len
      by_cases c : bandO xs (i + 1) = bandO xs i
      · have e0 : bandRow xs i = [] := by unfold bandRow; rw [if_pos c]
        rw [e0] at bl
        rw [decide_eq_false (by rw [bl]; decide)]
        refine iteF ⟨?_, ex1⟩
        rw [show mxO xs i = some h by rw [← mx1]; unfold mxO; rw [c]]
        rfl
      · have e0 : bandRow xs i = [(0, some l), (1, some h)] := by unfold bandRow; rw [if_neg c, eo]; rfl
        rw [e0] at bl tbr
        rw [decide_eq_true (by rw [bl]; show (0 : Int) < ((2 : Nat) : Int); decide)]
        obtain ⟨p1, hp1, hp2⟩ := tbr.at (i := 1) (a := ((1 : Int), some h)) rfl
        obtain ⟨apr, w1, w2, rfl, sqpr, g1, g2⟩ := hp2.t2
        cases at_encO.mp g2
        refine iteT ⟨_, rfl, _, rfl, ab, _, _, _, rfl, rfl, ex1.sqT sqb, nat_at hb1, abr, _, _, _, rfl, rfl, sqbr, at_natI hp1, apr, _, _, _, rfl, rfl, sqpr, rfl, ?_⟩
        exact ⟨rfl, ex1⟩
    rintro σ2 H2 ⟨rfl, ex2⟩
    -- the row of the top list
    obtain ⟨arr, vrs, rfl, sqrr, trr⟩ := at_tup.mp (hr2.ext ex2)
    have rl := trr.len
    refine ⟨_, rfl, _, rfl, ar, _, _, _, rfl, rfl, ex2.sqT sqr, nat_at hr1, arr, _, rfl, .inr sqrr, rfl, _, rfl, ?_⟩
    rw [rl]
    refine iteF ⟨_, rfl, _, rfl, ar, _, _, _, rfl, rfl, ex2.sqT sqr, nat_at hr1, ?_⟩
    obtain ⟨p1, hp1, hp2⟩ := trr.at (i := 0) (a := ((0 : Int), some h)) rfl
    refine ⟨arr, _, _, _, rfl, rfl, sqrr, at_natI hp1, _, rfl, by show 2 ≤ sizeLine; decide, fun pn npn => ?_⟩
    have e3 := Ex.new (T := T) (ms := []) (o := HO.tup [.int 0, oV (some h)]) npn
    refine neD_same (hp2.ext e3) (d := encA1 ((0 : Int), some h)) (At.laid npn (Ats.mk (at_int.mpr rfl) (Ats.mk (at_encO.mpr rfl) Ats.mk_nil))) (plD_tup (plDs_cons plD_int (plDs_cons (plD_encO (n := 0)) plDs_nil))) (by decide) ⟨_, rfl, iteF ?_⟩
    have ex3 := ex2.trans e3
    obtain ⟨acr, wcs, rfl, sqcr, tcr⟩ := at_tup.mp (hc2.ext ex3)
    have cl := tcr.len
    refine ⟨_, rfl, _, rfl, ac, _, _, _, rfl, rfl, ex3.sqT sqc, nat_at hc1, acr, _, rfl, .inr sqcr, rfl, ?_⟩
    have rn := rec_new hi' eo
    have z2 : ∀ (b : Bool), (!decide (V.bl b = V.bl b)) = false := fun b => by simp
    have lenb : ∀ c : Bool, recRow xs i = (if c = true then [(0, some h)] else []) → decide (V.int ((wcs.length : Nat) : Int) = V.int 1) = c := fun c hc => by
      rw [cl, hc]
      cases c <;> rfl
    cases em : mxO xs i with
    | none =>
      rw [em] at rn
      dsimp only at rn
      have lb := lenb true rn
      rw [lb]
      refine ⟨_, rfl, _, rfl, iteT ⟨rfl, _, rfl, ?_⟩⟩
      rw [z2]
      refine iteF ?_
      refine ⟨_, rfl, _, rfl, ac, _, _, _, rfl, rfl, ex3.sqT sqc, nat_at hc1, acr, _, rfl, .inr sqcr, rfl, _, rfl, ?_⟩
      rw [lb]
      refine iteT ⟨_, rfl, _, rfl, ac, _, _, _, rfl, rfl, ex3.sqT sqc, nat_at hc1, _, rfl, by show 2 ≤ sizeLine; decide, fun p1 n1 => ⟨by show 1 ≤ sizeLine; decide, fun p2 n2 => ?_⟩⟩
      have a1 := At.laid (K := K) (xs := [.int 0, oV (some h)]) (ds := [.int 0, encO (some h)]) n1 (Ats.mk (at_int.mpr rfl) (Ats.mk (at_encO.mpr rfl) Ats.mk_nil))
      have f1 := Ex.new (T := T) (ms := []) (o := HO.tup [.int 0, oV (some h)]) n1
      have a2 := At.laid (K := K) (xs := [.ref p1]) n2 (Ats.mk a1 Ats.mk_nil)
      have f2 := Ex.new (T := T) (ms := []) (o := HO.tup [.ref p1]) n2
      have f12 := f1.trans f2
      have ao := (hc2.ext ex3).ext f12
      rw [rn, if_pos rfl] at ao
      exact neD_same ao a2 (plD_encA (n := 0)) (by decide) ⟨_, rfl, iteF ⟨⟨_, _, by rw [mx1]; try rfl⟩, ex3.trans f12⟩⟩
    | some b =>
      rw [em] at rn
      dsimp only at rn
      have lb := lenb (decide (b < h)) (by simpa using rn)
      rw [lb]
      refine ⟨_, rfl, _, rfl, iteF ⟨_, rfl, _, rfl, _, _, rfl, rfl, rfl, _, rfl, ?_⟩⟩
      rw [z2]
      refine iteF ?_
      refine ⟨_, rfl, _, rfl, ac, _, _, _, rfl, rfl, ex3.sqT sqc, nat_at hc1, acr, _, rfl, .inr sqcr, rfl, _, rfl, ?_⟩
      rw [lb]
      by_cases c : b < h
      · rw [decide_eq_true c]
        refine iteT ⟨_, rfl, _, rfl, ac, _, _, _, rfl, rfl, ex3.sqT sqc, nat_at hc1, _, rfl, by show 2 ≤ sizeLine; decide, fun p1 n1 => ⟨by show 1 ≤ sizeLine; decide, fun p2 n2 => ?_⟩⟩
        have a1 := At.laid (K := K) (xs := [.int 0, oV (some h)]) (ds := [.int 0, encO (some h)]) n1 (Ats.mk (at_int.mpr rfl) (Ats.mk (at_encO.mpr rfl) Ats.mk_nil))
        have f1 := Ex.new (T := T) (ms := []) (o := HO.tup [.int 0, oV (some h)]) n1
        have a2 := At.laid (K := K) (xs := [.ref p1]) n2 (Ats.mk a1 Ats.mk_nil)
        have f2 := Ex.new (T := T) (ms := []) (o := HO.tup [.ref p1]) n2
        have f12 := f1.trans f2
        have ao := (hc2.ext ex3).ext f12
        rw [rn, if_pos (decide_eq_true c)] at ao
        exact neD_same ao a2 (plD_encA (n := 0)) (by decide) ⟨_, rfl, iteF ⟨⟨_, _, by rw [mx1]; try rfl⟩, ex3.trans f12⟩⟩
      · rw [decide_eq_false c]
        exact iteF ⟨⟨_, _, by rw [mx1]; try rfl⟩, ex3⟩
  · rintro σ' H1 ⟨⟨y5, y6, rfl⟩, ex1⟩
    exact q _ ex1

abbrev N__law_lists : List Str := ["log", "rows", "k", "many", "values", "pair"]
theorem sc__law_lists : FnScope N__law_lists ["log"] (defScope s__law_lists) := ⟨rfl, rfl, rfl, by decide +kernel, rfl, by decide +kernel, by decide +kernel⟩
def sp__law_lists (K : PySem.W.Frag) (T : List Addr) : Sp := fun vs H Q _ => ∃ (vl : V) (xs : List Int), vs = [vl] ∧ At K H vl (.tup ((asLog xs).map encE)) ∧ xs.length ≤ 1000 ∧ Wd T H ∧
  ∀ H', Ex T [] H H' → Q (.bl true) H'
theorem ok__law_lists {f : Addr} {fd : FuncData} {k : Nat} {T : List Addr} (F : Fun K "_law_lists" "_law_lists" s__law_lists f fd) (m_range : mg "range" = none) (m_len : mg "len" = none) (m_min : mg "min" = none) (m_sorted : mg "sorted" = none)
    {a_answers : Addr} {d_answers : FuncData} (G_answers : FnOk P w K mg base CX0 k a_answers d_answers ["machine", "log"] (sp_answers K T 3)) (k_answers : PySem.W.keepIn K (.ref a_answers) = true) (b_answers : Binds K d_answers ["machine", "log"] []) (m_answers : mg "answers" = some (.ref a_answers))
    {a_top_list : Addr} {d_top_list : FuncData} (G_top_list : FnOk P w K mg base CX0 k a_top_list d_top_list ["k"] (sp_top_list K T)) (k_top_list : PySem.W.keepIn K (.ref a_top_list) = true) (b_top_list : Binds K d_top_list ["k"] []) (m_top_list : mg "top_list" = some (.ref a_top_list)) :
    FnOk P w K mg base CX0 (k + 1) f fd ["log"] (sp__law_lists K T) := by
  refine F.ok sc__law_lists (fun vs H Q E h => ?_) (fun cdv A outer s H vs Q E hr h => ?_)
  · obtain ⟨vl, xs, rfl, _⟩ := h
    rfl
  obtain ⟨vl, xs, rfl, atl, len, wd, q⟩ := h
  refine ⟨_, (pss_cons (ps_setLc (i := 1) (own := [("many", 3)]) (g := (gName 3)) (tt := tYes) rfl sc__law_lists.nd rfl rfl (sw_true rfl rfl rfl (by decide +kernel)) (pi_range2 rfl m_range (pa_cons pe_int (pa_cons pe_int pa_nil))) (blkOk_by (N := N__law_lists) (sc := defScope s__law_lists) (by decide +kernel))
        (fun _ _ _ _ _ => (pg_name (i := 3) sc__law_lists.nd rfl (.inl rfl))) (fun _ _ _ _ _ => pts_nil)
        (fun _ _ _ _ _ => (pe_call G_answers hr (by rfl) m_answers k_answers b_answers .nil pass0 (pa_cons (pe_call G_top_list hr (by rfl) m_top_list k_top_list b_top_list .nil pass0 (pa_cons (pv 3) pa_nil)) (pa_cons (pv 0) pa_nil)))))
    (pss_cons (ps_for PassesOwn.never rfl (pi_range1 rfl m_range (pa_cons (pe_callB call_len_seq (by rfl) m_len PySem.boot_len (pa_cons (pv 0) pa_nil)) pa_nil)) (pg_name (i := 2) sc__law_lists.nd rfl (.inl rfl))
      (pss_cons (ps_for PassesOwn.never rfl (pi_range2 rfl m_range (pa_cons pe_int (pa_cons pe_int pa_nil))) (pg_name (i := 3) sc__law_lists.nd rfl (.inl rfl))
        (pss_one (ps_if (pw_or (pt_cmpR (op_neD hr.units) (pe_slice sl_tupA (pe_ix ix_tup (pe_ix ix_list (pv 1) (pv 3) (fun _ _ => rfl)) (pv 2) (fun _ _ => rfl)) po_none (po_some (pv 3))) (pe_ix ix_tup (pe_ix ix_list (pv 1) (pe_op op_sub (pv 3) pe_int) (fun _ _ => rfl)) (pv 2) (fun _ _ => rfl)) (nomark _)) (pw_or1 (pt_cmpR op_ne (pe_callB call_len_seq (by rfl) m_len PySem.boot_len (pa_cons (pe_ix ix_tup (pe_ix ix_list (pv 1) (pv 3) (fun _ _ => rfl)) (pv 2) (fun _ _ => rfl)) pa_nil)) (pe_callB (call_min2 rfl) (by rfl) m_min boot_min (pa_cons (pe_op op_add (pv 3) pe_int) (pa_cons (pe_op op_add (pv 2) pe_int) pa_nil))) (nomark _)))).pt
          (pss_one (ps_ret pe_bl))
          pss_nil)))
      (pss_cons (ps_setLc (i := 4) (own := [("pair", 5)]) (g := (gName 5)) (tt := tYes) rfl sc__law_lists.nd rfl rfl (sw_true rfl rfl rfl (by decide +kernel)) (pi_tup (pe_ix ix_tup (pe_ix ix_list (pv 1) pe_int (fun _ _ => rfl)) (pv 2) (fun _ _ => rfl))) (blkOk_by (N := N__law_lists) (sc := defScope s__law_lists) (by decide +kernel))
        (fun _ _ _ _ _ => (pg_name (i := 5) sc__law_lists.nd rfl (.inl rfl))) (fun _ _ _ _ _ => pts_nil)
        (fun _ _ _ _ _ => (pe_ix (r := rIxT K) ix_tup (pv 5) pe_int (fun _ _ => rfl))))
      (pss_one (ps_if (pt_cmpR (op_neD hr.units) (pv 4) (pe_revL (pe_callB cr_sortedI (by rfl) m_sorted boot_sorted (pa_cons (pv 4) pa_nil))) (nomark _))
        (pss_one (ps_ret pe_bl))
        pss_nil)))))
    (pss_one (ps_ret pe_bl)))), ?_⟩
  obtain ⟨al, ul, rfl, sql, tl⟩ := at_tup.mp atl
  have ll : ul.length = xs.length := by rw [tl.length, List.length_map, asLog_len]
  have tagok : ∀ e ∈ asLog xs, e.1 < 1 := fun e he => by
    unfold asLog at he
    obtain ⟨z, _, rfl⟩ := List.mem_map.mp he
    show 0 < 1
    decide
  refine ⟨1, 7, rfl, ⟨by decide, by decide, by decide, by decide⟩, fun Z nZ => lc_range (lo := 1) (n := 6) (fun i H' => Col K T [] Z H H' ((List.range i).map fun m => D.tup ((topDue (1 + m) xs).map encA))) (Col.start Ex.refl nZ) ?_ ?_⟩
  · rintro i H1 hi cl
    have wd1 := cl.1.wd wd
    refine ⟨wipe1, yesIf ⟨_, rfl, 1 + i, by rw [show (1 + (i : Int)) = ((1 + i : Nat) : Int) by omega]; rfl, by omega, by omega, wd1, fun v H2 at2 ex2 => ?_⟩⟩
    have tok := top_ok (k := 1 + i) (by omega) (by omega)
    refine ⟨_, rfl, v, .ref al, topM (1 + i), asLog xs, rfl, at2, Lg.tup ((atl.ext cl.1).ext ex2), ex2.wd wd1, tok, tagok, by rw [asLog_len]; omega, fun v3 H3 at3 ex3 => ?_⟩
    rw [show begM (topM (1 + i)) = (0, List.replicate (1 + i) none) from rfl, top_due] at at3
    obtain ⟨acc, k1, k2, k3⟩ := cl.put nZ (by simp) wd (ex2.trans ex3) at3 (by rw [List.length_map, List.length_range]; omega)
    refine ⟨acc, k1, k2, ?_⟩
    rw [List.range_succ, List.map_append]
    exact k3
  rintro H1 ⟨ex1, us, hZ, ats⟩
  have usl : us.length = 6 := by rw [ats.length]; rfl
  have row : ∀ (H' : Hp), Ex T [] H1 H' → ∀ (m : Nat), m < 6 → ∀ k, k < xs.length → ∃ (u v : V) (au : Addr) (ws : List V), us[m]? = some u ∧ u = .ref au ∧ SqT K H' au ws ∧ ws[k]? = some v ∧ At K H' v (encA (enA ((fallD (xs.take (k + 1))).take (1 + m)))) := fun H' ex m hm k hk => by
    have g : ((List.range 6).map fun m => D.tup ((topDue (1 + m) xs).map encA))[m]? = some (D.tup ((topDue (1 + m) xs).map encA)) := by rw [List.getElem?_map, List.getElem?_range hm]; rfl
    obtain ⟨u, hu1, hu2⟩ := ats.get g
    obtain ⟨au, ws, rfl, sqw, tw⟩ := at_tup.mp (hu2.ext ex)
    have g2 : (topDue (1 + m) xs)[k]? = some (enA ((fallD (xs.take (k + 1))).take (1 + m))) := by unfold topDue; rw [List.getElem?_map, List.getElem?_range hk]; rfl
    obtain ⟨v, hv1, hv2⟩ := tw.at g2
    exact ⟨_, v, au, ws, hu1, rfl, sqw, hv1, hv2⟩
  refine ⟨_, rfl, al, _, rfl, .inr (ex1.sqT sql), _, rfl, by omega, by omega, for_range (lo := 0) (n := ul.length) (fun i σ' H' => (∃ y2 y3 y4, σ' = [some (.ref al), some (.ref Z), y2, y3, y4, none]) ∧ Ex T [] H1 H') ⟨⟨_, _, _, rfl⟩, Ex.refl⟩ ?_ ?_⟩
  · rintro i σ' H2 hi ⟨⟨y2, y3, y4, rfl⟩, ex2⟩
    have hi' : i < xs.length := by omega
    have zi : (0 : Int) + (i : Int) = ((i : Nat) : Int) := by omega
    refine ⟨1, 6, rfl, ⟨by decide, by decide, by decide, by decide⟩, for_range (lo := 1) (n := 5) (fun j σ' H' => (∃ y3 y4, σ' = [some (.ref al), some (.ref Z), some (.int (0 + (i : Int))), y3, y4, none]) ∧ Ex T [] H1 H') ⟨⟨_, _, rfl⟩, ex2⟩ ?_ ?_⟩
    · rintro j σ' H3 hj ⟨⟨y3, y4, rfl⟩, ex3⟩
      obtain ⟨u1, v1, a1, w1, hu1, rfl, sq1, hv1, at1⟩ := row H3 ex3 (1 + j) (by omega) i hi'
      have m1 : atI us (1 + (j : Int)) = some (.ref a1) := by rw [show (1 + (j : Int)) = ((1 + j : Nat) : Int) by omega]; exact at_natI hu1
      refine ⟨_, rfl, _, rfl, Z, _, _, _, rfl, rfl, SqL.of (ex3.lst (by simp) hZ), m1, _, rfl, a1, _, _, _, rfl, rfl, sq1, by rw [zi]; exact at_natI hv1, ?_⟩
      dsimp only [tNoPart]
      refine ⟨_, rfl, 1 + (j : Int), rfl, ?_⟩
      refine takeT_any (T := T) at1 (by omega) fun v4 H4 at4 ex4 => ?_
      have ex34 := ex3.trans ex4
      obtain ⟨u0, v0, a0, w0, hu0, rfl, sq0, hv0, at0⟩ := row H4 ex34 j (by omega) i hi'
      have m0 : atI us (1 + (j : Int) - 1) = some (.ref a0) := by rw [show (1 + (j : Int) - 1) = ((j : Nat) : Int) by omega]; exact at_natI hu0
      refine ⟨_, rfl, _, rfl, _, _, rfl, rfl, Z, _, _, _, rfl, rfl, SqL.of (ex34.lst (by simp) hZ), m0, _, rfl, a0, _, _, _, rfl, rfl, sq0, by rw [zi]; exact at_natI hv0, ?_⟩
      rw [← List.map_take, show (1 + (j : Int)).toNat = 1 + j by omega, enA_take, List.take_take, show min (1 + j) (1 + (1 + j)) = 1 + j by omega] at at4
      refine neD_same at4 at0 (plD_encA (n := 0)) (by decide) ⟨_, rfl, iteF ?_⟩
      obtain ⟨a2, ws2, rfl, sq2, tw2⟩ := at_tup.mp (at1.ext ex4)
      refine ⟨_, rfl, _, rfl, Z, _, _, _, rfl, rfl, SqL.of (ex34.lst (by simp) hZ), m1, _, rfl, a1, _, _, _, rfl, rfl, ex4.sqT sq1, by rw [zi]; exact at_natI hv1, a2, _, rfl, .inr sq2, ?_⟩
      refine ⟨_, rfl, _, _, rfl, rfl, _, rfl, _, _, rfl, rfl, _, _, rfl, rfl, _, rfl, ?_⟩
      have wl := tw2.len
      rw [enA_len, List.length_take, fall_len] at wl
      rw [decide_eq_true (congrArg V.int (by rw [wl]; split <;> omega))]
      exact iteF ⟨⟨_, _, rfl⟩, ex34⟩
    rintro σ' H3 ⟨⟨y3, y4, rfl⟩, ex3⟩
    obtain ⟨u5, v5, a5, w5, hu5, rfl, sq5, hv5, at5⟩ := row H3 ex3 5 (by omega) i hi'
    obtain ⟨ar, ws, rfl, sqr, tw⟩ := at_tup.mp at5
    generalize ed : (fallD (xs.take (i + 1))).take (1 + 5) = d at *
    have wl := tw.len
    rw [enA_len] at wl
    have ld : d.length ≤ 6 := by rw [← ed, List.length_take]; omega
    have df : d.Pairwise (fun a b => b ≤ a) := by rw [← ed]; exact (fallD_both xs (i + 1)).1.take
    refine ⟨_, rfl, Z, _, _, _, rfl, rfl, SqL.of (ex3.lst (by simp) hZ), at_natI hu5, _, rfl, a5, _, _, _, rfl, rfl, sq5, by rw [zi]; exact at_natI hv5, ar, rfl, ⟨_, sqr⟩, fun Y nY => lc_tup (xs := ws) (fun j H' => Ex T [] H3 H' ∧ H' Y = some (.lst ((d.take j).map V.int))) ⟨Ex.new nY, upd_same⟩ (fun j H' _ z => z.1.sqT sqr) ?_ ?_⟩
    · rintro j x H' hj ⟨ex, hY⟩
      have hj' : j < d.length := by rw [← wl]; exact (List.getElem?_eq_some_iff.mp hj).1
      obtain ⟨x', hx1, hx2⟩ := tw.at (enA_at d hj')
      rw [hj] at hx1
      cases hx1
      obtain ⟨ap, p1, p2, rfl, sqp, g1, g2⟩ := (hx2.ext ex).t2
      cases at_encO.mp g2
      refine ⟨wipe1, yesIf ⟨_, rfl, ap, _, _, _, rfl, rfl, sqp, rfl, _, hY, by rw [List.length_map, List.length_take]; exact small5000 (by omega), ex.put nY ((ex1.trans ex3).wd wd), ?_⟩⟩
      rw [upd_same, List.take_add_one, List.getElem?_eq_getElem hj', List.map_append]
      rfl
    rintro H4 ⟨ex4, hY⟩
    rw [wl, List.take_length] at hY
    refine ⟨_, rfl, _, rfl, Y, d, rfl, SqL.of hY, fun ys p pm sd np => ?_⟩
    refine ⟨p, _, rfl, SqL.of upd_same, fun p2 np2 => ?_⟩
    rw [← List.map_reverse, fall_sorted df pm sd] at *
    have e6 := (Ex.new (T := T) (ms := []) (o := HO.lst (ys.map V.int)) np).trans (Ex.new (T := T) (ms := []) (o := HO.lst (d.map V.int)) np2)
    refine neD_ints (xs := d) (ys := d) (SqL.of (e6.lst (by simp) hY)) (SqL.of upd_same) ⟨_, rfl, ?_⟩
    rw [decide_eq_true rfl]
    exact iteF ⟨⟨_, _, _, rfl⟩, (ex3.trans ex4).trans e6⟩
  · rintro σ' H2 ⟨⟨y2, y3, y4, rfl⟩, ex2⟩
    exact q _ (ex1.trans ex2)

abbrev N__law_turns : List Str := ["values", "said", "tags", "k", "pair"]
theorem sc__law_turns : FnScope N__law_turns ["values", "said"] (defScope s__law_turns) := ⟨rfl, rfl, rfl, by decide +kernel, rfl, by decide +kernel, by decide +kernel⟩
def sp__law_turns (K : PySem.W.Frag) (T : List Addr) : Sp := fun vs H Q _ => ∃ (a : Addr) (vc : V) (xs : List Int), vs = [.ref a, vc] ∧ SqL K H a (xs.map V.int) ∧ At K H vc (.tup ((turnsDue xs).map encA)) ∧ xs.length ≤ 1000 ∧ Wd T H ∧
  ∀ H', Ex T [] H H' → Q (.bl true) H'
theorem ok__law_turns {f : Addr} {fd : FuncData} {k : Nat} {T : List Addr} (F : Fun K "_law_turns" "_law_turns" s__law_turns f fd) (m_range : mg "range" = none) (m_len : mg "len" = none) :
    FnOk P w K mg base CX0 (k + 1) f fd ["values", "said"] (sp__law_turns K T) := by
  refine F.ok sc__law_turns (fun vs H Q E h => ?_) (fun cdv A outer s H vs Q E hr h => ?_)
  · obtain ⟨a, vc, xs, rfl, _⟩ := h
    rfl
  obtain ⟨a, vc, xs, rfl, sq, atc, len, wd, q⟩ := h
  refine ⟨_, (pss_cons (ps_set (i := 2) sc__law_turns.nd rfl (.inl rfl) (pe_lst pa_nil))
    (pss_cons (ps_for PassesOwn.never rfl (pi_range1 rfl m_range (pa_cons (pe_callB call_len_seq (by rfl) m_len PySem.boot_len (pa_cons (pv 0) pa_nil)) pa_nil)) (pg_name (i := 3) sc__law_turns.nd rfl (.inl rfl))
      (C8.pss_cut (ps_if (pw_and (pt_cmpR op_gt (pv 3) pe_int (nomark _)) (pw_and1 (pt_cmpR op_eq (pe_ix ix_list (pv 0) (pv 3) (fun _ _ => rfl)) (pe_ix ix_list (pv 0) (pe_op op_sub (pv 3) pe_int) (fun _ _ => rfl)) (nomark _)))).pt
        (pss_one (ps_set (i := 2) sc__law_turns.nd rfl (.inl rfl) (pe_lst pa_nil)))
        pss_nil)
      (pss_one (ps_for PassesOwn.never rfl (pi_tup (pe_ix ix_tup (pv 1) (pv 3) (fun _ _ => rfl))) (pg_name (i := 4) sc__law_turns.nd rfl (.inl rfl))
        (pss_cons (ps_if (pw_and (pt_cmpR op_gt (pe_callB call_len_seq (by rfl) m_len PySem.boot_len (pa_cons (pv 2) pa_nil)) pe_int (nomark _)) (pw_and1 (pt_cmpR op_eq (pe_ix ix_list (pv 2) (pe_un un_neg pe_int) (fun _ _ => rfl)) (pe_ix ix_tup (pv 4) pe_int (fun _ _ => rfl)) (nomark _)))).pt
          (pss_one (ps_ret pe_bl))
          pss_nil)
        (pss_one (ps_expr (pe_bm PySem.F.plainAttrs_list PySem.F.slot_list_append PySem.F.type_list_append mt_append (pv 2) (pa_cons (pe_ix ix_tup (pv 4) pe_int (fun _ _ => rfl)) pa_nil)))))))))
    (pss_one (ps_ret pe_bl)))), ?_⟩
  have ml : (xs.map V.int).length = xs.length := List.length_map ..
  obtain ⟨ac, uc, rfl, sqc, tc⟩ := at_tup.mp atc
  refine ⟨Nat.zero_le _, fun p0 n0 => ?_⟩
  refine ⟨_, rfl, a, _, rfl, .inl ((Ex.new (T := T) (ms := []) n0).sqL (by simp) sq), _, rfl, by omega, by omega, for_range (lo := 0) (n := (xs.map V.int).length) (fun i σ' H' => (∃ y3 y4 pt, ∃ ts : List Int, σ' = [some (.ref a), some (.ref ac), some (.ref pt), y3, y4] ∧ H pt = none ∧ H' pt = some (.lst (ts.map V.int)) ∧ ts.length ≤ i ∧ ts.getLast? = tagsOf xs i) ∧ Ex T [] H H') ⟨⟨_, _, p0, [], rfl, n0, upd_same, Nat.le_refl _, rfl⟩, Ex.new n0⟩ ?_ ?_⟩
  · rintro i σ' H1 hi ⟨⟨y3, y4, pt, ts, rfl, npt, hpt, lts, gts⟩, ex1⟩
    have hi' : i < xs.length := by omega
    have zi : (0 : Int) + (i : Int) = ((i : Nat) : Int) := by omega
    have sq1 := ex1.sqL (by simp) sq
    have gc : (turnsDue xs)[i]? = some (turnsRow xs i) := by unfold turnsDue; rw [List.getElem?_map, List.getElem?_range hi']; rfl
    obtain ⟨xc, hc1, hc2⟩ := tc.at gc
    refine ⟨fun σ' H' => (∃ y4 pt, ∃ ts : List Int, σ' = [some (.ref a), some (.ref ac), some (.ref pt), some (.int (0 + (i : Int))), y4] ∧ H pt = none ∧ H' pt = some (.lst (ts.map V.int)) ∧ ts.length ≤ i ∧ ts.getLast? = (if 0 < i ∧ xs.getD i 0 = xs.getD (i - 1) 0 then none else tagsOf xs i)) ∧ Ex T [] H H', ?_, ?_⟩
    · refine ⟨_, rfl, _, _, rfl, rfl, _, rfl, ?_⟩
      by_cases c0 : (0 : Int) < 0 + (i : Int)
      · rw [decide_eq_true c0]
        refine iteT ⟨_, rfl, _, rfl, a, _, _, _, rfl, rfl, sq1, iv_at (by omega) (by omega), ?_⟩
        refine ⟨_, rfl, _, rfl, _, _, rfl, rfl, a, _, _, _, rfl, rfl, sq1, iv_at (by omega) (by omega), rfl, _, rfl, ?_⟩
        rw [show (0 + (i : Int)).toNat = i by omega, show (0 + (i : Int) - 1).toNat = i - 1 by omega]
        by_cases c : xs.getD i 0 = xs.getD (i - 1) 0
        · rw [decide_eq_true (congrArg V.int c), if_pos ⟨by omega, c⟩]
          refine iteT ⟨Nat.zero_le _, fun p1 n1 => ?_⟩
          exact ⟨⟨_, p1, [], rfl, ex1.free n1, upd_same, Nat.zero_le _, rfl⟩, ex1.trans (Ex.new n1)⟩
        · rw [decide_eq_false (fun e => c (V.int.inj e)), if_neg (fun h => c h.2)]
          exact iteF ⟨⟨_, pt, ts, rfl, npt, hpt, lts, gts⟩, ex1⟩
      · rw [decide_eq_false c0, if_neg (fun h => c0 (by omega))]
        exact iteF ⟨⟨_, pt, ts, rfl, npt, hpt, lts, gts⟩, ex1⟩
    clear hpt gts npt lts ex1 sq1
    rintro σ2 H2 ⟨⟨y4, pt, ts, rfl, npt, hpt, lts, gts⟩, ex2⟩
    obtain ⟨ar, us, rfl, sqr, tr⟩ := at_tup.mp hc2
    have ul := tr.len
    refine ⟨_, rfl, _, rfl, ac, _, _, _, rfl, rfl, ex2.sqT sqc, by rw [zi]; exact at_natI hc1, ar, rfl, ⟨_, ex2.sqT sqr⟩, for_tup (xs := us) (fun j σ' H' => (∃ y4 pt, ∃ ts : List Int, σ' = [some (.ref a), some (.ref ac), some (.ref pt), some (.int (0 + (i : Int))), y4] ∧ H pt = none ∧ H' pt = some (.lst (ts.map V.int)) ∧ ts.length ≤ i + j ∧ ts.getLast? = (if j = 0 then (if 0 < i ∧ xs.getD i 0 = xs.getD (i - 1) 0 then none else tagsOf xs i) else tagsOf xs (i + 1))) ∧ Ex T [] H H') ⟨⟨_, pt, ts, rfl, npt, hpt, lts, gts⟩, ex2⟩ (fun j σ' H' _ z => z.2.sqT sqr) ?_ ?_⟩
    · clear hpt gts npt lts ex2
      rintro j x σ' H3 hj ⟨⟨y4, pt, ts, rfl, npt, hpt, lts, gts⟩, ex3⟩
      have hj' : j < (turnsRow xs i).length := by rw [← ul]; exact (List.getElem?_eq_some_iff.mp hj).1
      have cno : ¬ (0 < i ∧ xs.getD i 0 = xs.getD (i - 1) 0) := fun h => by rw [turns_eq_none xs i h] at hj'; cases hj'
      obtain ⟨x', hx1, hx2⟩ := tr.at (List.getElem?_eq_getElem hj')
      rw [hj] at hx1
      cases hx1
      cases er : turnsRow xs i with
      | nil => rw [er] at hj'; cases hj'
      | cons p r =>
      have al := turns_alter xs i cno er
      have j0 : j = 0 := by rw [er, al.1] at hj'; exact Nat.lt_one_iff.mp hj'
      subst j0
      rw [if_pos rfl, if_neg cno] at gts
      have ep : (turnsRow xs i)[0] = p := by simp only [er]; rfl
      rw [ep] at hx2
      obtain ⟨ap, p1, p2, rfl, sqp, g1, g2⟩ := (hx2.ext ex3).t2
      cases at_int.mp g1
      have next : ∀ y4, ∃ y4' pt', ∃ ts' : List Int, ([some (V.ref a), some (V.ref ac), some (V.ref pt), some (V.int (0 + (i : Int))), y4] : L2.St) = [some (.ref a), some (.ref ac), some (.ref pt'), some (.int (0 + (i : Int))), y4'] ∧ H pt' = none ∧ (upd H3 pt (.lst (ts.map V.int ++ [.int p.1]))) pt' = some (.lst (ts'.map V.int)) ∧ ts'.length ≤ i + (0 + 1) ∧ ts'.getLast? = (if 0 + 1 = 0 then (if 0 < i ∧ xs.getD i 0 = xs.getD (i - 1) 0 then none else tagsOf xs i) else tagsOf xs (i + 1)) := fun y4 =>
        ⟨y4, pt, ts ++ [p.1], rfl, npt, by rw [upd_same, iv_snoc], by rw [List.length_append]; show ts.length + 1 ≤ _; omega, by
          rw [List.getLast?_concat, if_neg (by decide)]
          conv => rhs; unfold tagsOf
          rw [if_neg cno, er]⟩
      have app : ∀ y4, (fun σ2 H2 => (∃ y4 pt, ∃ ts : List Int, σ2 = [some (.ref a), some (.ref ac), some (.ref pt), some (.int (0 + (i : Int))), y4] ∧ H pt = none ∧ H2 pt = some (.lst (ts.map V.int)) ∧ ts.length ≤ i + (0 + 1) ∧ ts.getLast? = (if 0 + 1 = 0 then (if 0 < i ∧ xs.getD i 0 = xs.getD (i - 1) 0 then none else tagsOf xs i) else tagsOf xs (i + 1))) ∧ Ex T [] H H2) [some (V.ref a), some (V.ref ac), some (V.ref pt), some (V.int (0 + (i : Int))), y4] (upd H3 pt (.lst (ts.map V.int ++ [.int p.1]))) := fun y4 => ⟨next y4, ex3.put npt wd⟩
      refine ⟨_, rfl, pt, _, rfl, .inl (SqL.of hpt), _, _, rfl, rfl, _, rfl, ?_⟩
      rw [List.length_map]
      by_cases cl : (0 : Int) < (ts.length : Nat)
      · rw [decide_eq_true cl]
        have cn : ts ≠ [] := fun e => by subst e; simp at cl
        refine iteT ⟨_, rfl, _, rfl, pt, _, _, _, rfl, rfl, SqL.of hpt, last_at cn, _, rfl, ap, _, _, _, rfl, rfl, sqp, rfl, rfl, _, rfl, ?_⟩
        have ne : ¬ ts.getLast cn = p.1 := fun e => al.2 (by rw [← gts, List.getLast?_eq_some_getLast cn, e])
        rw [decide_eq_false (fun e => ne (V.int.inj e))]
        exact iteF ⟨_, rfl, .inl ⟨rfl, _, .inl (.inl hpt)⟩, _, rfl, ap, _, _, _, rfl, rfl, sqp, rfl, pt, _, _, rfl, rfl, hpt, by rw [List.length_map]; exact small5000 (by omega), app _⟩
      · rw [decide_eq_false cl]
        exact iteF ⟨_, rfl, .inl ⟨rfl, _, .inl (.inl hpt)⟩, _, rfl, ap, _, _, _, rfl, rfl, sqp, rfl, pt, _, _, rfl, rfl, hpt, by rw [List.length_map]; exact small5000 (by omega), app _⟩
    · rintro σ' H3 ⟨⟨y4, pt, ts, rfl, npt, hpt, lts, gts⟩, ex3⟩
      refine ⟨⟨_, _, pt, ts, rfl, npt, hpt, ?_, ?_⟩, ex3⟩
      · have : us.length ≤ 1 := by
          rw [ul]
          unfold turnsRow
          split
          · decide
          · split
            · exact Nat.le_refl 1
            · split <;> simp
        omega
      · rw [gts, ul]
        conv => rhs; unfold tagsOf
        by_cases c : 0 < i ∧ xs.getD i 0 = xs.getD (i - 1) 0
        · rw [turns_eq_none xs i c, List.length_nil, if_pos rfl, if_pos c]
        · rw [if_neg c, if_neg c]
          cases er : turnsRow xs i with
          | nil => rw [List.length_nil, if_pos rfl]
          | cons p r =>
            rw [if_neg (by simp)]
            conv => lhs; unfold tagsOf
            rw [if_neg c, er]
  · rintro σ' H1 ⟨⟨y3, y4, pt, ts, rfl, npt, hpt, lts, gts⟩, ex1⟩
    exact q _ ex1

abbrev N__law_spotted : List Str := ["log", "said", "high", "low", "k", "tags", "pattern", "row", "pair"]
theorem sc__law_spotted : FnScope N__law_spotted ["log"] (defScope s__law_spotted) := ⟨rfl, rfl, rfl, by decide +kernel, rfl, by decide +kernel, by decide +kernel⟩
def sp__law_spotted (K : PySem.W.Frag) (T : List Addr) : Sp := fun vs H Q _ => ∃ (vl : V) (xs : List Int), vs = [vl] ∧ At K H vl (.tup ((asLog xs).map encE)) ∧ xs.length ≤ 1000 ∧ Wd T H ∧
  ∀ H', Ex T [] H H' → Q (.bl true) H'
theorem ok__law_spotted {f : Addr} {fd : FuncData} {k : Nat} {T : List Addr} (F : Fun K "_law_spotted" "_law_spotted" s__law_spotted f fd) (m_range : mg "range" = none) (m_len : mg "len" = none)
    {a_answers : Addr} {d_answers : FuncData} (G_answers : FnOk P w K mg base CX0 k a_answers d_answers ["machine", "log"] (sp_answers K T 3)) (k_answers : PySem.W.keepIn K (.ref a_answers) = true) (b_answers : Binds K d_answers ["machine", "log"] []) (m_answers : mg "answers" = some (.ref a_answers))
    {a_turning_points : Addr} {d_turning_points : FuncData} (G_turning_points : FnOk P w K mg base CX0 k a_turning_points d_turning_points [] (sp_turning_points K T)) (k_turning_points : PySem.W.keepIn K (.ref a_turning_points) = true) (b_turning_points : Binds K d_turning_points [] []) (m_turning_points : mg "turning_points" = some (.ref a_turning_points))
    {a_spotter : Addr} {d_spotter : FuncData} (G_spotter : FnOk P w K mg base CX0 k a_spotter d_spotter ["pattern"] (sp_spotter K T)) (k_spotter : PySem.W.keepIn K (.ref a_spotter) = true) (b_spotter : Binds K d_spotter ["pattern"] []) (m_spotter : mg "spotter" = some (.ref a_spotter)) :
    FnOk P w K mg base CX0 (k + 1) f fd ["log"] (sp__law_spotted K T) := by
  refine F.ok sc__law_spotted (fun vs H Q E h => ?_) (fun cdv A outer s H vs Q E hr h => ?_)
  · obtain ⟨vl, xs, rfl, _⟩ := h
    rfl
  obtain ⟨vl, xs, rfl, atl, len, wd, q⟩ := h
  refine ⟨_, (pss_cons (ps_set (i := 1) sc__law_spotted.nd rfl (.inl rfl) (pe_call G_answers hr (by rfl) m_answers k_answers b_answers .nil pass0 (pa_cons (pe_call0 G_turning_points hr (by rfl) m_turning_points k_turning_points b_turning_points .nil pass0) (pa_cons (pv 0) pa_nil))))
    (pss_cons (ps_setLc (i := 2) (own := [("pattern", 6)]) (g := (gName 6)) (tt := tYes) rfl sc__law_spotted.nd rfl rfl (sw_true rfl rfl rfl (by decide +kernel)) (pi_list (pe_lst (pa_cons (pe_tup (pa_cons pe_int (pa_cons pe_int (pa_cons pe_int pa_nil)))) (pa_cons (pe_tup (pa_cons pe_int (pa_cons pe_int (pa_cons pe_int pa_nil)))) (pa_cons (pe_tup (pa_cons pe_int (pa_cons pe_int (pa_cons pe_int pa_nil)))) pa_nil))))) (blkOk_by (N := N__law_spotted) (sc := defScope s__law_spotted) (by decide +kernel))
        (fun _ _ _ _ _ => (pg_name (i := 6) sc__law_spotted.nd rfl (.inl rfl))) (fun _ _ _ _ _ => pts_nil)
        (fun _ _ _ _ _ => (pe_call G_answers hr (by rfl) m_answers k_answers b_answers .nil pass0 (pa_cons (pe_call G_spotter hr (by rfl) m_spotter k_spotter b_spotter .nil pass0 (pa_cons (pv 6) pa_nil)) (pa_cons (pv 0) pa_nil)))))
    (pss_cons (ps_setLc (i := 3) (own := [("pattern", 6)]) (g := (gName 6)) (tt := tYes) rfl sc__law_spotted.nd rfl rfl (sw_true rfl rfl rfl (by decide +kernel)) (pi_list (pe_lst (pa_cons (pe_tup (pa_cons pe_int (pa_cons pe_int (pa_cons pe_int pa_nil)))) (pa_cons (pe_tup (pa_cons pe_int (pa_cons pe_int (pa_cons pe_int pa_nil)))) (pa_cons (pe_tup (pa_cons pe_int (pa_cons pe_int (pa_cons pe_int pa_nil)))) pa_nil))))) (blkOk_by (N := N__law_spotted) (sc := defScope s__law_spotted) (by decide +kernel))
        (fun _ _ _ _ _ => (pg_name (i := 6) sc__law_spotted.nd rfl (.inl rfl))) (fun _ _ _ _ _ => pts_nil)
        (fun _ _ _ _ _ => (pe_call G_answers hr (by rfl) m_answers k_answers b_answers .nil pass0 (pa_cons (pe_call G_spotter hr (by rfl) m_spotter k_spotter b_spotter .nil pass0 (pa_cons (pv 6) pa_nil)) (pa_cons (pv 0) pa_nil)))))
    (pss_cons (ps_for PassesOwn.never rfl (pi_range1 rfl m_range (pa_cons (pe_callB call_len_seq (by rfl) m_len PySem.boot_len (pa_cons (pv 0) pa_nil)) pa_nil)) (pg_name (i := 4) sc__law_spotted.nd rfl (.inr rfl))
      (pss_cons (ps_set (i := 5) sc__law_spotted.nd rfl (.inl rfl) (pe_op op_cat (pe_op op_rep (pe_lst (pa_cons pe_int pa_nil)) (pe_callB call_len_seq (by rfl) m_len PySem.boot_len (pa_cons (pe_lc (own := [("row", 7)]) (g := (gName 7)) (tt := _) rfl sc__law_spotted.nd (pi_list (pv 2)) (blkOk_by (N := N__law_spotted) (sc := defScope s__law_spotted) (by decide +kernel))
        (fun _ _ _ _ _ => (pg_name (i := 7) sc__law_spotted.nd rfl (.inl rfl))) (fun _ _ _ _ _ => pts_one (pt_cmpR op_gt (pe_callB (show CallR _ (.builtin "len") (rLenK2 K) from call_len_seq) (by rfl) m_len PySem.boot_len (pa_cons (pe_ix (r := rIxT K) ix_tup (pv 7) (pv 4) (fun _ _ => rfl)) pa_nil)) pe_int (nomark _)))
        (fun _ _ _ _ _ => (pv 7))) pa_nil))) (pe_op op_rep (pe_lst (pa_cons pe_int pa_nil)) (pe_callB call_len_seq (by rfl) m_len PySem.boot_len (pa_cons (pe_lc (own := [("row", 7)]) (g := (gName 7)) (tt := _) rfl sc__law_spotted.nd (pi_list (pv 3)) (blkOk_by (N := N__law_spotted) (sc := defScope s__law_spotted) (by decide +kernel))
        (fun _ _ _ _ _ => (pg_name (i := 7) sc__law_spotted.nd rfl (.inl rfl))) (fun _ _ _ _ _ => pts_one (pt_cmpR op_gt (pe_callB (show CallR _ (.builtin "len") (rLenK2 K) from call_len_seq) (by rfl) m_len PySem.boot_len (pa_cons (pe_ix (r := rIxT K) ix_tup (pv 7) (pv 4) (fun _ _ => rfl)) pa_nil)) pe_int (nomark _)))
        (fun _ _ _ _ _ => (pv 7))) pa_nil)))))
      (pss_one (ps_if (pt_cmpR (op_neD hr.units) (pe_lc (own := [("pair", 8)]) (g := (gName 8)) (tt := tYes) rfl sc__law_spotted.nd (pi_tup (pe_ix ix_tup (pv 1) (pv 4) (fun _ _ => rfl))) (blkOk_by (N := N__law_spotted) (sc := defScope s__law_spotted) (by decide +kernel))
        (fun _ _ _ _ _ => (pg_name (i := 8) sc__law_spotted.nd rfl (.inl rfl))) (fun _ _ _ _ _ => pts_nil)
        (fun _ _ _ _ _ => (pe_ix (r := rIxT K) ix_tup (pv 8) pe_int (fun _ _ => rfl)))) (pv 5) (nomark _))
        (pss_one (ps_ret pe_bl))
        pss_nil))))
    (pss_one (ps_ret pe_bl)))))), ?_⟩
  obtain ⟨al, ul, rfl, sql, tl⟩ := at_tup.mp atl
  have ll : ul.length = xs.length := by rw [tl.length, List.length_map, asLog_len]
  have tagok : ∀ e ∈ asLog xs, e.1 < 1 := fun e he => by
    unfold asLog at he
    obtain ⟨z, _, rfl⟩ := List.mem_map.mp he
    show 0 < 1
    decide
  refine ⟨rfl, fun vt Ha at1 ex1 => ⟨_, rfl, vt, .ref al, turnsM, asLog xs, rfl, at1, Lg.tup (atl.ext ex1), ex1.wd wd, turnsM_ok, tagok, by rw [asLog_len]; omega, fun vs' Hb at2 ex2 => ?_⟩⟩
  rw [show begM turnsM = (0, [none, none]) from rfl, turns_due] at at2
  have exb := ex1.trans ex2
  refine ⟨by show 3 ≤ sizeLine; decide, fun p1 n1 => ⟨by show 3 ≤ sizeLine; decide, fun p2 n2 => ⟨by show 3 ≤ sizeLine; decide, fun p3 n3 => ⟨by show 3 ≤ sizeLine; decide, fun pl npl => ?_⟩⟩⟩⟩
  have f1 := Ex.new (T := T) (ms := []) (o := HO.tup [.int 0, .int 1, .int 0]) n1
  have f2 := Ex.new (T := T) (ms := []) (o := HO.tup [.int 0, .int 2, .int 1]) n2
  have f3 := Ex.new (T := T) (ms := []) (o := HO.tup [.int 1, .int 2, .int 0]) n3
  have f4 := Ex.new (T := T) (ms := []) (o := HO.lst [.ref p1, .ref p2, .ref p3]) npl
  have f0 := ((f1.trans f2).trans f3).trans f4
  have sqpl : SqL K (upd (upd (upd (upd Hb p1 (.tup [.int 0, .int 1, .int 0])) p2 (.tup [.int 0, .int 2, .int 1])) p3 (.tup [.int 1, .int 2, .int 0])) pl (.lst [.ref p1, .ref p2, .ref p3])) pl [.ref p1, .ref p2, .ref p3] := SqL.of upd_same
  have pat : ∀ (j : Nat) (x : V), [V.ref p1, .ref p2, .ref p3][j]? = some x → ∃ (b : Addr) (p : List Int), x = .ref b ∧ highP[j]? = some p ∧ SqT K (upd (upd (upd (upd Hb p1 (.tup [.int 0, .int 1, .int 0])) p2 (.tup [.int 0, .int 2, .int 1])) p3 (.tup [.int 1, .int 2, .int 0])) pl (.lst [.ref p1, .ref p2, .ref p3])) b (p.map V.int) := fun j x hj => by
    match j, hj with
    | 0, hj => cases hj; exact ⟨p1, _, rfl, rfl, ((f2.trans f3).trans f4).sqT (SqT.of upd_same)⟩
    | 1, hj => cases hj; exact ⟨p2, _, rfl, rfl, (f3.trans f4).sqT (SqT.of upd_same)⟩
    | 2, hj => cases hj; exact ⟨p3, _, rfl, rfl, f4.sqT (SqT.of upd_same)⟩
  generalize (upd (upd (upd (upd Hb p1 (.tup [.int 0, .int 1, .int 0])) p2 (.tup [.int 0, .int 2, .int 1])) p3 (.tup [.int 1, .int 2, .int 0])) pl (.lst [.ref p1, .ref p2, .ref p3])) = Hh at *
  have eB := (exb).trans f0
  clear f1 f2 f3 f4 n1 n2 n3 npl
  refine ⟨pl, rfl, ⟨_, sqpl⟩, fun Zh nZh => lc_list (xs := [.ref p1, .ref p2, .ref p3]) (fun i H' => Col K T [] Zh Hh H' ((highP.take i).map fun p => D.tup ((spotDue p xs).map encA))) (Col.start Ex.refl nZh) (fun i H' _ z => z.1.sqL (by simp) sqpl) ?_ ?_⟩
  · rintro i x H1 hi cl
    obtain ⟨b, p, rfl, hp, sqb⟩ := pat i x hi
    have po := high_ok p (List.mem_of_getElem? hp)
    have eB1 := eB.trans cl.1
    refine ⟨wipe1, yesIf ⟨_, rfl, b, p, rfl, cl.1.sqT sqb, by omega, by omega, eB1.wd wd, fun v H2 L s2 at2 ex2 => ?_⟩⟩
    have tok := spot_ok s2 (by omega) (by omega)
    refine ⟨_, rfl, v, .ref al, spotM p.length L, asLog xs, rfl, at2, Lg.tup ((atl.ext eB1).ext ex2), (eB1.trans ex2).wd wd, tok, tagok, by rw [asLog_len]; omega, fun v3 H3 at3 ex3 => ?_⟩
    rw [show begM (spotM p.length L) = (0, List.replicate (p.length - 1) none) from rfl, spot_due s2 (by omega) po.1] at at3
    obtain ⟨acc, k1, k2, k3⟩ := cl.put nZh (by simp) (eB.wd wd) (ex2.trans ex3) at3 (take_len _ _ _ _ (by show 3 ≤ 5000; decide))
    refine ⟨acc, k1, k2, ?_⟩
    rw [take_map (fun p => D.tup ((spotDue p xs).map encA)) highP hp] at k3
    exact k3
  rintro Hh2 ⟨exc, zh2, hZh, ath2⟩
  rw [show [V.ref p1, V.ref p2, V.ref p3].length = highP.length from rfl, List.take_length] at ath2
  have eh2 := eB.trans exc
  have rh2 := f0.trans exc
  clear exc eB f0 sqpl pat
  refine ⟨by show 3 ≤ sizeLine; decide, fun p1 n1 => ⟨by show 3 ≤ sizeLine; decide, fun p2 n2 => ⟨by show 3 ≤ sizeLine; decide, fun p3 n3 => ⟨by show 3 ≤ sizeLine; decide, fun pl npl => ?_⟩⟩⟩⟩
  have f1 := Ex.new (T := T) (ms := []) (o := HO.tup [.int 1, .int 0, .int 1]) n1
  have f2 := Ex.new (T := T) (ms := []) (o := HO.tup [.int 1, .int 0, .int 2]) n2
  have f3 := Ex.new (T := T) (ms := []) (o := HO.tup [.int 2, .int 0, .int 1]) n3
  have f4 := Ex.new (T := T) (ms := []) (o := HO.lst [.ref p1, .ref p2, .ref p3]) npl
  have f0 := ((f1.trans f2).trans f3).trans f4
  have sqpl : SqL K (upd (upd (upd (upd Hh2 p1 (.tup [.int 1, .int 0, .int 1])) p2 (.tup [.int 1, .int 0, .int 2])) p3 (.tup [.int 2, .int 0, .int 1])) pl (.lst [.ref p1, .ref p2, .ref p3])) pl [.ref p1, .ref p2, .ref p3] := SqL.of upd_same
  have pat : ∀ (j : Nat) (x : V), [V.ref p1, .ref p2, .ref p3][j]? = some x → ∃ (b : Addr) (p : List Int), x = .ref b ∧ lowP[j]? = some p ∧ SqT K (upd (upd (upd (upd Hh2 p1 (.tup [.int 1, .int 0, .int 1])) p2 (.tup [.int 1, .int 0, .int 2])) p3 (.tup [.int 2, .int 0, .int 1])) pl (.lst [.ref p1, .ref p2, .ref p3])) b (p.map V.int) := fun j x hj => by
    match j, hj with
    | 0, hj => cases hj; exact ⟨p1, _, rfl, rfl, ((f2.trans f3).trans f4).sqT (SqT.of upd_same)⟩
    | 1, hj => cases hj; exact ⟨p2, _, rfl, rfl, (f3.trans f4).sqT (SqT.of upd_same)⟩
    | 2, hj => cases hj; exact ⟨p3, _, rfl, rfl, f4.sqT (SqT.of upd_same)⟩
  generalize (upd (upd (upd (upd Hh2 p1 (.tup [.int 1, .int 0, .int 1])) p2 (.tup [.int 1, .int 0, .int 2])) p3 (.tup [.int 2, .int 0, .int 1])) pl (.lst [.ref p1, .ref p2, .ref p3])) = Hl at *
  have eB := (eh2).trans f0
  clear f1 f2 f3 f4 n1 n2 n3 npl
  refine ⟨pl, rfl, ⟨_, sqpl⟩, fun Zl nZl => lc_list (xs := [.ref p1, .ref p2, .ref p3]) (fun i H' => Col K T [] Zl Hl H' ((lowP.take i).map fun p => D.tup ((spotDue p xs).map encA))) (Col.start Ex.refl nZl) (fun i H' _ z => z.1.sqL (by simp) sqpl) ?_ ?_⟩
  · rintro i x H1 hi cl
    obtain ⟨b, p, rfl, hp, sqb⟩ := pat i x hi
    have po := low_ok p (List.mem_of_getElem? hp)
    have eB1 := eB.trans cl.1
    refine ⟨wipe1, yesIf ⟨_, rfl, b, p, rfl, cl.1.sqT sqb, by omega, by omega, eB1.wd wd, fun v H2 L s2 at2 ex2 => ?_⟩⟩
    have tok := spot_ok s2 (by omega) (by omega)
    refine ⟨_, rfl, v, .ref al, spotM p.length L, asLog xs, rfl, at2, Lg.tup ((atl.ext eB1).ext ex2), (eB1.trans ex2).wd wd, tok, tagok, by rw [asLog_len]; omega, fun v3 H3 at3 ex3 => ?_⟩
    rw [show begM (spotM p.length L) = (0, List.replicate (p.length - 1) none) from rfl, spot_due s2 (by omega) po.1] at at3
    obtain ⟨acc, k1, k2, k3⟩ := cl.put nZl (by simp) (eB.wd wd) (ex2.trans ex3) at3 (take_len _ _ _ _ (by show 3 ≤ 5000; decide))
    refine ⟨acc, k1, k2, ?_⟩
    rw [take_map (fun p => D.tup ((spotDue p xs).map encA)) lowP hp] at k3
    exact k3
  rintro Hl2 ⟨exc, zl2, hZl, atl2⟩
  rw [show [V.ref p1, V.ref p2, V.ref p3].length = lowP.length from rfl, List.take_length] at atl2
  have el2 := eB.trans exc
  have rl2 := f0.trans exc
  clear exc eB f0 sqpl pat
  have hZh := rl2.lst (by simp) hZh
  have ath2 := ath2.ext rl2
  have at2 := at2.ext (rh2.trans rl2)
  obtain ⟨asd, usd, rfl, sqsd, tsd⟩ := at_tup.mp at2
  refine ⟨_, rfl, al, _, rfl, .inr (el2.sqT sql), _, rfl, by omega, by omega, for_range (lo := 0) (n := ul.length) (fun i σ' H' => (∃ y4 y5, σ' = [some (.ref al), some (.ref asd), some (.ref Zh), some (.ref Zl), y4, y5, none, none, none]) ∧ Ex T [] Hl2 H') ⟨⟨_, _, rfl⟩, Ex.refl⟩ ?_ ?_⟩
  · rintro i σ' H1 hi ⟨⟨y4, y5, rfl⟩, ex1⟩
    have hi' : i < xs.length := by omega
    have zi : (0 : Int) + (i : Int) = ((i : Nat) : Int) := by omega
    refine ⟨by show 1 ≤ sizeLine; decide, fun q1 m1 => ?_⟩
    have g1 := ex1.trans (Ex.new (T := T) (ms := []) (o := HO.lst [.int 0]) m1)
    have hq1 : (upd H1 q1 (.lst [.int 0])) q1 = some (.lst [.int 0]) := upd_same
    generalize (upd H1 q1 (.lst [.int 0])) = HA at *
    have wdX := (g1).wd (el2.wd wd)
    refine ⟨_, rfl, Zh, rfl, ⟨_, SqL.of ((g1).lst (by simp) hZh)⟩, fun D1 nD1 => lc_list (xs := zh2) (fun j H' => Ex T [] HA H' ∧ ∃ ws, H' D1 = some (.lst ws) ∧ ws.length = ((highP.take j).filter fun p => tells p xs i).length) ⟨Ex.new nD1, [], upd_same, rfl⟩ (fun j H' _ z => SqL.of (((g1).trans z.1).lst (by simp) hZh)) ?_ ?_⟩
    · rintro j x H' hj ⟨ex, ws, hD, wl⟩
      have hj' : j < highP.length := by rw [← (show zh2.length = highP.length from ath2.len)]; exact (List.getElem?_eq_some_iff.mp hj).1
      obtain ⟨x', hx1, hx2⟩ := ath2.at (List.getElem?_eq_getElem hj')
      rw [hj] at hx1
      cases hx1
      obtain ⟨ar, us, rfl, sqr, tr⟩ := at_tup.mp (hx2.ext ((g1).trans ex))
      have gs : (spotDue highP[j] xs)[i]? = some (spotRow highP[j] xs i) := by unfold spotDue; rw [List.getElem?_map, List.getElem?_range hi']; rfl
      obtain ⟨xr, hr1, hr2⟩ := tr.at gs
      obtain ⟨arr, urr, rfl, sqrr, trr⟩ := at_tup.mp hr2
      have et : highP.take (j + 1) = highP.take j ++ [highP[j]] := by rw [List.take_add_one, List.getElem?_eq_getElem hj']; rfl
      refine ⟨wipe1, _, rfl, _, rfl, ar, _, _, _, rfl, rfl, sqr, nat_at hr1, arr, _, rfl, .inr sqrr, _, _, rfl, rfl, _, rfl, ?_⟩
      rw [trr.len]
      have etl : decide ((0 : Int) < ((spotRow highP[j] xs i).length : Nat)) = tells highP[j] xs i := by
        unfold tells
        exact decide_eq_decide.mpr (by omega)
      rw [etl]
      have jl : ((highP.take j).filter fun p => tells p xs i).length ≤ 3 := Nat.le_trans (List.length_filter_le _ _) (by rw [List.length_take]; exact Nat.min_le_right _ _)
      cases c : tells highP[j] xs i with
      | true =>
        refine iteT ⟨_, rfl, ws, hD, small5000 (by omega), ex.put nD1 wdX, ws ++ [.ref ar], upd_same, ?_⟩
        rw [List.length_append, wl, et, List.filter_append, List.filter_cons_of_pos (by exact c), List.length_append]
        rfl
      | false =>
        refine iteF ⟨ex, ws, hD, ?_⟩
        rw [wl, et, List.filter_append, List.filter_cons_of_neg (by rw [c]; decide), List.filter_nil, List.append_nil]
    rintro HB ⟨xHB, ws, hD, wl⟩
    rw [show zh2.length = highP.length from ath2.len, List.take_length] at wl
    refine ⟨D1, _, rfl, .inl (SqL.of hD), q1, _, [.int 0], rfl, rfl, xHB.lst (by simp) hq1, by omega, ?_, ?_, fun q2 m2 => ?_⟩
    · have := List.length_filter_le (fun p => tells p xs i) highP
      have : highP.length = 3 := rfl
      omega
    · have := List.length_filter_le (fun p => tells p xs i) highP
      have : highP.length = 3 := rfl
      rw [Int.toNat_natCast]
      show 1 * _ ≤ sizeLine
      unfold sizeLine
      omega
    rw [Int.toNat_natCast, flat_rep, wl] at *
    have g2 := (g1.trans xHB).trans (Ex.new (T := T) (ms := []) (o := HO.lst (List.replicate (highP.filter fun p => tells p xs i).length (V.int 0))) m2)
    have hq2 : (upd HB q2 (.lst (List.replicate (highP.filter fun p => tells p xs i).length (V.int 0)))) q2 = some (.lst (List.replicate (highP.filter fun p => tells p xs i).length (V.int 0))) := upd_same
    generalize (upd HB q2 (.lst (List.replicate (highP.filter fun p => tells p xs i).length (V.int 0)))) = HC at *
    refine ⟨by show 1 ≤ sizeLine; decide, fun q3 m3 => ?_⟩
    have f3 := Ex.new (T := T) (ms := []) (o := HO.lst [.int 1]) m3
    have g3 := g2.trans f3
    have hq3 : (upd HC q3 (.lst [.int 1])) q3 = some (.lst [.int 1]) := upd_same
    have hq2' := f3.lst (by simp) hq2
    generalize (upd HC q3 (.lst [.int 1])) = HE at *
    clear hD wl wdX
    have wdX := (g3).wd (el2.wd wd)
    refine ⟨_, rfl, Zl, rfl, ⟨_, SqL.of ((g3).lst (by simp) hZl)⟩, fun D2 nD2 => lc_list (xs := zl2) (fun j H' => Ex T [] HE H' ∧ ∃ ws, H' D2 = some (.lst ws) ∧ ws.length = ((lowP.take j).filter fun p => tells p xs i).length) ⟨Ex.new nD2, [], upd_same, rfl⟩ (fun j H' _ z => SqL.of (((g3).trans z.1).lst (by simp) hZl)) ?_ ?_⟩
    · rintro j x H' hj ⟨ex, ws, hD, wl⟩
      have hj' : j < lowP.length := by rw [← (show zl2.length = lowP.length from atl2.len)]; exact (List.getElem?_eq_some_iff.mp hj).1
      obtain ⟨x', hx1, hx2⟩ := atl2.at (List.getElem?_eq_getElem hj')
      rw [hj] at hx1
      cases hx1
      obtain ⟨ar, us, rfl, sqr, tr⟩ := at_tup.mp (hx2.ext ((g3).trans ex))
      have gs : (spotDue lowP[j] xs)[i]? = some (spotRow lowP[j] xs i) := by unfold spotDue; rw [List.getElem?_map, List.getElem?_range hi']; rfl
      obtain ⟨xr, hr1, hr2⟩ := tr.at gs
      obtain ⟨arr, urr, rfl, sqrr, trr⟩ := at_tup.mp hr2
      have et : lowP.take (j + 1) = lowP.take j ++ [lowP[j]] := by rw [List.take_add_one, List.getElem?_eq_getElem hj']; rfl
      refine ⟨wipe1, _, rfl, _, rfl, ar, _, _, _, rfl, rfl, sqr, nat_at hr1, arr, _, rfl, .inr sqrr, _, _, rfl, rfl, _, rfl, ?_⟩
      rw [trr.len]
      have etl : decide ((0 : Int) < ((spotRow lowP[j] xs i).length : Nat)) = tells lowP[j] xs i := by
        unfold tells
        exact decide_eq_decide.mpr (by omega)
      rw [etl]
      have jl : ((lowP.take j).filter fun p => tells p xs i).length ≤ 3 := Nat.le_trans (List.length_filter_le _ _) (by rw [List.length_take]; exact Nat.min_le_right _ _)
      cases c : tells lowP[j] xs i with
      | true =>
        refine iteT ⟨_, rfl, ws, hD, small5000 (by omega), ex.put nD2 wdX, ws ++ [.ref ar], upd_same, ?_⟩
        rw [List.length_append, wl, et, List.filter_append, List.filter_cons_of_pos (by exact c), List.length_append]
        rfl
      | false =>
        refine iteF ⟨ex, ws, hD, ?_⟩
        rw [wl, et, List.filter_append, List.filter_cons_of_neg (by rw [c]; decide), List.filter_nil, List.append_nil]
    rintro HG ⟨xHG, ws, hD, wl⟩
    rw [show zl2.length = lowP.length from atl2.len, List.take_length] at wl
    refine ⟨D2, _, rfl, .inl (SqL.of hD), q3, _, [.int 1], rfl, rfl, xHG.lst (by simp) hq3, by omega, ?_, ?_, fun q4 m4 => ?_⟩
    · have := List.length_filter_le (fun p => tells p xs i) lowP
      have : lowP.length = 3 := rfl
      omega
    · have := List.length_filter_le (fun p => tells p xs i) lowP
      have : lowP.length = 3 := rfl
      rw [Int.toNat_natCast]
      show 1 * _ ≤ sizeLine
      unfold sizeLine
      omega
    rw [Int.toNat_natCast, flat_rep, wl] at *
    have f4 := Ex.new (T := T) (ms := []) (o := HO.lst (List.replicate (lowP.filter fun p => tells p xs i).length (V.int 1))) m4
    have g4 := (g3.trans xHG).trans f4
    refine ⟨q2, q4, _, _, rfl, rfl, (xHG.trans f4).lst (by simp) hq2', upd_same, ?_, fun q5 m5 => ?_⟩
    · have := List.length_filter_le (fun p => tells p xs i) highP
      have : highP.length = 3 := rfl
      have := List.length_filter_le (fun p => tells p xs i) lowP
      have : lowP.length = 3 := rfl
      rw [List.length_replicate, List.length_replicate]
      unfold sizeLine
      omega
    have etag : List.replicate (highP.filter fun p => tells p xs i).length (V.int 0) ++ List.replicate (lowP.filter fun p => tells p xs i).length (V.int 1) = (((turnsRow xs i).map (·.1)).map V.int) := by
      rw [spotted_tags hi', List.map_append, List.map_replicate, List.map_replicate]
    rw [etag] at *
    have g5 := g4.trans (Ex.new (T := T) (ms := []) (o := HO.lst (((turnsRow xs i).map (·.1)).map V.int)) m5)
    have hq5 : (upd (upd HG q4 (.lst (List.replicate (lowP.filter fun p => tells p xs i).length (V.int 1)))) q5 (.lst (((turnsRow xs i).map (·.1)).map V.int))) q5 = some (.lst (((turnsRow xs i).map (·.1)).map V.int)) := upd_same
    generalize (upd (upd HG q4 (.lst (List.replicate (lowP.filter fun p => tells p xs i).length (V.int 1)))) q5 (.lst (((turnsRow xs i).map (·.1)).map V.int))) = HI at *
    have gt : (turnsDue xs)[i]? = some (turnsRow xs i) := by unfold turnsDue; rw [List.getElem?_map, List.getElem?_range hi']; rfl
    obtain ⟨xr, hr1, hr2⟩ := tsd.at gt
    obtain ⟨arr, urr, rfl, sqrr, trr⟩ := at_tup.mp (hr2.ext g5)
    refine ⟨_, rfl, _, rfl, asd, _, _, _, rfl, rfl, g5.sqT sqsd, nat_at hr1, arr, rfl, ⟨_, sqrr⟩, fun D3 nD3 => lc_tup (xs := urr) (fun j H' => Ex T [] HI H' ∧ H' D3 = some (.lst ((((turnsRow xs i).map (·.1)).take j).map V.int))) ⟨Ex.new nD3, upd_same⟩ (fun j H' _ z => z.1.sqT sqrr) ?_ ?_⟩
    · rintro j x H' hj ⟨ex, hD3⟩
      have hj' : j < (turnsRow xs i).length := by rw [← trr.len]; exact (List.getElem?_eq_some_iff.mp hj).1
      obtain ⟨x', hx1, hx2⟩ := trr.at (List.getElem?_eq_getElem hj')
      rw [hj] at hx1
      cases hx1
      obtain ⟨ap, w1, w2, rfl, sqp, h1, h2⟩ := (hx2.ext ex).t2
      cases at_int.mp h1
      refine ⟨wipe1, yesIf ⟨_, rfl, ap, _, _, _, rfl, rfl, sqp, rfl, _, hD3, ?_, ex.put nD3 (g5.wd (el2.wd wd)), ?_⟩⟩
      · rw [List.length_map, List.length_take, List.length_map]
        have : (turnsRow xs i).length ≤ 1 := by
          unfold turnsRow
          split
          · decide
          · split
            · exact Nat.le_refl 1
            · split <;> simp
        exact small5000 (by omega)
      · rw [upd_same, List.take_add_one, List.getElem?_map, List.getElem?_eq_getElem hj', List.map_append]
        rfl
    rintro HJ ⟨exj, hD3⟩
    rw [trr.len, ← (show ((turnsRow xs i).map (·.1)).length = (turnsRow xs i).length from List.length_map ..), List.take_length] at hD3
    refine ⟨_, rfl, neD_ints (xs := (turnsRow xs i).map (·.1)) (ys := (turnsRow xs i).map (·.1)) (SqL.of hD3) (SqL.of (exj.lst (by simp) hq5)) ⟨_, rfl, ?_⟩⟩
    rw [decide_eq_true rfl]
    exact iteF ⟨⟨_, _, rfl⟩, g5.trans exj⟩
  · rintro σ' H1 ⟨⟨y4, y5, rfl⟩, ex1⟩
    exact q _ (el2.trans ex1)

theorem okD5_int {n : Nat} {i : Int} : okD n (.int i) := by cases n <;> (unfold okD; trivial)
theorem okD5_encO {n : Nat} {o : Option Int} : okD n (encO o) := by cases o <;> cases n <;> (unfold encO okD; trivial)
theorem okDs5_map {α : Type} {f : α → D} {n : Nat} : ∀ {l : List α}, (∀ a ∈ l, okD n (f a)) → okDs n (l.map f)
  | [], _ => by rw [List.map_nil]; unfold okDs; trivial
  | a :: l, h => by
    rw [List.map_cons]
    unfold okDs
    exact ⟨h a (by simp), okDs5_map fun b hb => h b (by simp [hb])⟩
theorem okD5_tup {n : Nat} {ds : List D} (hl : ds.length ≤ 100000) (h : okDs n ds) : okD (n + 1) (.tup ds) := by unfold okD; exact ⟨hl, h⟩
theorem okD5_encA {n : Nat} {a : List (Int × Option Int)} (hl : a.length ≤ 100000) : okD (n + 2) (encA a) :=
  okD5_tup (by rw [List.length_map]; exact hl) (okDs5_map fun p _ => okD5_tup (by show 2 ≤ 100000; decide) (by unfold okDs okDs okDs; exact ⟨okD5_int, okD5_encO, trivial⟩))
theorem said_len {m : M} {k : Nat} (ok : okM k m) : ∀ {es : List (Nat × Int)} {c : Ct}, okCt m c → (∀ e ∈ es, e.1 < m.tags) → ∀ a ∈ answersM m c es, a.length ≤ 1000
  | [], c, _, _, a, h => by cases h
  | e :: es, c, hc, ht, a, h => by
    rcases List.mem_cons.mp h with rfl | h
    · obtain ⟨_, _, _, _, hcs⟩ := M.cases_at ok hc.st (ht e (by simp))
      unfold readM
      cases ef : (m.cases c.1 e.1).find? (holdC e.2 c.2) with
      | none => exact Nat.zero_le _
      | some k => exact (by show (saidC e.2 c.2 k).length ≤ 1000; unfold saidC; rw [List.length_map]; exact (hcs k (List.mem_of_find?_eq_some ef)).slen)
    · exact said_len ok (hc.step ok (ht e (by simp))) (fun f hf => ht f (by simp [hf])) a h
theorem okD_answers {m : M} {k n : Nat} (ok : okM k m) {es : List (Nat × Int)} {c : Ct} (hc : okCt m c) (ht : ∀ e ∈ es, e.1 < m.tags) (hl : es.length ≤ 5000) : okD (n + 3) (.tup ((answersM m c es).map encA)) :=
  okD5_tup (by rw [List.length_map, answersM_length]; omega) (okDs5_map fun a ha => okD5_encA (by have := said_len ok hc ht a ha; omega))
abbrev N_law : List Str := ["script", "draws", "cell", "k", "values", "log", "ended", "j"]
theorem sc_law : FnScope N_law ["script"] (defScope s_law) := ⟨rfl, rfl, rfl, by decide +kernel, rfl, by decide +kernel, by decide +kernel⟩
def sp_law (K : PySem.W.Frag) (T : List Addr) : Sp := fun vs H Q _ => ∃ (a : Addr) (ns : List Int), vs = [.ref a] ∧ SqL K H a (ns.map V.int) ∧ ns.length ≤ 63 ∧ (∀ z ∈ ns, Builtin.Int.intBits z ≤ 1048576) ∧ Wd T H ∧ ∀ H', Q (.bl true) H'
theorem ok_law {f : Addr} {fd : FuncData} {k : Nat} {T : List Addr} (F : Fun K "law" "law" s_law f fd) (m_range : mg "range" = none) (m_len : mg "len" = none)
    {a__law_draws : Addr} {d__law_draws : FuncData} (G__law_draws : FnOk P w K mg base CX0 k a__law_draws d__law_draws ["script", "many"] (sp__law_draws K T)) (k__law_draws : PySem.W.keepIn K (.ref a__law_draws) = true) (b__law_draws : Binds K d__law_draws ["script", "many"] []) (m__law_draws : mg "_law_draws" = some (.ref a__law_draws))
    {a__law_cell : Addr} {d__law_cell : FuncData} (G__law_cell : FnOk P w K mg base CX0 k a__law_cell d__law_cell ["script", "draws"] (sp__law_cell K T)) (k__law_cell : PySem.W.keepIn K (.ref a__law_cell) = true) (b__law_cell : Binds K d__law_cell ["script", "draws"] []) (m__law_cell : mg "_law_cell" = some (.ref a__law_cell))
    {a__law_values : Addr} {d__law_values : FuncData} (G__law_values : FnOk P w K mg base CX0 k a__law_values d__law_values ["draws", "cell", "most"] (sp__law_values T)) (k__law_values : PySem.W.keepIn K (.ref a__law_values) = true) (b__law_values : Binds K d__law_values ["draws", "cell", "most"] []) (m__law_values : mg "_law_values" = some (.ref a__law_values))
    {a__law_as_log : Addr} {d__law_as_log : FuncData} (G__law_as_log : FnOk P w K mg base CX0 k a__law_as_log d__law_as_log ["values"] (sp__law_as_log K T)) (k__law_as_log : PySem.W.keepIn K (.ref a__law_as_log) = true) (b__law_as_log : Binds K d__law_as_log ["values"] []) (m__law_as_log : mg "_law_as_log" = some (.ref a__law_as_log))
    {a__law_greatest : Addr} {d__law_greatest : FuncData} (G__law_greatest : FnOk P w K mg base CX0 k a__law_greatest d__law_greatest ["values", "rows", "bands", "records_said"] (sp__law_greatest K T)) (k__law_greatest : PySem.W.keepIn K (.ref a__law_greatest) = true) (b__law_greatest : Binds K d__law_greatest ["values", "rows", "bands", "records_said"] []) (m__law_greatest : mg "_law_greatest" = some (.ref a__law_greatest))
    {a_answers : Addr} {d_answers : FuncData} (G_answers : FnOk P w K mg base CX0 k a_answers d_answers ["machine", "log"] (sp_answers K T 3)) (k_answers : PySem.W.keepIn K (.ref a_answers) = true) (b_answers : Binds K d_answers ["machine", "log"] []) (m_answers : mg "answers" = some (.ref a_answers))
    {a_top_list : Addr} {d_top_list : FuncData} (G_top_list : FnOk P w K mg base CX0 k a_top_list d_top_list ["k"] (sp_top_list K T)) (k_top_list : PySem.W.keepIn K (.ref a_top_list) = true) (b_top_list : Binds K d_top_list ["k"] []) (m_top_list : mg "top_list" = some (.ref a_top_list))
    {a_band : Addr} {d_band : FuncData} (G_band : FnOk P w K mg base CX0 k a_band d_band [] (sp_band K T)) (k_band : PySem.W.keepIn K (.ref a_band) = true) (b_band : Binds K d_band [] []) (m_band : mg "band" = some (.ref a_band))
    {a_records : Addr} {d_records : FuncData} (G_records : FnOk P w K mg base CX0 k a_records d_records [] (sp_records K T)) (k_records : PySem.W.keepIn K (.ref a_records) = true) (b_records : Binds K d_records [] []) (m_records : mg "records" = some (.ref a_records))
    {a__law_lists : Addr} {d__law_lists : FuncData} (G__law_lists : FnOk P w K mg base CX0 k a__law_lists d__law_lists ["log"] (sp__law_lists K T)) (k__law_lists : PySem.W.keepIn K (.ref a__law_lists) = true) (b__law_lists : Binds K d__law_lists ["log"] []) (m__law_lists : mg "_law_lists" = some (.ref a__law_lists))
    {a__law_spotted : Addr} {d__law_spotted : FuncData} (G__law_spotted : FnOk P w K mg base CX0 k a__law_spotted d__law_spotted ["log"] (sp__law_spotted K T)) (k__law_spotted : PySem.W.keepIn K (.ref a__law_spotted) = true) (b__law_spotted : Binds K d__law_spotted ["log"] []) (m__law_spotted : mg "_law_spotted" = some (.ref a__law_spotted))
    {a__law_turns : Addr} {d__law_turns : FuncData} (G__law_turns : FnOk P w K mg base CX0 k a__law_turns d__law_turns ["values", "said"] (sp__law_turns K T)) (k__law_turns : PySem.W.keepIn K (.ref a__law_turns) = true) (b__law_turns : Binds K d__law_turns ["values", "said"] []) (m__law_turns : mg "_law_turns" = some (.ref a__law_turns))
    {a_turning_points : Addr} {d_turning_points : FuncData} (G_turning_points : FnOk P w K mg base CX0 k a_turning_points d_turning_points [] (sp_turning_points K T)) (k_turning_points : PySem.W.keepIn K (.ref a_turning_points) = true) (b_turning_points : Binds K d_turning_points [] []) (m_turning_points : mg "turning_points" = some (.ref a_turning_points))
    {a_runs : Addr} {d_runs : FuncData} (G_runs : FnOk P w K mg base CX0 k a_runs d_runs [] (sp_runs K T)) (k_runs : PySem.W.keepIn K (.ref a_runs) = true) (b_runs : Binds K d_runs [] []) (m_runs : mg "runs" = some (.ref a_runs)) :
    FnOk P w K mg base CX0 (k + 1) f fd ["script"] (sp_law K T) := by
  refine F.ok sc_law (fun vs H Q E h => ?_) (fun cdv A outer s H vs Q E hr h => ?_)
  · obtain ⟨a, ns, rfl, _⟩ := h
    rfl
  obtain ⟨a, ns, rfl, hS, h63, hbits, wd, q⟩ := h
  refine ⟨_, (pss_cons (ps_set (i := 1) sc_law.nd rfl (.inl rfl) (pe_call G__law_draws hr (by rfl) m__law_draws k__law_draws b__law_draws .nil pass0 (pa_cons (pv 0) (pa_cons pe_int pa_nil))))
    (pss_cons (ps_set (i := 2) sc_law.nd rfl (.inl rfl) (pe_call G__law_cell hr (by rfl) m__law_cell k__law_cell b__law_cell .nil pass0 (pa_cons (pv 0) (pa_cons (pv 1) pa_nil))))
    (pss_cons (ps_for PassesOwn.never rfl (pi_range1 rfl m_range (pa_cons pe_int pa_nil)) (pg_name (i := 3) sc_law.nd rfl (.inl rfl))
      (pss_cons (ps_set (i := 4) sc_law.nd rfl (.inr rfl) (pe_call G__law_values hr (by rfl) m__law_values k__law_values b__law_values .nil pass0 (pa_cons (pv 1) (pa_cons (pv 2) (pa_cons pe_int pa_nil)))))
      (pss_cons (ps_set (i := 5) sc_law.nd rfl (.inr rfl) (pe_call G__law_as_log hr (by rfl) m__law_as_log k__law_as_log b__law_as_log .nil pass0 (pa_cons (pv 4) pa_nil)))
      (pss_cons (ps_if (pt_not (pt_val (pe_call G__law_greatest hr (by rfl) m__law_greatest k__law_greatest b__law_greatest .nil pass0 (pa_cons (pv 4) (pa_cons (pe_call G_answers hr (by rfl) m_answers k_answers b_answers .nil pass0 (pa_cons (pe_call G_top_list hr (by rfl) m_top_list k_top_list b_top_list .nil pass0 (pa_cons pe_int pa_nil)) (pa_cons (pv 5) pa_nil))) (pa_cons (pe_call G_answers hr (by rfl) m_answers k_answers b_answers .nil pass0 (pa_cons (pe_call0 G_band hr (by rfl) m_band k_band b_band .nil pass0) (pa_cons (pv 5) pa_nil))) (pa_cons (pe_call G_answers hr (by rfl) m_answers k_answers b_answers .nil pass0 (pa_cons (pe_call0 G_records hr (by rfl) m_records k_records b_records .nil pass0) (pa_cons (pv 5) pa_nil))) pa_nil)))))))
        (pss_one (ps_ret pe_bl))
        pss_nil)
      (pss_cons (ps_if (pw_or (pt_not (pt_val (pe_call G__law_lists hr (by rfl) m__law_lists k__law_lists b__law_lists .nil pass0 (pa_cons (pv 5) pa_nil)))) (pw_or (pt_not (pt_val (pe_call G__law_spotted hr (by rfl) m__law_spotted k__law_spotted b__law_spotted .nil pass0 (pa_cons (pv 5) pa_nil)))) (pw_or1 (pt_not (pt_val (pe_call G__law_turns hr (by rfl) m__law_turns k__law_turns b__law_turns .nil pass0 (pa_cons (pv 4) (pa_cons (pe_call G_answers hr (by rfl) m_answers k_answers b_answers .nil pass0 (pa_cons (pe_call0 G_turning_points hr (by rfl) m_turning_points k_turning_points b_turning_points .nil pass0) (pa_cons (pv 5) pa_nil))) pa_nil)))))))).pt
        (pss_one (ps_ret pe_bl))
        pss_nil)
      (pss_cons (ps_setLc (i := 6) (own := [("j", 7)]) (g := (gName 7)) (tt := _) rfl sc_law.nd rfl rfl (sw_true rfl rfl rfl (by decide +kernel)) (pi_range1 rfl m_range (pa_cons (pe_callB call_len_seq (by rfl) m_len PySem.boot_len (pa_cons (pv 5) pa_nil)) pa_nil)) (blkOk_by (N := N_law) (sc := defScope s_law) (by decide +kernel))
        (fun _ _ _ _ _ => (pg_name (i := 7) sc_law.nd rfl (.inl rfl))) (fun _ _ _ _ _ => pts_one (pt_cmpR op_gt (pe_callB (show CallR _ (.builtin "len") (rLenK2 K) from call_len_seq) (by rfl) m_len PySem.boot_len (pa_cons (pe_ix (r := rIxT K) ix_tup (pe_call G_answers hr (by rfl) m_answers k_answers b_answers .nil pass0 (pa_cons (pe_call0 G_runs hr (by rfl) m_runs k_runs b_runs .nil pass0) (pa_cons (pv 5) pa_nil))) (pv 7) (fun _ _ => rfl)) pa_nil)) pe_int (nomark _)))
        (fun _ _ _ _ _ => (pv 7)))
      (pss_one (ps_if (pt_cmpR (op_neD hr.units) (pv 6) (pe_lc (own := [("j", 7)]) (g := (gName 7)) (tt := _) rfl sc_law.nd (pi_range2 rfl m_range (pa_cons pe_int (pa_cons (pe_callB call_len_seq (by rfl) m_len PySem.boot_len (pa_cons (pv 4) pa_nil)) pa_nil))) (blkOk_by (N := N_law) (sc := defScope s_law) (by decide +kernel))
        (fun _ _ _ _ _ => (pg_name (i := 7) sc_law.nd rfl (.inl rfl))) (fun _ _ _ _ _ => pts_one (pt_cmpR op_le (pe_ix (r := rIxL K) ix_list (pv 4) (pv 7) (fun _ _ => rfl)) (pe_ix (r := rIxL K) ix_list (pv 4) (pe_op op_sub (pv 7) pe_int) (fun _ _ => rfl)) (nomark _)))
        (fun _ _ _ _ _ => (pv 7))) (nomark _))
        (pss_one (ps_ret pe_bl))
        pss_nil))))))))
    (pss_one (ps_ret pe_bl))))), ?_⟩
  refine ⟨_, rfl, a, ns, 150, rfl, hS, h63, by decide, by decide, wd, fun dr H1 nd ex1 hd1 => ?_⟩
  refine ⟨_, rfl, _, rfl, a, dr, ns, rfl, fun H' e => sqL_stay hS nd ex1 e, hd1, fun cell H2 hcell ex2 hd2 => ?_⟩
  have wd2 : Wd T H2 := ex2.wd (ex1.wd wd)
  clear ex1 ex2 hd1
  refine ⟨2, rfl, by decide, by decide, for_range (lo := 0) (n := 2) (fun i σ' H' => (∃ y3 y4 y5 y6, σ' = [some (.ref a), some (.ref dr), some (.int cell), y3, y4, y5, y6, none]) ∧ Ex T [dr] H2 H' ∧ Dr H' dr) ⟨⟨_, _, _, _, rfl⟩, Ex.refl, hd2⟩ ?_ ?_⟩
  · rintro i σ' H6 hi ⟨⟨y3, y4, y5, y6, rfl⟩, ex6, hd6⟩
    refine ⟨_, rfl, _, rfl, dr, cell, 14, rfl, by decide, by decide, ex6.wd wd2, hd6, fun r H7 xs b hb hr7 hx7 hlen hxs ex7 hd7 => ?_⟩
    have e7 := ex6.trans ex7
    have sr : SqL K H7 r (xs.map V.int) := SqL.of hx7
    have wd7 := e7.wd wd2
    have l14 : xs.length ≤ 14 := by omega
    refine ⟨_, rfl, r, xs, rfl, sr, by omega, wd7, fun vg Ha atg exa => ?_⟩
    have tagok : ∀ m : M, m.tags = 1 → ∀ e ∈ asLog xs, e.1 < m.tags := fun m hm e he => by
      unfold asLog at he
      obtain ⟨z, _, rfl⟩ := List.mem_map.mp he
      rw [hm]
      show 0 < 1
      decide
    have llen : (asLog xs).length ≤ 5000 := by rw [asLog_len]; omega
    obtain ⟨al, ul, rfl, sql, tl⟩ := at_tup.mp atg
    have ll : ul.length = xs.length := by rw [tl.length, List.length_map, asLog_len]
    have wda := exa.wd wd7
    have sra := exa.sqL (by simp) sr
    have tok1 := top_ok (k := 1) (by decide) (by decide)
    -- greatest
    refine ⟨_, rfl, 1, rfl, by decide, by decide, wda, fun vt Hb att exb => ?_⟩
    refine ⟨_, rfl, vt, .ref al, topM 1, asLog xs, rfl, att, Lg.tup (atg.ext exb), exb.wd wda, tok1, tagok _ rfl, llen, fun v1 Hc at1 exc => ?_⟩
    rw [show begM (topM 1) = (0, List.replicate 1 none) from rfl, top_due] at at1
    have ec := exb.trans exc
    refine ⟨rfl, fun vbm Hd atbm exd => ?_⟩
    have ed := ec.trans exd
    refine ⟨_, rfl, vbm, .ref al, bandM, asLog xs, rfl, atbm, Lg.tup (atg.ext ed), ed.wd wda, bandM_ok, tagok _ rfl, llen, fun v2 He at2 exe => ?_⟩
    rw [show begM bandM = (0, [none, none]) from rfl, band_due] at at2
    have ee := ed.trans exe
    refine ⟨rfl, fun vrm Hf atrm exf => ?_⟩
    have ef := ee.trans exf
    refine ⟨_, rfl, vrm, .ref al, recM, asLog xs, rfl, atrm, Lg.tup (atg.ext ef), ef.wd wda, recM_ok, tagok _ rfl, llen, fun v3 Hg at3 exg => ?_⟩
    rw [show begM recM = (0, [none]) from rfl, rec_due] at at3
    have eg := ef.trans exg
    refine ⟨r, v1, v2, v3, xs, rfl, eg.sqL (by simp) sra, at1.ext (((exd.trans exe).trans exf).trans exg), at2.ext (exf.trans exg), at3, by omega, eg.wd wda, fun Hh exh => ⟨_, rfl, iteF ?_⟩⟩
    have eh := eg.trans exh
    clear at1 at2 at3 atrm atbm att
    -- lists, spotted, turns
    refine ⟨_, rfl, .ref al, xs, rfl, atg.ext eh, by omega, eh.wd wda, fun Hi exi => ⟨_, rfl, iteF ?_⟩⟩
    have ei := eh.trans exi
    refine ⟨_, rfl, .ref al, xs, rfl, atg.ext ei, by omega, ei.wd wda, fun Hj exj => ⟨_, rfl, iteF ?_⟩⟩
    have ej := ei.trans exj
    refine ⟨_, rfl, rfl, fun vtm Hk attm exk => ?_⟩
    have ek := ej.trans exk
    refine ⟨_, rfl, vtm, .ref al, turnsM, asLog xs, rfl, attm, Lg.tup (atg.ext ek), ek.wd wda, turnsM_ok, tagok _ rfl, llen, fun v4 Hl at4 exl => ?_⟩
    rw [show begM turnsM = (0, [none, none]) from rfl, turns_due] at at4
    have el := ek.trans exl
    refine ⟨r, v4, xs, rfl, el.sqL (by simp) sra, at4, by omega, el.wd wda, fun Hm exm => ⟨_, rfl, iteF ?_⟩⟩
    have em := el.trans exm
    clear at4 attm exm exl exk exj exi exh exg exf exe exd exc exb ek ej ei eh eg ef ee ed ec el
    -- runs
    have wdm := em.wd wda
    have srm := em.sqL (by simp) sra
    have agm := atg.ext em
    have sqlm := em.sqT sql
    obtain ⟨pf, hpf⟩ : ∃ pf : Nat → Bool, pf = fun k => decide (0 < k ∧ xs.getD k 0 ≤ xs.getD (k - 1) 0) := ⟨_, rfl⟩
    have fl : ∀ n : Nat, n ≤ 20 → (((List.range n).filter pf).map fun (k : Nat) => (k : Int)).length ≤ 20 := fun n hn => by
      rw [List.length_map]
      exact Nat.le_trans (List.length_filter_le _ _) (by rw [List.length_range]; exact hn)
    refine ⟨_, rfl, al, _, rfl, .inr sqlm, _, rfl, by omega, by omega, fun D1 nD1 => lc_range (lo := 0) (n := ul.length) (fun j H' => Ex T [] Hm H' ∧ H' D1 = some (.lst ((((List.range j).filter pf).map fun (k : Nat) => (k : Int)).map V.int))) ⟨Ex.new nD1, upd_same⟩ ?_ ?_⟩
    · rintro j H' hj ⟨ex, hD⟩
      have hj' : j < xs.length := by omega
      have wdx := ex.wd wdm
      refine ⟨wipe1, rfl, fun vr Hx atx exx => ⟨_, rfl, vr, .ref al, runsM, asLog xs, rfl, atx, Lg.tup (agm.ext (ex.trans exx)), exx.wd wdx, runsM_ok, tagok _ rfl, llen, fun v5 Hy at5 exy => ?_⟩⟩
      rw [show begM runsM = (0, [none, none]) from rfl, runs_due] at at5
      obtain ⟨aa, ua, rfl, sqa, ta⟩ := at_tup.mp at5
      have gr : (runsDue xs)[j]? = some (runsRow xs j) := by unfold runsDue; rw [List.getElem?_map, List.getElem?_range hj']; rfl
      obtain ⟨xr, hr1, hr2⟩ := ta.at gr
      obtain ⟨arr, urr, rfl, sqrr, trr⟩ := at_tup.mp hr2
      refine ⟨_, rfl, aa, _, _, _, rfl, rfl, sqa, nat_at hr1, arr, _, rfl, .inr sqrr, _, _, rfl, rfl, _, rfl, ?_⟩
      have ed : decide ((0 : Int) < (urr.length : Nat)) = pf j := by
        rw [trr.len, hpf]
        refine decide_eq_decide.mpr ?_
        rw [← runs_ended]
        omega
      rw [ed]
      have exz := (ex.trans exx).trans exy
      have hDz := (exx.trans exy).lst (by simp) hD
      have er : List.range (j + 1) = List.range j ++ [j] := List.range_succ
      cases c : pf j with
      | true =>
        refine iteT ⟨_, rfl, _, hDz, small5000 (by have := fl j (by omega); rw [List.length_map]; omega), exz.put nD1 wdm, ?_⟩
        rw [upd_same, er, List.filter_append, List.filter_cons_of_pos (by exact c), List.map_append, List.map_append, Int.zero_add]
        rfl
      | false =>
        refine iteF ⟨exz, ?_⟩
        rw [hDz, er, List.filter_append, List.filter_cons_of_neg (by rw [c]; decide), List.filter_nil, List.append_nil]
    rintro Hn ⟨exn, hD⟩
    have srn := exn.sqL (by simp) srm
    refine ⟨_, rfl, _, rfl, r, _, rfl, .inl srn, 1, _, rfl, ⟨by decide, by decide, by omega, by rw [List.length_map]; omega⟩, fun D2 nD2 => lc_range (lo := 1) (n := (((xs.map V.int).length : Nat) - 1 : Int).toNat) (fun j H' => Ex T [] Hn H' ∧ H' D2 = some (.lst ((((List.range (1 + j)).filter pf).map fun (k : Nat) => (k : Int)).map V.int))) ⟨Ex.new nD2, ?_⟩ ?_ ?_⟩
    · rw [upd_same, show (List.range (1 + 0)).filter pf = [] from by rw [hpf]; rfl]
      rfl
    · rintro j H' hj ⟨ex, hD2⟩
      rw [List.length_map] at hj
      have sq' := ex.sqL (by simp) srn
      refine ⟨wipe1, _, rfl, _, rfl, r, _, _, _, rfl, rfl, sq', iv_at (by omega) (by omega), _, rfl, _, rfl, _, _, rfl, rfl, r, _, _, _, rfl, rfl, sq', iv_at (by omega) (by omega), _, _, rfl, rfl, _, rfl, ?_⟩
      rw [show (1 + (j : Int)).toNat = 1 + j by omega, show (1 + (j : Int) - 1).toNat = 1 + j - 1 by omega]
      have ed : decide (xs.getD (1 + j) 0 ≤ xs.getD (1 + j - 1) 0) = pf (1 + j) := by
        rw [hpf]
        exact decide_eq_decide.mpr ⟨fun h => ⟨by omega, h⟩, fun h => h.2⟩
      rw [ed]
      have er : List.range (1 + (j + 1)) = List.range (1 + j) ++ [1 + j] := by rw [show 1 + (j + 1) = (1 + j) + 1 by omega, List.range_succ]
      cases c : pf (1 + j) with
      | true =>
        refine iteT ⟨_, rfl, _, hD2, small5000 (by have := fl (1 + j) (by omega); rw [List.length_map]; omega), ex.put nD2 (exn.wd wdm), ?_⟩
        rw [upd_same, er, List.filter_append, List.filter_cons_of_pos (by exact c), List.map_append, List.map_append, show (1 + (j : Int)) = ((1 + j : Nat) : Int) by omega]
        rfl
      | false =>
        refine iteF ⟨ex, ?_⟩
        rw [hD2, er, List.filter_append, List.filter_cons_of_neg (by rw [c]; decide), List.filter_nil, List.append_nil]
    rintro Ho ⟨exo, hD2⟩
    have elen : (List.range (1 + (((xs.map V.int).length : Nat) - 1 : Int).toNat)).filter pf = (List.range ul.length).filter pf := by
      rw [List.length_map, ll]
      by_cases c : xs.length = 0
      · rw [c, hpf]
        rfl
      · rw [show 1 + (((xs.length : Nat) : Int) - 1).toNat = xs.length by omega]
    rw [elen] at hD2
    refine neD_ints (SqL.of (exo.lst (by simp) hD)) (SqL.of hD2) ⟨_, rfl, ?_⟩
    rw [decide_eq_true rfl]
    have eo := (em.trans exn).trans exo
    exact iteF ⟨⟨_, _, _, _, rfl⟩, e7.trans ((exa.trans eo).nil), let ⟨ds, hds⟩ := hd7; ⟨ds, (exa.trans eo).lst (by simp) hds⟩⟩
  rintro σ' H6 ⟨⟨y3, y4, y5, y6, rfl⟩, ex6, hd6⟩
  exact q _

end
/-- tables of defs by name -/
def TabOf (mg : Str → Option Value) (h : Heap) (nm : Str) : Prop := ∃ a o fd c P, mg nm = some (.ref a) ∧ h.get? a = some o ∧ o.data = .func fd ∧ fd.code = .ref c ∧ h.IsCode c P #[] ∧ h.TableAt c P #[]
theorem walk_tabs {l : PySem.W.OpenLaw} {n k : Nat} {q : Program} {loose : List Str} {XP : (Str → Option Value) → Heap → Prop} {YP : World → Heap → Prop} {d : DefRec} {K : Params → PySem.W.Frag} {CX : World → CXT} {x : Str} (names : List Str)
    (hn : l.most = some n) (hn2 : n ≤ sizeLine) (hdf : d.params.defaults = []) (hr : Room k callerA) (hrec : (names.all fun nm => (recsOf q).any fun e => e.name == nm) = true) (hY : ∀ (w : World) (h : Heap), YP w h → (K w.params).In h)
    (F : ∀ (w : World) (mg : Str → Option Value) (fa : Addr) (h : Heap), YP w h → (K w.params).In h → h.Ns mainGlobals mg → mg d.name = some (.ref fa) → (∀ nm ∈ names, TabOf mg h nm) → LamX.LawAtS l w (K w.params) (CX w) k n x mg fa h)
    (hCX : ∀ (w : World) (H : Hp) (s : Shared) (e : Value) (s' : Shared), CX w [] H s (fun _ _ _ => False) e s' → False) :
    PySem.W.WalkO q loose XP YP l.row.toRowW d [] (fun f vs => PySem.call f vs) := by
  refine Att.attach_callB hn hdf fun w s₀ s₁ mg mb fa o pm cd doc a vs ns G Y ho hd hcd hmg hobj hints hlen hbits hg => ?_
  have KX := hY w _ Y
  have own : ∀ nm ∈ names, TabOf mg s₁.heap nm := fun nm hnm => by
    obtain ⟨dL, hm, hn1⟩ := List.any_eq_true.mp (List.all_eq_true.mp hrec nm hnm)
    have hn2 : dL.name = nm := beq_iff_eq.mp hn1
    obtain ⟨a', o', fd', c', P', h1, r⟩ := G.T.tab dL hm
    rw [hn2] at h1
    exact ⟨a', o', fd', c', P', h1, r⟩
  obtain ⟨fd, cs, sp, hT, nT, C, hb, hsp, hF⟩ := F w mg fa _ Y KX G.T.g hmg own
  exact LamX.law_callTs KX G.T.g G.T.b G.T.builtins G.T.nolimit hg hT nT C G.T.bmain hobj hints (Nat.le_trans hlen hn2) hr hF hb (fun H hH hS => hsp H a ns hlen hbits hH hS) fun H e s' => hCX w H s₁ e s'
/-- a def's table, found by its code object in the written part -/
theorem tab_at {K : PySem.W.Frag} {h : Heap} {mg : Str → Option Value} {nm : Str} {f c P : Addr} {oc e : Value} {od dd : Option Addr} {osl sl : Array (Option Value)} {fd : FuncData} {vs : Array Value} (X : K.In h) (t : TabOf mg h nm) (m : mg nm = some (.ref f))
    (l : K.lookup f = some ⟨oc, od, .func fd, osl⟩) (cd : fd.code = .ref c) (u : K.lookup c = some ⟨e, dd, .fields vs, sl⟩) (v : vs[11]? = some (.ref P)) :
    h.get? P = some { cls := .none, data := .fields #[] } ∧ PySem.W.CodeHd h c P := by
  obtain ⟨a', o', fd', c', P', h1, h2, h3, h4, h5, h6⟩ := t
  rw [m] at h1
  cases h1
  have g1 := X _ _ l
  rw [g1] at h2
  cases h2
  cases h3
  rw [cd] at h4
  cases h4
  have g2 := X _ _ u
  have hd := PySem.W.CodeHd.of h5 h6
  obtain ⟨⟨oc', vc, e1, _, e3, e4⟩, hP⟩ := h6
  rw [g2] at e1
  cases e1
  cases e3
  rw [v] at e4
  cases e4
  exact ⟨hP, hd⟩

theorem all_mk {l : PySem.W.OpenLaw} {w : World} {K : PySem.W.Frag} {h : Heap} {mg : Str → Option Value} {fa f__worth f_holds f_case_at f_read f_beginning f_answers_from f_answers f__law_draws f__law_take f__law_cell f__law_base f__law_value f__reader f__put_at f_records f_top_list f_band f_turning_points f_runs f__place f__in_order f_spotter f__law_values f__law_as_log f__law_greatest f__law_lists f__law_turns f__law_spotted f_law : Addr} (X : K.In h) (G : h.Ns mainGlobals mg) (hfa : mg "law" = some (.ref fa))
    {od__worth an__worth : Option Addr} {sl__worth : Array (Option Value)} {oc__worth kV__worth dc__worth pm__worth cd__worth ct__worth : Value}
    {od_holds an_holds : Option Addr} {sl_holds : Array (Option Value)} {oc_holds kV_holds dc_holds pm_holds ct_holds : Value}
    {c_holds P_holds : Addr} {e_holds : Value} {dd_holds : Option Addr} {vs_holds : Array Value} {ss_holds : Array (Option Value)}
    {od_case_at an_case_at : Option Addr} {sl_case_at : Array (Option Value)} {oc_case_at kV_case_at dc_case_at pm_case_at cd_case_at ct_case_at : Value}
    {od_read an_read : Option Addr} {sl_read : Array (Option Value)} {oc_read kV_read dc_read pm_read cd_read ct_read : Value}
    {od_beginning an_beginning : Option Addr} {sl_beginning : Array (Option Value)} {oc_beginning kV_beginning dc_beginning pm_beginning cd_beginning ct_beginning : Value}
    {od_answers_from an_answers_from : Option Addr} {sl_answers_from : Array (Option Value)} {oc_answers_from kV_answers_from dc_answers_from pm_answers_from cd_answers_from ct_answers_from : Value}
    {od_answers an_answers : Option Addr} {sl_answers : Array (Option Value)} {oc_answers kV_answers dc_answers pm_answers cd_answers ct_answers : Value}
    {od__law_draws an__law_draws : Option Addr} {sl__law_draws : Array (Option Value)} {oc__law_draws kV__law_draws dc__law_draws pm__law_draws cd__law_draws ct__law_draws : Value}
    {od__law_take an__law_take : Option Addr} {sl__law_take : Array (Option Value)} {oc__law_take kV__law_take dc__law_take pm__law_take cd__law_take ct__law_take : Value}
    {od__law_cell an__law_cell : Option Addr} {sl__law_cell : Array (Option Value)} {oc__law_cell kV__law_cell dc__law_cell pm__law_cell cd__law_cell ct__law_cell : Value}
    {od__law_base an__law_base : Option Addr} {sl__law_base : Array (Option Value)} {oc__law_base kV__law_base dc__law_base pm__law_base cd__law_base ct__law_base : Value}
    {od__law_value an__law_value : Option Addr} {sl__law_value : Array (Option Value)} {oc__law_value kV__law_value dc__law_value pm__law_value cd__law_value ct__law_value : Value}
    {od__reader an__reader : Option Addr} {sl__reader : Array (Option Value)} {oc__reader kV__reader dc__reader pm__reader cd__reader ct__reader : Value}
    {od__put_at an__put_at : Option Addr} {sl__put_at : Array (Option Value)} {oc__put_at kV__put_at dc__put_at pm__put_at cd__put_at ct__put_at : Value}
    {od_records an_records : Option Addr} {sl_records : Array (Option Value)} {oc_records kV_records dc_records pm_records cd_records ct_records : Value}
    {od_top_list an_top_list : Option Addr} {sl_top_list : Array (Option Value)} {oc_top_list kV_top_list dc_top_list pm_top_list cd_top_list ct_top_list : Value}
    {od_band an_band : Option Addr} {sl_band : Array (Option Value)} {oc_band kV_band dc_band pm_band cd_band ct_band : Value}
    {od_turning_points an_turning_points : Option Addr} {sl_turning_points : Array (Option Value)} {oc_turning_points kV_turning_points dc_turning_points pm_turning_points cd_turning_points ct_turning_points : Value}
    {od_runs an_runs : Option Addr} {sl_runs : Array (Option Value)} {oc_runs kV_runs dc_runs pm_runs cd_runs ct_runs : Value}
    {od__place an__place : Option Addr} {sl__place : Array (Option Value)} {oc__place kV__place dc__place pm__place cd__place ct__place : Value}
    {od__in_order an__in_order : Option Addr} {sl__in_order : Array (Option Value)} {oc__in_order kV__in_order dc__in_order pm__in_order cd__in_order ct__in_order : Value}
    {od_spotter an_spotter : Option Addr} {sl_spotter : Array (Option Value)} {oc_spotter kV_spotter dc_spotter pm_spotter cd_spotter ct_spotter : Value}
    {od__law_values an__law_values : Option Addr} {sl__law_values : Array (Option Value)} {oc__law_values kV__law_values dc__law_values pm__law_values cd__law_values ct__law_values : Value}
    {od__law_as_log an__law_as_log : Option Addr} {sl__law_as_log : Array (Option Value)} {oc__law_as_log kV__law_as_log dc__law_as_log pm__law_as_log cd__law_as_log ct__law_as_log : Value}
    {od__law_greatest an__law_greatest : Option Addr} {sl__law_greatest : Array (Option Value)} {oc__law_greatest kV__law_greatest dc__law_greatest pm__law_greatest cd__law_greatest ct__law_greatest : Value}
    {od__law_lists an__law_lists : Option Addr} {sl__law_lists : Array (Option Value)} {oc__law_lists kV__law_lists dc__law_lists pm__law_lists cd__law_lists ct__law_lists : Value}
    {od__law_turns an__law_turns : Option Addr} {sl__law_turns : Array (Option Value)} {oc__law_turns kV__law_turns dc__law_turns pm__law_turns cd__law_turns ct__law_turns : Value}
    {od__law_spotted an__law_spotted : Option Addr} {sl__law_spotted : Array (Option Value)} {oc__law_spotted kV__law_spotted dc__law_spotted pm__law_spotted cd__law_spotted ct__law_spotted : Value}
    {od_law an_law : Option Addr} {sl_law : Array (Option Value)} {oc_law kV_law dc_law pm_law cd_law ct_law : Value}
    {t_NEW t_NOTHING : Tok}
    {a_TRUE_built : Addr} {od_TRUE_built : Option Addr} {sl_TRUE_built : Array (Option Value)} {n_TRUE_built : Nat} {tk_TRUE_built_0 : Tok}
    {a_FIRST_ENTRY : Addr} {od_FIRST_ENTRY : Option Addr} {sl_FIRST_ENTRY : Array (Option Value)} {n_FIRST_ENTRY : Nat} {tk_FIRST_ENTRY_0 tk_FIRST_ENTRY_1 : Tok}
    {a_TRUE_spotting : Addr} {od_TRUE_spotting : Option Addr} {sl_TRUE_spotting : Array (Option Value)} {n_TRUE_spotting : Nat} {tk_TRUE_spotting_0 : Tok}
    (TT : ∀ nm ∈ (["holds"] : List Str), TabOf mg h nm)
    (a__worth : PySem.W.nsIn K mainGlobals "_worth" = some (some (.ref f__worth))) (l__worth : K.lookup f__worth = some ⟨oc__worth, od__worth, .func (PySem.W.fnOf "_worth" "_worth" (defArgs s__worth) (defBody s__worth) (defScope s__worth) .none kV__worth dc__worth pm__worth an__worth cd__worth ct__worth), sl__worth⟩) (c__worth_ : PySem.W.codeIn K cd__worth "_worth" = true) (k__worth : PySem.W.keepIn K (.ref f__worth) = true)
    (a_holds : PySem.W.nsIn K mainGlobals "holds" = some (some (.ref f_holds))) (l_holds : K.lookup f_holds = some ⟨oc_holds, od_holds, .func (PySem.W.fnOf "holds" "holds" (defArgs s_holds) (defBody s_holds) (defScope s_holds) .none kV_holds dc_holds pm_holds an_holds (.ref c_holds) ct_holds), sl_holds⟩) (c_holds_ : PySem.W.codeIn K (.ref c_holds) "holds" = true) (k_holds : PySem.W.keepIn K (.ref f_holds) = true)
    (u_holds : K.lookup c_holds = some ⟨e_holds, dd_holds, .fields vs_holds, ss_holds⟩) (v_holds : vs_holds[11]? = some (.ref P_holds)) (w_holds : K.lookup P_holds = none)
    (a_case_at : PySem.W.nsIn K mainGlobals "case_at" = some (some (.ref f_case_at))) (l_case_at : K.lookup f_case_at = some ⟨oc_case_at, od_case_at, .func (PySem.W.fnOf "case_at" "case_at" (defArgs s_case_at) (defBody s_case_at) (defScope s_case_at) .none kV_case_at dc_case_at pm_case_at an_case_at cd_case_at ct_case_at), sl_case_at⟩) (c_case_at_ : PySem.W.codeIn K cd_case_at "case_at" = true) (k_case_at : PySem.W.keepIn K (.ref f_case_at) = true)
    (a_read : PySem.W.nsIn K mainGlobals "read" = some (some (.ref f_read))) (l_read : K.lookup f_read = some ⟨oc_read, od_read, .func (PySem.W.fnOf "read" "read" (defArgs s_read) (defBody s_read) (defScope s_read) .none kV_read dc_read pm_read an_read cd_read ct_read), sl_read⟩) (c_read_ : PySem.W.codeIn K cd_read "read" = true) (k_read : PySem.W.keepIn K (.ref f_read) = true)
    (a_beginning : PySem.W.nsIn K mainGlobals "beginning" = some (some (.ref f_beginning))) (l_beginning : K.lookup f_beginning = some ⟨oc_beginning, od_beginning, .func (PySem.W.fnOf "beginning" "beginning" (defArgs s_beginning) (defBody s_beginning) (defScope s_beginning) .none kV_beginning dc_beginning pm_beginning an_beginning cd_beginning ct_beginning), sl_beginning⟩) (c_beginning_ : PySem.W.codeIn K cd_beginning "beginning" = true) (k_beginning : PySem.W.keepIn K (.ref f_beginning) = true)
    (a_answers_from : PySem.W.nsIn K mainGlobals "answers_from" = some (some (.ref f_answers_from))) (l_answers_from : K.lookup f_answers_from = some ⟨oc_answers_from, od_answers_from, .func (PySem.W.fnOf "answers_from" "answers_from" (defArgs s_answers_from) (defBody s_answers_from) (defScope s_answers_from) .none kV_answers_from dc_answers_from pm_answers_from an_answers_from cd_answers_from ct_answers_from), sl_answers_from⟩) (c_answers_from_ : PySem.W.codeIn K cd_answers_from "answers_from" = true) (k_answers_from : PySem.W.keepIn K (.ref f_answers_from) = true)
    (a_answers : PySem.W.nsIn K mainGlobals "answers" = some (some (.ref f_answers))) (l_answers : K.lookup f_answers = some ⟨oc_answers, od_answers, .func (PySem.W.fnOf "answers" "answers" (defArgs s_answers) (defBody s_answers) (defScope s_answers) .none kV_answers dc_answers pm_answers an_answers cd_answers ct_answers), sl_answers⟩) (c_answers_ : PySem.W.codeIn K cd_answers "answers" = true) (k_answers : PySem.W.keepIn K (.ref f_answers) = true)
    (a__law_draws : PySem.W.nsIn K mainGlobals "_law_draws" = some (some (.ref f__law_draws))) (l__law_draws : K.lookup f__law_draws = some ⟨oc__law_draws, od__law_draws, .func (PySem.W.fnOf "_law_draws" "_law_draws" (defArgs s__law_draws) (defBody s__law_draws) (defScope s__law_draws) .none kV__law_draws dc__law_draws pm__law_draws an__law_draws cd__law_draws ct__law_draws), sl__law_draws⟩) (c__law_draws_ : PySem.W.codeIn K cd__law_draws "_law_draws" = true) (k__law_draws : PySem.W.keepIn K (.ref f__law_draws) = true)
    (a__law_take : PySem.W.nsIn K mainGlobals "_law_take" = some (some (.ref f__law_take))) (l__law_take : K.lookup f__law_take = some ⟨oc__law_take, od__law_take, .func (PySem.W.fnOf "_law_take" "_law_take" (defArgs s__law_take) (defBody s__law_take) (defScope s__law_take) .none kV__law_take dc__law_take pm__law_take an__law_take cd__law_take ct__law_take), sl__law_take⟩) (c__law_take_ : PySem.W.codeIn K cd__law_take "_law_take" = true) (k__law_take : PySem.W.keepIn K (.ref f__law_take) = true)
    (a__law_cell : PySem.W.nsIn K mainGlobals "_law_cell" = some (some (.ref f__law_cell))) (l__law_cell : K.lookup f__law_cell = some ⟨oc__law_cell, od__law_cell, .func (PySem.W.fnOf "_law_cell" "_law_cell" (defArgs s__law_cell) (defBody s__law_cell) (defScope s__law_cell) .none kV__law_cell dc__law_cell pm__law_cell an__law_cell cd__law_cell ct__law_cell), sl__law_cell⟩) (c__law_cell_ : PySem.W.codeIn K cd__law_cell "_law_cell" = true) (k__law_cell : PySem.W.keepIn K (.ref f__law_cell) = true)
    (a__law_base : PySem.W.nsIn K mainGlobals "_law_base" = some (some (.ref f__law_base))) (l__law_base : K.lookup f__law_base = some ⟨oc__law_base, od__law_base, .func (PySem.W.fnOf "_law_base" "_law_base" (defArgs s__law_base) (defBody s__law_base) (defScope s__law_base) .none kV__law_base dc__law_base pm__law_base an__law_base cd__law_base ct__law_base), sl__law_base⟩) (c__law_base_ : PySem.W.codeIn K cd__law_base "_law_base" = true) (k__law_base : PySem.W.keepIn K (.ref f__law_base) = true)
    (a__law_value : PySem.W.nsIn K mainGlobals "_law_value" = some (some (.ref f__law_value))) (l__law_value : K.lookup f__law_value = some ⟨oc__law_value, od__law_value, .func (PySem.W.fnOf "_law_value" "_law_value" (defArgs s__law_value) (defBody s__law_value) (defScope s__law_value) .none kV__law_value dc__law_value pm__law_value an__law_value cd__law_value ct__law_value), sl__law_value⟩) (c__law_value_ : PySem.W.codeIn K cd__law_value "_law_value" = true) (k__law_value : PySem.W.keepIn K (.ref f__law_value) = true)
    (a__reader : PySem.W.nsIn K mainGlobals "_reader" = some (some (.ref f__reader))) (l__reader : K.lookup f__reader = some ⟨oc__reader, od__reader, .func (PySem.W.fnOf "_reader" "_reader" (defArgs s__reader) (defBody s__reader) (defScope s__reader) .none kV__reader dc__reader pm__reader an__reader cd__reader ct__reader), sl__reader⟩) (c__reader_ : PySem.W.codeIn K cd__reader "_reader" = true) (k__reader : PySem.W.keepIn K (.ref f__reader) = true)
    (a__put_at : PySem.W.nsIn K mainGlobals "_put_at" = some (some (.ref f__put_at))) (l__put_at : K.lookup f__put_at = some ⟨oc__put_at, od__put_at, .func (PySem.W.fnOf "_put_at" "_put_at" (defArgs s__put_at) (defBody s__put_at) (defScope s__put_at) .none kV__put_at dc__put_at pm__put_at an__put_at cd__put_at ct__put_at), sl__put_at⟩) (c__put_at_ : PySem.W.codeIn K cd__put_at "_put_at" = true) (k__put_at : PySem.W.keepIn K (.ref f__put_at) = true)
    (a_records : PySem.W.nsIn K mainGlobals "records" = some (some (.ref f_records))) (l_records : K.lookup f_records = some ⟨oc_records, od_records, .func (PySem.W.fnOf "records" "records" (defArgs s_records) (defBody s_records) (defScope s_records) .none kV_records dc_records pm_records an_records cd_records ct_records), sl_records⟩) (c_records_ : PySem.W.codeIn K cd_records "records" = true) (k_records : PySem.W.keepIn K (.ref f_records) = true)
    (a_top_list : PySem.W.nsIn K mainGlobals "top_list" = some (some (.ref f_top_list))) (l_top_list : K.lookup f_top_list = some ⟨oc_top_list, od_top_list, .func (PySem.W.fnOf "top_list" "top_list" (defArgs s_top_list) (defBody s_top_list) (defScope s_top_list) .none kV_top_list dc_top_list pm_top_list an_top_list cd_top_list ct_top_list), sl_top_list⟩) (c_top_list_ : PySem.W.codeIn K cd_top_list "top_list" = true) (k_top_list : PySem.W.keepIn K (.ref f_top_list) = true)
    (a_band : PySem.W.nsIn K mainGlobals "band" = some (some (.ref f_band))) (l_band : K.lookup f_band = some ⟨oc_band, od_band, .func (PySem.W.fnOf "band" "band" (defArgs s_band) (defBody s_band) (defScope s_band) .none kV_band dc_band pm_band an_band cd_band ct_band), sl_band⟩) (c_band_ : PySem.W.codeIn K cd_band "band" = true) (k_band : PySem.W.keepIn K (.ref f_band) = true)
    (a_turning_points : PySem.W.nsIn K mainGlobals "turning_points" = some (some (.ref f_turning_points))) (l_turning_points : K.lookup f_turning_points = some ⟨oc_turning_points, od_turning_points, .func (PySem.W.fnOf "turning_points" "turning_points" (defArgs s_turning_points) (defBody s_turning_points) (defScope s_turning_points) .none kV_turning_points dc_turning_points pm_turning_points an_turning_points cd_turning_points ct_turning_points), sl_turning_points⟩) (c_turning_points_ : PySem.W.codeIn K cd_turning_points "turning_points" = true) (k_turning_points : PySem.W.keepIn K (.ref f_turning_points) = true)
    (a_runs : PySem.W.nsIn K mainGlobals "runs" = some (some (.ref f_runs))) (l_runs : K.lookup f_runs = some ⟨oc_runs, od_runs, .func (PySem.W.fnOf "runs" "runs" (defArgs s_runs) (defBody s_runs) (defScope s_runs) .none kV_runs dc_runs pm_runs an_runs cd_runs ct_runs), sl_runs⟩) (c_runs_ : PySem.W.codeIn K cd_runs "runs" = true) (k_runs : PySem.W.keepIn K (.ref f_runs) = true)
    (a__place : PySem.W.nsIn K mainGlobals "_place" = some (some (.ref f__place))) (l__place : K.lookup f__place = some ⟨oc__place, od__place, .func (PySem.W.fnOf "_place" "_place" (defArgs s__place) (defBody s__place) (defScope s__place) .none kV__place dc__place pm__place an__place cd__place ct__place), sl__place⟩) (c__place_ : PySem.W.codeIn K cd__place "_place" = true) (k__place : PySem.W.keepIn K (.ref f__place) = true)
    (a__in_order : PySem.W.nsIn K mainGlobals "_in_order" = some (some (.ref f__in_order))) (l__in_order : K.lookup f__in_order = some ⟨oc__in_order, od__in_order, .func (PySem.W.fnOf "_in_order" "_in_order" (defArgs s__in_order) (defBody s__in_order) (defScope s__in_order) .none kV__in_order dc__in_order pm__in_order an__in_order cd__in_order ct__in_order), sl__in_order⟩) (c__in_order_ : PySem.W.codeIn K cd__in_order "_in_order" = true) (k__in_order : PySem.W.keepIn K (.ref f__in_order) = true)
    (a_spotter : PySem.W.nsIn K mainGlobals "spotter" = some (some (.ref f_spotter))) (l_spotter : K.lookup f_spotter = some ⟨oc_spotter, od_spotter, .func (PySem.W.fnOf "spotter" "spotter" (defArgs s_spotter) (defBody s_spotter) (defScope s_spotter) .none kV_spotter dc_spotter pm_spotter an_spotter cd_spotter ct_spotter), sl_spotter⟩) (c_spotter_ : PySem.W.codeIn K cd_spotter "spotter" = true) (k_spotter : PySem.W.keepIn K (.ref f_spotter) = true)
    (a__law_values : PySem.W.nsIn K mainGlobals "_law_values" = some (some (.ref f__law_values))) (l__law_values : K.lookup f__law_values = some ⟨oc__law_values, od__law_values, .func (PySem.W.fnOf "_law_values" "_law_values" (defArgs s__law_values) (defBody s__law_values) (defScope s__law_values) .none kV__law_values dc__law_values pm__law_values an__law_values cd__law_values ct__law_values), sl__law_values⟩) (c__law_values_ : PySem.W.codeIn K cd__law_values "_law_values" = true) (k__law_values : PySem.W.keepIn K (.ref f__law_values) = true)
    (a__law_as_log : PySem.W.nsIn K mainGlobals "_law_as_log" = some (some (.ref f__law_as_log))) (l__law_as_log : K.lookup f__law_as_log = some ⟨oc__law_as_log, od__law_as_log, .func (PySem.W.fnOf "_law_as_log" "_law_as_log" (defArgs s__law_as_log) (defBody s__law_as_log) (defScope s__law_as_log) .none kV__law_as_log dc__law_as_log pm__law_as_log an__law_as_log cd__law_as_log ct__law_as_log), sl__law_as_log⟩) (c__law_as_log_ : PySem.W.codeIn K cd__law_as_log "_law_as_log" = true) (k__law_as_log : PySem.W.keepIn K (.ref f__law_as_log) = true)
    (a__law_greatest : PySem.W.nsIn K mainGlobals "_law_greatest" = some (some (.ref f__law_greatest))) (l__law_greatest : K.lookup f__law_greatest = some ⟨oc__law_greatest, od__law_greatest, .func (PySem.W.fnOf "_law_greatest" "_law_greatest" (defArgs s__law_greatest) (defBody s__law_greatest) (defScope s__law_greatest) .none kV__law_greatest dc__law_greatest pm__law_greatest an__law_greatest cd__law_greatest ct__law_greatest), sl__law_greatest⟩) (c__law_greatest_ : PySem.W.codeIn K cd__law_greatest "_law_greatest" = true) (k__law_greatest : PySem.W.keepIn K (.ref f__law_greatest) = true)
    (a__law_lists : PySem.W.nsIn K mainGlobals "_law_lists" = some (some (.ref f__law_lists))) (l__law_lists : K.lookup f__law_lists = some ⟨oc__law_lists, od__law_lists, .func (PySem.W.fnOf "_law_lists" "_law_lists" (defArgs s__law_lists) (defBody s__law_lists) (defScope s__law_lists) .none kV__law_lists dc__law_lists pm__law_lists an__law_lists cd__law_lists ct__law_lists), sl__law_lists⟩) (c__law_lists_ : PySem.W.codeIn K cd__law_lists "_law_lists" = true) (k__law_lists : PySem.W.keepIn K (.ref f__law_lists) = true)
    (a__law_turns : PySem.W.nsIn K mainGlobals "_law_turns" = some (some (.ref f__law_turns))) (l__law_turns : K.lookup f__law_turns = some ⟨oc__law_turns, od__law_turns, .func (PySem.W.fnOf "_law_turns" "_law_turns" (defArgs s__law_turns) (defBody s__law_turns) (defScope s__law_turns) .none kV__law_turns dc__law_turns pm__law_turns an__law_turns cd__law_turns ct__law_turns), sl__law_turns⟩) (c__law_turns_ : PySem.W.codeIn K cd__law_turns "_law_turns" = true) (k__law_turns : PySem.W.keepIn K (.ref f__law_turns) = true)
    (a__law_spotted : PySem.W.nsIn K mainGlobals "_law_spotted" = some (some (.ref f__law_spotted))) (l__law_spotted : K.lookup f__law_spotted = some ⟨oc__law_spotted, od__law_spotted, .func (PySem.W.fnOf "_law_spotted" "_law_spotted" (defArgs s__law_spotted) (defBody s__law_spotted) (defScope s__law_spotted) .none kV__law_spotted dc__law_spotted pm__law_spotted an__law_spotted cd__law_spotted ct__law_spotted), sl__law_spotted⟩) (c__law_spotted_ : PySem.W.codeIn K cd__law_spotted "_law_spotted" = true) (k__law_spotted : PySem.W.keepIn K (.ref f__law_spotted) = true)
    (a_law : PySem.W.nsIn K mainGlobals "law" = some (some (.ref f_law))) (l_law : K.lookup f_law = some ⟨oc_law, od_law, .func (PySem.W.fnOf "law" "law" (defArgs s_law) (defBody s_law) (defScope s_law) .none kV_law dc_law pm_law an_law cd_law ct_law), sl_law⟩) (c_law_ : PySem.W.codeIn K cd_law "law" = true) (k_law : PySem.W.keepIn K (.ref f_law) = true)
    (z_NEW : PySem.W.nsIn K mainGlobals "NEW" = some (some (.int (-1) t_NEW)))
    (z_NOTHING : PySem.W.nsIn K mainGlobals "NOTHING" = some (some (.int (-2) t_NOTHING)))
    (z_TRUE_built : PySem.W.nsIn K mainGlobals "TRUE_built" = some (some (.ref a_TRUE_built)))
    (y_TRUE_built : K.lookup a_TRUE_built = some ⟨.type "tuple", od_TRUE_built, .seq #[.str "true" tk_TRUE_built_0] n_TRUE_built, sl_TRUE_built⟩)
    (z_FIRST_ENTRY : PySem.W.nsIn K mainGlobals "FIRST_ENTRY" = some (some (.ref a_FIRST_ENTRY)))
    (y_FIRST_ENTRY : K.lookup a_FIRST_ENTRY = some ⟨.type "tuple", od_FIRST_ENTRY, .seq #[.str "empty" tk_FIRST_ENTRY_0, .int (0) tk_FIRST_ENTRY_1] n_FIRST_ENTRY, sl_FIRST_ENTRY⟩)
    (z_TRUE_spotting : PySem.W.nsIn K mainGlobals "TRUE_spotting" = some (some (.ref a_TRUE_spotting)))
    (y_TRUE_spotting : K.lookup a_TRUE_spotting = some ⟨.type "tuple", od_TRUE_spotting, .seq #[.str "true" tk_TRUE_spotting_0] n_TRUE_spotting, sl_TRUE_spotting⟩)
    (z_all : PySem.W.nsIn K mainGlobals "all" = some none)
    (z_any : PySem.W.nsIn K mainGlobals "any" = some none)
    (z_len : PySem.W.nsIn K mainGlobals "len" = some none)
    (z_int : PySem.W.nsIn K mainGlobals "int" = some none)
    (z_list : PySem.W.nsIn K mainGlobals "list" = some none)
    (z_range : PySem.W.nsIn K mainGlobals "range" = some none)
    (z_tuple : PySem.W.nsIn K mainGlobals "tuple" = some none)
    (z_enumerate : PySem.W.nsIn K mainGlobals "enumerate" = some none)
    (z_min : PySem.W.nsIn K mainGlobals "min" = some none)
    (z_sorted : PySem.W.nsIn K mainGlobals "sorted" = some none)
    (z_zip : PySem.W.nsIn K mainGlobals "zip" = some none)
    : LamX.LawAtS l w K CX0 60 63 "script" mg fa h := by
  have e := hfa.symm.trans (PySem.W.mg_of X G a_law)
  cases e
  have F__worth := fun_mk (st := s__worth) l__worth c__worth_ k__worth
  have b__worth := F__worth.binds (ps := ["source", "value", "held"]) fun _ _ _ _ _ _ us hl => match us, hl with | [_, _, _], _ => rfl
  have m__worth := PySem.W.mg_of X G a__worth
  have T_holds := funT_mk (st := s_holds) l_holds c_holds_ k_holds
  have F_holds := FunT.fn T_holds
  obtain ⟨tg_holds, hd_holds⟩ := tab_at X (TT "holds" (by simp)) (PySem.W.mg_of X G a_holds) l_holds rfl u_holds v_holds
  have b_holds := F_holds.binds (ps := ["condition", "value", "held"]) fun _ _ _ _ _ _ us hl => match us, hl with | [_, _, _], _ => rfl
  have m_holds := PySem.W.mg_of X G a_holds
  have F_case_at := fun_mk (st := s_case_at) l_case_at c_case_at_ k_case_at
  have b_case_at := F_case_at.binds (ps := ["machine", "content", "entry"]) fun _ _ _ _ _ _ us hl => match us, hl with | [_, _, _], _ => rfl
  have m_case_at := PySem.W.mg_of X G a_case_at
  have F_read := fun_mk (st := s_read) l_read c_read_ k_read
  have b_read := F_read.binds (ps := ["machine", "content", "entry"]) fun _ _ _ _ _ _ us hl => match us, hl with | [_, _, _], _ => rfl
  have m_read := PySem.W.mg_of X G a_read
  have F_beginning := fun_mk (st := s_beginning) l_beginning c_beginning_ k_beginning
  have b_beginning := F_beginning.binds (ps := ["machine"]) fun _ _ _ _ _ _ us hl => match us, hl with | [_], _ => rfl
  have m_beginning := PySem.W.mg_of X G a_beginning
  have F_answers_from := fun_mk (st := s_answers_from) l_answers_from c_answers_from_ k_answers_from
  have b_answers_from := F_answers_from.binds (ps := ["machine", "content", "log"]) fun _ _ _ _ _ _ us hl => match us, hl with | [_, _, _], _ => rfl
  have m_answers_from := PySem.W.mg_of X G a_answers_from
  have F_answers := fun_mk (st := s_answers) l_answers c_answers_ k_answers
  have b_answers := F_answers.binds (ps := ["machine", "log"]) fun _ _ _ _ _ _ us hl => match us, hl with | [_, _], _ => rfl
  have m_answers := PySem.W.mg_of X G a_answers
  have F__law_draws := fun_mk (st := s__law_draws) l__law_draws c__law_draws_ k__law_draws
  have b__law_draws := F__law_draws.binds (ps := ["script", "many"]) fun _ _ _ _ _ _ us hl => match us, hl with | [_, _], _ => rfl
  have m__law_draws := PySem.W.mg_of X G a__law_draws
  have F__law_take := fun_mk (st := s__law_take) l__law_take c__law_take_ k__law_take
  have b__law_take := F__law_take.binds (ps := ["draws", "many"]) fun _ _ _ _ _ _ us hl => match us, hl with | [_, _], _ => rfl
  have m__law_take := PySem.W.mg_of X G a__law_take
  have F__law_cell := fun_mk (st := s__law_cell) l__law_cell c__law_cell_ k__law_cell
  have b__law_cell := F__law_cell.binds (ps := ["script", "draws"]) fun _ _ _ _ _ _ us hl => match us, hl with | [_, _], _ => rfl
  have m__law_cell := PySem.W.mg_of X G a__law_cell
  have F__law_base := fun_mk (st := s__law_base) l__law_base c__law_base_ k__law_base
  have b__law_base := F__law_base.binds (ps := ["draws", "cell"]) fun _ _ _ _ _ _ us hl => match us, hl with | [_, _], _ => rfl
  have m__law_base := PySem.W.mg_of X G a__law_base
  have F__law_value := fun_mk (st := s__law_value) l__law_value c__law_value_ k__law_value
  have b__law_value := F__law_value.binds (ps := ["draws", "base", "wide"]) fun _ _ _ _ _ _ us hl => match us, hl with | [_, _, _], _ => rfl
  have m__law_value := PySem.W.mg_of X G a__law_value
  have F__reader := fun_mk (st := s__reader) l__reader c__reader_ k__reader
  have b__reader := F__reader.binds (ps := ["registers", "cases"]) fun _ _ _ _ _ _ us hl => match us, hl with | [_, _], _ => rfl
  have m__reader := PySem.W.mg_of X G a__reader
  have F__put_at := fun_mk (st := s__put_at) l__put_at c__put_at_ k__put_at
  have b__put_at := F__put_at.binds (ps := ["k", "held", "at", "condition"]) fun _ _ _ _ _ _ us hl => match us, hl with | [_, _, _, _], _ => rfl
  have m__put_at := PySem.W.mg_of X G a__put_at
  have F_records := fun_mk (st := s_records) l_records c_records_ k_records
  have b_records := F_records.binds (ps := []) fun _ _ _ _ _ _ us hl => match us, hl with | [], _ => rfl
  have m_records := PySem.W.mg_of X G a_records
  have F_top_list := fun_mk (st := s_top_list) l_top_list c_top_list_ k_top_list
  have b_top_list := F_top_list.binds (ps := ["k"]) fun _ _ _ _ _ _ us hl => match us, hl with | [_], _ => rfl
  have m_top_list := PySem.W.mg_of X G a_top_list
  have F_band := fun_mk (st := s_band) l_band c_band_ k_band
  have b_band := F_band.binds (ps := []) fun _ _ _ _ _ _ us hl => match us, hl with | [], _ => rfl
  have m_band := PySem.W.mg_of X G a_band
  have F_turning_points := fun_mk (st := s_turning_points) l_turning_points c_turning_points_ k_turning_points
  have b_turning_points := F_turning_points.binds (ps := []) fun _ _ _ _ _ _ us hl => match us, hl with | [], _ => rfl
  have m_turning_points := PySem.W.mg_of X G a_turning_points
  have F_runs := fun_mk (st := s_runs) l_runs c_runs_ k_runs
  have b_runs := F_runs.binds (ps := []) fun _ _ _ _ _ _ us hl => match us, hl with | [], _ => rfl
  have m_runs := PySem.W.mg_of X G a_runs
  have F__place := fun_mk (st := s__place) l__place c__place_ k__place
  have b__place := F__place.binds (ps := ["at", "pattern"]) fun _ _ _ _ _ _ us hl => match us, hl with | [_, _], _ => rfl
  have m__place := PySem.W.mg_of X G a__place
  have F__in_order := fun_mk (st := s__in_order) l__in_order c__in_order_ k__in_order
  have b__in_order := F__in_order.binds (ps := ["pattern"]) fun _ _ _ _ _ _ us hl => match us, hl with | [_], _ => rfl
  have m__in_order := PySem.W.mg_of X G a__in_order
  have F_spotter := fun_mk (st := s_spotter) l_spotter c_spotter_ k_spotter
  have b_spotter := F_spotter.binds (ps := ["pattern"]) fun _ _ _ _ _ _ us hl => match us, hl with | [_], _ => rfl
  have m_spotter := PySem.W.mg_of X G a_spotter
  have F__law_values := fun_mk (st := s__law_values) l__law_values c__law_values_ k__law_values
  have b__law_values := F__law_values.binds (ps := ["draws", "cell", "most"]) fun _ _ _ _ _ _ us hl => match us, hl with | [_, _, _], _ => rfl
  have m__law_values := PySem.W.mg_of X G a__law_values
  have F__law_as_log := fun_mk (st := s__law_as_log) l__law_as_log c__law_as_log_ k__law_as_log
  have b__law_as_log := F__law_as_log.binds (ps := ["values"]) fun _ _ _ _ _ _ us hl => match us, hl with | [_], _ => rfl
  have m__law_as_log := PySem.W.mg_of X G a__law_as_log
  have F__law_greatest := fun_mk (st := s__law_greatest) l__law_greatest c__law_greatest_ k__law_greatest
  have b__law_greatest := F__law_greatest.binds (ps := ["values", "rows", "bands", "records_said"]) fun _ _ _ _ _ _ us hl => match us, hl with | [_, _, _, _], _ => rfl
  have m__law_greatest := PySem.W.mg_of X G a__law_greatest
  have F__law_lists := fun_mk (st := s__law_lists) l__law_lists c__law_lists_ k__law_lists
  have b__law_lists := F__law_lists.binds (ps := ["log"]) fun _ _ _ _ _ _ us hl => match us, hl with | [_], _ => rfl
  have m__law_lists := PySem.W.mg_of X G a__law_lists
  have F__law_turns := fun_mk (st := s__law_turns) l__law_turns c__law_turns_ k__law_turns
  have b__law_turns := F__law_turns.binds (ps := ["values", "said"]) fun _ _ _ _ _ _ us hl => match us, hl with | [_, _], _ => rfl
  have m__law_turns := PySem.W.mg_of X G a__law_turns
  have F__law_spotted := fun_mk (st := s__law_spotted) l__law_spotted c__law_spotted_ k__law_spotted
  have b__law_spotted := F__law_spotted.binds (ps := ["log"]) fun _ _ _ _ _ _ us hl => match us, hl with | [_], _ => rfl
  have m__law_spotted := PySem.W.mg_of X G a__law_spotted
  have F_law := fun_mk (st := s_law) l_law c_law_ k_law
  have b_law := F_law.binds (ps := ["script"]) fun _ _ _ _ _ _ us hl => match us, hl with | [_], _ => rfl
  have m_law := PySem.W.mg_of X G a_law
  have m_NEW := PySem.W.mg_of X G z_NEW
  have m_NOTHING := PySem.W.mg_of X G z_NOTHING
  have m_TRUE_built := PySem.W.mg_of X G z_TRUE_built
  have q_TRUE_built : ∀ H, SqT K H a_TRUE_built [.str "true"] := fun H => .inr ⟨_, _, _, y_TRUE_built, rfl, rfl, (by show 1 ≤ sizeLine; decide), (.cons ⟨_, rfl⟩ .nil)⟩
  have m_FIRST_ENTRY := PySem.W.mg_of X G z_FIRST_ENTRY
  have q_FIRST_ENTRY : ∀ H, SqT K H a_FIRST_ENTRY [.str "empty", .int (0)] := fun H => .inr ⟨_, _, _, y_FIRST_ENTRY, rfl, rfl, (by show 2 ≤ sizeLine; decide), (.cons ⟨_, rfl⟩ (.cons ⟨_, rfl⟩ .nil))⟩
  have m_TRUE_spotting := PySem.W.mg_of X G z_TRUE_spotting
  have q_TRUE_spotting : ∀ H, SqT K H a_TRUE_spotting [.str "true"] := fun H => .inr ⟨_, _, _, y_TRUE_spotting, rfl, rfl, (by show 1 ≤ sizeLine; decide), (.cons ⟨_, rfl⟩ .nil)⟩
  have m_all := PySem.W.mg_none_of X G z_all
  have m_any := PySem.W.mg_none_of X G z_any
  have m_len := PySem.W.mg_none_of X G z_len
  have m_int := PySem.W.mg_none_of X G z_int
  have m_list := PySem.W.mg_none_of X G z_list
  have m_range := PySem.W.mg_none_of X G z_range
  have m_tuple := PySem.W.mg_none_of X G z_tuple
  have m_enumerate := PySem.W.mg_none_of X G z_enumerate
  have m_min := PySem.W.mg_none_of X G z_min
  have m_sorted := PySem.W.mg_none_of X G z_sorted
  have m_zip := PySem.W.mg_none_of X G z_zip
  refine ⟨PySem.W.fnOf "law" "law" (defArgs s_law) (defBody s_law) (defScope s_law) .none kV_law dc_law pm_law an_law cd_law ct_law, [(c_holds, P_holds)], sp_law K [P_holds], ?_, ?_, ?_, fun s v => .of_eq rfl, fun H a ns hl hbits hT hS => ?_, fun base kb nb tb => ?_⟩
  · intro p hp
    simp only [List.mem_cons, List.not_mem_nil, or_false] at hp
    rw [hp]
    exact tg_holds
  · intro p hp
    simp only [List.mem_cons, List.not_mem_nil, or_false] at hp
    rw [hp]
    exact w_holds
  · intro p hp
    simp only [List.mem_cons, List.not_mem_nil, or_false] at hp
    rw [hp]
    exact hd_holds
  · refine ⟨a, ns, rfl, hS, hl, hbits, fun P hP => ?_, fun _ => rfl⟩
    simp only [List.mem_cons, List.not_mem_nil, or_false] at hP
    exact ⟨#[], by rw [hP]; exact hT (c_holds, P_holds) (by simp), trivial⟩
  have tb_holds : TabB base mg c_holds P_holds := let t := tb (c_holds, P_holds) (by simp); ⟨t.code, t.bm, t.gP⟩
  have h__worth : FnOk l.prog w K mg base CX0 1 f__worth _ ["source", "value", "held"] (sp__worth K) := ok__worth F__worth m_NEW m_NOTHING
  have h_holds := ok_holds (P := l.prog) (w := w) (base := base) (T := [P_holds]) (PT := P_holds) (by simp) T_holds b_holds m_holds tb_holds m_all m_any h__worth k__worth b__worth m__worth 4
  have h_case_at := ok_case_at (T := [P_holds]) (n := 3) F_case_at m_enumerate h_holds k_holds b_holds m_holds
  have h_read := ok_read (T := [P_holds]) (n := 3) F_read m_tuple h_case_at k_case_at b_case_at m_case_at (h__worth.mono (by decide)) k__worth b__worth m__worth
  have h_beginning : FnOk l.prog w K mg base CX0 1 f_beginning _ _ _ := ok_beginning (T := [P_holds]) F_beginning
  have h_answers_from := ok_answers_from (T := [P_holds]) (n := 3) F_answers_from m_tuple h_read k_read b_read m_read
  have h_answers := ok_answers (T := [P_holds]) (n := 3) F_answers h_answers_from k_answers_from b_answers_from m_answers_from (h_beginning.mono (by decide)) k_beginning b_beginning m_beginning
  have h__law_draws : FnOk l.prog w K mg base CX0 1 f__law_draws _ _ _ := ok__law_draws (T := [P_holds]) F__law_draws m_len m_int m_list m_range
  have h__law_take : FnOk l.prog w K mg base CX0 1 f__law_take _ _ _ := ok__law_take (T := [P_holds]) F__law_take m_len m_int
  have h__law_cell := ok__law_cell (T := [P_holds]) F__law_cell m_len m_int h__law_take k__law_take b__law_take m__law_take
  have h__law_base := ok__law_base (T := [P_holds]) F__law_base h__law_take k__law_take b__law_take m__law_take
  have h__law_value := ok__law_value (T := [P_holds]) F__law_value h__law_take k__law_take b__law_take m__law_take
  have h__reader := ok__reader (P := l.prog) (w := w) (K := K) (mg := mg) (base := base) (k := 0) (T := [P_holds]) F__reader
  have h__put_at := ok__put_at (P := l.prog) (w := w) (K := K) (mg := mg) (base := base) (k := 0) (T := [P_holds]) F__put_at m_list m_range m_len m_tuple m_enumerate m_NEW
  have h_records := ok_records (P := l.prog) (w := w) (K := K) (mg := mg) (base := base) (k := 1) (T := [P_holds]) F_records m_FIRST_ENTRY q_FIRST_ENTRY m_NEW (h__reader.mono (by decide)) k__reader b__reader m__reader
  have h_top_list := ok_top_list (P := l.prog) (w := w) (K := K) (mg := mg) (base := base) (k := 1) (T := [P_holds]) F_top_list m_range m_tuple m_TRUE_built q_TRUE_built (h__put_at.mono (by decide)) k__put_at b__put_at m__put_at (h__reader.mono (by decide)) k__reader b__reader m__reader
  have h_band := ok_band (P := l.prog) (w := w) (K := K) (mg := mg) (base := base) (k := 1) (T := [P_holds]) F_band m_FIRST_ENTRY q_FIRST_ENTRY m_NEW (h__reader.mono (by decide)) k__reader b__reader m__reader
  have h_turning_points := ok_turning_points (P := l.prog) (w := w) (K := K) (mg := mg) (base := base) (k := 1) (T := [P_holds]) F_turning_points m_NEW m_TRUE_built q_TRUE_built (h__reader.mono (by decide)) k__reader b__reader m__reader
  have h_runs := ok_runs (P := l.prog) (w := w) (K := K) (mg := mg) (base := base) (k := 1) (T := [P_holds]) F_runs m_FIRST_ENTRY q_FIRST_ENTRY m_NEW m_TRUE_built q_TRUE_built (h__reader.mono (by decide)) k__reader b__reader m__reader
  have h__place := ok__place (P := l.prog) (w := w) (K := K) (mg := mg) (base := base) (k := 0) (T := [P_holds]) F__place m_len m_NEW
  have h__in_order := ok__in_order (P := l.prog) (w := w) (K := K) (mg := mg) (base := base) (k := 1) (T := [P_holds]) F__in_order m_sorted m_enumerate m_zip m_tuple (h__place.mono (by decide)) k__place b__place m__place
  have h_spotter := ok_spotter (P := l.prog) (w := w) (K := K) (mg := mg) (base := base) (k := 2) (T := [P_holds]) F_spotter m_len m_tuple m_list m_range m_NEW m_TRUE_spotting q_TRUE_spotting (h__in_order.mono (by decide)) k__in_order b__in_order m__in_order
  have h__law_values := ok__law_values (P := l.prog) (w := w) (K := K) (mg := mg) (base := base) (k := 2) (T := [P_holds]) F__law_values m_range m_len (h__law_base.mono (by decide)) k__law_base b__law_base m__law_base (h__law_take.mono (by decide)) k__law_take b__law_take m__law_take (h__law_value.mono (by decide)) k__law_value b__law_value m__law_value
  have h__law_as_log := ok__law_as_log (P := l.prog) (w := w) (K := K) (mg := mg) (base := base) (k := 0) (T := [P_holds]) F__law_as_log m_tuple
  have h__law_greatest := ok__law_greatest (P := l.prog) (w := w) (K := K) (mg := mg) (base := base) (k := 0) (T := [P_holds]) F__law_greatest m_range m_len
  have h__law_lists := ok__law_lists (P := l.prog) (w := w) (K := K) (mg := mg) (base := base) (k := 14) (T := [P_holds]) F__law_lists m_range m_len m_min m_sorted (h_answers.mono (by decide)) k_answers b_answers m_answers (h_top_list.mono (by decide)) k_top_list b_top_list m_top_list
  have h__law_turns := ok__law_turns (P := l.prog) (w := w) (K := K) (mg := mg) (base := base) (k := 0) (T := [P_holds]) F__law_turns m_range m_len
  have h__law_spotted := ok__law_spotted (P := l.prog) (w := w) (K := K) (mg := mg) (base := base) (k := 14) (T := [P_holds]) F__law_spotted m_range m_len (h_answers.mono (by decide)) k_answers b_answers m_answers (h_turning_points.mono (by decide)) k_turning_points b_turning_points m_turning_points (h_spotter.mono (by decide)) k_spotter b_spotter m_spotter
  exact ok_law (k := 59) F_law m_range m_len (h__law_draws.mono (by decide)) k__law_draws b__law_draws m__law_draws (h__law_cell.mono (by decide)) k__law_cell b__law_cell m__law_cell (h__law_values.mono (by decide)) k__law_values b__law_values m__law_values (h__law_as_log.mono (by decide)) k__law_as_log b__law_as_log m__law_as_log (h__law_greatest.mono (by decide)) k__law_greatest b__law_greatest m__law_greatest (h_answers.mono (by decide)) k_answers b_answers m_answers (h_top_list.mono (by decide)) k_top_list b_top_list m_top_list (h_band.mono (by decide)) k_band b_band m_band (h_records.mono (by decide)) k_records b_records m_records (h__law_lists.mono (by decide)) k__law_lists b__law_lists m__law_lists (h__law_spotted.mono (by decide)) k__law_spotted b__law_spotted m__law_spotted (h__law_turns.mono (by decide)) k__law_turns b__law_turns m__law_turns (h_turning_points.mono (by decide)) k_turning_points b_turning_points m_turning_points (h_runs.mono (by decide)) k_runs b_runs m_runs
end Law
open PySem PySem.W PyProof.Rows
set_option maxRecDepth 100000 in
set_option maxHeartbeats 0 in
theorem PySem.Challenge.cw_anyvalues_k25_whole_built_machines_toget_holds : PySem.Challenge.rw_anyvalues_k25_whole_built_machines_toget.Holds := by
  w_on; o_law; k_head; (case hw => w_witness2)
  k_fill
  refine Law.walk_tabs (l := PySem.Challenge.rw_anyvalues_k25_whole_built_machines_toget) (n := 63) (k := 60) (x := "script") (CX := fun _ => L2.CX0) ["holds"] rfl (by decide) rfl ⟨rfl, by decide, by decide⟩ (by decide +kernel) (fun w h Y => PySem.W.kIn_of Y) ?F (fun _ _ _ _ _ z => z)
  case F =>
    intro w mg fa h _ KX G hmg TT
    refine' Law.all_mk KX G hmg TT ?a__worth ?l__worth ?c__worth_ ?k__worth ?a_holds ?l_holds ?c_holds_ ?k_holds ?u_holds ?v_holds ?w_holds ?a_case_at ?l_case_at ?c_case_at_ ?k_case_at ?a_read ?l_read ?c_read_ ?k_read ?a_beginning ?l_beginning ?c_beginning_ ?k_beginning ?a_answers_from ?l_answers_from ?c_answers_from_ ?k_answers_from ?a_answers ?l_answers ?c_answers_ ?k_answers ?a__law_draws ?l__law_draws ?c__law_draws_ ?k__law_draws ?a__law_take ?l__law_take ?c__law_take_ ?k__law_take ?a__law_cell ?l__law_cell ?c__law_cell_ ?k__law_cell ?a__law_base ?l__law_base ?c__law_base_ ?k__law_base ?a__law_value ?l__law_value ?c__law_value_ ?k__law_value ?a__reader ?l__reader ?c__reader_ ?k__reader ?a__put_at ?l__put_at ?c__put_at_ ?k__put_at ?a_records ?l_records ?c_records_ ?k_records ?a_top_list ?l_top_list ?c_top_list_ ?k_top_list ?a_band ?l_band ?c_band_ ?k_band ?a_turning_points ?l_turning_points ?c_turning_points_ ?k_turning_points ?a_runs ?l_runs ?c_runs_ ?k_runs ?a__place ?l__place ?c__place_ ?k__place ?a__in_order ?l__in_order ?c__in_order_ ?k__in_order ?a_spotter ?l_spotter ?c_spotter_ ?k_spotter ?a__law_values ?l__law_values ?c__law_values_ ?k__law_values ?a__law_as_log ?l__law_as_log ?c__law_as_log_ ?k__law_as_log ?a__law_greatest ?l__law_greatest ?c__law_greatest_ ?k__law_greatest ?a__law_lists ?l__law_lists ?c__law_lists_ ?k__law_lists ?a__law_turns ?l__law_turns ?c__law_turns_ ?k__law_turns ?a__law_spotted ?l__law_spotted ?c__law_spotted_ ?k__law_spotted ?a_law ?l_law ?c_law_ ?k_law ?z_NEW ?z_NOTHING ?z_TRUE_built ?y_TRUE_built ?z_FIRST_ENTRY ?y_FIRST_ENTRY ?z_TRUE_spotting ?y_TRUE_spotting ?z_all ?z_any ?z_len ?z_int ?z_list ?z_range ?z_tuple ?z_enumerate ?z_min ?z_sorted ?z_zip
    (case a__worth => k_is)
    (case l__worth => k_is)
    (case c__worth_ => k_is)
    (case k__worth => k_is)
    (case a_holds => k_is)
    (case l_holds => k_is)
    (case c_holds_ => k_is)
    (case k_holds => k_is)
    (case u_holds => k_is)
    (case v_holds => rfl)
    (case w_holds => rfl)
    (case a_case_at => k_is)
    (case l_case_at => k_is)
    (case c_case_at_ => k_is)
    (case k_case_at => k_is)
    (case a_read => k_is)
    (case l_read => k_is)
    (case c_read_ => k_is)
    (case k_read => k_is)
    (case a_beginning => k_is)
    (case l_beginning => k_is)
    (case c_beginning_ => k_is)
    (case k_beginning => k_is)
    (case a_answers_from => k_is)
    (case l_answers_from => k_is)
    (case c_answers_from_ => k_is)
    (case k_answers_from => k_is)
    (case a_answers => k_is)
    (case l_answers => k_is)
    (case c_answers_ => k_is)
    (case k_answers => k_is)
    (case a__law_draws => k_is)
    (case l__law_draws => k_is)
    (case c__law_draws_ => k_is)
    (case k__law_draws => k_is)
    (case a__law_take => k_is)
    (case l__law_take => k_is)
    (case c__law_take_ => k_is)
    (case k__law_take => k_is)
    (case a__law_cell => k_is)
    (case l__law_cell => k_is)
    (case c__law_cell_ => k_is)
    (case k__law_cell => k_is)
    (case a__law_base => k_is)
    (case l__law_base => k_is)
    (case c__law_base_ => k_is)
    (case k__law_base => k_is)
    (case a__law_value => k_is)
    (case l__law_value => k_is)
    (case c__law_value_ => k_is)
    (case k__law_value => k_is)
    (case a__reader => k_is)
    (case l__reader => k_is)
    (case c__reader_ => k_is)
    (case k__reader => k_is)
    (case a__put_at => k_is)
    (case l__put_at => k_is)
    (case c__put_at_ => k_is)
    (case k__put_at => k_is)
    (case a_records => k_is)
    (case l_records => k_is)
    (case c_records_ => k_is)
    (case k_records => k_is)
    (case a_top_list => k_is)
    (case l_top_list => k_is)
    (case c_top_list_ => k_is)
    (case k_top_list => k_is)
    (case a_band => k_is)
    (case l_band => k_is)
    (case c_band_ => k_is)
    (case k_band => k_is)
    (case a_turning_points => k_is)
    (case l_turning_points => k_is)
    (case c_turning_points_ => k_is)
    (case k_turning_points => k_is)
    (case a_runs => k_is)
    (case l_runs => k_is)
    (case c_runs_ => k_is)
    (case k_runs => k_is)
    (case a__place => k_is)
    (case l__place => k_is)
    (case c__place_ => k_is)
    (case k__place => k_is)
    (case a__in_order => k_is)
    (case l__in_order => k_is)
    (case c__in_order_ => k_is)
    (case k__in_order => k_is)
    (case a_spotter => k_is)
    (case l_spotter => k_is)
    (case c_spotter_ => k_is)
    (case k_spotter => k_is)
    (case a__law_values => k_is)
    (case l__law_values => k_is)
    (case c__law_values_ => k_is)
    (case k__law_values => k_is)
    (case a__law_as_log => k_is)
    (case l__law_as_log => k_is)
    (case c__law_as_log_ => k_is)
    (case k__law_as_log => k_is)
    (case a__law_greatest => k_is)
    (case l__law_greatest => k_is)
    (case c__law_greatest_ => k_is)
    (case k__law_greatest => k_is)
    (case a__law_lists => k_is)
    (case l__law_lists => k_is)
    (case c__law_lists_ => k_is)
    (case k__law_lists => k_is)
    (case a__law_turns => k_is)
    (case l__law_turns => k_is)
    (case c__law_turns_ => k_is)
    (case k__law_turns => k_is)
    (case a__law_spotted => k_is)
    (case l__law_spotted => k_is)
    (case c__law_spotted_ => k_is)
    (case k__law_spotted => k_is)
    (case a_law => k_is)
    (case l_law => k_is)
    (case c_law_ => k_is)
    (case k_law => k_is)
    (case z_NEW => k_is)
    (case z_NOTHING => k_is)
    (case z_TRUE_built => k_is)
    (case y_TRUE_built => k_is)
    (case z_FIRST_ENTRY => k_is)
    (case y_FIRST_ENTRY => k_is)
    (case z_TRUE_spotting => k_is)
    (case y_TRUE_spotting => k_is)
    (case z_all => k_is)
    (case z_any => k_is)
    (case z_len => k_is)
    (case z_int => k_is)
    (case z_list => k_is)
    (case z_range => k_is)
    (case z_tuple => k_is)
    (case z_enumerate => k_is)
    (case z_min => k_is)
    (case z_sorted => k_is)
    (case z_zip => k_is)
#print axioms PySem.Challenge.cw_anyvalues_k25_whole_built_machines_toget_holds
