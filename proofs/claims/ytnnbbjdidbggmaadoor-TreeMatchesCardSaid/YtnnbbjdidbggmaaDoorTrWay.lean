/-
  Plain facts on the way by which a pattern is told: places, the last `*` and the last `%`; what holds of them round by round. No program in this text. Conditions: none.
-/
import Derived.Test.YtnnbbjdidbggmaaDoorTrPlain
namespace Go.Proofs.YtnnbbjdidbggmaaDoor.Tr

def Starts (st : Bool) (a0 e : Nat) : Prop := if st = true then a0 ≤ e else e = 0
/-- What holds at each round: the last star (there, where the pattern goes on, where it ends), the last percent sign behind it, the places. -/
structure Inv (P S : List UInt8) (a0 sb se pb pe p a : Nat) (st pt : Bool) : Prop where
  hp : p ≤ P.length
  ha : a ≤ S.length
  hb : sb ≤ (if pt = true then pb else sb)
  he : se ≤ (if pt = true then pe else se)
  lits : ∃ A : List UInt8, (∀ c ∈ A, lit c) ∧ P.drop (if pt = true then pb else sb) = A ++ P.drop p ∧ S.drop (if pt = true then pe else se) = A ++ S.drop a ∧ (if pt = true then pb else sb) + A.length = p ∧ (if pt = true then pe else se) + A.length = a
  zero : st = false → sb = 0 ∧ se = 0
  start : st = true → a0 ≤ se
  goal : mat P S = true ↔ ∃ e, e ≤ S.length ∧ Starts st a0 e ∧ mat (P.drop sb) (S.drop e) = true
  tried : ∀ e, Starts st a0 e → e < se → ¬ mat (trunc (P.drop sb)) (S.drop e) = true
  least : ∀ x u v : List UInt8, S = x ++ (u ++ v) → se ≤ x.length → mat ((P.drop sb).take ((if pt = true then pb else sb) - sb)) u = true → ahead (P.drop (if pt = true then pb else sb)) v = true → (if pt = true then pe else se) ≤ x.length + u.length
  last : pt = true → mat (trunc (P.drop sb)) (S.drop se) = true → mat (37 :: trunc (P.drop pb)) (S.drop pe) = true
  back : pt = true → mat (37 :: P.drop pb) (S.drop pe) = true → mat (P.drop sb) (S.drop se) = true
  first : pt = true → ∃ A R V : List UInt8, (∀ c ∈ A, lit c) ∧ P.drop sb = A ++ 37 :: R ∧ S.drop se = A ++ V

variable {P S : List UInt8} {a0 sb se pb pe p a : Nat} {st pt : Bool}

theorem inv_start (P S : List UInt8) : Inv P S 0 0 0 0 0 0 0 false false where
  hp := Nat.zero_le _
  ha := Nat.zero_le _
  hb := Nat.le_refl _
  he := Nat.le_refl _
  lits := ⟨[], fun c hc => (by cases hc), rfl, rfl, rfl, rfl⟩
  zero := fun _ => ⟨rfl, rfl⟩
  start := fun h => by cases h
  goal := by
    constructor
    · intro h; exact ⟨0, Nat.zero_le _, rfl, h⟩
    · rintro ⟨e, -, he, h⟩
      obtain rfl : e = 0 := he
      exact h
  tried := fun e _ h => absurd h (Nat.not_lt_zero _)
  least := fun x u v _ _ _ _ => Nat.zero_le _
  last := fun h => by cases h
  back := fun h => by cases h
  first := fun h => by cases h
/-- What stands from here on has the whole stand. -/
theorem Inv.sound (h : Inv P S a0 sb se pb pe p a st pt) (hm : mat (P.drop p) (S.drop a) = true) : mat P S = true := by
  obtain ⟨A, hA, hP, hS, h1, h2⟩ := h.lits
  have ha := h.ha
  have hcur : mat (P.drop (if pt = true then pb else sb)) (S.drop (if pt = true then pe else se)) = true := by
    rw [hP, hS]
    exact (mat_text A hA _ _).2 ⟨_, rfl, hm⟩
  have hst : mat (P.drop sb) (S.drop se) = true := by
    cases hpt : pt
    · rw [hpt] at hcur
      exact hcur
    · rw [hpt] at hcur
      exact h.back hpt (pct_none hcur)
  have hse : se ≤ S.length := by have := h.he; omega
  refine h.goal.2 ⟨se, hse, ?_, hst⟩
  unfold Starts
  cases hst : st
  · exact (h.zero hst).2
  · exact h.start hst
/-- Where the whole stands, it does so from a place where the sign's text ends no earlier. -/
theorem Inv.late (h : Inv P S a0 sb se pb pe p a st pt) (hm : mat P S = true) (hw : ∀ v, mat (P.drop p) v = true → ahead (P.drop p) v = true) : ∃ f, f ≤ S.length ∧ a ≤ f ∧ mat (P.drop p) (S.drop f) = true := by
  obtain ⟨A, hA, hP, hS, h1, h2⟩ := h.lits
  obtain ⟨e, hel, hst, hme⟩ := h.goal.1 hm
  have hse : se ≤ e := by
    rcases Nat.lt_or_ge e se with hl | hl
    · exact absurd (mat_trunc _ _ hme) (h.tried e hst hl)
    · exact hl
  have hsp : P.drop sb = (P.drop sb).take ((if pt = true then pb else sb) - sb) ++ (A ++ P.drop p) := by
    rw [← hP]
    have := h.hb
    conv => lhs; rw [← List.take_append_drop ((if pt = true then pb else sb) - sb) (P.drop sb)]
    rw [List.drop_drop, Nat.add_sub_cancel' this]
  rw [hsp] at hme
  obtain ⟨u, v, huv, hu, hv⟩ := (mat_append _ _ _).1 hme
  obtain ⟨v', rfl, hv'⟩ := (mat_text A hA _ _).1 hv
  have hS2 : S = S.take e ++ (u ++ (A ++ v')) := by rw [← huv, List.take_append_drop]
  have hl := h.least (S.take e) u (A ++ v') hS2 (by rw [List.length_take]; omega) hu (by rw [hP, ahead_text A hA]; exact hw _ hv')
  rw [List.length_take, Nat.min_eq_left hel] at hl
  have hlen := congrArg List.length huv
  simp only [List.length_drop, List.length_append] at hlen
  refine ⟨e + u.length + A.length, by omega, by omega, ?_⟩
  have : S.drop (e + u.length + A.length) = v' := by
    rw [← List.drop_drop, ← List.drop_drop, huv, List.drop_left, List.drop_left]
  rw [this]
  exact hv'
theorem Inv.star (h : Inv P S a0 sb se pb pe p a st pt) (hc : P.drop p = 42 :: P.drop (p + 1)) : Inv P S a (p + 1) a 0 0 (p + 1) a true false where
  hp := by
    have := congrArg List.length hc
    simp only [List.length_drop, List.length_cons] at this
    omega
  ha := h.ha
  hb := Nat.le_refl _
  he := Nat.le_refl _
  lits := ⟨[], fun c hc => (by cases hc), rfl, rfl, rfl, rfl⟩
  zero := fun h => by cases h
  start := fun _ => Nat.le_refl _
  goal := by
    constructor
    · intro hm
      obtain ⟨f, hf, haf, hmf⟩ := h.late hm (fun v hv => mat_ahead _ _ hv)
      rw [hc] at hmf
      obtain ⟨u, v, huv, hv⟩ := (mat_star _ _).1 hmf
      have hlen := congrArg List.length huv
      simp only [List.length_drop, List.length_append] at hlen
      refine ⟨f + u.length, by omega, ?_, ?_⟩
      · show a ≤ f + u.length
        omega
      · rw [show S.drop (f + u.length) = v by rw [← List.drop_drop, huv, List.drop_left]]
        exact hv
    · rintro ⟨e, hel, hae, hm⟩
      have hae : a ≤ e := hae
      refine h.sound ?_
      rw [hc]
      refine (mat_star _ _).2 ⟨(S.drop a).take (e - a), S.drop e, ?_, hm⟩
      conv => lhs; rw [← List.take_append_drop (e - a) (S.drop a)]
      rw [List.drop_drop, Nat.add_sub_cancel' hae]
  tried := fun e he hlt => absurd hlt (Nat.not_lt.2 he)
  least := by
    intro x u v _ hx _ _
    show a ≤ x.length + u.length
    omega
  last := fun h => by cases h
  back := fun h => by cases h
  first := fun h => by cases h
theorem Inv.pct (h : Inv P S a0 sb se pb pe p a st pt) (hc : P.drop p = 37 :: P.drop (p + 1)) : Inv P S a0 sb se (p + 1) a (p + 1) a st true := by
  obtain ⟨A, hA, hP, hS, h1, h2⟩ := h.lits
  have hb := h.hb
  have he := h.he
  rw [hc] at hP
  refine ⟨?_, h.ha, ?_, ?_, ⟨[], fun c hc => (by cases hc), rfl, rfl, rfl, rfl⟩, h.zero, h.start, h.goal, h.tried, ?_, ?_, ?_, ?_⟩
  · have := congrArg List.length hc
    simp only [List.length_drop, List.length_cons] at this
    omega
  · show sb ≤ p + 1
    omega
  · show se ≤ a
    omega
  · intro x u v hx hse hm hah
    show a ≤ x.length + u.length
    have hm : mat ((P.drop sb).take (p + 1 - sb)) u = true := hm
    have hsp : (P.drop sb).take (p + 1 - sb) = (P.drop sb).take ((if pt = true then pb else sb) - sb) ++ (A ++ [37]) := by
      have e1 : p + 1 - sb = ((if pt = true then pb else sb) - sb) + (A.length + 1) := by omega
      rw [e1, List.take_add, List.drop_drop, Nat.add_sub_cancel' hb, hP]
      congr 1
      rw [List.take_append, List.take_of_length_le (Nat.le_succ _)]
      simp
    rw [hsp] at hm
    obtain ⟨u1, u2, rfl, hu1, hu2⟩ := (mat_append _ _ _).1 hm
    obtain ⟨u3, rfl, hu3⟩ := (mat_text A hA _ _).1 hu2
    have hl := h.least x u1 (A ++ (u3 ++ v)) (by rw [hx]; simp) hse hu1 (by rw [hP, ahead_text A hA, ahead_cons, if_pos (Or.inr rfl)])
    simp only [List.length_append]
    omega
  · intro _ hm
    cases hpt : pt
    · rw [hpt] at hP hS
      have hP' : P.drop sb = A ++ 37 :: P.drop (p + 1) := hP
      have hS' : S.drop se = A ++ S.drop a := hS
      rw [hP', hS', trunc_text A hA, trunc_lit (by decide)] at hm
      obtain ⟨v, hv, hm⟩ := (mat_text A hA _ _).1 hm
      rw [List.append_cancel_left hv]
      exact hm
    · rw [hpt] at hP hS
      have hP' : P.drop pb = A ++ 37 :: P.drop (p + 1) := hP
      have hS' : S.drop pe = A ++ S.drop a := hS
      have hm := h.last hpt hm
      rw [hP', trunc_text A hA, trunc_lit (by decide)] at hm
      obtain ⟨u, v, huv, hu, hm⟩ := (mat_pct _ _).1 hm
      exact exchange A hA _ u v (S.drop a) hu (by rw [← huv, hS']) hm
  · intro _ hm
    cases hpt : pt
    · rw [hpt] at hP hS
      have hP' : P.drop sb = A ++ 37 :: P.drop (p + 1) := hP
      have hS' : S.drop se = A ++ S.drop a := hS
      rw [hP', hS']
      exact (mat_text A hA _ _).2 ⟨_, rfl, hm⟩
    · rw [hpt] at hP hS
      have hP' : P.drop pb = A ++ 37 :: P.drop (p + 1) := hP
      have hS' : S.drop pe = A ++ S.drop a := hS
      refine h.back hpt (pct_none ?_)
      rw [hP', hS']
      exact (mat_text A hA _ _).2 ⟨_, rfl, hm⟩
  · intro _
    cases hpt : pt
    · rw [hpt] at hP hS
      exact ⟨A, _, _, hA, hP, hS⟩
    · exact h.first hpt
theorem Inv.same (h : Inv P S a0 sb se pb pe p a st pt) {c : UInt8} (hl : lit c) (hc : P.drop p = c :: P.drop (p + 1)) (hs : S.drop a = c :: S.drop (a + 1)) : Inv P S a0 sb se pb pe (p + 1) (a + 1) st pt := by
  obtain ⟨A, hA, hP, hS, h1, h2⟩ := h.lits
  refine ⟨?_, ?_, h.hb, h.he, ⟨A ++ [c], fun x hx => ?_, ?_, ?_, ?_, ?_⟩, h.zero, h.start, h.goal, h.tried, h.least, h.last, h.back, h.first⟩
  · have := congrArg List.length hc
    simp only [List.length_drop, List.length_cons] at this
    omega
  · have := congrArg List.length hs
    simp only [List.length_drop, List.length_cons] at this
    omega
  · rcases List.mem_append.1 hx with hx | hx
    · exact hA x hx
    · rw [List.mem_singleton] at hx
      subst hx
      exact hl
  · rw [hP, hc]; simp
  · rw [hS, hs]; simp
  · simp only [List.length_append, List.length_singleton]; omega
  · simp only [List.length_append, List.length_singleton]; omega
/-- The pattern fails here: what stands next is another byte, or nothing. -/
def Off (P S : List UInt8) (p a : Nat) : Prop := ahead (P.drop p) (S.drop a) = false
theorem Inv.part (h : Inv P S a0 sb se pb pe p a st true) (ho : Off P S p a) {c : UInt8} {r : List UInt8} (hs : S.drop pe = c :: r) (hn : c ≠ 47) : Inv P S a0 sb se pb (pe + 1) pb (pe + 1) st true := by
  obtain ⟨A, hA, hP, hS, h1, h2⟩ := h.lits
  have hP : P.drop pb = A ++ P.drop p := hP
  have hS : S.drop pe = A ++ S.drop a := hS
  have hb : sb ≤ pb := h.hb
  have he : se ≤ pe := h.he
  have h1 : pb + A.length = p := h1
  have h2 : pe + A.length = a := h2
  have hr : S.drop (pe + 1) = r := by rw [← List.drop_drop, hs]; rfl
  have hno : ¬ ahead (P.drop pb) (S.drop pe) = true := by
    rw [hP, hS, ahead_text A hA, ho]
    decide
  have hpe : pe + 1 ≤ S.length := by
    have := congrArg List.length hs
    simp only [List.length_drop, List.length_cons] at this
    omega
  refine ⟨?_, hpe, hb, Nat.le_succ_of_le he, ⟨[], fun c hc => (by cases hc), rfl, rfl, rfl, rfl⟩, h.zero, h.start, h.goal, h.tried, ?_, ?_, ?_, h.first⟩
  · have := h.hp
    omega
  · intro x u v hx hse hm hah
    show pe + 1 ≤ x.length + u.length
    have hl : pe ≤ x.length + u.length := h.least x u v hx hse hm hah
    rcases Nat.lt_or_ge pe (x.length + u.length) with hlt | hge
    · exact hlt
    · exfalso
      have e : pe = x.length + u.length := by omega
      apply hno
      have : S.drop pe = v := by rw [e, ← List.drop_drop, hx, List.drop_left, List.drop_left]
      rw [this]
      exact hah
  · intro _ hm
    have hm := h.last rfl hm
    rw [hs] at hm
    rcases (pct_cons _ _ _).1 hm with hm | ⟨-, hm⟩
    · exfalso
      apply hno
      rw [hs, ← trunc_ahead]
      exact mat_ahead _ _ hm
    · rw [hr]
      exact hm
  · intro _ hm
    refine h.back rfl ?_
    rw [hs]
    rw [hr] at hm
    exact (pct_cons _ _ _).2 (Or.inr ⟨hn, hm⟩)
/-- From the star's end nothing stands. -/
theorem Inv.fail (h : Inv P S a0 sb se pb pe p a st pt) (ho : Off P S p a) (hs : pt = true → ∃ r, S.drop pe = 47 :: r) : ¬ mat (trunc (P.drop sb)) (S.drop se) = true := by
  obtain ⟨A, hA, hP, hS, h1, h2⟩ := h.lits
  intro hm
  cases hpt : pt
  · rw [hpt] at hP hS
    have hP : P.drop sb = A ++ P.drop p := hP
    have hS : S.drop se = A ++ S.drop a := hS
    have := mat_ahead _ _ hm
    rw [trunc_ahead, hP, hS, ahead_text A hA, ho] at this
    cases this
  · rw [hpt] at hP hS
    have hP : P.drop pb = A ++ P.drop p := hP
    have hS : S.drop pe = A ++ S.drop a := hS
    obtain ⟨r, hr⟩ := hs hpt
    have hm := h.last hpt hm
    rw [hr] at hm
    rcases (pct_cons _ _ _).1 hm with hm | ⟨hm, -⟩
    · have := mat_ahead _ _ hm
      rw [trunc_ahead, ← hr, hP, hS, ahead_text A hA, ho] at this
      cases this
    · exact hm rfl
theorem Inv.none (h : Inv P S a0 sb se pb pe p a false pt) (ho : Off P S p a) (hs : pt = true → ∃ r, S.drop pe = 47 :: r) : mat P S = false := by
  rw [← Bool.not_eq_true]
  intro hm
  obtain ⟨e, -, he, hm⟩ := h.goal.1 hm
  obtain rfl : e = 0 := he
  have h0 := (h.zero rfl).2
  refine h.fail ho hs ?_
  rw [h0]
  exact mat_trunc _ _ hm
/-- The star's text ends further on: nothing ahead of there would stand. -/
theorem Inv.move (h : Inv P S a0 sb se pb pe p a true pt) (n : Nat) (hn : n ≤ S.length) (hse : se ≤ n) (hno : ∀ e, se ≤ e → e < n → ¬ mat (trunc (P.drop sb)) (S.drop e) = true) : Inv P S a0 sb n 0 0 sb n true false where
  hp := by
    obtain ⟨A, hA, hP, hS, h1, h2⟩ := h.lits
    have := h.hb
    have := h.hp
    omega
  ha := hn
  hb := Nat.le_refl _
  he := Nat.le_refl _
  lits := ⟨[], fun c hc => (by cases hc), rfl, rfl, rfl, rfl⟩
  zero := fun h => by cases h
  start := fun _ => Nat.le_trans (h.start rfl) hse
  goal := h.goal
  tried := fun e he hlt => by
    rcases Nat.lt_or_ge e se with hl | hl
    · exact h.tried e he hl
    · exact hno e hl hlt
  least := by
    intro x u v _ hx _ _
    show n ≤ x.length + u.length
    omega
  last := fun h => by cases h
  back := fun h => by cases h
  first := fun h => by cases h
theorem Inv.next (h : Inv P S a0 sb se pb pe p a true false) (ho : Off P S p a) (hl : se < S.length) : Inv P S a0 sb (se + 1) 0 0 sb (se + 1) true false := by
  refine h.move (se + 1) hl (Nat.le_succ _) (fun e h1 h2 => ?_)
  obtain rfl : e = se := by omega
  exact h.fail ho (fun h => by cases h)
theorem Inv.slash (h : Inv P S a0 sb se pb pe p a true true) (ho : Off P S p a) (hs : ∃ r, S.drop pe = 47 :: r) (x r : List UInt8) (hx : S.drop se = x ++ 47 :: r) (hn : ∀ c ∈ x, c ≠ 47) : Inv P S a0 sb (se + x.length + 1) 0 0 sb (se + x.length + 1) true false := by
  have hlen := congrArg List.length hx
  simp only [List.length_drop, List.length_append, List.length_cons] at hlen
  have hf := h.fail ho (fun _ => hs)
  obtain ⟨A, R, V, hA, hP, hS⟩ := h.first rfl
  refine h.move _ (by omega) (by omega) (fun e h1 h2 hm => hf ?_)
  obtain ⟨k, rfl⟩ : ∃ k, e = se + k := ⟨e - se, by omega⟩
  have hk : k ≤ x.length := by omega
  rw [hP, hS, trunc_text A hA, trunc_lit (by decide)]
  rw [hP, trunc_text A hA, trunc_lit (by decide)] at hm
  refine (mat_text A hA _ _).2 ⟨_, rfl, exchange A hA _ (x.take k) (S.drop (se + k)) V (fun c hc => hn c (List.mem_of_mem_take hc)) ?_ hm⟩
  rw [← hS, ← List.drop_drop, hx, List.drop_append_of_le_length hk, ← List.append_assoc, List.take_append_drop]
theorem Inv.done (h : Inv P S a0 sb se pb pe p a st pt) (hl : a = S.length) : mat P S = true ↔ ∀ c ∈ P.drop p, c = 42 ∨ c = 37 := by
  rw [← all_signs]
  constructor
  · intro hm
    obtain ⟨f, hf, haf, hmf⟩ := h.late hm (fun v hv => mat_ahead _ _ hv)
    rw [show S.drop f = [] from List.drop_eq_nil_of_le (by omega)] at hmf
    exact hmf
  · intro hm
    refine h.sound ?_
    rw [List.drop_eq_nil_of_le (by omega : S.length ≤ a)]
    exact hm
end Go.Proofs.YtnnbbjdidbggmaaDoor.Tr
