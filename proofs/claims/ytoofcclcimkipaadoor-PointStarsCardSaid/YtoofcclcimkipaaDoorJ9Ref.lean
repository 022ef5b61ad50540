/-
  Stage 9: the statements' own parts of a path, Number, Find, follow and Great, with their plain facts. Conditions: as each text within says.
-/
import Derived.Test.YtoofcclcimkipaaDoorJ8Find
import Derived.Test.YtoofcclcimkipaaDoorJ8Rows
import Derived.Test.YtoofcclcimkipaaDoorOwn
import Derived.Test.YtoofcclcimkipaaDoorJ8RFn
import Derived.Test.YtoofcclcimkipaaDoorJ7Cells
import Derived.Test.YtoofcclcimkipaaDoorKit
import Derived.Test.YtoofcclcimkipaaDoorTxPlain
import Derived.Test.YtoofcclcimkipaaDoorJ8Right
import Derived.Lib.Replace
import Derived.Lib.CountLaws
import Derived.Lib.IndexLaws
import Derived.WalkSmall
import Derived.Deep.RegionHeld3
import Derived.Laws.OwnMore
namespace Go.Proofs.YtoofcclcimkipaaDoor.J9
open Go

/-- The parts of a path, from its bytes: those told, the one begun. -/
def partsF (first : Bool) (l : List ByteArray) (p : List UInt8) : List UInt8 → Option (List ByteArray)
  | [] => some (l ++ [⟨p.toArray⟩])
  | c :: r => if c = 47 then partsF false (if first then l else l ++ [⟨p.toArray⟩]) [] r
    else if c = 126 then match r with
      | [] => none
      | d :: r' => if d = 48 then partsF false l (p ++ [126]) r' else if d = 49 then partsF false l (p ++ [47]) r' else none
    else partsF false l (p ++ [c]) r
/-- The parts of a path; none: it is none. -/
def partsP (path : ByteArray) : Option (List ByteArray) :=
  if 1000 < path.size then none else match path.data.toList with
    | [] => some []
    | c :: r => if c = 47 then partsF true [] [] (c :: r) else none

/-- Is each sign of an escape followed by one of its two digits? -/
def okT : List UInt8 → Bool
  | [] => true
  | c :: r => if c = 126 then match r with
      | [] => false
      | d :: r' => (decide (d = 48) || decide (d = 49)) && okT r'
    else okT r
/-- Escapes as what they say. -/
def unesc : List UInt8 → List UInt8
  | [] => []
  | c :: r => if c = 126 then match r with
      | [] => [126]
      | d :: r' => (if d = 49 then 47 else 126) :: unesc r'
    else c :: unesc r
theorem okT_other {c : UInt8} (h : c ≠ 126) (r : List UInt8) : okT (c :: r) = okT r := by
  conv => lhs; rw [okT.eq_def]
  simp only
  rw [if_neg h]
theorem okT_sign (d : UInt8) (r : List UInt8) : okT (126 :: d :: r) = ((decide (d = 48) || decide (d = 49)) && okT r) := by
  conv => lhs; rw [okT.eq_def]
  simp only
  rw [if_pos trivial]
theorem okT_end : okT [126] = false := by
  rw [okT.eq_def]
  simp only
  rw [if_pos trivial]
theorem unesc_other {c : UInt8} (h : c ≠ 126) (r : List UInt8) : unesc (c :: r) = c :: unesc r := by
  conv => lhs; rw [unesc.eq_def]
  simp only
  rw [if_neg h]
theorem unesc_sign (d : UInt8) (r : List UInt8) : unesc (126 :: d :: r) = (if d = 49 then 47 else 126) :: unesc r := by
  conv => lhs; rw [unesc.eq_def]
  simp only
  rw [if_pos trivial]
theorem ok_ind {M : List UInt8 → Prop} (h0 : M []) (h1 : ∀ c r, c ≠ 126 → okT r = true → M r → M (c :: r)) (h2 : ∀ r, okT r = true → M r → M (126 :: 48 :: r)) (h3 : ∀ r, okT r = true → M r → M (126 :: 49 :: r)) : ∀ l, okT l = true → M l
  | [], _ => h0
  | [c], h => by
    by_cases hc : c = 126
    · subst hc
      rw [okT_end] at h
      cases h
    · exact h1 c [] hc rfl h0
  | c :: d :: r, h => by
    by_cases hc : c = 126
    · subst hc
      rw [okT_sign, Bool.and_eq_true, Bool.or_eq_true, decide_eq_true_eq, decide_eq_true_eq] at h
      have ih := ok_ind h0 h1 h2 h3 r h.2
      rcases h.1 with rfl | rfl
      · exact h2 r h.2 ih
      · exact h3 r h.2 ih
    · rw [okT_other hc] at h
      exact h1 c (d :: r) hc h (ok_ind h0 h1 h2 h3 (d :: r) h)

/-! ### The document's parts -/
theorem pF_slash (b : Bool) (l : List ByteArray) (p r : List UInt8) : partsF b l p (47 :: r) = partsF false (if b then l else l ++ [⟨p.toArray⟩]) [] r := by
  conv => lhs; rw [partsF.eq_def]
  simp only
  rw [if_pos trivial]
theorem pF_end (b : Bool) (l : List ByteArray) (p : List UInt8) : partsF b l p [126] = none := by
  conv => lhs; rw [partsF.eq_def]
  simp only
  rw [if_neg (by decide), if_pos trivial]
theorem pF_tilde (b : Bool) (l : List ByteArray) (p r : List UInt8) (d : UInt8) : partsF b l p (126 :: d :: r) = if d = 48 then partsF false l (p ++ [126]) r else if d = 49 then partsF false l (p ++ [47]) r else none := by
  conv => lhs; rw [partsF.eq_def]
  simp only
  rw [if_neg (by decide), if_pos trivial]
theorem pF_other (b : Bool) (l : List ByteArray) (p r : List UInt8) {c : UInt8} (h1 : c ≠ 47) (h2 : c ≠ 126) : partsF b l p (c :: r) = partsF false l (p ++ [c]) r := by
  conv => lhs; rw [partsF.eq_def]
  simp only
  rw [if_neg h1, if_neg h2]
/-- A path with a sign that no digit follows is none. -/
theorem parts_bad : ∀ (x : List UInt8) (b : Bool) (l : List ByteArray) (p : List UInt8), okT x = false → partsF b l p x = none
  | [], _, _, _, h => by cases h
  | [c], b, l, p, h => by
    by_cases hc : c = 126
    · subst hc
      exact pF_end b l p
    · rw [okT_other hc] at h
      cases h
  | c :: d :: r, b, l, p, h => by
    by_cases hc : c = 126
    · subst hc
      rw [okT_sign, Bool.and_eq_false_iff] at h
      rw [pF_tilde]
      by_cases h8 : d = 48
      · rw [if_pos h8]
        exact parts_bad r _ _ _ (by rcases h with h | h; · simp [h8] at h
                                    exact h)
      · rw [if_neg h8]
        by_cases h9 : d = 49
        · rw [if_pos h9]
          exact parts_bad r _ _ _ (by rcases h with h | h; · simp [h9] at h
                                      exact h)
        · rw [if_neg h9]
    · rw [okT_other hc] at h
      by_cases h7 : c = 47
      · subst h7
        rw [pF_slash]
        exact parts_bad (d :: r) _ _ _ h
      · rw [pF_other b l p _ h7 hc]
        exact parts_bad (d :: r) _ _ _ h
/-- A part's bytes: those ahead of the next slash. -/
def segT (r : List UInt8) : List UInt8 := r.takeWhile (fun c => !decide (c = 47))
def rstT (r : List UInt8) : List UInt8 := r.dropWhile (fun c => !decide (c = 47))
theorem seg_slash (r : List UInt8) : segT (47 :: r) = [] ∧ rstT (47 :: r) = 47 :: r := ⟨rfl, rfl⟩
theorem seg_other {c : UInt8} (h : c ≠ 47) (r : List UInt8) : segT (c :: r) = c :: segT r ∧ rstT (c :: r) = rstT r := by
  unfold segT rstT
  rw [List.takeWhile_cons_of_pos (by simpa using h), List.dropWhile_cons_of_pos (by simpa using h)]
  exact ⟨rfl, rfl⟩
theorem seg_rst (r : List UInt8) : segT r ++ rstT r = r := List.takeWhile_append_dropWhile
theorem rst_head (r : List UInt8) : rstT r = [] ∨ ∃ t, rstT r = 47 :: t := by
  induction r with
  | nil => exact Or.inl rfl
  | cons c r ih =>
    by_cases h : c = 47
    · subst h
      exact Or.inr ⟨r, rfl⟩
    · rw [(seg_other h r).2]
      exact ih
theorem seg_ok : ∀ l, okT l = true → okT (segT l) = true ∧ okT (rstT l) = true := by
  refine ok_ind ⟨rfl, rfl⟩ ?_ ?_ ?_
  · intro c r hc hr ih
    by_cases h : c = 47
    · subst h
      exact ⟨rfl, by rw [(seg_slash r).2, okT_other (by decide)]; exact hr⟩
    · rw [(seg_other h r).1, (seg_other h r).2, okT_other hc]
      exact ih
  · intro r _ ih
    rw [(seg_other (by decide) _).1, (seg_other (by decide) _).2, (seg_other (by decide) _).1, (seg_other (by decide) _).2, okT_sign]
    exact ⟨by rw [ih.1]; rfl, ih.2⟩
  · intro r _ ih
    rw [(seg_other (by decide) _).1, (seg_other (by decide) _).2, (seg_other (by decide) _).1, (seg_other (by decide) _).2, okT_sign]
    exact ⟨by rw [ih.1]; rfl, ih.2⟩
/-- One part, and what is left. -/
theorem parts_step : ∀ x, okT x = true → ∀ (l : List ByteArray) (p : List UInt8), partsF false l p x = if rstT x = [] then some (l ++ [⟨(p ++ unesc (segT x)).toArray⟩]) else partsF true (l ++ [⟨(p ++ unesc (segT x)).toArray⟩]) [] (rstT x) := by
  refine ok_ind ?_ ?_ ?_ ?_
  · intro l p
    rw [if_pos (show rstT [] = [] from rfl), show unesc (segT []) = [] from rfl, List.append_nil]
    rfl
  · intro c r hc _ ih l p
    by_cases h : c = 47
    · subst h
      rw [(seg_slash r).1, (seg_slash r).2, pF_slash, if_neg (by simp), pF_slash, show unesc [] = [] from rfl, List.append_nil]
      rfl
    · rw [(seg_other h r).1, (seg_other h r).2, pF_other false l p r h hc, ih, unesc_other hc, List.append_assoc]
      rfl
  · intro r _ ih l p
    rw [(seg_other (by decide) _).1, (seg_other (by decide) _).2, (seg_other (by decide) _).1, (seg_other (by decide) _).2, pF_tilde, if_pos rfl, ih, unesc_sign, if_neg (show ¬ (48 : UInt8) = 49 by decide), List.append_assoc]
    rfl
  · intro r _ ih l p
    rw [(seg_other (by decide) _).1, (seg_other (by decide) _).2, (seg_other (by decide) _).1, (seg_other (by decide) _).2, pF_tilde, if_neg (by decide), if_pos rfl, ih, unesc_sign, if_pos (show (49 : UInt8) = 49 from rfl), List.append_assoc]
    rfl
theorem parts_some : ∀ x, okT x = true → ∀ (b : Bool) (l : List ByteArray) (p : List UInt8), ∃ L, partsF b l p x = some L := by
  refine ok_ind ?_ ?_ ?_ ?_
  · exact fun b l p => ⟨_, rfl⟩
  · intro c r hc _ ih b l p
    by_cases h : c = 47
    · subst h
      rw [pF_slash]
      exact ih _ _ _
    · rw [pF_other b l p r h hc]
      exact ih _ _ _
  · intro r _ ih b l p
    rw [pF_tilde, if_pos rfl]
    exact ih _ _ _
  · intro r _ ih b l p
    rw [pF_tilde, if_neg (by decide), if_pos rfl]
    exact ih _ _ _

/-! ### Signs counted -/
def sg (d : UInt8) : List UInt8 := [126, d]
/-- How often a sign and a digit stand there. -/
def prs (d : UInt8) : List UInt8 → Nat
  | [] => 0
  | c :: r => (if c = 126 ∧ r.head? = some d then 1 else 0) + prs d r
theorem pre_iff (d c : UInt8) (r : List UInt8) : (sg d).isPrefixOf (c :: r) = true ↔ c = 126 ∧ r.head? = some d := by
  cases r with
  | nil => simp [sg, List.isPrefixOf]
  | cons e r =>
    simp [sg, List.isPrefixOf]
    constructor
    · rintro ⟨h1, h2⟩
      exact ⟨h1.symm, h2.symm⟩
    · rintro ⟨h1, h2⟩
      exact ⟨h1.symm, h2.symm⟩
theorem index_hit {c : UInt8} {r sub : List UInt8} (h : sub.isPrefixOf (c :: r) = true) : Lib.index (c :: r) sub = (0 : Nat) := by
  unfold Lib.index
  rw [if_pos h]
  rfl
theorem index_miss {c : UInt8} {r sub : List UInt8} (h : ¬ sub.isPrefixOf (c :: r) = true) : (Lib.index r sub = -1 ∧ Lib.index (c :: r) sub = -1) ∨ ∃ i : Nat, Lib.index r sub = (i : Nat) ∧ Lib.index (c :: r) sub = (i + 1 : Nat) := by
  have hg := Lib.index_ge r sub
  by_cases h1 : Lib.index r sub = -1
  · left
    refine ⟨h1, ?_⟩
    conv => lhs; unfold Lib.index
    rw [if_neg h, h1]
    rfl
  · right
    refine ⟨(Lib.index r sub).toNat, by omega, ?_⟩
    conv => lhs; unfold Lib.index
    rw [if_neg h, if_neg (by simpa using h1)]
    omega
theorem count_hit' {c : UInt8} {r sub : List UInt8} (hs : sub ≠ []) (h : sub.isPrefixOf (c :: r) = true) : Lib.count (c :: r) sub = 1 + Lib.count ((c :: r).drop sub.length) sub := by
  rw [Lib.count_hit hs (index_hit h), Nat.zero_add]
theorem count_miss' {c : UInt8} {r sub : List UInt8} (hs : sub ≠ []) (h : ¬ sub.isPrefixOf (c :: r) = true) : Lib.count (c :: r) sub = Lib.count r sub := by
  rcases index_miss h with ⟨h1, h2⟩ | ⟨i, h1, h2⟩
  · rw [Lib.count_miss h1, Lib.count_miss h2]
  · rw [Lib.count_hit hs h1, Lib.count_hit hs h2, show i + 1 + sub.length = (i + sub.length) + 1 by omega, List.drop_succ_cons]
theorem count_prs (d : UInt8) (hd : d ≠ 126) : ∀ l, Lib.count l (sg d) = prs d l
  | [] => rfl
  | [c] => by
    rw [count_miss' (by simp [sg]) (by rw [pre_iff]; simp), prs, if_neg (by simp)]
    rfl
  | c :: e :: r => by
    by_cases h : c = 126 ∧ e = d
    · obtain ⟨rfl, rfl⟩ := h
      rw [count_hit' (by simp [sg]) ((pre_iff _ _ _).2 ⟨rfl, rfl⟩), prs, if_pos ⟨rfl, rfl⟩, prs, if_neg (fun h => hd h.1), Nat.zero_add]
      congr 1
      exact count_prs e hd r
    · rw [count_miss' (by simp [sg]) (by rw [pre_iff]; simpa using h), prs, if_neg (by simpa using h), Nat.zero_add]
      exact count_prs d hd (e :: r)
def tls : List UInt8 → Nat
  | [] => 0
  | c :: r => (if c = 126 then 1 else 0) + tls r
theorem count_tls : ∀ l, Lib.count l [126] = tls l
  | [] => rfl
  | c :: r => by
    by_cases h : c = 126
    · subst h
      rw [count_hit' (by simp) (by simp [List.isPrefixOf]), tls, if_pos rfl]
      congr 1
      exact count_tls r
    · rw [count_miss' (by simp) (by simpa [List.isPrefixOf] using fun e => h e.symm), tls, if_neg h, Nat.zero_add]
      exact count_tls r
theorem prs_other {d c : UInt8} (h : c ≠ 126) (r : List UInt8) : prs d (c :: r) = prs d r := by rw [prs, if_neg (fun e => h e.1), Nat.zero_add]
theorem prs_same (d : UInt8) (r : List UInt8) : prs d (126 :: d :: r) = 1 + prs d (d :: r) := by rw [prs, if_pos ⟨rfl, rfl⟩]
theorem prs_else {d e : UInt8} (h : e ≠ d) (r : List UInt8) : prs d (126 :: e :: r) = prs d (e :: r) := by rw [prs, if_neg (by simpa using h), Nat.zero_add]
theorem tls_other {c : UInt8} (h : c ≠ 126) (r : List UInt8) : tls (c :: r) = tls r := by rw [tls, if_neg h, Nat.zero_add]
theorem tls_sign (r : List UInt8) : tls (126 :: r) = 1 + tls r := by rw [tls, if_pos rfl]
/-- All signs are followed by one of the two digits just where they are as many as those that are. -/
theorem signs_ok : ∀ l, prs 48 l + prs 49 l ≤ tls l ∧ (prs 48 l + prs 49 l = tls l ↔ okT l = true)
  | [] => ⟨Nat.le_refl _, by simp [prs, tls, okT]⟩
  | [c] => by
    by_cases h : c = 126
    · subst h
      rw [okT_end]
      simp [prs, tls]
    · rw [okT_other h, prs_other h, prs_other h, tls_other h]
      exact ⟨Nat.le_refl _, by simp [prs, tls, okT]⟩
  | c :: d :: r => by
    have i1 := signs_ok r
    have i2 := signs_ok (d :: r)
    by_cases h : c = 126
    · subst h
      rw [okT_sign, tls_sign]
      by_cases h8 : d = 48
      · subst h8
        rw [prs_same, prs_else (by decide), prs_other (by decide), prs_other (by decide), tls_other (by decide)]
        refine ⟨by omega, ?_⟩
        rw [show (decide ((48 : UInt8) = 48) || decide ((48 : UInt8) = 49)) = true from rfl, Bool.true_and, ← i1.2]
        omega
      · by_cases h9 : d = 49
        · subst h9
          rw [prs_same, prs_else (by decide), prs_other (by decide), prs_other (by decide), tls_other (by decide)]
          refine ⟨by omega, ?_⟩
          rw [show (decide ((49 : UInt8) = 48) || decide ((49 : UInt8) = 49)) = true from rfl, Bool.true_and, ← i1.2]
          omega
        · rw [prs_else h8, prs_else h9, decide_eq_false h8, decide_eq_false h9]
          refine ⟨by omega, ?_⟩
          have := i2.1
          constructor
          · intro e; omega
          · intro e; cases e
    · rw [okT_other h, prs_other h, prs_other h, tls_other h]
      exact i2

/-! ### Signs put back -/
/-- All replaced. -/
def rpl (old new s : List UInt8) : List UInt8 := Lib.replaceK old new (Lib.count s old) s
theorem rpl_all (old new s : List UInt8) (h : old ≠ new) : Lib.replaceAll s old new = rpl old new s := by
  unfold Lib.replaceAll Lib.replace rpl
  rw [if_neg (by simpa using h), show Lib.replaceNum s old (-1) = Lib.count s old by unfold Lib.replaceNum; rw [if_pos (Or.inl (by decide))]]
theorem rpl_nil (old new : List UInt8) (h : old ≠ []) : rpl old new [] = [] := by
  unfold rpl
  rw [Lib.count_miss (by cases old with | nil => exact absurd rfl h
                                         | cons a t => rfl)]
  rfl
theorem rpl_hit {old new : List UInt8} {c : UInt8} {r : List UInt8} (ho : old ≠ []) (h : old.isPrefixOf (c :: r) = true) : rpl old new (c :: r) = new ++ rpl old new ((c :: r).drop old.length) := by
  unfold rpl
  rw [count_hit' ho h, Nat.add_comm, Lib.replaceK_hit old new _ _ 0 (index_hit h), Nat.zero_add]
  rfl
theorem rpl_miss {old new : List UInt8} {c : UInt8} {r : List UInt8} (ho : old ≠ []) (h : ¬ old.isPrefixOf (c :: r) = true) : rpl old new (c :: r) = c :: rpl old new r := by
  unfold rpl
  rw [count_miss' ho h]
  cases hk : Lib.count r old with
  | zero => rfl
  | succ k =>
    obtain ⟨i, hi⟩ := Lib.index_of_count (s := r) (old := old) (by omega)
    rcases index_miss h with ⟨h1, _⟩ | ⟨j, h1, h2⟩
    · rw [hi] at h1; omega
    · rw [h1] at hi
      rw [Lib.replaceK_hit old new k _ (j + 1) h2, Lib.replaceK_hit old new k _ j h1, show j + 1 + old.length = (j + old.length) + 1 by omega, List.drop_succ_cons, List.take_succ_cons]
      rfl
theorem rpl_other {d : UInt8} {new : List UInt8} {c : UInt8} (h : c ≠ 126) (r : List UInt8) : rpl (sg d) new (c :: r) = c :: rpl (sg d) new r :=
  rpl_miss (by simp [sg]) (by rw [pre_iff]; exact fun e => h e.1)
theorem rpl_pair (d : UInt8) (new r : List UInt8) : rpl (sg d) new (126 :: d :: r) = new ++ rpl (sg d) new r :=
  rpl_hit (by simp [sg]) ((pre_iff _ _ _).2 ⟨rfl, rfl⟩)
theorem rpl_else {d e : UInt8} {new : List UInt8} (h : e ≠ d) (r : List UInt8) : rpl (sg d) new (126 :: e :: r) = 126 :: rpl (sg d) new (e :: r) :=
  rpl_miss (by simp [sg]) (by rw [pre_iff]; simpa using h)
theorem put_back : ∀ l, okT l = true → rpl (sg 48) [126] (rpl (sg 49) [47] l) = unesc l := by
  refine ok_ind ?_ ?_ ?_ ?_
  · rw [rpl_nil _ _ (by simp [sg]), rpl_nil _ _ (by simp [sg])]
    rfl
  · intro c r hc _ ih
    rw [rpl_other hc, rpl_other hc, ih, unesc_other hc]
  · intro r _ ih
    rw [rpl_else (d := 49) (e := 48) (by decide), rpl_other (d := 49) (c := 48) (by decide), rpl_pair, ih, unesc_sign, if_neg (by decide)]
    rfl
  · intro r _ ih
    rw [rpl_pair, List.singleton_append, rpl_other (c := 47) (by decide), ih, unesc_sign, if_pos rfl]
theorem rpl_len (new : List UInt8) (d : UInt8) (hn : new.length = 1) : ∀ l, (rpl (sg d) new l).length ≤ l.length
  | [] => by rw [rpl_nil _ _ (by simp [sg])]; exact Nat.le_refl _
  | [c] => by
    rw [rpl_miss (by simp [sg]) (by rw [pre_iff]; simp), rpl_nil _ _ (by simp [sg])]
    exact Nat.le_refl _
  | c :: e :: r => by
    have i1 := rpl_len new d hn r
    have i2 := rpl_len new d hn (e :: r)
    by_cases h : c = 126 ∧ e = d
    · obtain ⟨rfl, rfl⟩ := h
      rw [rpl_pair, List.length_append, List.length_cons, List.length_cons]
      omega
    · rw [rpl_miss (by simp [sg]) (by rw [pre_iff]; simpa using h), List.length_cons, List.length_cons]
      omega
end Go.Proofs.YtoofcclcimkipaaDoor.J9
namespace Go.Proofs.YtoofcclcimkipaaDoor.J9
open Go Go.RowKit Go.Joins Kit J7 Nds J8

/-- The number that digits without noughts ahead tell. -/
def digitsV : Nat → List UInt8 → Option Nat
  | v, [] => some v
  | v, c :: r => if 48 ≤ c.toNat ∧ c.toNat ≤ 57 then digitsV (10 * v + (c.toNat - 48)) r else none
open Classical in
/-- The kid at a key. -/
noncomputable def findP (n : J) (p : ByteArray) : Option J := if h : ∃ i, J8.Found n p i then some (n.kids[h.choose]'h.choose_spec.hv) else none
theorem findP_some {n : J} {p : ByteArray} {i : Nat} (h : J8.Found n p i) : findP n p = some (n.kids[i]'h.hv) := by
  have h0 : ∃ i, J8.Found n p i := ⟨i, h⟩
  unfold findP
  rw [dif_pos h0]
  have e := J8.Found.one h0.choose_spec h
  simp only [e]
theorem findP_none {n : J} {p : ByteArray} (h : ∀ i, ¬ J8.Found n p i) : findP n p = none := by
  unfold findP
  rw [dif_neg (fun ⟨i, hi⟩ => h i hi)]
/-- What an array of it has: its kids, or itself. -/
def flatJ (x : J) : List J := if x.kind = 6 then x.kids else [x]
def arrK (ks : List J) : J := .mk 6 0 ⟨#[]⟩ [] ks
/-- Of each, one behind the other; none: of one there is none. -/
def collect (f : J → Option J) : List J → Option (List J)
  | [] => some []
  | k :: r => match f k with
    | none => none
    | some x => match collect f r with
      | none => none
      | some t => some (flatJ x ++ t)
def starB : ByteArray := ⟨#[42]⟩
/-- Where parts lead, from a value on. 'num': the number that a part tells. -/
noncomputable def followP (num : ByteArray → Option Nat) : List ByteArray → J → Option J
  | [], n => some n
  | p :: l, n => if n.kind = 7 then match findP n p with
      | none => none
      | some k => followP num l k
    else if n.kind = 6 then
      if p = starB then match collect (followP num l) n.kids with
        | none => none
        | some ks => some (arrK ks)
      else match num p with
        | none => none
        | some i => if h : i < n.kids.length then followP num l n.kids[i] else none
    else none
mutual
/-- How many values there are in a value. -/
def cnt : J → Nat
  | .mk _ _ _ _ kids => 1 + cnts kids
def cnts : List J → Nat
  | [] => 0
  | j :: r => cnt j + cnts r
end
theorem cnts_append : ∀ (a b : List J), cnts (a ++ b) = cnts a + cnts b
  | [], b => by rw [List.nil_append, cnts, Nat.zero_add]
  | j :: r, b => by rw [List.cons_append, cnts, cnts, cnts_append r b, Nat.add_assoc]
theorem cnt_pos (j : J) : 1 ≤ cnt j := by
  obtain ⟨k, n, t, keys, kids⟩ := j
  rw [cnt]
  omega
theorem cnt_kids (j : J) : cnt j = 1 + cnts j.kids := by
  obtain ⟨k, n, t, keys, kids⟩ := j
  rw [cnt]
  rfl
theorem len_cnts : ∀ l : List J, l.length ≤ cnts l
  | [] => by rw [cnts]; exact Nat.le_refl _
  | j :: r => by
    have h1 := len_cnts r
    have h2 := cnt_pos j
    rw [cnts, List.length_cons]
    omega
theorem cnt_get : ∀ (l : List J) (i : Nat) (h : i < l.length), cnt l[i] ≤ cnts l
  | [], i, h => absurd h (Nat.not_lt_zero i)
  | j :: r, 0, _ => by rw [cnts]; show cnt j ≤ _; omega
  | j :: r, i + 1, h => by
    have h1 := cnt_get r i (by simpa using h)
    rw [cnts]
    have h2 : i < r.length := by simpa using h
    show cnt (r[i]'h2) ≤ _
    omega
theorem flat_le (x : J) : cnts (flatJ x) ≤ cnt x := by
  unfold flatJ
  split
  · rw [cnt_kids]; omega
  · rw [cnts, cnts]; omega
/-- What parts lead to has no more values in it. -/
theorem collect_le {f : J → Option J} : ∀ {l ks : List J}, (∀ k ∈ l, ∀ x, f k = some x → cnts (flatJ x) ≤ cnt k) → collect f l = some ks → cnts ks ≤ cnts l
  | [], ks, _, h => by
    rw [collect] at h
    injection h with h
    subst h
    exact Nat.le_refl _
  | k :: r, ks, hf, h => by
    rw [collect] at h
    cases hk : f k with
    | none => rw [hk] at h; cases h
    | some x =>
      rw [hk] at h
      cases hr : collect f r with
      | none => rw [hr] at h; cases h
      | some t =>
        rw [hr] at h
        injection h with h
        subst h
        have h1 := hf k List.mem_cons_self x hk
        have h2 := collect_le (fun q hq => hf q (List.mem_cons_of_mem _ hq)) hr
        rw [cnts_append, cnts]
        omega
theorem find_le {n x : J} {p : ByteArray} (h : findP n p = some x) : cnt x ≤ cnts n.kids := by
  unfold findP at h
  split at h
  · rename_i h0
    injection h with h
    rw [← h]
    exact cnt_get _ _ _
  · cases h
theorem follow_le {num : ByteArray → Option Nat} : ∀ {l : List ByteArray} {n x : J}, followP num l n = some x → cnts (flatJ x) ≤ cnt n
  | [], n, x, h => by
    rw [followP] at h
    injection h with h
    subst h
    exact flat_le n
  | p :: l, n, x, h => by
    rw [followP] at h
    by_cases h7 : n.kind = 7
    · rw [if_pos h7] at h
      cases hk : findP n p with
      | none => rw [hk] at h; cases h
      | some k =>
        rw [hk] at h
        have h1 := follow_le h
        have h2 := find_le hk
        have h3 := cnt_kids n
        omega
    · rw [if_neg h7] at h
      by_cases h6 : n.kind = 6
      · rw [if_pos h6] at h
        by_cases hs : p = starB
        · rw [if_pos hs] at h
          cases hc : collect (followP num l) n.kids with
          | none => rw [hc] at h; cases h
          | some ks =>
            rw [hc] at h
            injection h with h
            subst h
            have h1 := collect_le (fun k _ x hx => follow_le hx) hc
            have h2 := cnt_kids n
            have e : flatJ (arrK ks) = ks := rfl
            rw [e]
            omega
        · rw [if_neg hs] at h
          cases hn : num p with
          | none => rw [hn] at h; cases h
          | some i =>
            rw [hn] at h
            simp only at h
            split at h
            · rename_i hi
              have h1 := follow_le h
              have h2 := cnt_get n.kids i hi
              have h3 := cnt_kids n
              omega
            · cases h
      · rw [if_neg h6] at h
        cases h
/-- The kids of what parts lead to are few. -/
theorem follow_few {num : ByteArray → Option Nat} {l : List ByteArray} {n x : J} (h : followP num l n = some x) : (flatJ x).length ≤ cnt n := Nat.le_trans (len_cnts _) (follow_le h)
end Go.Proofs.YtoofcclcimkipaaDoor.J9
namespace Go.Proofs.YtoofcclcimkipaaDoor.J9
open Go Go.RowKit Go.Joins Kit J7 Nds J8

theorem some_text {t : ByteArray} (h : t ≠ ⟨#[]⟩) : (t.toList == []) = false := by
  rw [beq_eq_false_iff_ne, Lib.toList_data]
  exact fun e => h (bytes_ext e)
theorem byte_ne {c d : UInt8} (h : c ≠ d) : ((c.toNat : Int) == (d.toNat : Int)) = false := by rw [beq_eq_false_iff_ne]; exact fun e => h (byte_eq e)
theorem keys_own {w : World} {B n : Nat} {a : Option Addr} {cap : Nat} {l : List ByteArray} (h : w.ownsRow B 9 1 (.slice a n cap) l.length (J7.strs l)) : KeysIn w a l := by
  have hc := cells_own (P := fun _ => True) h (fun _ _ => trivial)
  intro i hi
  have hl : i < (J7.strs l).length := by unfold J7.strs; rw [List.length_map]; exact hi
  rcases hc with ⟨_, h0, _⟩ | ⟨g, o, c, e, h1⟩
  · omega
  · injection e with e1 _ _
    refine ⟨g, o, e1, ?_⟩
    rw [(h1 i hl).2, strs_get]
theorem cap_own {w : World} {B n : Nat} {a : Option Addr} {cap : Nat} {l : List ByteArray} (h : w.ownsRow B 9 1 (.slice a n cap) l.length (J7.strs l)) : l.length ≤ cap ∧ cap ≤ 9223372036854775807 := by
  rcases h.2 with ⟨e, h0⟩ | ⟨g, c, cur, e, _, _, h1, h2, _⟩
  · injection e with _ _ e
    rw [h0, e]
    decide
  · injection e with _ _ e
    rw [e]
    unfold maxLen at h2
    omega
/-- Parts in memory, and how many they are. -/
structure PartsIn (w : World) (a : Option Addr) (cap : Nat) (l : List ByteArray) : Prop where
  keys : KeysIn w a l
  room : l.length ≤ cap
  top : cap ≤ 9223372036854775807
  few : l.length ≤ 1001
/-- What is left of the parts of a path. -/
def PartsLeft (o : Option (List ByteArray)) (w : World) (e : Ending) (w' : World) : Prop := Below w.heap.size w w' ∧ match o with
  | some l => ∃ a cap, e = .returned (.tuple #[.slice a l.length cap, .bool true]) ∧ PartsIn w' a cap l
  | none => e = .returned (.tuple #[.slice none 0 0, .bool false])

set_option maxHeartbeats 16000000 in
set_option maxRecDepth 100000 in
theorem parts_any (s : ByteArray) (w : World) :
    Calls Tryd.prog 24 #[.string s] w fun e w' => PartsLeft (partsP s) w e w' := by
  by_cases hz : s.size ≤ 1000
  rotate_left 1
  · have g0 : (1000 : Int) < (s.size : Int) := by omega
    rw [show partsP s = none by unfold partsP; rw [if_pos (by omega)]]
    go_enter Tryd.func24, Tryd.ntmps24
    go_wp2_with fail
    go_ret2
    exact ⟨Below.refl _ _, rfl⟩
  have g0 : ¬ (1000 : Int) < (s.size : Int) := by omega
  by_cases he : s = ⟨#[]⟩
  · subst he
    rw [show partsP ⟨#[]⟩ = some [] from rfl]
    go_enter Tryd.func24, Tryd.ntmps24
    go_wp2_with fail
    refine wp_loop_rounds 1 ?_
    rw [rounds_succ]
    go_wp2_with fail
    go_ret2
    exact ⟨Below.refl _ _, none, 0, rfl, fun i hi => absurd hi (Nat.not_lt_zero i), Nat.le_refl _, by decide, by decide⟩
  have hpos : 0 < s.size := by
    rcases Nat.eq_zero_or_pos s.size with h | h
    · exact absurd (bytes_ext (by rw [← List.length_eq_zero_iff.1 (by rw [← Lib.size_eq]; exact h)])) he
    · exact h
  have ge := text_no he
  have ge2 := some_text he
  have gp : (0 : Int) < (s.size : Int) := by omega
  obtain ⟨c0, r0, hcr⟩ : ∃ c r, s.data.toList = c :: r := by
    cases h : s.data.toList with
    | nil => exact absurd (by rw [Lib.size_eq, h]; rfl) (Nat.ne_of_gt hpos)
    | cons c r => exact ⟨c, r, rfl⟩
  have hP : partsP s = if c0 = 47 then partsF true [] [] (c0 :: r0) else none := by unfold partsP; rw [if_neg (by omega), hcr]
  have h00 : s[0] = c0 := by
    have := byte_get s 0 hpos
    rw [← this]
    simp [hcr]
  by_cases h47 : c0 = 47
  rotate_left 1
  · rw [hP, if_neg h47]
    have gc : ((s[0].toNat : Int) != 47) = true := by
      rw [h00, bne_iff_ne]
      exact fun e => h47 (byte_eq (d := 47) e)
    clear hP hcr he h47 h00
    go_enter Tryd.func24, Tryd.ntmps24
    go_wp2_with fail
    go_ret2
    exact ⟨Below.refl _ _, rfl⟩
  subst h47
  rw [if_pos rfl, ← hcr] at hP
  obtain ⟨O, hO⟩ : ∃ O, partsP s = O := ⟨_, rfl⟩
  rw [hO] at hP ⊢
  have h0n : (s[0].toNat : Int) = 47 := by rw [h00]; rfl
  have HO : Hid (partsF (decide (0 = 0)) [] [] (s.data.toList.drop 0) = O) := Lib.hid (by rw [List.drop_zero]; exact hP.symm)
  have HDR : Hid (∀ i (h : i < s.size), s.data.toList.drop i = s[i] :: s.data.toList.drop (i + 1)) := Lib.hid (fun i h => by
    rw [List.drop_eq_getElem_cons (by rw [← Lib.size_eq]; exact h), byte_get s i h])
  obtain ⟨N, hN⟩ : ∃ N, s.size = N := ⟨_, rfl⟩
  have hNi : (N : Int) ≤ 1000 := by omega
  obtain ⟨B, hB⟩ : ∃ B, w.heap.size = B := ⟨_, rfl⟩
  have HB := Lib.hid hB
  have hb0 : Below w.heap.size w w := Below.refl _ _
  have hk0 : w.ownsRow B 9 1 (.slice none 0 0) ([] : List ByteArray).length (J7.strs []) := World.ownsRow_nil _ _ _ _
  have hp0 : OwnB B (.slice none 0 0) [] w := OwnB.empty (by omega)
  clear hP hcr he hO hB h00
  go_enter Tryd.func24, Tryd.ntmps24
  go_wp2_with fail
  go_loopg [4, 5, 6] s.size (fun m v4 v5 v6 wr => ∃ (i : Nat) (ls : List ByteArray) (p : List UInt8), m = s.size - i ∧ v6 = .int .i64 i ∧ i ≤ s.size ∧ ls.length ≤ i ∧ p.length ≤ i ∧ Below w.heap.size w wr ∧ wr.ownsRow B 9 1 v4 ls.length (J7.strs ls) ∧ OwnB B v5 p wr ∧ Hid (partsF (decide (i = 0)) ls p (s.data.toList.drop i) = O))
  case atStart => exact ⟨0, [], [], rfl, rfl, Nat.zero_le _, Nat.le_refl _, Nat.le_refl _, hb0, hk0, hp0, HO⟩
  case round =>
    clear hb0 hk0 hp0 HO
    obtain ⟨i, ls, p, rfl, rfl, hi, hl, hpl, hb, hk, hp, HF⟩ := hrel
    obtain ⟨a4, q4, hv4⟩ := own_form8 hk
    obtain ⟨a5, q5, hv5⟩ := hp.form
    subst hv4 hv5
    have hsB : B ≤ wr.heap.size := by have := hb.size; have := HB.out; omega
    by_cases hlt : i < s.size
    · have gi : (i : Int) < s.size := by omega
      have hd := HDR.out i hlt
      have HF1 := HF.out
      rw [hd] at HF1
      by_cases h1 : s[i] = 47
      · have gx : (s[i].toNat : Int) = 47 := by rw [h1]; rfl
        rw [h1, pF_slash] at HF1
        have HF2 := Lib.hid HF1
        clear HF1 HF hd h1
        by_cases hi0 : i = 0
        · subst hi0
          have hls : ls = [] := List.length_eq_zero_iff.1 (by omega)
          subst hls
          go_wp2_with fail
          go_roundg (s.size - (0 + 1))
          case measure => omega
          case rel => exact ⟨0 + 1, [], [], rfl, by go_num, by omega, by simp, by simp, hb, hk, OwnB.empty hsB, HF2⟩
        · have gi0 : (0 : Int) < (i : Int) := by omega
          have hst := hp.string
          have hpb : Hid (OwnB B (.slice a5 p.length q5) p wr) := Lib.hid hp
          obtain ⟨pb, hpbe⟩ : ∃ pb : ByteArray, (⟨p.toArray⟩ : ByteArray) = pb := ⟨_, rfl⟩
          rw [hpbe] at hst
          have HPB := Lib.hid hpbe
          clear hp hpbe
          go_wp2_with (at_builtin; refine keys_app rfl _ _ rfl B wr _ ls hk pb rfl rfl (by omega) hsB ?_)
          intro g2 c2 w3 ho3 hg3
          have hb3 : Below w.heap.size w w3 := (hb.alloc hb.size _).grown hg3 (by have := hb.size; simp; omega) (fun q e => by have := (hk.lt q e).1; have := HB.out; omega)
          go_wp2_with fail
          go_roundg (s.size - (i + 1))
          case measure => omega
          case rel =>
            refine ⟨i + 1, ls ++ [pb], [], rfl, by go_num, by omega, by rw [List.length_append, List.length_singleton]; omega, by simp, hb3, ?_, OwnB.empty (by have := hb3.size; have := HB.out; omega), Lib.hid ?_⟩
            · first | exact ho3 | (rw [List.length_append, List.length_singleton]; exact ho3)
            · have h9 := HF2.out
              rw [if_neg (by simp [hi0]), HPB.out] at h9
              rw [show decide (i + 1 = 0) = false by simp]
              exact h9
      · by_cases h2 : s[i] = 126
        · have gx : (s[i].toNat : Int) = 126 := by rw [h2]; rfl
          rw [h2] at HF1
          by_cases hn : i + 1 < s.size
          · have gn : ¬ (s.size : Int) ≤ (i : Int) + 1 := by omega
            have gn0 : (0 : Int) ≤ (i : Int) + 1 := by omega
            have gn1 : (i : Int) + 1 < (s.size : Int) := by omega
            have hd2 := HDR.out (i + 1) hn
            rw [hd2, pF_tilde] at HF1
            obtain ⟨d, hdd⟩ : ∃ d, s[i + 1] = d := ⟨_, rfl⟩
            rw [hdd] at HF1
            have hw1 : IntKind.i64.wrap ((i : Int) + 1) = (i : Int) + 1 := by rw [IntKind.wrap_i64]; omega
            by_cases h48 : d = 48
            · have hdn : (s[i + 1].toNat : Int) = 48 := by rw [hdd, h48]; rfl
              rw [if_pos h48] at HF1
              have HF2 := Lib.hid HF1
              clear HF1 HF hd hd2 h1 h2 hdd h48
              go_wp2_with (at_builtin; refine app_lit rfl _ _ rfl B wr _ p hp _ [126] 1 1 rfl (by decide) rfl rfl rfl (by omega) ?_)
              intro v5 w3 hp3 g3
              have hb3 : Below w.heap.size w w3 := ⟨g3.os.trans hb.os, g3.tape.trans hb.tape, g3.output.trans hb.output, Nat.le_trans hb.size g3.size, fun q hq => (g3.block q (Nat.lt_of_lt_of_le hq hb.size) (fun e => by have := (hp.lt e).1; have := HB.out; omega)).trans (hb.block q hq)⟩
              have hk3 := own_keep8 hk (w' := w3) (fun q e hl => g3.block q hl (fun e2 => own_ne8 hp.own hk (by decide) e2 e))
              clear hk hp g3
              go_wp2_with fail
              go_roundg (s.size - (i + 2))
              case measure => omega
              case rel =>
                refine ⟨i + 2, ls, p ++ [126], rfl, by go_num, by omega, by omega, by rw [List.length_append, List.length_singleton]; omega, hb3, hk3, hp3, Lib.hid ?_⟩
                rw [show decide (i + 2 = 0) = false by simp]
                exact HF2.out
            · by_cases h49 : d = 49
              · have hdn : (s[i + 1].toNat : Int) = 49 := by rw [hdd, h49]; rfl
                rw [if_neg h48, if_pos h49] at HF1
                have HF2 := Lib.hid HF1
                clear HF1 HF hd hd2 h1 h2 hdd h48 h49
                go_wp2_with (at_builtin; refine app_lit rfl _ _ rfl B wr _ p hp _ [47] 1 1 rfl (by decide) rfl rfl rfl (by omega) ?_)
                intro v5 w3 hp3 g3
                have hb3 : Below w.heap.size w w3 := ⟨g3.os.trans hb.os, g3.tape.trans hb.tape, g3.output.trans hb.output, Nat.le_trans hb.size g3.size, fun q hq => (g3.block q (Nat.lt_of_lt_of_le hq hb.size) (fun e => by have := (hp.lt e).1; have := HB.out; omega)).trans (hb.block q hq)⟩
                have hk3 := own_keep8 hk (w' := w3) (fun q e hl => g3.block q hl (fun e2 => own_ne8 hp.own hk (by decide) e2 e))
                clear hk hp g3
                go_wp2_with fail
                go_roundg (s.size - (i + 2))
                case measure => omega
                case rel =>
                  refine ⟨i + 2, ls, p ++ [47], rfl, by go_num, by omega, by omega, by rw [List.length_append, List.length_singleton]; omega, hb3, hk3, hp3, Lib.hid ?_⟩
                  rw [show decide (i + 2 = 0) = false by simp]
                  exact HF2.out
              · rw [if_neg h48, if_neg h49] at HF1
                have hd48 : ((s[i + 1].toNat : Int) != 48) = true := by rw [hdd, bne_iff_ne]; exact fun e => h48 (byte_eq (d := 48) e)
                have hd49 : ((s[i + 1].toNat : Int) != 49) = true := by rw [hdd, bne_iff_ne]; exact fun e => h49 (byte_eq (d := 49) e)
                subst HF1
                clear HF hd hd2 h1 h2 hdd h48 h49 hk hp
                go_wp2_with fail
                go_ret2
                exact ⟨hb, rfl⟩
          · have gn : (s.size : Int) ≤ (i : Int) + 1 := by omega
            have hnil : s.data.toList.drop (i + 1) = [] := List.drop_of_length_le (by rw [← Lib.size_eq]; omega)
            rw [hnil, pF_end] at HF1
            subst HF1
            clear HF hd h1 h2 hk hp
            go_wp2_with fail
            go_ret2
            exact ⟨hb, rfl⟩
        · have gx1 : ((s[i].toNat : Int) == 47) = false := byte_ne (d := 47) h1
          have gx2 : ((s[i].toNat : Int) == 126) = false := byte_ne (d := 126) h2
          rw [pF_other _ _ _ _ h1 h2] at HF1
          have HF2 := Lib.hid HF1
          clear HF1 HF hd h1 h2
          go_wp2_with (at_builtin; refine app_lit rfl _ _ rfl B wr _ p hp _ [s[i]] 1 1 rfl (by decide) rfl rfl rfl (by omega) ?_)
          intro v5 w3 hp3 g3
          have hb3 : Below w.heap.size w w3 := ⟨g3.os.trans hb.os, g3.tape.trans hb.tape, g3.output.trans hb.output, Nat.le_trans hb.size g3.size, fun q hq => (g3.block q (Nat.lt_of_lt_of_le hq hb.size) (fun e => by have := (hp.lt e).1; have := HB.out; omega)).trans (hb.block q hq)⟩
          have hk3 := own_keep8 hk (w' := w3) (fun q e hl => g3.block q hl (fun e2 => own_ne8 hp.own hk (by decide) e2 e))
          clear hk hp g3
          go_wp2_with fail
          go_roundg (s.size - (i + 1))
          case measure => omega
          case rel =>
            refine ⟨i + 1, ls, p ++ [s[i]], rfl, by go_num, by omega, by omega, by rw [List.length_append, List.length_singleton]; omega, hb3, hk3, hp3, Lib.hid ?_⟩
            rw [show decide (i + 1 = 0) = false by simp]
            exact HF2.out
    · obtain rfl : i = s.size := by omega
      have gi : decide ((s.size : Int) < (s.size : Int)) = false := by simp
      have hst := hp.string
      have HF1 := HF.out
      rw [List.drop_of_length_le (by rw [← Lib.size_eq]; exact Nat.le_refl _)] at HF1
      obtain ⟨pb, hpbe⟩ : ∃ pb : ByteArray, (⟨p.toArray⟩ : ByteArray) = pb := ⟨_, rfl⟩
      rw [hpbe] at hst
      have hOL : O = some (ls ++ [pb]) := by rw [← HF1, partsF, hpbe]
      subst hOL
      have hll : (ls.length : Int) ≤ 1000 := by omega
      clear hp hpbe HF1 HF
      go_wp2_with (at_builtin; refine keys_app rfl _ _ rfl B wr _ ls hk pb rfl rfl (by omega) hsB ?_)
      intro g2 c2 w3 ho3 hg3
      have hb3 : Below w.heap.size w w3 := (hb.alloc hb.size _).grown hg3 (by have := hb.size; simp; omega) (fun q e => by have := (hk.lt q e).1; have := HB.out; omega)
      have ho4 : w3.ownsRow B 9 1 (.slice (some ⟨g2, 0, none⟩) (ls.length + 1) c2) (ls ++ [pb]).length (J7.strs (ls ++ [pb])) := by first | exact ho3 | (rw [List.length_append, List.length_singleton]; exact ho3)
      have hks := keys_own ho4
      have hcp := cap_own ho4
      have HKS : Hid (PartsIn w3 (some ⟨g2, 0, none⟩) c2 (ls ++ [pb])) := Lib.hid ⟨hks, hcp.1, hcp.2, by rw [List.length_append, List.length_singleton]; omega⟩
      clear hks hcp ho4
      clear ho3 hg3 hk
      go_wp2_with fail
      go_ret2
      refine ⟨hb3, some ⟨g2, 0, none⟩, c2, ?_, HKS.out⟩
      rw [List.length_append, List.length_singleton]
      rfl
end Go.Proofs.YtoofcclcimkipaaDoor.J9
namespace Go.Proofs.YtoofcclcimkipaaDoor.J9
open Go Go.RowKit Go.Joins Kit J7 Nds J8

/-- The kid's cells, as they were before, and where it lies. -/
theorem kid_at_old {P : Nat → Prop} {w W : World} {a : J} {c0 c1 c2 c3 : Value} {n4 m4 i g o : Nat} {x0 x1 x2 x3 x4 : Value} (hN : NodeAt P w a (.agg #[c0, c1, c2, c3, .slice (some ⟨g, o, none⟩) n4 m4])) (hi : i < a.kids.length) (hb : Below w.heap.size w W)
    (r0 : W.cell? ⟨g, o + i * 5, none⟩ = some x0) (r1 : W.cell? ⟨g, o + i * 5 + 1, none⟩ = some x1) (r2 : W.cell? ⟨g, o + i * 5 + 2, none⟩ = some x2) (r3 : W.cell? ⟨g, o + i * 5 + 3, none⟩ = some x3) (r4 : W.cell? ⟨g, o + i * 5 + 4, none⟩ = some x4) : NodeAt P w a.kids[i] (.agg #[x0, x1, x2, x3, x4]) := by
  obtain ⟨g', o', cap, e, t1⟩ := kid_cells hN (fun e => by rw [e] at hi; exact absurd hi (Nat.not_lt_zero i))
  injection e with e _ _
  injection e with e
  injection e with e1 e2 _
  subst e1 e2
  obtain ⟨d0, d1, d2, d3, d4, s0, s1, s2, s3, s4, hz⟩ := t1 i hi
  have same : ∀ {p q v v'}, W.cell? ⟨g, p, none⟩ = some v → w.cell? ⟨g, q, none⟩ = some v' → p = q → v = v' := fun {p q v v'} h1 h2 e => by
    subst e
    have := (hb.cell (p := ⟨g, p, none⟩) (World.block_lt_of_cell? w _ h2)).trans h2
    rw [h1] at this
    exact Option.some.inj this
  rw [same r0 s0 (by omega), same r1 s1 (by omega), same r2 s2 (by omega), same r3 s3 (by omega), same r4 s4 (by omega)]
  exact hz
theorem at_put {P : Nat → Prop} {w W : World} {N : Nat} {j : J} {v d0 d1 d2 d3 d4 : Value} (hb : Below w.heap.size w W) (hN : w.heap.size ≤ N) (h : NodeAt P w j v) : NodeAt P (putN W N d0 d1 d2 d3 d4) j v :=
  h.keep (fun g hg hl => ⟨hg, (putN_below hb hN d0 d1 d2 d3 d4).block g hl⟩)

set_option maxHeartbeats 8000000 in
set_option maxRecDepth 100000 in
theorem rfind_at {P : Nat → Prop} (a : J) (ht : Tame a) (key : ByteArray) (i : Nat) (hf : J8.Found a key i) (w0 w : World) (c0 c1 c2 c3 c4 : Value) (hN : NodeAt P w0 a (.agg #[c0, c1, c2, c3, c4])) (h0 : Below w0.heap.size w0 w) :
    Calls Tryd.prog 33 #[.agg #[c0, c1, c2, c3, c4], .string key] w fun e w' => ∃ d0 d1 d2 d3 d4, e = .returned (.tuple #[.agg #[d0, d1, d2, d3, d4], .bool true]) ∧ NodeAt P w0 (a.kids[i]'hf.hv) (.agg #[d0, d1, d2, d3, d4]) ∧ Below w.heap.size w w' := by
  have hc := in_of_at (hN.keep (kept_below h0))
  have hkl : a.keys.length ≤ 65536 := by cases ht; assumption
  have hvl : a.kids.length ≤ 65536 := by cases ht; assumption
  obtain ⟨a3, m3, a4, m4, rfl, rfl, rfl, rfl, rfl, hkk, hvv⟩ := node_parts hc
  obtain ⟨nk, hnk⟩ : ∃ nk, a.keys.length = nk := ⟨_, rfl⟩
  obtain ⟨nv, hnv⟩ : ∃ nv, a.kids.length = nv := ⟨_, rfl⟩
  obtain ⟨k, hkd⟩ : ∃ kd, a.kind = kd := ⟨_, rfl⟩
  obtain ⟨n, hnm⟩ : ∃ nm, a.num = nm := ⟨_, rfl⟩
  obtain ⟨t, htx⟩ : ∃ tx, a.text = tx := ⟨_, rfl⟩
  rw [hnk, hnv, hkd, hnm, htx]
  obtain ⟨W, hW⟩ : ∃ W, ((w.alloc (.cells #[.int .i64 k, .int .i64 n, .string t, .slice a3 nk m3, .slice a4 nv m4] 25)).alloc (.cells #[.int .i64 0, .int .i64 0, .string ⟨#[]⟩, .slice none 0 0, .slice none 0 0] 25)) = W := ⟨_, rfl⟩
  have hb0 : Below w.heap.size w W := by rw [← hW]; exact ((Below.refl _ w).alloc (Nat.le_refl _) _).alloc (by simp) _
  have hA : Bx w.heap.size (.int .i64 k) (.int .i64 n) (.string t) (.slice a3 nk m3) (.slice a4 nv m4) W := by rw [← hW]; exact (Bx.made w _ _ _ _ _).alloc _
  have hR : Bx (w.heap.size + 1) (.int .i64 0) (.int .i64 0) (.string ⟨#[]⟩) (.slice none 0 0) (.slice none 0 0) W := by
    rw [← hW]
    have h9 := Bx.made (w.alloc (.cells #[.int .i64 k, .int .i64 n, .string t, .slice a3 nk m3, .slice a4 nv m4] 25)) (.int .i64 0) (.int .i64 0) (.string ⟨#[]⟩) (.slice none 0 0) (.slice none 0 0)
    simpa using h9
  have HKI : Hid (KeysIn W a3 a.keys) := Lib.hid (KeysIn.below (w := w) (fun i hi => hkk i hi) hb0)
  have HVI : Hid (KidsIn W a4 a.kids) := Lib.hid (KidsIn.below (w := w) (fun i hi => hvv i hi) hb0)
  have HB := Lib.hid hb0
  obtain ⟨G, hG⟩ : ∃ G, w.heap.size = G := ⟨_, rfl⟩
  rw [hG] at hA hR
  have HW := Lib.hid hW
  have HA := Lib.hid hA
  have HR := Lib.hid hR
  have HNK := Lib.hid hnk
  have HNV := Lib.hid hnv
  have p0 := hA.p0
  have p3 := hA.p3
  have p4 := hA.p4
  have q0 := hR.p0
  have q1 := hR.p1
  have q2 := hR.p2
  have q3 := hR.p3
  have q4 := hR.p4
  have f0 := hR.free 0
  have f1 := hR.free 1
  have f2 := hR.free 2
  have f3 := hR.free 3
  have f4 := hR.free 4
  have h7 : k = 7 := by rw [← hkd]; exact hf.kind
  subst h7
  have HFV := hf.hv
  have HFK := hf.hk
  have HFE : Hid (a.keys[i]'HFK = key) := Lib.hid hf.eq
  have HFM : Hid (∀ j (h : j < i), a.keys[j]'(Nat.lt_trans h HFK) ≠ key) := Lib.hid hf.min
  have hik : i < nk := by rw [← hnk]; exact HFK
  have hiv : i < nv := by omega
  have hki : (nk : Int) ≤ 65536 := by omega
  obtain ⟨g, o, x0, x1, x2, x3, x4, e1, r0, r1, r2, r3, r4, hx⟩ := HVI.out i HFV
  subst e1
  obtain ⟨xk, xn, xt, xa, xl, xc, xb, xm, xd, rfl, rfl, rfl, rfl, rfl⟩ := in_forms hx
  have HX := Lib.hid hx
  have hGl := hR.lt
  have HXP : Hid (NodeAt P w0 (a.kids[i]'HFV) (.agg #[.int .i64 xk, .int .i64 xn, .string xt, .slice xa xl xc, .slice xb xm xd])) := Lib.hid (kid_at_old hN HFV (h0.trans (hb0.mono h0.size)) r0 r1 r2 r3 r4)
  obtain ⟨kj, hkj⟩ : ∃ kj, a.kids[i]'HFV = kj := ⟨_, rfl⟩
  rw [hkj] at HXP ⊢
  clear hx hkj hf hN h0
  clear hW hc hkk hvv hb0 hnk hnv hkd hnm htx hA hR ht
  go_enter Tryd.func33, Tryd.ntmps33
  go_upto_region 1 with fail
  rw [HW.out]
  (try rw [hG])
  go_wp2_with fail
  go_loopg [6] (nk + 1) (fun q v wr => ∃ j : Nat, q = nk + 1 - j ∧ v = .int .i64 j ∧ j ≤ i ∧ W = wr)
  case atStart => exact ⟨0, rfl, rfl, Nat.zero_le _, rfl⟩
  case round =>
    obtain ⟨j, rfl, rfl, hj, rfl⟩ := hrel
    have h1 : j < a.keys.length := by rw [HNK.out]; omega
    obtain ⟨g', o', e1, t1⟩ := HKI.out j h1
    rw [e1] at p3
    have gi : (j : Int) < nk := by omega
    have gv : (j : Int) < nv := by omega
    obtain ⟨kx, hkx⟩ : ∃ kx, a.keys[j] = kx := ⟨_, rfl⟩
    rw [hkx] at t1
    by_cases hlt : j < i
    · have hne : kx ≠ key := by rw [← hkx]; exact HFM.out j hlt
      have gt := text_no hne
      clear hkx hne e1
      go_wp2_with fail
      go_roundg (nk + 1 - (j + 1))
      case measure => omega
      case rel => exact ⟨j + 1, rfl, by go_num, by omega, rfl⟩
    · obtain rfl : j = i := by omega
      obtain rfl : kx = key := by rw [← hkx]; exact HFE.out
      clear hkx e1
      go_wp2_with fail
      refine bodyPost_ret (find_result rfl _ rfl rfl (HR.out.setAll _ _ _ _ _)) rfl ?_
      exact ⟨_, _, _, _, _, rfl, HXP.out, putN_below HB.out (by rw [hG]; exact Nat.le_succ _) _ _ _ _ _⟩
end Go.Proofs.YtoofcclcimkipaaDoor.J9
namespace Go.Proofs.YtoofcclcimkipaaDoor.N9
open Go Go.RowKit Go.Joins Kit Tx

/-- What Number hands back. -/
def numV (o : Option Nat) : Value := .tuple #[.int .i64 (o.getD 0 : Nat), .bool o.isSome]
theorem ret_num_none {l : List UInt8} (h : numL l = none) : Ending.returned (.tuple #[.int .i64 0, .bool false]) = Ending.returned (numV (numL l)) := by rw [h]; rfl
theorem ret_num_some {l : List UInt8} {m : Nat} (h : numL l = some m) : Ending.returned (.tuple #[.int .i64 (m : Int), .bool true]) = Ending.returned (numV (numL l)) := by rw [h]; rfl

theorem numFrom_step (l : List UInt8) (k m : Nat) (h : k < l.length) : numFrom (l.drop k) m = if isDig l[k] then numFrom (l.drop (k + 1)) (m * 10 + (l[k].toNat - 48)) else none := by
  rw [List.drop_eq_getElem_cons h]
  rfl
theorem numL_open {l : List UInt8} (h0 : l ≠ []) (h1 : l.length ≤ 10) (h2 : ¬ (l.head? = some 48 ∧ 1 < l.length)) : numL l = match numFrom l 0 with | some n => if n ≤ 4294967295 then some n else none | none => none := by
  unfold numL
  refine if_neg fun h => ?_
  rcases h with h | h | h
  · exact h0 h
  · omega
  · exact h2 h

theorem pow_le (k : Nat) (h : k ≤ 10) : 10 ^ k ≤ 10000000000 := Nat.pow_le_pow_right (n := 10) (by decide) h
theorem pow_next {m d k : Nat} (h : m < 10 ^ k) (hd : d ≤ 9) : m * 10 + d < 10 ^ (k + 1) := by rw [Nat.pow_succ]; omega

set_option maxHeartbeats 1000000 in
theorem number_core (s : ByteArray) (w : World) (h0 : 0 < s.size) (h1 : s.size ≤ 10) (h2 : s.size ≤ 1 ∨ ¬ (s[0].toNat : Int) = 48) :
    Calls Tryd.prog 34 #[.string s] w fun e w' => e = .returned (numV (numL s.data.toList)) ∧ w = w' := by
  have hE := toList_isEmpty (s := s) (by omega)
  have hopen : Hid (numL s.data.toList = match numFrom s.data.toList 0 with | some n => if n ≤ 4294967295 then some n else none | none => none) :=
    numL_open (data_ne (by omega)) (by rw [← Lib.size_eq]; exact h1) (by
      rw [data_head h0, ← Lib.size_eq]
      rintro ⟨e, h⟩
      have e' := Option.some.inj e
      rcases h2 with h2 | h2
      · omega
      · rw [e'] at h2; exact h2 rfl)
  have g1 : (s.size : Int) ≤ 10 := by omega
  have hstart : Hid (numFrom (s.data.toList.drop 0) 0 = numFrom s.data.toList 0) := by show _ = _; rfl
  have hcase : (s.size : Int) ≤ 1 ∨ ((1 : Int) < s.size ∧ ((s[0].toNat : Int) == 48) = false) := by
    rw [beq_eq_false_iff_ne]
    omega
  rcases hcase with h3 | ⟨h3, h4⟩
  all_goals
    clear h2
    go_enter Tryd.func34, Tryd.ntmps34
    go_wp2_with fail
    go_loop [4, 5] (fun n i => ∃ k m : Nat, k ≤ s.size ∧ m < 10 ^ k ∧ Hid (numFrom (s.data.toList.drop k) m = numFrom s.data.toList 0) ∧ i = .int .i64 k ∧ n = .int .i64 m) (fun _ i => s.size - (intOf i).toNat)
    case atStart => exact ⟨0, 0, by omega, by decide, hstart, rfl, rfl⟩
    case round =>
      obtain ⟨k, m, hk, hm, hn, rfl, rfl⟩ := hrel
      have hp := pow_le k (by omega)
      have hm' : m ≤ 10000000000 := by omega
      clear hp
      have HM : Hid (m < 10 ^ k) := hm
      clear hm
      by_cases hlt : k < s.size
      · have hl : k < s.data.toList.length := by rw [← Lib.size_eq]; exact hlt
        have hst := numFrom_step s.data.toList k m hl
        rw [byte_get s k hlt] at hst
        have HST := Lib.hid hst
        clear hst
        by_cases hd : 48 ≤ s[k].toNat ∧ s[k].toNat ≤ 57
        · obtain ⟨d1, d2⟩ := hd
          have g2 : (48 : Int) ≤ s[k].toNat := by omega
          have g3 : (s[k].toNat : Int) ≤ 57 := by omega
          go_wp2
          go_round
          case rel =>
            refine ⟨k + 1, m * 10 + (s[k].toNat - 48), by omega, pow_next HM.out (by omega), ?_, by go_num, ?_⟩
            · show _ = _
              rw [← hn.out, HST.out, if_pos ((isDig_iff _).2 ⟨d1, d2⟩)]
            · congr 1; omega
          case measure => simp [intOf]; omega
        · have hnone : Hid (numL s.data.toList = none) := by
            show _ = _
            rw [hopen.out, ← hn.out, HST.out, if_neg (fun h => hd ((isDig_iff _).1 h))]
          have hd' : ¬ ((48 : Int) ≤ s[k].toNat ∧ (s[k].toNat : Int) ≤ 57) := by omega
          clear hd
          go_wp2
          all_goals
            go_ret2
            exact ⟨ret_num_none hnone.out, rfl⟩
      · have he : k = s.size := by omega
        have hend : Hid (numL s.data.toList = if m ≤ 4294967295 then some m else none) := by
          show _ = _
          rw [hopen.out, ← hn.out, List.drop_of_length_le (by rw [← Lib.size_eq]; omega)]
          rfl
        clear he
        by_cases hg : 4294967295 < m
        · have g4 : (4294967295 : Int) < m := by omega
          go_wp2
          go_ret2
          exact ⟨ret_num_none (by rw [hend.out, if_neg (by omega)]), rfl⟩
        · have g4 : (m : Int) ≤ 4294967295 := by omega
          go_wp2
          go_ret2
          exact ⟨ret_num_some (by rw [hend.out, if_pos (by omega)]), rfl⟩

set_option maxHeartbeats 400000 in
theorem number_any (s : ByteArray) (w : World) :
    Calls Tryd.prog 34 #[.string s] w fun e w' => e = .returned (numV (numL s.data.toList)) ∧ w = w' := by
  by_cases h0 : s.size = 0
  · have e := toList_nil h0
    have hn : Hid (numL s.data.toList = none) := by
      rw [Lib.toList_data] at e
      rw [e]; rfl
    go_enter Tryd.func34, Tryd.ntmps34
    go_wp2
    go_ret2
    exact ⟨ret_num_none hn.out, rfl⟩
  have hE := toList_isEmpty h0
  by_cases h1 : 10 < s.size
  · have hn : Hid (numL s.data.toList = none) := by
      show _ = _
      unfold numL
      rw [if_pos (Or.inr (Or.inl (by rw [← Lib.size_eq]; exact h1)))]
    have g : (10 : Int) < s.size := by omega
    go_enter Tryd.func34, Tryd.ntmps34
    go_wp2
    go_ret2
    exact ⟨ret_num_none hn.out, rfl⟩
  by_cases h2 : ((s[0]'(by omega)).toNat : Int) = 48 ∧ 1 < s.size
  · have hn : Hid (numL s.data.toList = none) := by
      show _ = _
      unfold numL
      refine if_pos (Or.inr (Or.inr ⟨?_, by rw [← Lib.size_eq]; exact h2.2⟩))
      rw [data_head (by omega)]
      congr 1
      refine UInt8.toNat_inj.1 ?_
      have := h2.1
      simp only [UInt8.reduceToNat]
      omega
    have g : (s.size : Int) ≤ 10 := by omega
    obtain ⟨g1, g2⟩ := h2
    have g3 : (1 : Int) < s.size := by omega
    go_enter Tryd.func34, Tryd.ntmps34
    go_wp2
    go_ret2
    exact ⟨ret_num_none hn.out, rfl⟩
  · exact number_core s w (by omega) (by omega) (by omega)

end Go.Proofs.YtoofcclcimkipaaDoor.N9
namespace Go.Proofs.YtoofcclcimkipaaDoor.J9
open Go Go.RowKit Go.Joins Kit J7 Nds J8

def num9 (p : ByteArray) : Option Nat := Tx.numL p.data.toList
/-- What is left where parts lead. -/
def FLeft (P : Nat → Prop) (o : Option J) (w : World) (e : Ending) (w' : World) : Prop := Below w.heap.size w w' ∧ match o with
  | some x => ∃ k n t a3 n3 m3 a4 n4 m4, e = .returned (.tuple #[.agg #[.int .i64 k, .int .i64 n, .string t, .slice a3 n3 m3, .slice a4 n4 m4], .bool true]) ∧ NodeAt (fun g => P g ∨ w.heap.size ≤ g) w' x (.agg #[.int .i64 k, .int .i64 n, .string t, .slice a3 n3 m3, .slice a4 n4 m4])
  | none => e = .returned (.tuple #[zeroAgg, .bool false])
def FollowOk (l : List ByteArray) : Prop := ∀ (P : Nat → Prop) (n : J) (dd : Nat), RightIn dd n → Tame n → cnt n ≤ 2000 → ∀ (w : World) (c0 c1 c2 c3 c4 : Value) (al : Option Addr) (cap : Nat), NodeAt P w n (.agg #[c0, c1, c2, c3, c4]) → KeysIn w al l → l.length ≤ 1001 → l.length ≤ cap → cap ≤ 9223372036854775807 →
  Calls Tryd.prog 25 #[.agg #[c0, c1, c2, c3, c4], .slice al l.length cap] w fun e w' => FLeft P (followP num9 l n) w e w'
theorem node_forms {P : Nat → Prop} {w : World} {j : J} {c0 c1 c2 c3 c4 : Value} (h : NodeAt P w j (.agg #[c0, c1, c2, c3, c4])) :
    ∃ x0 x1 x2 a3 l3 m3 a4 l4 m4, c0 = .int .i64 x0 ∧ c1 = .int .i64 x1 ∧ c2 = .string x2 ∧ c3 = .slice a3 l3 m3 ∧ c4 = .slice a4 l4 m4 := by
  obtain ⟨e0, e1, e2, ⟨a3, m3, e3⟩, ⟨a4, m4, e4⟩⟩ := node_cells h
  exact ⟨_, _, _, _, _, _, _, _, _, e0, e1, e2, e3, e4⟩

set_option maxHeartbeats 8000000 in
set_option maxRecDepth 100000 in
theorem follow_nil : FollowOk [] := by
  intro P a dd _ _ _ w c0 c1 c2 c3 c4 al cap hN _ _ _ _
  obtain ⟨xk, xn, xt, xa, xl, xc, xb, xm, xd, rfl, rfl, rfl, rfl, rfl⟩ := node_forms hN
  obtain ⟨W, hW⟩ : ∃ W, ((w.alloc (.cells #[.int .i64 xk, .int .i64 xn, .string xt, .slice xa xl xc, .slice xb xm xd] 25)).alloc (.cells #[.int .i64 0, .int .i64 0, .string ⟨#[]⟩, .slice none 0 0, .slice none 0 0] 25)) = W := ⟨_, rfl⟩
  have hb0 : Below w.heap.size w W := by rw [← hW]; exact ((Below.refl _ w).alloc (Nat.le_refl _) _).alloc (by simp) _
  have hA : Bx w.heap.size (.int .i64 xk) (.int .i64 xn) (.string xt) (.slice xa xl xc) (.slice xb xm xd) W := by rw [← hW]; exact (Bx.made w _ _ _ _ _).alloc _
  have hR : Bx (w.heap.size + 1) (.int .i64 0) (.int .i64 0) (.string ⟨#[]⟩) (.slice none 0 0) (.slice none 0 0) W := by
    rw [← hW]
    have h9 := Bx.made (w.alloc (.cells #[.int .i64 xk, .int .i64 xn, .string xt, .slice xa xl xc, .slice xb xm xd] 25)) (.int .i64 0) (.int .i64 0) (.string ⟨#[]⟩) (.slice none 0 0) (.slice none 0 0)
    simpa using h9
  have HB := Lib.hid hb0
  have HN := Lib.hid hN
  obtain ⟨G, hG⟩ : ∃ G, w.heap.size = G := ⟨_, rfl⟩
  rw [hG] at hA hR
  have HW := Lib.hid hW
  have HR := Lib.hid hR
  have p0 := hA.p0
  have p1 := hA.p1
  have p2 := hA.p2
  have p3 := hA.p3
  have p4 := hA.p4
  have q0 := hR.p0
  have q1 := hR.p1
  have q2 := hR.p2
  have q3 := hR.p3
  have q4 := hR.p4
  have f0 := hR.free 0
  have f1 := hR.free 1
  have f2 := hR.free 2
  have f3 := hR.free 3
  have f4 := hR.free 4
  clear hN hb0 hW hA hR
  go_enter Tryd.func25, Tryd.ntmps25
  go_upto_region 1 with fail
  rw [HW.out]
  (try rw [hG])
  go_wp2_with fail
  refine bodyPost_ret (find_result rfl _ rfl rfl (HR.out.setAll _ _ _ _ _)) rfl ?_
  have hw : w.heap.size ≤ G + 1 := by rw [hG]; exact Nat.le_succ _
  refine ⟨putN_below HB.out hw _ _ _ _ _, ?_⟩
  rw [followP]
  exact ⟨_, _, _, _, _, _, _, _, _, rfl, (at_put HB.out hw HN.out).keep (kept_mono (fun g hg => Or.inl hg))⟩
end Go.Proofs.YtoofcclcimkipaaDoor.J9
namespace Go.Proofs.YtoofcclcimkipaaDoor.J9
open Go Go.RowKit Go.Joins Kit J7 Nds J8

/-- The parts behind the first one. -/
def tailA (al : Option Addr) (cap : Nat) : Option Addr := if cap = 1 then al else al.map (·.add 1)
theorem keys_tail {w : World} {al : Option Addr} {p : ByteArray} {l : List ByteArray} {cap : Nat} (h : KeysIn w al (p :: l)) (hc : (p :: l).length ≤ cap) : KeysIn w (tailA al cap) l := by
  intro i hi
  obtain ⟨g, o, e, h1⟩ := h (i + 1) (by simpa using hi)
  have hne : cap ≠ 1 := by simp only [List.length_cons] at hc; omega
  refine ⟨g, o + 1, ?_, ?_⟩
  · unfold tailA
    rw [if_neg hne, e]
    rfl
  · have e2 : o + 1 + i = o + (i + 1) := by omega
    rw [e2]
    exact h1

theorem tame_kid {n : J} (h : Tame n) (i : Nat) (hi : i < n.kids.length) : Tame n.kids[i] := by
  cases h with
  | mk k m t keys kids hk hv ht hks h => exact h i hi
/-- What is known of a value that parts lead on from. -/
structure Fine (dd : Nat) (n : J) : Prop where
  right : RightIn dd n
  tame : Tame n
  few : cnt n ≤ 2000
theorem Fine.kid {dd : Nat} {n : J} (h : Fine dd n) (i : Nat) (hi : i < n.kids.length) : Fine (dd + 1) n.kids[i] :=
  ⟨(right_inv h.right).2.1 i hi, tame_kid h.tame i hi, by
    have h1 := cnt_get n.kids i hi
    have h2 := cnt_kids n
    have h3 := h.few
    omega⟩
theorem set5_below {w w' : World} {B N : Nat} (h : Below B w w') (hN : B ≤ N) (d0 d1 d2 d3 d4 : Value) : Below B w (((((w'.setCell ⟨N, 0, none⟩ d0).setCell ⟨N, 1, none⟩ d1).setCell ⟨N, 2, none⟩ d2).setCell ⟨N, 3, none⟩ d3).setCell ⟨N, 4, none⟩ d4) :=
  ((((h.setCell hN _).setCell hN _).setCell hN _).setCell hN _).setCell hN _
/-- What is left, put into the result's own variable. -/
theorem left_put {P : Nat → Prop} {r : Option J} {w w1 w2 : World} {e : Ending} {G : Nat} (hb : Below w.heap.size w w1) (hG : w.heap.size ≤ G) (hG2 : G < w1.heap.size) (h : FLeft (fun g => P g ∧ g < w.heap.size) r w1 e w2) :
    ∃ k n t a3 n3 m3 a4 n4 m4 b, e = .returned (.tuple #[.agg #[.int .i64 k, .int .i64 n, .string t, .slice a3 n3 m3, .slice a4 n4 m4], .bool b]) ∧ Below w1.heap.size w1 w2 ∧ FLeft P r w e (putN w2 G (.int .i64 k) (.int .i64 n) (.string t) (.slice a3 n3 m3) (.slice a4 n4 m4)) := by
  obtain ⟨h1, h2⟩ := h
  have h3 : Below w.heap.size w w2 := hb.trans (h1.mono hb.size)
  cases r with
  | none =>
    exact ⟨_, _, _, _, _, _, _, _, _, _, h2, h1, set5_below h3 hG _ _ _ _ _, h2⟩
  | some x =>
    obtain ⟨k, n, t, a3, n3, m3, a4, n4, m4, e1, hx⟩ := h2
    refine ⟨k, n, t, a3, n3, m3, a4, n4, m4, true, e1, h1, set5_below h3 hG _ _ _ _ _, k, n, t, a3, n3, m3, a4, n4, m4, e1, hx.keep (fun g hg hl => ⟨?_, putN_block w2 G _ _ _ _ _ g ?_⟩)⟩
    · rcases hg with hg | hg
      · exact Or.inl hg.1
      · exact Or.inr (Nat.le_trans hb.size hg)
    · rcases hg with hg | hg
      · have := hg.2; omega
      · omega
set_option maxHeartbeats 8000000 in
set_option maxRecDepth 100000 in
theorem follow_obj (p : ByteArray) (l : List ByteArray) (ih : FollowOk l) (P : Nat → Prop) (n : J) (dd : Nat) (hr : RightIn dd n) (ht : Tame n) (hcn : cnt n ≤ 2000) (hk7 : n.kind = 7) (w : World) (c0 c1 c2 c3 c4 : Value) (al : Option Addr) (cap : Nat) (hN : NodeAt P w n (.agg #[c0, c1, c2, c3, c4])) (hK : KeysIn w al (p :: l)) (hl : (p :: l).length ≤ 1001) (hc : (p :: l).length ≤ cap) (hc2 : cap ≤ 9223372036854775807) :
    Calls Tryd.prog 25 #[.agg #[c0, c1, c2, c3, c4], .slice al (p :: l).length cap] w fun e w' => FLeft P (followP num9 (p :: l) n) w e w' := by
  obtain ⟨e0, -, -, -, -⟩ := node_cells hN
  obtain ⟨xk, xn, xt, xa, xl, xc, xb, xm, xd, rfl, rfl, rfl, rfl, rfl⟩ := node_forms hN
  obtain ⟨W, hW⟩ : ∃ W, ((w.alloc (.cells #[.int .i64 xk, .int .i64 xn, .string xt, .slice xa xl xc, .slice xb xm xd] 25)).alloc (.cells #[.int .i64 0, .int .i64 0, .string ⟨#[]⟩, .slice none 0 0, .slice none 0 0] 25)) = W := ⟨_, rfl⟩
  have hb0 : Below w.heap.size w W := by rw [← hW]; exact ((Below.refl _ w).alloc (Nat.le_refl _) _).alloc (by simp) _
  have hA : Bx w.heap.size (.int .i64 xk) (.int .i64 xn) (.string xt) (.slice xa xl xc) (.slice xb xm xd) W := by rw [← hW]; exact (Bx.made w _ _ _ _ _).alloc _
  have hR : Bx (w.heap.size + 1) (.int .i64 0) (.int .i64 0) (.string ⟨#[]⟩) (.slice none 0 0) (.slice none 0 0) W := by
    rw [← hW]
    have h9 := Bx.made (w.alloc (.cells #[.int .i64 xk, .int .i64 xn, .string xt, .slice xa xl xc, .slice xb xm xd] 25)) (.int .i64 0) (.int .i64 0) (.string ⟨#[]⟩) (.slice none 0 0) (.slice none 0 0)
    simpa using h9
  have hkl : n.keys.length ≤ n.kids.length := by
    obtain ⟨hh, _, _⟩ := right_inv hr
    exact Nat.le_of_eq (hh.a10 hk7)
  obtain rfl : xk = 7 := by
    injection e0 with _ e0
    rw [e0]; exact hk7
  have HK7 := Lib.hid hk7
  have HB := Lib.hid hb0
  have HN := Lib.hid hN
  have HK := Lib.hid hK
  have HF : Hid (Fine dd n) := Lib.hid ⟨hr, ht, hcn⟩
  have HKL := Lib.hid hkl
  obtain ⟨ag, ao, rfl, hp0⟩ := (hK.below hb0) 0 (by simp)
  simp only [Nat.add_zero, List.getElem_cons_zero] at hp0
  obtain ⟨L, hL⟩ : ∃ L, (p :: l).length = L := ⟨_, rfl⟩
  have hL1 : L = l.length + 1 := by rw [← hL]; rfl
  have HL1 := Lib.hid hL1
  rw [hL] at hl hc ⊢
  have g1 : (1 : Int) ≤ (L : Int) := by omega
  have g2 : (L : Int) ≤ (cap : Int) := by omega
  have g3 : (cap : Int) ≤ 9223372036854775807 := by omega
  have g4 : (L : Int) ≤ 1001 := by omega
  have g6 : (0 : Int) < (L : Int) := by omega
  have g7 : 0 < L := by omega
  have g8 : L ≠ 0 := by omega
  have g5 : ((L : Int) == 0) = false := by rw [beq_eq_false_iff_ne]; omega
  have HL2 := Lib.hid hL
  have HW := Lib.hid hW
  have HR := Lib.hid hR
  have HA := Lib.hid hA
  have HHC := Lib.hid hc
  obtain ⟨G, hG⟩ : ∃ G, w.heap.size = G := ⟨_, rfl⟩
  rw [hG] at hA hR
  have p0 := hA.p0
  have p1 := hA.p1
  have p2 := hA.p2
  have p3 := hA.p3
  have p4 := hA.p4
  have hGl := hR.lt
  clear hN hb0 hW hA hR hK hL hL1 hc hc2 hkl ht hcn hr e0 hk7 hl
  go_enter Tryd.func25, Tryd.ntmps25
  go_upto_region 1 with fail
  rw [HW.out]
  (try rw [hG])
  go_wp2_with fail
  have HCALL : Hid (∀ w', Below W.heap.size W w' → Calls Tryd.prog 33 #[.agg #[.int .i64 7, .int .i64 xn, .string xt, .slice xa xl xc, .slice xb xm xd], .string p] w' fun e w2 => ∃ k m t a3 n3 m3 a4 n4 m4 b, e = .returned (.tuple #[.agg #[.int .i64 k, .int .i64 m, .string t, .slice a3 n3 m3, .slice a4 n4 m4], .bool b]) ∧ Hid ((b = true → ∃ kd, findP n p = some kd ∧ Fine (dd + 1) kd ∧ NodeAt P w kd (.agg #[.int .i64 k, .int .i64 m, .string t, .slice a3 n3 m3, .slice a4 n4 m4])) ∧ (b = false → findP n p = none)) ∧ Below w'.heap.size w' w2) := Lib.hid (fun w' h' => by
    have hww := HB.out.trans (h'.mono HB.out.size)
    rcases Classical.em (∃ i, J8.Found n p i) with ⟨i, hf⟩ | hno
    · refine (rfind_at n HF.out.tame p i hf w w' _ _ _ _ _ HN.out hww).mono ?_
      rintro e w2 ⟨d0, d1, d2, d3, d4, rfl, hat, hb⟩
      obtain ⟨x0, x1, x2, a3, l3, m3, a4, l4, m4, rfl, rfl, rfl, rfl, rfl⟩ := node_forms hat
      exact ⟨_, _, _, _, _, _, _, _, _, _, rfl, Lib.hid ⟨fun _ => ⟨_, findP_some hf, HF.out.kid i hf.hv, hat⟩, fun h => (by cases h)⟩, hb⟩
    · refine (rfind_no n HF.out.tame p (fun i hi => hno ⟨i, hi⟩) HKL.out w' _ _ _ _ _ (in_of_at (HN.out.keep (kept_below hww)))).mono ?_
      rintro e w2 ⟨rfl, hb⟩
      exact ⟨0, 0, ⟨#[]⟩, none, 0, 0, none, 0, 0, false, rfl, Lib.hid ⟨fun h => (by cases h), fun _ => findP_none (fun i hi => hno ⟨i, hi⟩)⟩, hb⟩)
  have hSof : Hid (∀ w', Below W.heap.size W w' → Below W.heap.size W w' ∧ w'.cell? ⟨G, 0, none⟩ = some (.int .i64 7) ∧ w'.cell? ⟨G, 1, none⟩ = some (.int .i64 xn) ∧ w'.cell? ⟨G, 2, none⟩ = some (.string xt) ∧ w'.cell? ⟨G, 3, none⟩ = some (.slice xa xl xc) ∧ w'.cell? ⟨G, 4, none⟩ = some (.slice xb xm xd) ∧ w'.cell? ⟨ag, ao, none⟩ = some (.string p)) := Lib.hid (fun w' h => ⟨h, (h.cell (p := ⟨G, 0, none⟩) (World.block_lt_of_cell? W _ p0)).trans p0, (h.cell (p := ⟨G, 1, none⟩) (World.block_lt_of_cell? W _ p1)).trans p1, (h.cell (p := ⟨G, 2, none⟩) (World.block_lt_of_cell? W _ p2)).trans p2, (h.cell (p := ⟨G, 3, none⟩) (World.block_lt_of_cell? W _ p3)).trans p3, (h.cell (p := ⟨G, 4, none⟩) (World.block_lt_of_cell? W _ p4)).trans p4, (h.cell (p := ⟨ag, ao, none⟩) (World.block_lt_of_cell? W _ hp0)).trans hp0⟩)
  have HS0 : Hid (Below W.heap.size W W.drew ∧ W.drew.cell? ⟨G, 0, none⟩ = some (.int .i64 7) ∧ W.drew.cell? ⟨G, 1, none⟩ = some (.int .i64 xn) ∧ W.drew.cell? ⟨G, 2, none⟩ = some (.string xt) ∧ W.drew.cell? ⟨G, 3, none⟩ = some (.slice xa xl xc) ∧ W.drew.cell? ⟨G, 4, none⟩ = some (.slice xb xm xd) ∧ W.drew.cell? ⟨ag, ao, none⟩ = some (.string p)) := Lib.hid (hSof.out _ ((Below.refl _ W).drew))
  have HS1 : Hid (∀ w1 o, (Below W.heap.size W w1 ∧ w1.cell? ⟨G, 0, none⟩ = some (.int .i64 7) ∧ w1.cell? ⟨G, 1, none⟩ = some (.int .i64 xn) ∧ w1.cell? ⟨G, 2, none⟩ = some (.string xt) ∧ w1.cell? ⟨G, 3, none⟩ = some (.slice xa xl xc) ∧ w1.cell? ⟨G, 4, none⟩ = some (.slice xb xm xd) ∧ w1.cell? ⟨ag, ao, none⟩ = some (.string p)) → (Below W.heap.size W (World.alloc w1 o) ∧ (World.alloc w1 o).cell? ⟨G, 0, none⟩ = some (.int .i64 7) ∧ (World.alloc w1 o).cell? ⟨G, 1, none⟩ = some (.int .i64 xn) ∧ (World.alloc w1 o).cell? ⟨G, 2, none⟩ = some (.string xt) ∧ (World.alloc w1 o).cell? ⟨G, 3, none⟩ = some (.slice xa xl xc) ∧ (World.alloc w1 o).cell? ⟨G, 4, none⟩ = some (.slice xb xm xd) ∧ (World.alloc w1 o).cell? ⟨ag, ao, none⟩ = some (.string p))) := Lib.hid (fun w1 o h => hSof.out _ (h.1.alloc h.1.size _))
  have HS4 : Hid (∀ o, (Below W.heap.size W (World.drew (World.alloc W o)) ∧ (World.drew (World.alloc W o)).cell? ⟨G, 0, none⟩ = some (.int .i64 7) ∧ (World.drew (World.alloc W o)).cell? ⟨G, 1, none⟩ = some (.int .i64 xn) ∧ (World.drew (World.alloc W o)).cell? ⟨G, 2, none⟩ = some (.string xt) ∧ (World.drew (World.alloc W o)).cell? ⟨G, 3, none⟩ = some (.slice xa xl xc) ∧ (World.drew (World.alloc W o)).cell? ⟨G, 4, none⟩ = some (.slice xb xm xd) ∧ (World.drew (World.alloc W o)).cell? ⟨ag, ao, none⟩ = some (.string p))) := Lib.hid (fun o => hSof.out _ (((Below.refl _ W).alloc (Nat.le_refl _) _).drew))
  have HS2 : Hid (∀ w1 w2, Below w1.heap.size w1 w2 → (Below W.heap.size W w1 ∧ w1.cell? ⟨G, 0, none⟩ = some (.int .i64 7) ∧ w1.cell? ⟨G, 1, none⟩ = some (.int .i64 xn) ∧ w1.cell? ⟨G, 2, none⟩ = some (.string xt) ∧ w1.cell? ⟨G, 3, none⟩ = some (.slice xa xl xc) ∧ w1.cell? ⟨G, 4, none⟩ = some (.slice xb xm xd) ∧ w1.cell? ⟨ag, ao, none⟩ = some (.string p)) → (Below W.heap.size W w2 ∧ w2.cell? ⟨G, 0, none⟩ = some (.int .i64 7) ∧ w2.cell? ⟨G, 1, none⟩ = some (.int .i64 xn) ∧ w2.cell? ⟨G, 2, none⟩ = some (.string xt) ∧ w2.cell? ⟨G, 3, none⟩ = some (.slice xa xl xc) ∧ w2.cell? ⟨G, 4, none⟩ = some (.slice xb xm xd) ∧ w2.cell? ⟨ag, ao, none⟩ = some (.string p))) := Lib.hid (fun w1 w2 hb h => hSof.out _ (h.1.trans (hb.mono h.1.size)))
  have HS3 : Hid (∀ (w1 : World) (N : Nat) (d0 d1 d2 d3 d4 : Value), (Below W.heap.size W w1 ∧ w1.cell? ⟨G, 0, none⟩ = some (.int .i64 7) ∧ w1.cell? ⟨G, 1, none⟩ = some (.int .i64 xn) ∧ w1.cell? ⟨G, 2, none⟩ = some (.string xt) ∧ w1.cell? ⟨G, 3, none⟩ = some (.slice xa xl xc) ∧ w1.cell? ⟨G, 4, none⟩ = some (.slice xb xm xd) ∧ w1.cell? ⟨ag, ao, none⟩ = some (.string p)) → W.heap.size ≤ N → (Below W.heap.size W (((((w1.setCell ⟨N, 0, none⟩ d0).setCell ⟨N, 1, none⟩ d1).setCell ⟨N, 2, none⟩ d2).setCell ⟨N, 3, none⟩ d3).setCell ⟨N, 4, none⟩ d4) ∧ (((((w1.setCell ⟨N, 0, none⟩ d0).setCell ⟨N, 1, none⟩ d1).setCell ⟨N, 2, none⟩ d2).setCell ⟨N, 3, none⟩ d3).setCell ⟨N, 4, none⟩ d4).cell? ⟨G, 0, none⟩ = some (.int .i64 7) ∧ (((((w1.setCell ⟨N, 0, none⟩ d0).setCell ⟨N, 1, none⟩ d1).setCell ⟨N, 2, none⟩ d2).setCell ⟨N, 3, none⟩ d3).setCell ⟨N, 4, none⟩ d4).cell? ⟨G, 1, none⟩ = some (.int .i64 xn) ∧ (((((w1.setCell ⟨N, 0, none⟩ d0).setCell ⟨N, 1, none⟩ d1).setCell ⟨N, 2, none⟩ d2).setCell ⟨N, 3, none⟩ d3).setCell ⟨N, 4, none⟩ d4).cell? ⟨G, 2, none⟩ = some (.string xt) ∧ (((((w1.setCell ⟨N, 0, none⟩ d0).setCell ⟨N, 1, none⟩ d1).setCell ⟨N, 2, none⟩ d2).setCell ⟨N, 3, none⟩ d3).setCell ⟨N, 4, none⟩ d4).cell? ⟨G, 3, none⟩ = some (.slice xa xl xc) ∧ (((((w1.setCell ⟨N, 0, none⟩ d0).setCell ⟨N, 1, none⟩ d1).setCell ⟨N, 2, none⟩ d2).setCell ⟨N, 3, none⟩ d3).setCell ⟨N, 4, none⟩ d4).cell? ⟨G, 4, none⟩ = some (.slice xb xm xd) ∧ (((((w1.setCell ⟨N, 0, none⟩ d0).setCell ⟨N, 1, none⟩ d1).setCell ⟨N, 2, none⟩ d2).setCell ⟨N, 3, none⟩ d3).setCell ⟨N, 4, none⟩ d4).cell? ⟨ag, ao, none⟩ = some (.string p))) := Lib.hid (fun w1 N d0 d1 d2 d3 d4 h hN => hSof.out _ (set5_below h.1 hN _ _ _ _ _))
  clear p0 p1 p2 p3 p4 hp0
  go_cut [6, 7] from 23 (fun v b wx => ∃ (g : Nat) (k5 n5 : Int) (t5 : ByteArray) (a5 : Option Addr) (l5 m5 : Nat) (b5 : Option Addr) (o5 q5 : Nat) (bb : Bool), v = .pointer (some ⟨g, 0, none⟩) ∧ b = .bool bb ∧ Below W.heap.size W wx ∧ W.heap.size ≤ g ∧ Bx g (.int .i64 k5) (.int .i64 n5) (.string t5) (.slice a5 l5 m5) (.slice b5 o5 q5) wx ∧ Hid ((bb = true → ∃ kd, findP n p = some kd ∧ Fine (dd + 1) kd ∧ NodeAt P w kd (.agg #[.int .i64 k5, .int .i64 n5, .string t5, .slice a5 l5 m5, .slice b5 o5 q5])) ∧ (bb = false → findP n p = none)))
  case first =>
    go_region_held3 (fun w' => Below W.heap.size W w' ∧ w'.cell? ⟨G, 0, none⟩ = some (.int .i64 7) ∧ w'.cell? ⟨G, 1, none⟩ = some (.int .i64 xn) ∧ w'.cell? ⟨G, 2, none⟩ = some (.string xt) ∧ w'.cell? ⟨G, 3, none⟩ = some (.slice xa xl xc) ∧ w'.cell? ⟨G, 4, none⟩ = some (.slice xb xm xd) ∧ w'.cell? ⟨ag, ao, none⟩ = some (.string p))
      (first | with_reducible exact HS0.out | with_reducible exact HS4.out _ | with_reducible exact HS2.out _ _ (by assumption) (HS4.out _) | with_reducible exact HS1.out _ _ (by assumption) | with_reducible exact HS2.out _ _ (by assumption) (by assumption) | with_reducible exact HS2.out _ _ (by assumption) HS0.out | with_reducible exact HS2.out _ _ (by assumption) (HS1.out _ _ HS0.out) | exact HS1.out w5 _ (HS2.out _ w5 hb5 HS0.out) | with_reducible exact HS1.out _ _ HS0.out | with_reducible exact HS3.out _ _ _ _ _ _ _ (HS2.out _ _ (by assumption) (HS4.out _)) (Nat.le_refl _) | with_reducible exact HS3.out _ _ _ _ _ _ _ (by assumption) (Nat.le_refl _)| (trace_state; fail))
      (first
        | (with_reducible refine (HCALL.out (W.drew) ((Below.refl _ W).drew)).mono ?_; rintro e w5 ⟨k5, n5, t5, a5, l5, m5, b5, o5, q5, bb, rfl, hat, hb5⟩)
        | (with_reducible refine (HCALL.out (World.drew (World.alloc W (.cells #[.int .i64 0, .int .i64 0, .string { data := #[] }, .slice none 0 0, .slice none 0 0] 25))) (((Below.refl _ W).alloc (Nat.le_refl _) _).drew)).mono ?_; rintro e w5 ⟨k5, n5, t5, a5, l5, m5, b5, o5, q5, bb, rfl, hat, hb5⟩; have hbx : Bx W.heap.size (.int .i64 0) (.int .i64 0) (.string { data := #[] }) (.slice none 0 0) (.slice none 0 0) w5 := ((newZ_bx W).drew).same (hb5.block _ (by simp)); have u0 := hbx.p0; have u1 := hbx.p1; have u2 := hbx.p2; have u3 := hbx.p3; have u4 := hbx.p4; have k0 := hbx.free 0; have k1 := hbx.free 1; have k2 := hbx.free 2; have k3 := hbx.free 3; have k4 := hbx.free 4))
    all_goals
      go_wp2_with fail
      go_meet
      first
      | exact ⟨_, _, _, _, _, _, _, _, _, _, _, rfl, rfl, (((Below.refl _ W).drew).trans hb5).alloc (by have := hb5.size; simpa using this) _, by have := hb5.size; simpa using this, Bx.made w5 _ _ _ _ _, hat⟩
      | exact ⟨_, _, _, _, _, _, _, _, _, _, _, rfl, rfl, set5_below ((((Below.refl _ W).alloc (Nat.le_refl _) _).drew).trans (hb5.mono (by simp))) (Nat.le_refl _) _ _ _ _ _, Nat.le_refl _, hbx.setAll _ _ _ _ _, hat⟩
  case rest =>
    obtain ⟨g, k5, n5, t5, a5, l5, m5, b5, o5, q5, bb, rfl, rfl, hbw, hgw, hbx, HAT⟩ := hcut
    have v0 := hbx.p0
    have v1 := hbx.p1
    have v2 := hbx.p2
    have v3 := hbx.p3
    have v4 := hbx.p4
    have hR9 := HR.out
    rw [hG] at hR9
    have hR := hR9.same (hbw.block _ hGl)
    have f0 := hR.free 0
    have f1 := hR.free 1
    have f2 := hR.free 2
    have f3 := hR.free 3
    have f4 := hR.free 4
    have q0 := hR.p0
    have q1 := hR.p1
    have q2 := hR.p2
    have q3 := hR.p3
    have q4 := hR.p4
    have HRX := Lib.hid hR
    have HBW := Lib.hid (HB.out.trans (hbw.mono HB.out.size))
    have HGW : Hid (G + 1 < wc.heap.size) := Lib.hid (Nat.lt_of_lt_of_le hGl hbw.size)
    clear hbw hbx hR hR9
    cases bb
    · have HE : Hid (followP num9 (p :: l) n = none) := Lib.hid (by rw [followP, if_pos HK7.out, HAT.out.2 rfl])
      clear HAT
      go_wp2_with fail
      refine bodyPost_ret (find_result rfl _ rfl rfl (HRX.out.setAll _ _ _ _ _)) rfl ?_
      rw [HE.out]
      exact ⟨set5_below HBW.out (by rw [hG]; exact Nat.le_succ _) _ _ _ _ _, rfl⟩
    · obtain ⟨kd, hkd, hfine, hat⟩ := HAT.out.1 rfl
      have HE : Hid (followP num9 (p :: l) n = followP num9 l kd) := Lib.hid (by rw [followP, if_pos HK7.out, hkd])
      obtain ⟨r, hr⟩ : ∃ r, followP num9 l kd = r := ⟨_, rfl⟩
      have HIH : Hid (∀ (aw : Option Addr) (cw : Nat), (∀ w', Below w.heap.size w w' → KeysIn w' aw l) → l.length ≤ cw → cw ≤ 9223372036854775807 → Calls Tryd.prog 25 #[.agg #[.int .i64 k5, .int .i64 n5, .string t5, .slice a5 l5 m5, .slice b5 o5 q5], .slice aw (L - 1) cw] wc.drew fun e w2 => ∃ k n t a3 n3 m3 a4 n4 m4 b, e = .returned (.tuple #[.agg #[.int .i64 k, .int .i64 n, .string t, .slice a3 n3 m3, .slice a4 n4 m4], .bool b]) ∧ Below wc.heap.size wc w2 ∧ Hid (FLeft P r w (.returned (.tuple #[.agg #[.int .i64 k, .int .i64 n, .string t, .slice a3 n3 m3, .slice a4 n4 m4], .bool b])) (putN w2 (G + 1) (.int .i64 k) (.int .i64 n) (.string t) (.slice a3 n3 m3) (.slice a4 n4 m4)))) := Lib.hid (fun aw cw h1 h2 h3 => by
        have hbd : Below w.heap.size w wc.drew := HBW.out.drew
        have e1 : L - 1 = l.length := by have := HL1.out; omega
        rw [e1]
        refine (ih (fun g => P g ∧ g < w.heap.size) kd (dd + 1) hfine.right hfine.tame hfine.few wc.drew _ _ _ _ _ aw cw ((hat.keep (fun g hg hl => ⟨⟨hg, hl⟩, hbd.block g hl⟩))) (h1 _ hbd) (by have := HL1.out; omega) h2 h3).mono ?_
        intro e w2 hl
        rw [hr] at hl
        obtain ⟨k, n, t, a3, n3, m3, a4, n4, m4, b, rfl, hb, hf⟩ := left_put (G := G + 1) hbd (by rw [hG]; exact Nat.le_succ _) HGW.out hl
        exact ⟨_, _, _, _, _, _, _, _, _, _, rfl, ((Below.refl _ wc).drew).trans hb, Lib.hid hf⟩)
      have HRR := Lib.hid hr
      clear hkd hfine hat HAT hr
      have HKT : Hid (∀ w', Below w.heap.size w w' → KeysIn w' (tailA (some ⟨ag, ao, none⟩) cap) l) := Lib.hid (fun w' h => keys_tail (KeysIn.below HK.out h) (by have := HL2.out; have := HHC.out; omega))
      have HLC : Hid (l.length ≤ cap - 1) := Lib.hid (by have := HL1.out; have := HHC.out; omega)
      by_cases hc1 : cap = 1
      · have HKT2 : Hid (∀ w', Below w.heap.size w w' → KeysIn w' (some ⟨ag, ao, none⟩) l) := Lib.hid (fun w' h => by have h9 := HKT.out w' h; unfold tailA at h9; rw [if_pos hc1] at h9; exact h9)
        have HLC2 : Hid (l.length ≤ 0) := Lib.hid (by have := HLC.out; omega)
        go_wp2_with fail
        go_region_with ((refine (HIH.out _ _ HKT2.out HLC2.out (by decide)).mono ?_); rintro e w2 ⟨k6, n6, t6, a6, l6, m6, b6, o6, q6, bb, rfl, hb6, HFL⟩; (have hR6 := HRX.out.same (hb6.block _ HGW.out)); (have s0 := hR6.free 0); (have s1 := hR6.free 1); (have s2 := hR6.free 2); (have s3 := hR6.free 3); (have s4 := hR6.free 4); (have u0 := hR6.p0); (have u1 := hR6.p1); (have u2 := hR6.p2); (have u3 := hR6.p3); (have u4 := hR6.p4))
        all_goals
          go_wp2_with fail
          refine bodyPost_ret (find_result rfl _ rfl rfl (hR6.setAll _ _ _ _ _)) rfl ?_
          rw [HE.out, HRR.out]
          exact HFL.out
      · have HKT2 : Hid (∀ w', Below w.heap.size w w' → KeysIn w' (some ⟨ag, ao + 1, none⟩) l) := Lib.hid (fun w' h => by have h9 := HKT.out w' h; unfold tailA at h9; rw [if_neg hc1] at h9; exact h9)
        have HCC : Hid (cap - 1 ≤ 9223372036854775807) := Lib.hid (by omega)
        go_wp2_with fail
        go_region_with ((refine (HIH.out _ _ HKT2.out HLC.out HCC.out).mono ?_); rintro e w2 ⟨k6, n6, t6, a6, l6, m6, b6, o6, q6, bb, rfl, hb6, HFL⟩; (have hR6 := HRX.out.same (hb6.block _ HGW.out)); (have s0 := hR6.free 0); (have s1 := hR6.free 1); (have s2 := hR6.free 2); (have s3 := hR6.free 3); (have s4 := hR6.free 4); (have u0 := hR6.p0); (have u1 := hR6.p1); (have u2 := hR6.p2); (have u3 := hR6.p3); (have u4 := hR6.p4))
        all_goals
          go_wp2_with fail
          refine bodyPost_ret (find_result rfl _ rfl rfl (hR6.setAll _ _ _ _ _)) rfl ?_
          rw [HE.out, HRR.out]
          exact HFL.out
end Go.Proofs.YtoofcclcimkipaaDoor.J9
namespace Go.Proofs.YtoofcclcimkipaaDoor.J9
open Go Go.RowKit Go.Joins Kit J7 Nds J8

theorem follow_n0 {num : ByteArray → Option Nat} {p : ByteArray} {l : List ByteArray} {n : J} (h6 : n.kind = 6) (hp : p ≠ starB) (h : num p = none) : followP num (p :: l) n = none := by
  rw [followP, if_neg (by rw [h6]; decide), if_pos h6, if_neg hp, h]
theorem follow_n1 {num : ByteArray → Option Nat} {p : ByteArray} {l : List ByteArray} {n : J} {i : Nat} (h6 : n.kind = 6) (hp : p ≠ starB) (h : num p = some i) (hi : i < n.kids.length) : followP num (p :: l) n = followP num l n.kids[i] := by
  rw [followP, if_neg (by rw [h6]; decide), if_pos h6, if_neg hp, h]
  exact dif_pos hi
theorem follow_n2 {num : ByteArray → Option Nat} {p : ByteArray} {l : List ByteArray} {n : J} {i : Nat} (h6 : n.kind = 6) (hp : p ≠ starB) (h : num p = some i) (hi : ¬ i < n.kids.length) : followP num (p :: l) n = none := by
  rw [followP, if_neg (by rw [h6]; decide), if_pos h6, if_neg hp, h]
  exact dif_neg hi
set_option maxHeartbeats 8000000 in
set_option maxRecDepth 100000 in
theorem follow_num (p : ByteArray) (hps : p ≠ ⟨#[42]⟩) (l : List ByteArray) (ih : FollowOk l) (P : Nat → Prop) (n : J) (dd : Nat) (hr : RightIn dd n) (ht : Tame n) (hcn : cnt n ≤ 2000) (hk6 : n.kind = 6) (w : World) (c0 c1 c2 c3 c4 : Value) (al : Option Addr) (cap : Nat) (hN : NodeAt P w n (.agg #[c0, c1, c2, c3, c4])) (hK : KeysIn w al (p :: l)) (hl : (p :: l).length ≤ 1001) (hc : (p :: l).length ≤ cap) (hc2 : cap ≤ 9223372036854775807) :
    Calls Tryd.prog 25 #[.agg #[c0, c1, c2, c3, c4], .slice al (p :: l).length cap] w fun e w' => FLeft P (followP num9 (p :: l) n) w e w' := by
  obtain ⟨e0, -, -, -, ⟨a4', m4', e4⟩⟩ := node_cells hN
  obtain ⟨xk, xn, xt, xa, xl, xc, xb, xm, xd, rfl, rfl, rfl, rfl, rfl⟩ := node_forms hN
  obtain ⟨W, hW⟩ : ∃ W, ((w.alloc (.cells #[.int .i64 xk, .int .i64 xn, .string xt, .slice xa xl xc, .slice xb xm xd] 25)).alloc (.cells #[.int .i64 0, .int .i64 0, .string ⟨#[]⟩, .slice none 0 0, .slice none 0 0] 25)) = W := ⟨_, rfl⟩
  have hb0 : Below w.heap.size w W := by rw [← hW]; exact ((Below.refl _ w).alloc (Nat.le_refl _) _).alloc (by simp) _
  have hA : Bx w.heap.size (.int .i64 xk) (.int .i64 xn) (.string xt) (.slice xa xl xc) (.slice xb xm xd) W := by rw [← hW]; exact (Bx.made w _ _ _ _ _).alloc _
  have hR : Bx (w.heap.size + 1) (.int .i64 0) (.int .i64 0) (.string ⟨#[]⟩) (.slice none 0 0) (.slice none 0 0) W := by
    rw [← hW]
    have h9 := Bx.made (w.alloc (.cells #[.int .i64 xk, .int .i64 xn, .string xt, .slice xa xl xc, .slice xb xm xd] 25)) (.int .i64 0) (.int .i64 0) (.string ⟨#[]⟩) (.slice none 0 0) (.slice none 0 0)
    simpa using h9
  obtain rfl : xk = 6 := by
    injection e0 with _ e0
    rw [e0]; exact hk6
  obtain ⟨nv, hnv⟩ : ∃ nv, n.kids.length = nv := ⟨_, rfl⟩
  rw [hnv] at e4
  injection e4 with e41 e42 e43
  subst e41 e42 e43
  have HNV := Lib.hid hnv
  have hvl : n.kids.length ≤ 65536 := by cases ht; assumption
  have gnv : (xm : Int) ≤ 65536 := by omega
  have HK6 := Lib.hid hk6
  have HB := Lib.hid hb0
  have HN := Lib.hid hN
  have HK := Lib.hid hK
  have HF : Hid (Fine dd n) := Lib.hid ⟨hr, ht, hcn⟩
  obtain ⟨ag, ao, rfl, hp0⟩ := (hK.below hb0) 0 (by simp)
  simp only [Nat.add_zero, List.getElem_cons_zero] at hp0
  obtain ⟨L, hL⟩ : ∃ L, (p :: l).length = L := ⟨_, rfl⟩
  have hL1 : L = l.length + 1 := by rw [← hL]; rfl
  have HL1 := Lib.hid hL1
  rw [hL] at hl hc ⊢
  have g1 : (1 : Int) ≤ (L : Int) := by omega
  have g2 : (L : Int) ≤ (cap : Int) := by omega
  have g3 : (cap : Int) ≤ 9223372036854775807 := by omega
  have g4 : (L : Int) ≤ 1001 := by omega
  have g6 : (0 : Int) < (L : Int) := by omega
  have g7 : 0 < L := by omega
  have g8 : L ≠ 0 := by omega
  have g5 : ((L : Int) == 0) = false := by rw [beq_eq_false_iff_ne]; omega
  have HL2 := Lib.hid hL
  have HW := Lib.hid hW
  have HR := Lib.hid hR
  have HA := Lib.hid hA
  have HHC := Lib.hid hc
  obtain ⟨G, hG⟩ : ∃ G, w.heap.size = G := ⟨_, rfl⟩
  rw [hG] at hA hR
  have p0 := hA.p0
  have p1 := hA.p1
  have p2 := hA.p2
  have p3 := hA.p3
  have p4 := hA.p4
  have hGl := hR.lt
  clear hN hb0 hW hA hR hK hL hL1 hc hc2 ht hcn hr e0 hk6 hl hvl hnv
  have hps2 := text_no hps
  have hps3 : (p.toList == [42]) = false := by
    have h9 := text_no hps
    rw [show (⟨#[42]⟩ : ByteArray).toList = [42] by rw [Lib.toList_data]] at h9
    exact h9

  have hb00 := HB.out
  have hR00 : Bx (G + 1) (.int .i64 0) (.int .i64 0) (.string ⟨#[]⟩) (.slice none 0 0) (.slice none 0 0) W := by have h9 := HR.out; rw [hG] at h9; exact h9
  have HRX := Lib.hid hR00
  have q0 := hR00.p0
  have q1 := hR00.p1
  have q2 := hR00.p2
  have q3 := hR00.p3
  have q4 := hR00.p4
  have f0 := hR00.free 0
  have f1 := hR00.free 1
  have f2 := hR00.free 2
  have f3 := hR00.free 3
  have f4 := hR00.free 4
  have HPS := Lib.hid hps
  have hnum := N9.number_any p
  obtain ⟨o, ho⟩ : ∃ o, Tx.numL p.data.toList = o := ⟨_, rfl⟩
  rw [ho] at hnum
  have HNO : Hid (num9 p = o) := Lib.hid ho
  have HNM := Lib.hid hnum
  clear ho hb00 hR00 hps hnum
  cases o with
  | none =>
    have HE : Hid (followP num9 (p :: l) n = none) := Lib.hid (follow_n0 HK6.out HPS.out HNO.out)
    go_enter Tryd.func25, Tryd.ntmps25
    go_upto_region 1 with fail
    rw [HW.out]
    (try rw [hG])
    go_wp2_with fail
    refine (HNM.out _).mono ?_
    rintro e w1 ⟨rfl, rfl⟩
    unfold N9.numV
    go_wp2_with fail
    refine bodyPost_ret (find_result rfl _ rfl rfl (HRX.out.setAll _ _ _ _ _)) rfl ?_
    rw [HE.out]
    exact ⟨set5_below HB.out (by rw [hG]; exact Nat.le_succ _) _ _ _ _ _, rfl⟩
  | some i =>
    have HNM2 : Hid (∀ w1, Calls Tryd.prog 34 #[.string p] w1 fun e w' => e = .returned (.tuple #[.int .i64 (i : Int), .bool true]) ∧ w1 = w') := Lib.hid (fun w1 => HNM.out w1)
    clear HNM
    by_cases hi : i < n.kids.length
    rotate_left 1
    · have HE : Hid (followP num9 (p :: l) n = none) := Lib.hid (follow_n2 HK6.out HPS.out HNO.out hi)
      have gi : ¬ (i : Int) < (xm : Int) := by have := HNV.out; omega
      clear hi
      go_enter Tryd.func25, Tryd.ntmps25
      go_upto_region 1 with fail
      rw [HW.out]
      (try rw [hG])
      go_wp2_with fail
      refine (HNM2.out _).mono ?_
      rintro e w1 ⟨rfl, rfl⟩
      go_wp2_with fail
      refine bodyPost_ret (find_result rfl _ rfl rfl (HRX.out.setAll _ _ _ _ _)) rfl ?_
      rw [HE.out]
      exact ⟨set5_below HB.out (by rw [hG]; exact Nat.le_succ _) _ _ _ _ _, rfl⟩
    · have HE : Hid (followP num9 (p :: l) n = followP num9 l n.kids[i]) := Lib.hid (follow_n1 HK6.out HPS.out HNO.out hi)
      have gi : (i : Int) < (xm : Int) := by have := HNV.out; omega
      obtain ⟨bg, bo, bcap, e5, t1⟩ := kid_cells HN.out (fun e => by rw [e] at hi; exact absurd hi (Nat.not_lt_zero i))
      obtain ⟨d0, d1, d2, d3, d4, s0, s1, s2, s3, s4, hat⟩ := t1 i hi
      obtain ⟨k5, n5, t5, a5, l5, m5, b5, o5, q5, rfl, rfl, rfl, rfl, rfl⟩ := node_forms hat
      injection e5 with e51 e52 e53
      clear e52
      subst e51 e53
      have hfine := HF.out.kid i hi
      have bw : ∀ {a v}, w.cell? a = some v → W.cell? a = some v := fun {a v} h => (HB.out.cell (p := a) (World.block_lt_of_cell? w _ h)).trans h
      have y0 := bw s0
      rw [show bo + 5 * i = bo + i * 5 by omega] at y0
      have y1 := bw s1
      rw [show bo + (5 * i + 1) = bo + i * 5 + 1 by omega] at y1
      have y2 := bw s2
      rw [show bo + (5 * i + 2) = bo + i * 5 + 2 by omega] at y2
      have y3 := bw s3
      rw [show bo + (5 * i + 3) = bo + i * 5 + 3 by omega] at y3
      have y4 := bw s4
      rw [show bo + (5 * i + 4) = bo + i * 5 + 4 by omega] at y4
      obtain ⟨kd, hkd⟩ : ∃ kd, n.kids[i] = kd := ⟨_, rfl⟩
      rw [hkd] at HE hfine hat
      obtain ⟨r, hr⟩ : ∃ r, followP num9 l kd = r := ⟨_, rfl⟩
      have HIH : Hid (∀ (aw : Option Addr) (cw : Nat), (∀ w', Below w.heap.size w w' → KeysIn w' aw l) → l.length ≤ cw → cw ≤ 9223372036854775807 → Calls Tryd.prog 25 #[.agg #[.int .i64 k5, .int .i64 n5, .string t5, .slice a5 l5 m5, .slice b5 o5 q5], .slice aw (L - 1) cw] W.drew fun e w2 => ∃ k n t a3 n3 m3 a4 n4 m4 b, e = .returned (.tuple #[.agg #[.int .i64 k, .int .i64 n, .string t, .slice a3 n3 m3, .slice a4 n4 m4], .bool b]) ∧ Below W.heap.size W w2 ∧ Hid (FLeft P r w (.returned (.tuple #[.agg #[.int .i64 k, .int .i64 n, .string t, .slice a3 n3 m3, .slice a4 n4 m4], .bool b])) (putN w2 (G + 1) (.int .i64 k) (.int .i64 n) (.string t) (.slice a3 n3 m3) (.slice a4 n4 m4)))) := Lib.hid (fun aw cw h1 h2 h3 => by
        have hbd : Below w.heap.size w W.drew := HB.out.drew
        have e1 : L - 1 = l.length := by have := HL1.out; omega
        rw [e1]
        refine (ih (fun g => P g ∧ g < w.heap.size) kd (dd + 1) hfine.right hfine.tame hfine.few W.drew _ _ _ _ _ aw cw ((hat.keep (fun g hg hl => ⟨⟨hg, hl⟩, hbd.block g hl⟩))) (h1 _ hbd) (by have := HL1.out; omega) h2 h3).mono ?_
        intro e w2 hl
        rw [hr] at hl
        obtain ⟨k, n, t, a3, n3, m3, a4, n4, m4, b, rfl, hb, hf⟩ := left_put (G := G + 1) hbd (by rw [hG]; exact Nat.le_succ _) hGl hl
        exact ⟨_, _, _, _, _, _, _, _, _, _, rfl, ((Below.refl _ W).drew).trans hb, Lib.hid hf⟩)
      have HRR := Lib.hid hr
      clear hkd hfine hat hr hi t1 bw s0 s1 s2 s3 s4
      have HKT : Hid (∀ w', Below w.heap.size w w' → KeysIn w' (tailA (some ⟨ag, ao, none⟩) cap) l) := Lib.hid (fun w' h => keys_tail (KeysIn.below HK.out h) (by have := HL2.out; have := HHC.out; omega))
      have HLC : Hid (l.length ≤ cap - 1) := Lib.hid (by have := HL1.out; have := HHC.out; omega)
      by_cases hc1 : cap = 1
      · have HKT2 : Hid (∀ w', Below w.heap.size w w' → KeysIn w' (some ⟨ag, ao, none⟩) l) := Lib.hid (fun w' h => by have h9 := HKT.out w' h; unfold tailA at h9; rw [if_pos hc1] at h9; exact h9)
        have HLC2 : Hid (l.length ≤ 0) := Lib.hid (by have := HLC.out; omega)
        go_enter Tryd.func25, Tryd.ntmps25
        go_upto_region 1 with fail
        rw [HW.out]
        (try rw [hG])
        go_wp2_with fail
        refine (HNM2.out _).mono ?_
        rintro e w1 ⟨rfl, rfl⟩
        go_wp2_with fail
        go_region_with ((refine (HIH.out _ _ HKT2.out HLC2.out (by decide)).mono ?_); rintro e w2 ⟨k6, n6, t6, a6, l6, m6, b6, o6, q6, bb, rfl, hb6, HFL⟩; (have hR6 := HRX.out.same (hb6.block _ hGl)); (have s0 := hR6.free 0); (have s1 := hR6.free 1); (have s2 := hR6.free 2); (have s3 := hR6.free 3); (have s4 := hR6.free 4); (have u0 := hR6.p0); (have u1 := hR6.p1); (have u2 := hR6.p2); (have u3 := hR6.p3); (have u4 := hR6.p4))
        all_goals
          go_wp2_with fail
          refine bodyPost_ret (find_result rfl _ rfl rfl (hR6.setAll _ _ _ _ _)) rfl ?_
          rw [HE.out, HRR.out]
          exact HFL.out
      · have HKT2 : Hid (∀ w', Below w.heap.size w w' → KeysIn w' (some ⟨ag, ao + 1, none⟩) l) := Lib.hid (fun w' h => by have h9 := HKT.out w' h; unfold tailA at h9; rw [if_neg hc1] at h9; exact h9)
        have HCC : Hid (cap - 1 ≤ 9223372036854775807) := Lib.hid (by omega)
        go_enter Tryd.func25, Tryd.ntmps25
        go_upto_region 1 with fail
        rw [HW.out]
        (try rw [hG])
        go_wp2_with fail
        refine (HNM2.out _).mono ?_
        rintro e w1 ⟨rfl, rfl⟩
        go_wp2_with fail
        go_region_with ((refine (HIH.out _ _ HKT2.out HLC.out HCC.out).mono ?_); rintro e w2 ⟨k6, n6, t6, a6, l6, m6, b6, o6, q6, bb, rfl, hb6, HFL⟩; (have hR6 := HRX.out.same (hb6.block _ hGl)); (have s0 := hR6.free 0); (have s1 := hR6.free 1); (have s2 := hR6.free 2); (have s3 := hR6.free 3); (have s4 := hR6.free 4); (have u0 := hR6.p0); (have u1 := hR6.p1); (have u2 := hR6.p2); (have u3 := hR6.p3); (have u4 := hR6.p4))
        all_goals
          go_wp2_with fail
          refine bodyPost_ret (find_result rfl _ rfl rfl (hR6.setAll _ _ _ _ _)) rfl ?_
          rw [HE.out, HRR.out]
          exact HFL.out
end Go.Proofs.YtoofcclcimkipaaDoor.J9
namespace Go.Proofs.YtoofcclcimkipaaDoor.J9
open Go Go.RowKit Go.Joins Kit J7 Nds J8

set_option maxHeartbeats 8000000 in
set_option maxRecDepth 100000 in
theorem follow_leaf (p : ByteArray) (l : List ByteArray) (P : Nat → Prop) (n : J) (dd : Nat) (hr : RightIn dd n) (ht : Tame n) (hcn : cnt n ≤ 2000) (hk7 : n.kind ≠ 7) (hk6 : n.kind ≠ 6) (w : World) (c0 c1 c2 c3 c4 : Value) (al : Option Addr) (cap : Nat) (hN : NodeAt P w n (.agg #[c0, c1, c2, c3, c4])) (hK : KeysIn w al (p :: l)) (hl : (p :: l).length ≤ 1001) (hc : (p :: l).length ≤ cap) (hc2 : cap ≤ 9223372036854775807) :
    Calls Tryd.prog 25 #[.agg #[c0, c1, c2, c3, c4], .slice al (p :: l).length cap] w fun e w' => FLeft P (followP num9 (p :: l) n) w e w' := by
  obtain ⟨e0, -, -, -, -⟩ := node_cells hN
  obtain ⟨xk, xn, xt, xa, xl, xc, xb, xm, xd, rfl, rfl, rfl, rfl, rfl⟩ := node_forms hN
  obtain ⟨W, hW⟩ : ∃ W, ((w.alloc (.cells #[.int .i64 xk, .int .i64 xn, .string xt, .slice xa xl xc, .slice xb xm xd] 25)).alloc (.cells #[.int .i64 0, .int .i64 0, .string ⟨#[]⟩, .slice none 0 0, .slice none 0 0] 25)) = W := ⟨_, rfl⟩
  have hb0 : Below w.heap.size w W := by rw [← hW]; exact ((Below.refl _ w).alloc (Nat.le_refl _) _).alloc (by simp) _
  have hA : Bx w.heap.size (.int .i64 xk) (.int .i64 xn) (.string xt) (.slice xa xl xc) (.slice xb xm xd) W := by rw [← hW]; exact (Bx.made w _ _ _ _ _).alloc _
  have hR : Bx (w.heap.size + 1) (.int .i64 0) (.int .i64 0) (.string ⟨#[]⟩) (.slice none 0 0) (.slice none 0 0) W := by
    rw [← hW]
    have h9 := Bx.made (w.alloc (.cells #[.int .i64 xk, .int .i64 xn, .string xt, .slice xa xl xc, .slice xb xm xd] 25)) (.int .i64 0) (.int .i64 0) (.string ⟨#[]⟩) (.slice none 0 0) (.slice none 0 0)
    simpa using h9
  have e9 : xk = n.kind := by injection e0
  have k7 : (xk == 7) = false := by rw [beq_eq_false_iff_ne, e9]; exact hk7
  have k6 : (xk == 6) = false := by rw [beq_eq_false_iff_ne, e9]; exact hk6
  have HE : Hid (followP num9 (p :: l) n = none) := Lib.hid (by rw [followP, if_neg hk7, if_neg hk6])
  have HB := Lib.hid hb0
  have HN := Lib.hid hN
  have HK := Lib.hid hK
  have HF : Hid (Fine dd n) := Lib.hid ⟨hr, ht, hcn⟩
  obtain ⟨ag, ao, rfl, hp0⟩ := (hK.below hb0) 0 (by simp)
  simp only [Nat.add_zero, List.getElem_cons_zero] at hp0
  obtain ⟨L, hL⟩ : ∃ L, (p :: l).length = L := ⟨_, rfl⟩
  have hL1 : L = l.length + 1 := by rw [← hL]; rfl
  have HL1 := Lib.hid hL1
  rw [hL] at hl hc ⊢
  have g1 : (1 : Int) ≤ (L : Int) := by omega
  have g2 : (L : Int) ≤ (cap : Int) := by omega
  have g3 : (cap : Int) ≤ 9223372036854775807 := by omega
  have g4 : (L : Int) ≤ 1001 := by omega
  have g6 : (0 : Int) < (L : Int) := by omega
  have g7 : 0 < L := by omega
  have g8 : L ≠ 0 := by omega
  have g5 : ((L : Int) == 0) = false := by rw [beq_eq_false_iff_ne]; omega
  have HL2 := Lib.hid hL
  have HW := Lib.hid hW
  have HR := Lib.hid hR
  have HA := Lib.hid hA
  have HHC := Lib.hid hc
  obtain ⟨G, hG⟩ : ∃ G, w.heap.size = G := ⟨_, rfl⟩
  rw [hG] at hA hR
  have p0 := hA.p0
  have p1 := hA.p1
  have p2 := hA.p2
  have p3 := hA.p3
  have p4 := hA.p4
  have hGl := hR.lt
  clear hN hb0 hW hA hR hK hL hL1 hc hc2 ht hcn hr e0 hk6 hk7 hl e9
  have hR00 : Bx (G + 1) (.int .i64 0) (.int .i64 0) (.string ⟨#[]⟩) (.slice none 0 0) (.slice none 0 0) W := by have h9 := HR.out; rw [hG] at h9; exact h9
  have HRX := Lib.hid hR00
  have q0 := hR00.p0
  have q1 := hR00.p1
  have q2 := hR00.p2
  have q3 := hR00.p3
  have q4 := hR00.p4
  have f0 := hR00.free 0
  have f1 := hR00.free 1
  have f2 := hR00.free 2
  have f3 := hR00.free 3
  have f4 := hR00.free 4
  clear hR00
  go_enter Tryd.func25, Tryd.ntmps25
  go_upto_region 1 with fail
  rw [HW.out]
  (try rw [hG])
  go_wp2_with fail
  refine bodyPost_ret (find_result rfl _ rfl rfl (HRX.out.setAll _ _ _ _ _)) rfl ?_
  rw [HE.out]
  exact ⟨set5_below HB.out (by rw [hG]; exact Nat.le_succ _) _ _ _ _ _, rfl⟩
end Go.Proofs.YtoofcclcimkipaaDoor.J9
namespace Go.Proofs.YtoofcclcimkipaaDoor.J9
open Go Go.RowKit Go.Joins Kit J7 J8

theorem kids_one {P : Nat → Prop} {w : World} : ∀ {l : List J} {cs : List Value}, KidsAt P w l cs → ∀ u ∈ cs, u.oneCell' = true
  | [], cs, h, u, hu => by
    rw [KidsAt] at h
    subst h
    cases hu
  | j :: r, cs, h, u, hu => by
    rw [KidsAt] at h
    obtain ⟨c0, c1, c2, c3, c4, t, rfl, h1, h2⟩ := h
    simp only [List.mem_cons] at hu
    have h3 := node_one h1
    rcases hu with rfl | rfl | rfl | rfl | rfl | hu
    · exact h3 _ (by simp)
    · exact h3 _ (by simp)
    · exact h3 _ (by simp)
    · exact h3 _ (by simp)
    · exact h3 _ (by simp)
    · exact kids_one h2 u hu
theorem kids_app {P : Nat → Prop} {w : World} : ∀ {l l' : List J} {cs cs' : List Value}, KidsAt P w l cs → KidsAt P w l' cs' → KidsAt P w (l ++ l') (cs ++ cs')
  | [], l', cs, cs', h, h' => by
    rw [KidsAt] at h
    subst h
    exact h'
  | j :: r, l', cs, cs', h, h' => by
    rw [KidsAt] at h
    obtain ⟨c0, c1, c2, c3, c4, t, rfl, h1, h2⟩ := h
    rw [List.cons_append, KidsAt]
    exact ⟨c0, c1, c2, c3, c4, t ++ cs', rfl, h1, kids_app h2 h'⟩
/-- The kids so far: a row of the call's own, and what its cells lead to, in other blocks of P. -/
def KidsQ (P : Nat → Prop) (B : Nat) (v : Value) (kids : List J) (w : World) : Prop :=
  ∃ cs, w.ownsRow B 25 5 v kids.length cs ∧ KidsAt (fun g => P g ∧ v.ownBlock ≠ some g) w kids cs
theorem KidsQ.new (P : Nat → Prop) (B : Nat) (w : World) : KidsQ P B (.slice none 0 0) [] w := ⟨[], ⟨rfl, Or.inl ⟨rfl, rfl⟩⟩, kids_nil⟩
theorem KidsQ.same {P : Nat → Prop} {B : Nat} {v : Value} {kids : List J} {w w' : World} (h : KidsQ P B v kids w) (hk : ∀ g, g < w.heap.size → w'.heap[g]? = w.heap[g]?) : KidsQ P B v kids w' := by
  obtain ⟨cs, h1, h2⟩ := h
  exact ⟨cs, own_keep8 h1 (fun g hg hl => hk g hl), h2.keep (fun g hg hl => ⟨hg, hk g hl⟩)⟩
/-- .. where neither its own block nor those it leads to are touched. -/
theorem KidsQ.same2 {P : Nat → Prop} {B : Nat} {v : Value} {kids : List J} {w w' : World} (h : KidsQ P B v kids w) (hk : ∀ g, P g ∨ B ≤ g → g < w.heap.size → w'.heap[g]? = w.heap[g]?) : KidsQ P B v kids w' := by
  obtain ⟨cs, h1, h2⟩ := h
  exact ⟨cs, own_keep8 h1 (fun g hg hl => hk g (Or.inr (h1.lt g hg).1) hl), h2.keep (fun g hg hl => ⟨hg, hk g (Or.inl hg.1) hl⟩)⟩
/-- The row of kids of a value that has some. -/
theorem kids_row {P : Nat → Prop} {w : World} {j : J} {c0 c1 c2 c3 : Value} {b : Option Addr} {n m : Nat} (h : NodeAt P w j (.agg #[c0, c1, c2, c3, .slice b n m])) (hk : j.kids ≠ []) :
    ∃ ad news, b = some ad ∧ n = j.kids.length ∧ KidsAt P w j.kids news ∧ ∀ q u, news[q]? = some u → w.cell? (ad.add q) = some u := by
  obtain ⟨k, nn, t, keys, kids⟩ := j
  rw [NodeAt] at h
  obtain ⟨kv, vv, e, _, cs, h3, h4⟩ := h
  injection e with e
  have e4 := congrArg (fun x : Array Value => x[4]?) e
  simp at e4
  have hlen := kids_length h4
  rcases h3 with ⟨_, hn, _⟩ | ⟨g, o, cap, hv, hc⟩
  · exact absurd (List.eq_nil_of_length_eq_zero hn) hk
  · rw [hv] at e4
    injection e4 with e1 e2 e3
    refine ⟨_, cs, e1, e2, h4, fun q u hq => ?_⟩
    obtain ⟨hql, hqe⟩ := List.getElem?_eq_some_iff.1 hq
    rw [← hqe, Addr.add_lit]
    exact (hc q hql).2
theorem KidsQ.form {P : Nat → Prop} {B : Nat} {v : Value} {kids : List J} {w : World} (h : KidsQ P B v kids w) : ∃ ao cap, v = .slice ao kids.length cap := by
  obtain ⟨cs, h1, _⟩ := h
  exact own_form8 h1
theorem KidsQ.own {P : Nat → Prop} {B : Nat} {v : Value} {kids : List J} {w : World} (h : KidsQ P B v kids w) {g : Nat} (hg : v.ownBlock = some g) : B ≤ g ∧ g < w.heap.size := by
  obtain ⟨cs, h1, _⟩ := h
  exact h1.lt g hg
theorem KidsQ.apps {ops : Array Oper} {rest : List Oper} {o : Oper} {a : Act} {Q : Exit → Act → World → Prop} (hgd : o.guard = none) (sl x : Operand)
    (ho : o.op = .call { callee := .builtin .append, args := #[sl, x], argTypes := #[23, 23] })
    (P : Nat → Prop) (B : Nat) (w : World) (v : Value) (kids ks : List J) (news : List Value) (hK : KidsQ P B v kids w) (hn : KidsAt (fun g => P g ∧ v.ownBlock ≠ some g) w ks news) (ad : Addr) (hnews : ∀ j u, news[j]? = some u → w.cell? (ad.add j) = some u) (c : Nat)
    (hs : a.eval sl = v) (hx : a.eval x = .slice (some ad) ks.length c) (hm : 0 < ks.length) (hlen : kids.length + ks.length ≤ 65536) (hsz : B ≤ w.heap.size)
    (h : ∀ g c w', KidsQ P B (.slice (some ⟨g, 0, none⟩) (kids.length + ks.length) c) (kids ++ ks) w' → w.grownBy w' v.ownBlock → (v.ownBlock = some g ∨ g = w.heap.size) → wpList Tryd.prog ops Q rest (a.put o.dst (.slice (some ⟨g, 0, none⟩) (kids.length + ks.length) c)) w') :
    wpList Tryd.prog ops Q (o :: rest) a w := by
  obtain ⟨i0, hi, hz0, hz1, hz2⟩ := info_parts info8N
  obtain ⟨cs, hown, hkids⟩ := hK
  refine wpList_append_lies w hgd sl x 23 ho B 25 i0 _ 5 80 Tryd.underlying23 hi hz0 hz1 hz2 rfl (by decide) v kids.length cs hs hown ad ks.length c news hx (by rw [kids_length hn, Nat.mul_comm]) hnews (kids_one hn) hm ?_ ?_ hsz w.heap.size rfl ?_
  · unfold maxLen; omega
  · omega
  · intro g c w' ho' hg hat _
    refine h g c w' ⟨cs ++ news, ?_, ?_⟩ hg hat
    · rw [List.length_append]; exact ho'
    · have hkp : Kept (fun g => P g ∧ v.ownBlock ≠ some g) (fun k => P k ∧ (Value.slice (some ⟨g, 0, none⟩) (kids.length + ks.length) c).ownBlock ≠ some k) w w' := fun k hk hl => by
        obtain ⟨k1, k2⟩ := hk
        refine ⟨⟨k1, ?_⟩, hg.block k hl (fun e => k2 e.symm)⟩
        intro e
        have hgk : g = k := by simpa [Value.ownBlock] using e
        subst hgk
        rcases hat with hat | hat
        · exact k2 hat
        · omega
      exact kids_app (hkids.keep hkp) (hn.keep hkp)
end Go.Proofs.YtoofcclcimkipaaDoor.J9
namespace Go.Proofs.YtoofcclcimkipaaDoor.J9
open Go Go.RowKit Go.Joins Kit J7 J8

theorem collect_snoc {f : J → Option J} {k x : J} (hk : f k = some x) : ∀ {l ks : List J}, collect f l = some ks → collect f (l ++ [k]) = some (ks ++ flatJ x)
  | [], ks, h => by
    rw [collect] at h
    injection h with h
    subst h
    rw [List.nil_append, collect, hk, collect]
    simp
  | j :: r, ks, h => by
    rw [collect] at h
    cases hj : f j with
    | none => rw [hj] at h; cases h
    | some y =>
      rw [hj] at h
      cases hr : collect f r with
      | none => rw [hr] at h; cases h
      | some t =>
        rw [hr] at h
        injection h with h
        subst h
        rw [List.cons_append, collect, hj, collect_snoc hk hr]
        simp
theorem collect_none {f : J → Option J} {k : J} (hk : f k = none) : ∀ {l : List J}, k ∈ l → collect f l = none
  | [], h => by cases h
  | j :: r, h => by
    rw [collect]
    rcases List.mem_cons.1 h with h | h
    · subst h
      rw [hk]
    · cases f j with
      | none => rfl
      | some y => simp only [collect_none hk h]
theorem collect_next {f : J → Option J} {l ks : List J} {i : Nat} {x : J} (hi : i < l.length) (h : collect f (l.take i) = some ks) (hx : f l[i] = some x) : collect f (l.take (i + 1)) = some (ks ++ flatJ x) := by
  rw [List.take_succ_eq_append_getElem hi]
  exact collect_snoc hx h
/-- What is collected of few is few. -/
theorem collect_few {num : ByteArray → Option Nat} {p : List ByteArray} {kids ks : List J} {i : Nat} (h : collect (followP num p) (kids.take i) = some ks) : ks.length ≤ cnts kids := by
  have h1 := collect_le (fun k _ x hx => follow_le hx) h
  have h2 := len_cnts ks
  have h3 : cnts kids = cnts (kids.take i) + cnts (kids.drop i) := by rw [← cnts_append, List.take_append_drop]
  omega
theorem star_follow {num : ByteArray → Option Nat} {l : List ByteArray} {n : J} (h6 : n.kind = 6) : followP num (starB :: l) n = match collect (followP num l) n.kids with | none => none | some ks => some (arrK ks) := by
  rw [followP, if_neg (by rw [h6]; decide), if_pos h6, if_pos rfl] <;> (cases collect (followP num l) n.kids <;> rfl)
/-- An array of the row. -/
theorem arr_at {P PQ : Nat → Prop} {B : Nat} {w : World} {v : Value} {ks : List J} (h : KidsQ PQ B v ks w) (hP : ∀ g, PQ g → P g) (hB : ∀ g, B ≤ g → P g) : NodeAt P w (arrK ks) (.agg #[.int .i64 6, .int .i64 0, .string ⟨#[]⟩, .slice none 0 0, v]) := by
  obtain ⟨cs, h1, h2⟩ := h
  unfold arrK
  rw [NodeAt]
  exact ⟨_, _, rfl, Or.inl ⟨⟨_, _, rfl⟩, rfl, rfl⟩, cs, cells_own h1 hB, h2.keep (kept_mono (fun g hg => hP g hg.1))⟩
/-- An append of nothing: the row as it was. -/
theorem run_append_zero {w : World} (t ty e : TypeId) (i : TypeInfo) (size base : Nat) (ht : Tryd.prog.underlying t = some (.slice e)) (hi : Tryd.prog.info? e = some i) (v : Value) (n : Nat) (xs : List Value) (hown : w.ownsRow base e size v n xs) (b : Option Addr) (c : Nat) :
    (Builtin.append_ #[t, t] ty #[v, .slice b 0 c]).run Tryd.prog w = .ok v w := by
  rcases hown.2 with ⟨rfl, rfl⟩ | ⟨g, cap, cur, rfl, _, _, hnc, _⟩
  · cases b <;> simp [Builtin.append_, run_underlying ht, sizeOf, typeInfo, hi, Builtin.lenOf, Builtin.firstCells, loadCells, loadCellsFrom]
  · cases b <;> simp [Builtin.append_, run_underlying ht, sizeOf, typeInfo, hi, Builtin.lenOf, Builtin.firstCells, loadCells, loadCellsFrom, hnc, storeCells]
theorem wpList_append_zero {w : World} {ops : Array Oper} {rest : List Oper} {o : Oper} {a : Act} {Q : Exit → Act → World → Prop} (hg : o.guard = none) (s x : Operand) (t e : TypeId) (hop : o.op = Op.call { callee := Callee.builtin Builtin.append, args := #[s, x], argTypes := #[t, t] })
    (i : TypeInfo) (size base : Nat) (ht : Tryd.prog.underlying t = some (.slice e)) (hi : Tryd.prog.info? e = some i) (v : Value) (n : Nat) (xs : List Value) (hs : a.eval s = v) (hown : w.ownsRow base e size v n xs) (b : Option Addr) (c : Nat) (hx : a.eval x = .slice b 0 c)
    (hK : wpList Tryd.prog ops Q rest (a.put o.dst v) w) : wpList Tryd.prog ops Q (o :: rest) a w := by
  refine wpList_plain hg fun K hK' => ?_
  have hrun := run_append_zero t o.type e i size base ht hi v n xs hown b c
  unfold Oper.wp
  simp [execOp, hop, resolve, invoke, builtin, hs, hx, hrun, Result.andThen]
  exact hK' _ _ hK
end Go.Proofs.YtoofcclcimkipaaDoor.J9
namespace Go.Proofs.YtoofcclcimkipaaDoor.J9
open Go Go.RowKit Go.Joins Kit J7 Nds J8

/-- What parts led to, beside a variable that was made behind it, or ahead of it. -/
theorem left_new {P : Nat → Prop} {G : Nat} {wr w5 : World} {bb : Bool} {r : Option J} {v d0 d1 d2 d3 d4 : Value} (_hb : Below wr.drew.heap.size wr.drew w5) (h : Hid ((bb = true → ∃ x, r = some x ∧ NodeAt (fun g => (P g ∧ g < G) ∨ wr.drew.heap.size ≤ g) w5 x v) ∧ (bb = false → r = none))) :
    Hid ((bb = true → ∃ x, r = some x ∧ NodeAt (fun z => (P z ∧ z < G) ∨ (wr.heap.size ≤ z ∧ z ≠ w5.heap.size)) (w5.alloc (.cells #[d0, d1, d2, d3, d4] 25)) x v) ∧ (bb = false → r = none)) := Lib.hid ⟨fun hbb => by
      obtain ⟨x, hx, hat⟩ := h.out.1 hbb
      refine ⟨x, hx, hat.keep (fun g hg hl => ⟨?_, Below.heap_alloc w5 _ g hl⟩)⟩
      rcases hg with hg | hg
      · exact Or.inl hg
      · exact Or.inr ⟨hg, by omega⟩, h.out.2⟩
theorem left_old {P : Nat → Prop} {G : Nat} {wr w5 : World} {o : Obj} {bb : Bool} {r : Option J} {v d0 d1 d2 d3 d4 : Value} (hG : G < wr.heap.size) (h : Hid ((bb = true → ∃ x, r = some x ∧ NodeAt (fun g => (P g ∧ g < G) ∨ (World.drew (World.alloc wr o)).heap.size ≤ g) w5 x v) ∧ (bb = false → r = none))) :
    Hid ((bb = true → ∃ x, r = some x ∧ NodeAt (fun z => (P z ∧ z < G) ∨ (wr.heap.size ≤ z ∧ z ≠ wr.heap.size)) (putN w5 wr.heap.size d0 d1 d2 d3 d4) x v) ∧ (bb = false → r = none)) := Lib.hid ⟨fun hbb => by
      obtain ⟨x, hx, hat⟩ := h.out.1 hbb
      have hz : (World.drew (World.alloc wr o)).heap.size = wr.heap.size + 1 := by simp
      refine ⟨x, hx, hat.keep (fun g hg hl => ⟨?_, putN_block w5 wr.heap.size _ _ _ _ _ g ?_⟩)⟩
      · rcases hg with hg | hg
        · exact Or.inl hg
        · exact Or.inr ⟨by omega, by omega⟩
      · rcases hg with hg | hg
        · have := hg.2; omega
        · omega, h.out.2⟩
/-- A store into the array's own variable leaves the row. -/
theorem kids_set {P PQ : Nat → Prop} {G H : Nat} {v u : Value} {ks : List J} {w : World} (h : KidsQ PQ (H + 1) v ks w) (hP : (fun g => (P g ∧ g < G) ∨ H + 1 ≤ g) = PQ) (hGH : G + 1 < H) : KidsQ PQ (H + 1) v ks (w.setCell ⟨H, 4, none⟩ u) :=
  h.same2 (fun g hg _ => Below.heap_setCell _ _ _ _ (by
    rw [← hP] at hg
    rcases hg with (hg | hg) | hg
    · have := hg.2; show g ≠ H; omega
    · show g ≠ H; omega
    · show g ≠ H; omega))
set_option maxHeartbeats 8000000 in
set_option maxRecDepth 100000 in
theorem follow_star (p : ByteArray) (hps : p = starB) (l : List ByteArray) (ih : FollowOk l) (P : Nat → Prop) (n : J) (dd : Nat) (hr : RightIn dd n) (ht : Tame n) (hcn : cnt n ≤ 2000) (hk6 : n.kind = 6) (w : World) (c0 c1 c2 c3 c4 : Value) (al : Option Addr) (cap : Nat) (hN : NodeAt P w n (.agg #[c0, c1, c2, c3, c4])) (hK : KeysIn w al (p :: l)) (hl : (p :: l).length ≤ 1001) (hc : (p :: l).length ≤ cap) (hc2 : cap ≤ 9223372036854775807) :
    Calls Tryd.prog 25 #[.agg #[c0, c1, c2, c3, c4], .slice al (p :: l).length cap] w fun e w' => FLeft P (followP num9 (p :: l) n) w e w' := by
  obtain ⟨e0, -, -, -, ⟨a4', m4', e4⟩⟩ := node_cells hN
  obtain ⟨xk, xn, xt, xa, xl, xc, xb, xm, xd, rfl, rfl, rfl, rfl, rfl⟩ := node_forms hN
  obtain ⟨W, hW⟩ : ∃ W, ((w.alloc (.cells #[.int .i64 xk, .int .i64 xn, .string xt, .slice xa xl xc, .slice xb xm xd] 25)).alloc (.cells #[.int .i64 0, .int .i64 0, .string ⟨#[]⟩, .slice none 0 0, .slice none 0 0] 25)) = W := ⟨_, rfl⟩
  have hb0 : Below w.heap.size w W := by rw [← hW]; exact ((Below.refl _ w).alloc (Nat.le_refl _) _).alloc (by simp) _
  have hA : Bx w.heap.size (.int .i64 xk) (.int .i64 xn) (.string xt) (.slice xa xl xc) (.slice xb xm xd) W := by rw [← hW]; exact (Bx.made w _ _ _ _ _).alloc _
  have hR : Bx (w.heap.size + 1) (.int .i64 0) (.int .i64 0) (.string ⟨#[]⟩) (.slice none 0 0) (.slice none 0 0) W := by
    rw [← hW]
    have h9 := Bx.made (w.alloc (.cells #[.int .i64 xk, .int .i64 xn, .string xt, .slice xa xl xc, .slice xb xm xd] 25)) (.int .i64 0) (.int .i64 0) (.string ⟨#[]⟩) (.slice none 0 0) (.slice none 0 0)
    simpa using h9
  obtain rfl : xk = 6 := by
    injection e0 with _ e0
    rw [e0]; exact hk6
  obtain ⟨nv, hnv⟩ : ∃ nv, n.kids.length = nv := ⟨_, rfl⟩
  rw [hnv] at e4
  injection e4 with e41 e42 e43
  subst e41 e42 e43
  have HNV := Lib.hid hnv
  have hvl : n.kids.length ≤ 65536 := by cases ht; assumption
  have gnv : (xm : Int) ≤ 65536 := by omega
  have HK6 := Lib.hid hk6
  have HB := Lib.hid hb0
  have HN := Lib.hid hN
  have HK := Lib.hid hK
  have HF : Hid (Fine dd n) := Lib.hid ⟨hr, ht, hcn⟩
  obtain ⟨ag, ao, rfl, hp0⟩ := (hK.below hb0) 0 (by simp)
  simp only [Nat.add_zero, List.getElem_cons_zero] at hp0
  obtain ⟨L, hL⟩ : ∃ L, (p :: l).length = L := ⟨_, rfl⟩
  have hL1 : L = l.length + 1 := by rw [← hL]; rfl
  have HL1 := Lib.hid hL1
  rw [hL] at hl hc ⊢
  have g1 : (1 : Int) ≤ (L : Int) := by omega
  have g2 : (L : Int) ≤ (cap : Int) := by omega
  have g3 : (cap : Int) ≤ 9223372036854775807 := by omega
  have g4 : (L : Int) ≤ 1001 := by omega
  have g6 : (0 : Int) < (L : Int) := by omega
  have g7 : 0 < L := by omega
  have g8 : L ≠ 0 := by omega
  have g5 : ((L : Int) == 0) = false := by rw [beq_eq_false_iff_ne]; omega
  have HL2 := Lib.hid hL
  have HW := Lib.hid hW
  have HR := Lib.hid hR
  have HA := Lib.hid hA
  have HHC := Lib.hid hc
  obtain ⟨G, hG⟩ : ∃ G, w.heap.size = G := ⟨_, rfl⟩
  rw [hG] at hA hR
  have p0 := hA.p0
  have p1 := hA.p1
  have p2 := hA.p2
  have p3 := hA.p3
  have p4 := hA.p4
  have hGl := hR.lt
  clear hN hb0 hW hA hR hK hL hL1 hc hc2 ht hcn hr e0 hk6 hl hvl hnv
  have hps3 : (p.toList == [42]) = true := by
    rw [hps, show (starB : ByteArray).toList = [42] by unfold starB; rw [Lib.toList_data]]
    rfl
  have hR00 : Bx (G + 1) (.int .i64 0) (.int .i64 0) (.string ⟨#[]⟩) (.slice none 0 0) (.slice none 0 0) W := by have h9 := HR.out; rw [hG] at h9; exact h9
  have HRX := Lib.hid hR00
  have q0 := hR00.p0
  have q1 := hR00.p1
  have q2 := hR00.p2
  have q3 := hR00.p3
  have q4 := hR00.p4
  have f0 := hR00.free 0
  have f1 := hR00.free 1
  have f2 := hR00.free 2
  have f3 := hR00.free 3
  have f4 := hR00.free 4
  have HPS := Lib.hid hps
  clear hR00 hps
  have HWS : Hid (w.heap.size = G) := Lib.hid hG
  obtain ⟨H, hH⟩ : ∃ H, W.heap.size = H := ⟨_, rfl⟩
  have hGH : G + 1 < H := by rw [← hH]; exact hGl
  have HHH := Lib.hid hH
  obtain ⟨PQ, hPQ⟩ : ∃ PQ : Nat → Prop, (fun g => (P g ∧ g < G) ∨ H + 1 ≤ g) = PQ := ⟨_, rfl⟩
  have HPQ := Lib.hid hPQ
  have HK0 : Hid (KidsQ PQ (H + 1) (.slice none 0 0) [] (newN W 6)) := Lib.hid (KidsQ.new _ _ _)
  have HB0 : Hid (Below W.heap.size W (newN W 6)) := Lib.hid ((Below.refl _ W).alloc (Nat.le_refl _) _)
  have HX0 : Hid (Bx H (.int .i64 6) (.int .i64 0) (.string { data := #[] }) (.slice none 0 0) (.slice none 0 0) (newN W 6)) := Lib.hid (by rw [← hH]; exact newN_bx W 6)
  have HZ0 : Hid (H + 1 ≤ (newN W 6).heap.size) := Lib.hid (by rw [newN_size, hH]; exact Nat.le_refl _)
  clear hH hPQ hG
  go_enter Tryd.func25, Tryd.ntmps25
  go_upto_region 1 with fail
  rw [HW.out]
  (try rw [HWS.out])
  go_wp2_with fail
  try rw [HHH.out]
  go_loopg [9] (xm + 1) (fun m v wr => ∃ (i : Nat) (v8 : Value) (ks : List J), m = xm + 1 - i ∧ v = .int .i64 i ∧ i ≤ xm ∧ Below W.heap.size W wr ∧ H + 1 ≤ wr.heap.size ∧ Bx H (.int .i64 6) (.int .i64 0) (.string { data := #[] }) (.slice none 0 0) v8 wr ∧ KidsQ PQ (H + 1) v8 ks wr ∧ Hid (collect (followP num9 l) (n.kids.take i) = some ks))
  case atStart => exact ⟨0, _, [], rfl, rfl, Nat.zero_le _, HB0.out, HZ0.out, HX0.out, HK0.out, Lib.hid (by rw [List.take_zero, collect])⟩
  case round =>
    clear p0 p1 p2 p3 p4 q0 q1 q2 q3 q4 f0 f1 f2 f3 f4
    obtain ⟨i, v8, ks, rfl, rfl, hi, hb, hz, hx8, hkq, HC⟩ := hrel
    have hAx := HA.out.same (hb.block _ (by rw [HWS.out, HHH.out]; omega))
    rw [HWS.out] at hAx
    have p4 := hAx.p4
    by_cases hlt : i < xm
    · have gi : (i : Int) < (xm : Int) := by omega
      have hin : i < n.kids.length := by have := HNV.out; omega
      have hbw : Below w.heap.size w wr := HB.out.trans (hb.mono HB.out.size)
      obtain ⟨bg, bo, bcap, e5, tt⟩ := kid_cells HN.out (fun e => by rw [e] at hin; exact absurd hin (Nat.not_lt_zero i))
      obtain ⟨d0, d1, d2, d3, d4, s0, s1, s2, s3, s4, hat⟩ := tt i hin
      obtain ⟨k1, n1, t1, a1, l1, m1, b1, o1, q1, rfl, rfl, rfl, rfl, rfl⟩ := node_forms hat
      injection e5 with e51 e52 e53
      clear e52 tt
      subst e51 e53
      have hfine := HF.out.kid i hin
      have bw : ∀ {a v}, w.cell? a = some v → wr.cell? a = some v := fun {a v} h => (hbw.cell (p := a) (World.block_lt_of_cell? w _ h)).trans h
      have y0 := bw s0
      rw [show bo + 5 * i = bo + i * 5 by omega] at y0
      have y1 := bw s1
      rw [show bo + (5 * i + 1) = bo + i * 5 + 1 by omega] at y1
      have y2 := bw s2
      rw [show bo + (5 * i + 2) = bo + i * 5 + 2 by omega] at y2
      have y3 := bw s3
      rw [show bo + (5 * i + 3) = bo + i * 5 + 3 by omega] at y3
      have y4 := bw s4
      rw [show bo + (5 * i + 4) = bo + i * 5 + 4 by omega] at y4
      have HKM : Hid (n.kids[i] ∈ n.kids) := Lib.hid (List.getElem_mem hin)
      have HNX : Hid (∀ x, followP num9 l n.kids[i] = some x → collect (followP num9 l) (n.kids.take (i + 1)) = some (ks ++ flatJ x)) := Lib.hid (fun x hx => collect_next hin HC.out hx)
      obtain ⟨kd, hkd⟩ : ∃ kd, n.kids[i] = kd := ⟨_, rfl⟩
      rw [hkd] at hfine hat HKM HNX
      have HIH : Hid (∀ (aw : Option Addr) (cw : Nat), (∀ w', Below w.heap.size w w' → KeysIn w' aw l) → l.length ≤ cw → cw ≤ 9223372036854775807 → ∀ w', Below wr.heap.size wr w' → Calls Tryd.prog 25 #[.agg #[.int .i64 k1, .int .i64 n1, .string t1, .slice a1 l1 m1, .slice b1 o1 q1], .slice aw (L - 1) cw] w' fun e w2 => ∃ k n t a3 n3 m3 a4 n4 m4 b, e = .returned (.tuple #[.agg #[.int .i64 k, .int .i64 n, .string t, .slice a3 n3 m3, .slice a4 n4 m4], .bool b]) ∧ Below w'.heap.size w' w2 ∧ Hid ((b = true → ∃ x, followP num9 l kd = some x ∧ NodeAt (fun g => (P g ∧ g < G) ∨ w'.heap.size ≤ g) w2 x (.agg #[.int .i64 k, .int .i64 n, .string t, .slice a3 n3 m3, .slice a4 n4 m4])) ∧ (b = false → followP num9 l kd = none))) := Lib.hid (fun aw cw h1 h2 h3 w' hw' => by
        have hbd : Below w.heap.size w w' := hbw.trans (hw'.mono hbw.size)
        have e1 : L - 1 = l.length := by have := HL1.out; omega
        rw [e1]
        refine (ih (fun g => P g ∧ g < G) kd (dd + 1) hfine.right hfine.tame hfine.few w' _ _ _ _ _ aw cw ((hat.keep (fun g hg hl => ⟨⟨hg, by rw [← HWS.out]; exact hl⟩, hbd.block g hl⟩))) (h1 _ hbd) (by have := HL1.out; omega) h2 h3).mono ?_
        rintro e w2 ⟨hl1, hl2⟩
        cases hr : followP num9 l kd with
        | none =>
          rw [hr] at hl2
          exact ⟨_, _, _, _, _, _, _, _, _, _, hl2, hl1, Lib.hid ⟨fun h => (by cases h), fun _ => rfl⟩⟩
        | some x =>
          rw [hr] at hl2
          obtain ⟨k, m, t, a3, n3, m3, a4, n4, m4, e2, hx⟩ := hl2
          exact ⟨_, _, _, _, _, _, _, _, _, _, e2, hl1, Lib.hid ⟨fun _ => ⟨x, rfl, hx⟩, fun h => (by cases h)⟩⟩)
      have HKT : Hid (∀ w', Below w.heap.size w w' → KeysIn w' (tailA (some ⟨ag, ao, none⟩) cap) l) := Lib.hid (fun w' h => keys_tail (KeysIn.below HK.out h) (by have := HL2.out; have := HHC.out; omega))
      have HLC : Hid (l.length ≤ cap - 1) := Lib.hid (by have := HL1.out; have := HHC.out; omega)
      have HCC : Hid (cap - 1 ≤ 9223372036854775807) := Lib.hid (by omega)
      have HCALL : Hid (∀ w', Below wr.heap.size wr w' → Calls Tryd.prog 25 #[.agg #[.int .i64 k1, .int .i64 n1, .string t1, .slice a1 l1 m1, .slice b1 o1 q1], .slice (tailA (some ⟨ag, ao, none⟩) cap) (L - 1) (cap - 1)] w' fun e w2 => ∃ k n t a3 n3 m3 a4 n4 m4 b, e = .returned (.tuple #[.agg #[.int .i64 k, .int .i64 n, .string t, .slice a3 n3 m3, .slice a4 n4 m4], .bool b]) ∧ Below w'.heap.size w' w2 ∧ Hid ((b = true → ∃ x, followP num9 l kd = some x ∧ NodeAt (fun g => (P g ∧ g < G) ∨ w'.heap.size ≤ g) w2 x (.agg #[.int .i64 k, .int .i64 n, .string t, .slice a3 n3 m3, .slice a4 n4 m4])) ∧ (b = false → followP num9 l kd = none))) := Lib.hid (fun w' h => HIH.out _ _ HKT.out HLC.out HCC.out w' h)
      have HBW := Lib.hid hbw
      have HBR := Lib.hid hb
      have HX8 := Lib.hid hx8
      have HKQ := Lib.hid hkq
      have hSof : Hid (∀ w', Below wr.heap.size wr w' → (Below wr.heap.size wr w' ∧ w'.cell? ⟨G, 4, none⟩ = some (.slice (some ⟨bg, bo, none⟩) xm xd) ∧ w'.cell? ⟨bg, bo + i * 5, none⟩ = some (.int .i64 k1) ∧ w'.cell? ⟨bg, bo + i * 5 + 1, none⟩ = some (.int .i64 n1) ∧ w'.cell? ⟨bg, bo + i * 5 + 2, none⟩ = some (.string t1) ∧ w'.cell? ⟨bg, bo + i * 5 + 3, none⟩ = some (.slice a1 l1 m1) ∧ w'.cell? ⟨bg, bo + i * 5 + 4, none⟩ = some (.slice b1 o1 q1))) := Lib.hid (fun w' h => ⟨h, (h.cell (p := ⟨G, 4, none⟩) (World.block_lt_of_cell? wr _ p4)).trans p4, (h.cell (World.block_lt_of_cell? wr _ y0)).trans y0, (h.cell (World.block_lt_of_cell? wr _ y1)).trans y1, (h.cell (World.block_lt_of_cell? wr _ y2)).trans y2, (h.cell (World.block_lt_of_cell? wr _ y3)).trans y3, (h.cell (World.block_lt_of_cell? wr _ y4)).trans y4⟩)
      have HS0 : Hid (Below wr.heap.size wr wr.drew ∧ wr.drew.cell? ⟨G, 4, none⟩ = some (.slice (some ⟨bg, bo, none⟩) xm xd) ∧ wr.drew.cell? ⟨bg, bo + i * 5, none⟩ = some (.int .i64 k1) ∧ wr.drew.cell? ⟨bg, bo + i * 5 + 1, none⟩ = some (.int .i64 n1) ∧ wr.drew.cell? ⟨bg, bo + i * 5 + 2, none⟩ = some (.string t1) ∧ wr.drew.cell? ⟨bg, bo + i * 5 + 3, none⟩ = some (.slice a1 l1 m1) ∧ wr.drew.cell? ⟨bg, bo + i * 5 + 4, none⟩ = some (.slice b1 o1 q1)) := Lib.hid (hSof.out _ ((Below.refl _ wr).drew))
      have HS1 : Hid (∀ w1 o, (Below wr.heap.size wr w1 ∧ w1.cell? ⟨G, 4, none⟩ = some (.slice (some ⟨bg, bo, none⟩) xm xd) ∧ w1.cell? ⟨bg, bo + i * 5, none⟩ = some (.int .i64 k1) ∧ w1.cell? ⟨bg, bo + i * 5 + 1, none⟩ = some (.int .i64 n1) ∧ w1.cell? ⟨bg, bo + i * 5 + 2, none⟩ = some (.string t1) ∧ w1.cell? ⟨bg, bo + i * 5 + 3, none⟩ = some (.slice a1 l1 m1) ∧ w1.cell? ⟨bg, bo + i * 5 + 4, none⟩ = some (.slice b1 o1 q1)) → (Below wr.heap.size wr (World.alloc w1 o) ∧ (World.alloc w1 o).cell? ⟨G, 4, none⟩ = some (.slice (some ⟨bg, bo, none⟩) xm xd) ∧ (World.alloc w1 o).cell? ⟨bg, bo + i * 5, none⟩ = some (.int .i64 k1) ∧ (World.alloc w1 o).cell? ⟨bg, bo + i * 5 + 1, none⟩ = some (.int .i64 n1) ∧ (World.alloc w1 o).cell? ⟨bg, bo + i * 5 + 2, none⟩ = some (.string t1) ∧ (World.alloc w1 o).cell? ⟨bg, bo + i * 5 + 3, none⟩ = some (.slice a1 l1 m1) ∧ (World.alloc w1 o).cell? ⟨bg, bo + i * 5 + 4, none⟩ = some (.slice b1 o1 q1))) := Lib.hid (fun w1 o h => hSof.out _ (h.1.alloc h.1.size _))
      have HS4 : Hid (∀ o, (Below wr.heap.size wr (World.drew (World.alloc wr o)) ∧ (World.drew (World.alloc wr o)).cell? ⟨G, 4, none⟩ = some (.slice (some ⟨bg, bo, none⟩) xm xd) ∧ (World.drew (World.alloc wr o)).cell? ⟨bg, bo + i * 5, none⟩ = some (.int .i64 k1) ∧ (World.drew (World.alloc wr o)).cell? ⟨bg, bo + i * 5 + 1, none⟩ = some (.int .i64 n1) ∧ (World.drew (World.alloc wr o)).cell? ⟨bg, bo + i * 5 + 2, none⟩ = some (.string t1) ∧ (World.drew (World.alloc wr o)).cell? ⟨bg, bo + i * 5 + 3, none⟩ = some (.slice a1 l1 m1) ∧ (World.drew (World.alloc wr o)).cell? ⟨bg, bo + i * 5 + 4, none⟩ = some (.slice b1 o1 q1))) := Lib.hid (fun o => hSof.out _ (((Below.refl _ wr).alloc (Nat.le_refl _) _).drew))
      have HS2 : Hid (∀ w1 w2, Below w1.heap.size w1 w2 → (Below wr.heap.size wr w1 ∧ w1.cell? ⟨G, 4, none⟩ = some (.slice (some ⟨bg, bo, none⟩) xm xd) ∧ w1.cell? ⟨bg, bo + i * 5, none⟩ = some (.int .i64 k1) ∧ w1.cell? ⟨bg, bo + i * 5 + 1, none⟩ = some (.int .i64 n1) ∧ w1.cell? ⟨bg, bo + i * 5 + 2, none⟩ = some (.string t1) ∧ w1.cell? ⟨bg, bo + i * 5 + 3, none⟩ = some (.slice a1 l1 m1) ∧ w1.cell? ⟨bg, bo + i * 5 + 4, none⟩ = some (.slice b1 o1 q1)) → (Below wr.heap.size wr w2 ∧ w2.cell? ⟨G, 4, none⟩ = some (.slice (some ⟨bg, bo, none⟩) xm xd) ∧ w2.cell? ⟨bg, bo + i * 5, none⟩ = some (.int .i64 k1) ∧ w2.cell? ⟨bg, bo + i * 5 + 1, none⟩ = some (.int .i64 n1) ∧ w2.cell? ⟨bg, bo + i * 5 + 2, none⟩ = some (.string t1) ∧ w2.cell? ⟨bg, bo + i * 5 + 3, none⟩ = some (.slice a1 l1 m1) ∧ w2.cell? ⟨bg, bo + i * 5 + 4, none⟩ = some (.slice b1 o1 q1))) := Lib.hid (fun w1 w2 hb h => hSof.out _ (h.1.trans (hb.mono h.1.size)))
      have HS3 : Hid (∀ (w1 : World) (N : Nat) (d0 d1 d2 d3 d4 : Value), (Below wr.heap.size wr w1 ∧ w1.cell? ⟨G, 4, none⟩ = some (.slice (some ⟨bg, bo, none⟩) xm xd) ∧ w1.cell? ⟨bg, bo + i * 5, none⟩ = some (.int .i64 k1) ∧ w1.cell? ⟨bg, bo + i * 5 + 1, none⟩ = some (.int .i64 n1) ∧ w1.cell? ⟨bg, bo + i * 5 + 2, none⟩ = some (.string t1) ∧ w1.cell? ⟨bg, bo + i * 5 + 3, none⟩ = some (.slice a1 l1 m1) ∧ w1.cell? ⟨bg, bo + i * 5 + 4, none⟩ = some (.slice b1 o1 q1)) → wr.heap.size ≤ N → (Below wr.heap.size wr (((((w1.setCell ⟨N, 0, none⟩ d0).setCell ⟨N, 1, none⟩ d1).setCell ⟨N, 2, none⟩ d2).setCell ⟨N, 3, none⟩ d3).setCell ⟨N, 4, none⟩ d4) ∧ (((((w1.setCell ⟨N, 0, none⟩ d0).setCell ⟨N, 1, none⟩ d1).setCell ⟨N, 2, none⟩ d2).setCell ⟨N, 3, none⟩ d3).setCell ⟨N, 4, none⟩ d4).cell? ⟨G, 4, none⟩ = some (.slice (some ⟨bg, bo, none⟩) xm xd) ∧ (((((w1.setCell ⟨N, 0, none⟩ d0).setCell ⟨N, 1, none⟩ d1).setCell ⟨N, 2, none⟩ d2).setCell ⟨N, 3, none⟩ d3).setCell ⟨N, 4, none⟩ d4).cell? ⟨bg, bo + i * 5, none⟩ = some (.int .i64 k1) ∧ (((((w1.setCell ⟨N, 0, none⟩ d0).setCell ⟨N, 1, none⟩ d1).setCell ⟨N, 2, none⟩ d2).setCell ⟨N, 3, none⟩ d3).setCell ⟨N, 4, none⟩ d4).cell? ⟨bg, bo + i * 5 + 1, none⟩ = some (.int .i64 n1) ∧ (((((w1.setCell ⟨N, 0, none⟩ d0).setCell ⟨N, 1, none⟩ d1).setCell ⟨N, 2, none⟩ d2).setCell ⟨N, 3, none⟩ d3).setCell ⟨N, 4, none⟩ d4).cell? ⟨bg, bo + i * 5 + 2, none⟩ = some (.string t1) ∧ (((((w1.setCell ⟨N, 0, none⟩ d0).setCell ⟨N, 1, none⟩ d1).setCell ⟨N, 2, none⟩ d2).setCell ⟨N, 3, none⟩ d3).setCell ⟨N, 4, none⟩ d4).cell? ⟨bg, bo + i * 5 + 3, none⟩ = some (.slice a1 l1 m1) ∧ (((((w1.setCell ⟨N, 0, none⟩ d0).setCell ⟨N, 1, none⟩ d1).setCell ⟨N, 2, none⟩ d2).setCell ⟨N, 3, none⟩ d3).setCell ⟨N, 4, none⟩ d4).cell? ⟨bg, bo + i * 5 + 4, none⟩ = some (.slice b1 o1 q1))) := Lib.hid (fun w1 N d0 d1 d2 d3 d4 h hN => hSof.out _ (set5_below h.1 hN _ _ _ _ _))
      clear hfine hat hkd bw s0 s1 s2 s3 s4 hbw hb hx8 hkq HIH HC hAx hin
      have HGZ : Hid (G < wr.heap.size) := Lib.hid (by have := HBR.out.size; have := HHH.out; omega)
      go_upto_region 15 with fail
      go_cut [10, 11] from 54 to 81 (fun v b wx => ∃ (g : Nat) (k5 n5 : Int) (t5 : ByteArray) (a5 : Option Addr) (l5 m5 : Nat) (b5 : Option Addr) (o5 q5 : Nat) (bb : Bool), v = .pointer (some ⟨g, 0, none⟩) ∧ b = .bool bb ∧ Below wr.heap.size wr wx ∧ wr.heap.size ≤ g ∧ Bx g (.int .i64 k5) (.int .i64 n5) (.string t5) (.slice a5 l5 m5) (.slice b5 o5 q5) wx ∧ Hid ((bb = true → ∃ x, followP num9 l kd = some x ∧ NodeAt (fun z => (P z ∧ z < G) ∨ (wr.heap.size ≤ z ∧ z ≠ g)) wx x (.agg #[.int .i64 k5, .int .i64 n5, .string t5, .slice a5 l5 m5, .slice b5 o5 q5])) ∧ (bb = false → followP num9 l kd = none)))
      case first =>
        clear p4 y0 y1 y2 y3 y4 hSof
        by_cases hc1 : cap = 1
        · subst hc1
          have HCA : Hid (∀ w', Below wr.heap.size wr w' → Calls Tryd.prog 25 #[.agg #[.int .i64 k1, .int .i64 n1, .string t1, .slice a1 l1 m1, .slice b1 o1 q1], .slice (some ⟨ag, ao, none⟩) (L - 1) 0] w' fun e w2 => ∃ k n t a3 n3 m3 a4 n4 m4 b, e = .returned (.tuple #[.agg #[.int .i64 k, .int .i64 n, .string t, .slice a3 n3 m3, .slice a4 n4 m4], .bool b]) ∧ Below w'.heap.size w' w2 ∧ Hid ((b = true → ∃ x, followP num9 l kd = some x ∧ NodeAt (fun g => (P g ∧ g < G) ∨ w'.heap.size ≤ g) w2 x (.agg #[.int .i64 k, .int .i64 n, .string t, .slice a3 n3 m3, .slice a4 n4 m4])) ∧ (b = false → followP num9 l kd = none))) := Lib.hid (fun w' h => HCALL.out w' h)
          clear HCALL
          go_region_held3 (fun w' => Below wr.heap.size wr w' ∧ w'.cell? ⟨G, 4, none⟩ = some (.slice (some ⟨bg, bo, none⟩) xm xd) ∧ w'.cell? ⟨bg, bo + i * 5, none⟩ = some (.int .i64 k1) ∧ w'.cell? ⟨bg, bo + i * 5 + 1, none⟩ = some (.int .i64 n1) ∧ w'.cell? ⟨bg, bo + i * 5 + 2, none⟩ = some (.string t1) ∧ w'.cell? ⟨bg, bo + i * 5 + 3, none⟩ = some (.slice a1 l1 m1) ∧ w'.cell? ⟨bg, bo + i * 5 + 4, none⟩ = some (.slice b1 o1 q1))
            (first | with_reducible exact HS0.out | with_reducible exact HS4.out _ | with_reducible exact HS2.out _ _ (by assumption) (HS4.out _) | with_reducible exact HS1.out _ _ (by assumption) | with_reducible exact HS2.out _ _ (by assumption) (by assumption) | with_reducible exact HS2.out _ _ (by assumption) HS0.out | with_reducible exact HS2.out _ _ (by assumption) (HS1.out _ _ HS0.out) | exact HS1.out w5 _ (HS2.out _ w5 hb5 HS0.out) | with_reducible exact HS1.out _ _ HS0.out | with_reducible exact HS3.out _ _ _ _ _ _ _ (HS2.out _ _ (by assumption) (HS4.out _)) (Nat.le_refl _) | with_reducible exact HS3.out _ _ _ _ _ _ _ (by assumption) (Nat.le_refl _))
            (first
              | (with_reducible refine (HCA.out (wr.drew) ((Below.refl _ wr).drew)).mono ?_; rintro e w5 ⟨k5, n5, t5, a5, l5, m5, b5, o5, q5, bb, rfl, hb5, hat⟩)
              | (with_reducible refine (HCA.out (World.drew (World.alloc wr (.cells #[.int .i64 0, .int .i64 0, .string { data := #[] }, .slice none 0 0, .slice none 0 0] 25))) (((Below.refl _ wr).alloc (Nat.le_refl _) _).drew)).mono ?_; rintro e w5 ⟨k5, n5, t5, a5, l5, m5, b5, o5, q5, bb, rfl, hb5, hat⟩; have hbx : Bx wr.heap.size (.int .i64 0) (.int .i64 0) (.string { data := #[] }) (.slice none 0 0) (.slice none 0 0) w5 := ((newZ_bx wr).drew).same (hb5.block _ (by simp)); have u0 := hbx.p0; have u1 := hbx.p1; have u2 := hbx.p2; have u3 := hbx.p3; have u4 := hbx.p4; have k0 := hbx.free 0; have k1 := hbx.free 1; have k2 := hbx.free 2; have k3 := hbx.free 3; have k4 := hbx.free 4))
          all_goals
            go_wp2_with fail
            go_meet
            first
            | exact ⟨_, _, _, _, _, _, _, _, _, _, _, rfl, rfl, (((Below.refl _ wr).drew).trans hb5).alloc (by have := hb5.size; simpa using this) _, by have := hb5.size; simpa using this, Bx.made w5 _ _ _ _ _, left_new hb5 hat⟩
            | exact ⟨_, _, _, _, _, _, _, _, _, _, _, rfl, rfl, set5_below ((((Below.refl _ wr).alloc (Nat.le_refl _) _).drew).trans (hb5.mono (by simp))) (Nat.le_refl _) _ _ _ _ _, Nat.le_refl _, hbx.setAll _ _ _ _ _, left_old HGZ.out hat⟩
        · have HCA : Hid (∀ w', Below wr.heap.size wr w' → Calls Tryd.prog 25 #[.agg #[.int .i64 k1, .int .i64 n1, .string t1, .slice a1 l1 m1, .slice b1 o1 q1], .slice (some ⟨ag, ao + 1, none⟩) (L - 1) (cap - 1)] w' fun e w2 => ∃ k n t a3 n3 m3 a4 n4 m4 b, e = .returned (.tuple #[.agg #[.int .i64 k, .int .i64 n, .string t, .slice a3 n3 m3, .slice a4 n4 m4], .bool b]) ∧ Below w'.heap.size w' w2 ∧ Hid ((b = true → ∃ x, followP num9 l kd = some x ∧ NodeAt (fun g => (P g ∧ g < G) ∨ w'.heap.size ≤ g) w2 x (.agg #[.int .i64 k, .int .i64 n, .string t, .slice a3 n3 m3, .slice a4 n4 m4])) ∧ (b = false → followP num9 l kd = none))) := Lib.hid (by
            have h9 := HCALL.out
            rw [show tailA (some ⟨ag, ao, none⟩) cap = some ⟨ag, ao + 1, none⟩ by unfold tailA; rw [if_neg hc1]; rfl] at h9
            exact h9)
          clear HCALL
          go_region_held3 (fun w' => Below wr.heap.size wr w' ∧ w'.cell? ⟨G, 4, none⟩ = some (.slice (some ⟨bg, bo, none⟩) xm xd) ∧ w'.cell? ⟨bg, bo + i * 5, none⟩ = some (.int .i64 k1) ∧ w'.cell? ⟨bg, bo + i * 5 + 1, none⟩ = some (.int .i64 n1) ∧ w'.cell? ⟨bg, bo + i * 5 + 2, none⟩ = some (.string t1) ∧ w'.cell? ⟨bg, bo + i * 5 + 3, none⟩ = some (.slice a1 l1 m1) ∧ w'.cell? ⟨bg, bo + i * 5 + 4, none⟩ = some (.slice b1 o1 q1))
            (first | with_reducible exact HS0.out | with_reducible exact HS4.out _ | with_reducible exact HS2.out _ _ (by assumption) (HS4.out _) | with_reducible exact HS1.out _ _ (by assumption) | with_reducible exact HS2.out _ _ (by assumption) (by assumption) | with_reducible exact HS2.out _ _ (by assumption) HS0.out | with_reducible exact HS2.out _ _ (by assumption) (HS1.out _ _ HS0.out) | exact HS1.out w5 _ (HS2.out _ w5 hb5 HS0.out) | with_reducible exact HS1.out _ _ HS0.out | with_reducible exact HS3.out _ _ _ _ _ _ _ (HS2.out _ _ (by assumption) (HS4.out _)) (Nat.le_refl _) | with_reducible exact HS3.out _ _ _ _ _ _ _ (by assumption) (Nat.le_refl _))
            (first
              | (with_reducible refine (HCA.out (wr.drew) ((Below.refl _ wr).drew)).mono ?_; rintro e w5 ⟨k5, n5, t5, a5, l5, m5, b5, o5, q5, bb, rfl, hb5, hat⟩)
              | (with_reducible refine (HCA.out (World.drew (World.alloc wr (.cells #[.int .i64 0, .int .i64 0, .string { data := #[] }, .slice none 0 0, .slice none 0 0] 25))) (((Below.refl _ wr).alloc (Nat.le_refl _) _).drew)).mono ?_; rintro e w5 ⟨k5, n5, t5, a5, l5, m5, b5, o5, q5, bb, rfl, hb5, hat⟩; have hbx : Bx wr.heap.size (.int .i64 0) (.int .i64 0) (.string { data := #[] }) (.slice none 0 0) (.slice none 0 0) w5 := ((newZ_bx wr).drew).same (hb5.block _ (by simp)); have u0 := hbx.p0; have u1 := hbx.p1; have u2 := hbx.p2; have u3 := hbx.p3; have u4 := hbx.p4; have k0 := hbx.free 0; have k1 := hbx.free 1; have k2 := hbx.free 2; have k3 := hbx.free 3; have k4 := hbx.free 4))
          all_goals
            go_wp2_with fail
            go_meet
            first
            | exact ⟨_, _, _, _, _, _, _, _, _, _, _, rfl, rfl, (((Below.refl _ wr).drew).trans hb5).alloc (by have := hb5.size; simpa using this) _, by have := hb5.size; simpa using this, Bx.made w5 _ _ _ _ _, left_new hb5 hat⟩
            | exact ⟨_, _, _, _, _, _, _, _, _, _, _, rfl, rfl, set5_below ((((Below.refl _ wr).alloc (Nat.le_refl _) _).drew).trans (hb5.mono (by simp))) (Nat.le_refl _) _ _ _ _ _, Nat.le_refl _, hbx.setAll _ _ _ _ _, left_old HGZ.out hat⟩
      case rest =>
        obtain ⟨g, k5, n5, t5, a5, l5, m5, b5, o5, q5, bb, rfl, rfl, hbw, hgw, hbx, HAT⟩ := hcut
        clear p4 y0 y1 y2 y3 y4
        have hbW := HBR.out.trans (hbw.mono HBR.out.size)
        have HBC : Hid (Below W.heap.size W wc) := Lib.hid hbW
        have v0 := hbx.p0
        have v1 := hbx.p1
        have v2 := hbx.p2
        have v3 := hbx.p3
        have v4 := hbx.p4
        cases bb
        · have HE : Hid (followP num9 (p :: l) n = none) := Lib.hid (by rw [HPS.out, star_follow HK6.out, collect_none (HAT.out.2 rfl) HKM.out])
          have hRx := HRX.out.same (hbW.block _ (by rw [HHH.out]; omega))
          have f0 := hRx.free 0
          have f1 := hRx.free 1
          have f2 := hRx.free 2
          have f3 := hRx.free 3
          have f4 := hRx.free 4
          have z0 := hRx.p0
          have z1 := hRx.p1
          have z2 := hRx.p2
          have z3 := hRx.p3
          have z4 := hRx.p4
          clear hbw hbW hbx
          go_wp2_with fail
          refine bodyPost_ret (find_result rfl _ rfl rfl (hRx.setAll _ _ _ _ _)) rfl ?_
          rw [HE.out]
          exact ⟨set5_below (HB.out.trans (HBC.out.mono HB.out.size)) (by rw [HWS.out]; exact Nat.le_succ _) _ _ _ _ _, rfl⟩
        · obtain ⟨x, hx, hat⟩ := HAT.out.1 rfl
          have hx9 := HX8.out.same (hbw.block _ (by omega))
          have q4 := hx9.p4
          have k4 := hx9.free 4
          have hkq9 := KidsQ.same HKQ.out (fun g hl => hbw.block g hl)
          have HCN : Hid (collect (followP num9 l) (n.kids.take (i + 1)) = some (ks ++ flatJ x)) := Lib.hid (HNX.out x hx)
          have hlen : (ks ++ flatJ x).length ≤ 2000 := by
            have h1 := collect_few HCN.out
            have h2 := cnt_kids n
            have h3 := HF.out.few
            omega
          have hown : ∀ z, v8.ownBlock = some z → H + 1 ≤ z ∧ z < wr.heap.size := fun z hz => KidsQ.own HKQ.out hz
          have hx6 := (node_cells hat).1
          have hk5 : k5 = x.kind := by injection hx6
          have hat2 : NodeAt (fun z => PQ z ∧ v8.ownBlock ≠ some z) wc x (.agg #[.int .i64 k5, .int .i64 n5, .string t5, .slice a5 l5 m5, .slice b5 o5 q5]) := hat.keep (fun z hzz _ => ⟨by
            rw [← HPQ.out]
            rcases hzz with hz1 | hz1
            · exact ⟨Or.inl hz1, fun e => by have := hown z e; have := hz1.2; omega⟩
            · exact ⟨Or.inr (by omega), fun e => by have := hown z e; omega⟩, rfl⟩)
          by_cases h6 : k5 = 6
          · have hfl : flatJ x = x.kids := by unfold flatJ; rw [if_pos (by rw [← hk5]; exact h6)]
            rw [hfl] at hlen HCN
            have g6 : (k5 == 6) = true := by rw [beq_iff_eq]; exact h6
            have HX9 := Lib.hid hx9
            have HZC : Hid (H + 1 ≤ wc.heap.size) := Lib.hid (Nat.le_trans hz hbw.size)
            have HOW := Lib.hid hown
            obtain ⟨-, -, -, -, ⟨a9, m9, e9⟩⟩ := node_cells hat2
            injection e9 with e91 e92 e93
            by_cases hxk : x.kids = []
            · have ho5 : o5 = 0 := by rw [e92, hxk]; rfl
              subst ho5
              obtain ⟨i0, hi0, -, -, -⟩ := info_parts info8N
              obtain ⟨ao8, c8, hv8⟩ := hkq9.form
              subst hv8
              have HQ6 := Lib.hid hkq9
              obtain ⟨cs, hown9, -⟩ := hkq9
              rw [hxk, List.append_nil] at HCN
              clear hbW hbw hbx hx6 hk5 hx9 hat hat2 hx hfl HAT e91 e92 e93 hxk
              go_wp2_with (at_builtin; refine wpList_append_zero rfl _ _ 23 25 rfl i0 5 (H + 1) Tryd.underlying23 hi0 _ _ cs rfl hown9 b5 q5 rfl ?_)
              go_wp2_with fail
              go_roundg (xm + 1 - (i + 1))
              case measure => omega
              case rel => exact ⟨i + 1, _, ks, rfl, by go_num, by omega, HBC.out.setCell (by rw [HHH.out]; exact Nat.le_refl _) _, by simpa [World.setCell] using HZC.out, HX9.out.set4 _, kids_set HQ6.out HPQ.out hGH, HCN⟩
            · obtain ⟨ad, news, hb5, ho5, hrow, hcell⟩ := kids_row hat2 hxk
              clear e91 e92 e93
              obtain ⟨KX, hKX⟩ : ∃ KX, x.kids = KX := ⟨_, rfl⟩
              rw [hKX] at hxk ho5 hrow hlen HCN
              subst hb5 ho5
              have hkl : 0 < KX.length := List.length_pos_iff.2 hxk
              have hll : ks.length + KX.length ≤ 65536 := by rw [List.length_append] at hlen; omega
              clear hbW hbw hbx hx6 hk5 hx9 hat hat2 hx hfl HAT hKX hxk
              obtain ⟨ao8, c8, hv8⟩ := hkq9.form
              subst hv8
              go_wp2_with (at_builtin; refine KidsQ.apps rfl _ _ rfl PQ (H + 1) _ _ ks KX news hkq9 hrow ad hcell q5 rfl rfl hkl hll HZC.out ?_)
              intro g6 c6 w6 hkq6 hg6 hat6
              have hb6 : Below W.heap.size W w6 := HBC.out.grown hg6 (by have := HZC.out; rw [HHH.out]; omega) (fun z e => by have := HOW.out z e; rw [HHH.out]; omega)
              have hz6 : H + 1 ≤ w6.heap.size := Nat.le_trans HZC.out hg6.size
              have hx6 := HX9.out.same (hg6.block H (by have := HZC.out; omega) (fun e => by have := HOW.out H e.symm; omega))
              clear q4 k4
              have q4 := hx6.p4
              have k4 := hx6.free 4
              have HQ6 := Lib.hid hkq6
              have HG6 := Lib.hid hb6
              clear hkq9 hrow hcell hkq6 hg6 hat6 hb6 hlen hkl hll
              go_wp2_with fail
              go_roundg (xm + 1 - (i + 1))
              case measure => omega
              case rel => exact ⟨i + 1, _, ks ++ KX, rfl, by go_num, by omega, HG6.out.setCell (by rw [HHH.out]; exact Nat.le_refl _) _, by simpa [World.setCell] using hz6, hx6.set4 _, kids_set HQ6.out HPQ.out hGH, HCN⟩
          · have hfl : flatJ x = [x] := by unfold flatJ; rw [if_neg (by rw [← hk5]; exact h6)]
            rw [hfl] at hlen HCN
            have g6 : (k5 == 6) = false := by rw [beq_eq_false_iff_ne]; exact h6
            have HAL : Hid (Below wc.heap.size wc (wc.alloc (.cells #[.int .i64 k5, .int .i64 n5, .string t5, .slice a5 l5 m5, .slice b5 o5 q5] 25))) := Lib.hid ((Below.refl _ wc).alloc (Nat.le_refl _) _)
            have hkq2 := KidsQ.same hkq9 (fun g hl => HAL.out.block g hl)
            have hat3 := hat2.keep (kept_below HAL.out)
            have hat4 : KidsAt (fun z => PQ z ∧ v8.ownBlock ≠ some z) (wc.alloc (.cells #[.int .i64 k5, .int .i64 n5, .string t5, .slice a5 l5 m5, .slice b5 o5 q5] 25)) [x] [.int .i64 k5, .int .i64 n5, .string t5, .slice a5 l5 m5, .slice b5 o5 q5] := kids_snoc hat3 kids_nil
            have HX9 := Lib.hid hx9
            have HZC : Hid (H + 1 ≤ wc.heap.size) := Lib.hid (Nat.le_trans hz hbw.size)
            have HOW := Lib.hid hown
            have HBW9 := Lib.hid hbw
            clear hbW hbw hbx hx6 hk5 hx9 hat hat2 hat3 hx hkq9 hfl h6 HAT
            obtain ⟨ao8, c8, hv8⟩ := hkq2.form
            subst hv8
            go_wp2_with (at_builtin; refine KidsQ.apps rfl _ _ rfl PQ (H + 1) _ _ ks [x] _ hkq2 hat4 ⟨wc.heap.size, 0, none⟩ (fun q u hq => World.news_of_block (Kit.fresh_block wc _ _) q u hq) 1 rfl rfl (by simp) (by simp at hlen ⊢; omega) (by have := HZC.out; simp; omega) ?_)
            intro g6 c6 w6 hkq6 hg6 hat6
            have hb6 : Below W.heap.size W w6 := (HBC.out.trans (HAL.out.mono HBC.out.size)).grown hg6 (by have := HZC.out; have := HAL.out.size; rw [HHH.out]; omega) (fun z e => by have := HOW.out z e; rw [HHH.out]; omega)
            have hz6 : H + 1 ≤ w6.heap.size := Nat.le_trans HZC.out (Nat.le_trans HAL.out.size hg6.size)
            have hx6 := (HX9.out.alloc (.cells #[.int .i64 k5, .int .i64 n5, .string t5, .slice a5 l5 m5, .slice b5 o5 q5] 25)).same (hg6.block H (by have := HZC.out; have := HAL.out.size; omega) (fun e => by have := HOW.out H e.symm; omega))
            clear q4 k4
            have q4 := hx6.p4
            have k4 := hx6.free 4
            have HL6 := Lib.hid hlen
            have HQ6 := Lib.hid hkq6
            have HG6 := Lib.hid hb6
            clear hkq2 hat4 hkq6 hg6 hat6 hb6 hlen
            go_wp2_with fail
            go_roundg (xm + 1 - (i + 1))
            case measure => omega
            case rel => exact ⟨i + 1, _, ks ++ [x], rfl, by go_num, by omega, HG6.out.setCell (by rw [HHH.out]; exact Nat.le_refl _) _, by simpa [World.setCell] using hz6, hx6.set4 _, kids_set (by simpa using HQ6.out) HPQ.out hGH, HCN⟩
    · have gi : decide ((i : Int) < (xm : Int)) = false := by rw [decide_eq_false_iff_not]; omega
      have q0 := hx8.p0
      have q1 := hx8.p1
      have q2 := hx8.p2
      have q3 := hx8.p3
      have q4 := hx8.p4
      have hRx := HRX.out.same (hb.block _ (by rw [HHH.out]; omega))
      have f0 := hRx.free 0
      have f1 := hRx.free 1
      have f2 := hRx.free 2
      have f3 := hRx.free 3
      have f4 := hRx.free 4
      have z0 := hRx.p0
      have z1 := hRx.p1
      have z2 := hRx.p2
      have z3 := hRx.p3
      have z4 := hRx.p4
      obtain ⟨ao8, c8, hv8⟩ := hkq.form
      subst hv8
      have HCE : Hid (followP num9 (p :: l) n = some (arrK ks)) := Lib.hid (by
        rw [HPS.out, star_follow HK6.out]
        have h9 := HC.out
        rw [List.take_of_length_le (by have := HNV.out; omega)] at h9
        rw [h9])
      have HKQ := Lib.hid hkq
      have HBR := Lib.hid hb
      clear hkq hb
      go_wp2_with fail
      refine bodyPost_ret (find_result rfl _ rfl rfl (hRx.setAll _ _ _ _ _)) rfl ?_
      rw [HCE.out]
      have hwW : Below w.heap.size w wr := HB.out.trans (HBR.out.mono HB.out.size)
      refine ⟨set5_below hwW (by rw [HWS.out]; exact Nat.le_succ _) _ _ _ _ _, _, _, _, _, _, _, _, _, _, rfl, (arr_at (P := fun g => (P g ∧ g < G) ∨ H + 1 ≤ g) HKQ.out (fun g hg => by rw [← HPQ.out] at hg; exact hg) (fun g hg => Or.inr hg)).keep (fun g hg hl => ⟨?_, putN_block wr (G + 1) _ _ _ _ _ g ?_⟩)⟩
      · rcases hg with hg | hg
        · exact Or.inl hg.1
        · exact Or.inr (by rw [HWS.out]; omega)
      · rcases hg with hg | hg
        · have := hg.2; omega
        · omega
end Go.Proofs.YtoofcclcimkipaaDoor.J9
namespace Go.Proofs.YtoofcclcimkipaaDoor.J9
open Go Go.RowKit Go.Joins Kit J7 Nds J8

theorem follow_any : ∀ l : List ByteArray, FollowOk l
  | [] => follow_nil
  | p :: l => by
    have ih := follow_any l
    intro P n dd hr ht hcn w c0 c1 c2 c3 c4 al cap hN hK hl hc hc2
    by_cases h7 : n.kind = 7
    · exact follow_obj p l ih P n dd hr ht hcn h7 w c0 c1 c2 c3 c4 al cap hN hK hl hc hc2
    · by_cases h6 : n.kind = 6
      · by_cases hs : p = starB
        · exact follow_star p hs l ih P n dd hr ht hcn h6 w c0 c1 c2 c3 c4 al cap hN hK hl hc hc2
        · exact follow_num p hs l ih P n dd hr ht hcn h6 w c0 c1 c2 c3 c4 al cap hN hK hl hc hc2
      · exact follow_leaf p l P n dd hr ht hcn h7 h6 w c0 c1 c2 c3 c4 al cap hN hK hl hc hc2
end Go.Proofs.YtoofcclcimkipaaDoor.J9
namespace Go.Proofs.YtoofcclcimkipaaDoor.J9
open Go Go.RowKit Go.Joins Kit J7 Nds J8

/-- Not great. -/
structure Light (r : Int) (a : J) : Prop where
  tame : Tame a
  few : (cnt a : Int) ≤ r
theorem cnts_next (kids : List J) (i : Nat) (h : i < kids.length) : cnts (kids.take (i + 1)) = cnts (kids.take i) + cnt kids[i] := by
  rw [List.take_succ_eq_append_getElem h, cnts_append, cnts, cnts, Nat.add_zero]
theorem light_of {a : J} {r : Int} (ht : a.text.size ≤ 2000) (hk : a.keys.length ≤ 300) (hv : a.kids.length ≤ 300) (hks : ∀ q (h : q < a.keys.length), a.keys[q].size ≤ 2000) (hts : ∀ z (h : z < a.kids.length), Tame a.kids[z])
    (hsum : (cnts (a.kids.take a.kids.length) : Int) ≤ r - 1) : Light r a := by
  refine ⟨?_, ?_⟩
  · obtain ⟨k, n, t, keys, kids⟩ := a
    exact Tame.mk k n t keys kids (Nat.le_trans hk (by decide)) (Nat.le_trans hv (by decide)) (Nat.le_trans ht (by decide)) (fun q hq => Nat.le_trans (hks q hq) (by decide)) hts
  · rw [List.take_length] at hsum
    rw [cnt_kids]
    omega

set_option maxHeartbeats 16000000 in
set_option maxRecDepth 100000 in
theorem weight_any : ∀ (f dd : Nat), dd + f = 41 → ∀ (a : J) (w : World) (c0 c1 c2 c3 c4 : Value), NodeIn w a (.agg #[c0, c1, c2, c3, c4]) →
    Calls Tryd.prog 18 #[.agg #[c0, c1, c2, c3, c4], .int .i64 (dd : Int)] w fun e w' => ∃ r : Int, e = .returned (.int .i64 r) ∧ Below w.heap.size w w' ∧ 1 ≤ r ∧ r ≤ 3000 * (f + 1 : Nat) ∧ (r ≤ 2000 → Light r a) := by
  intro f
  induction f with
  | zero =>
    intro dd hd a w c0 c1 c2 c3 c4 hN
    obtain ⟨k, n, t, a3, nk, m3, a4, nv, m4, rfl, rfl, rfl, rfl, rfl⟩ := in_forms hN
    have g0 : (40 : Int) < (dd : Int) := by omega
    have hb0 : Below w.heap.size w (w.alloc (.cells #[.int .i64 k, .int .i64 n, .string t, .slice a3 nk m3, .slice a4 nv m4] 25)) := (Below.refl _ w).alloc (Nat.le_refl _) _
    clear hN
    go_enter Tryd.func18, Tryd.ntmps18
    go_wp2_with fail
    go_ret
    exact ⟨3000, rfl, hb0, by decide, by decide, fun h => absurd h (by decide)⟩
  | succ f ih =>
    intro dd hd a w c0 c1 c2 c3 c4 hN
    obtain ⟨a3, m3, a4, m4, rfl, rfl, rfl, rfl, rfl, hkk, hvv⟩ := node_parts hN
    obtain ⟨nk, hnk⟩ : ∃ nk, a.keys.length = nk := ⟨_, rfl⟩
    obtain ⟨nv, hnv⟩ : ∃ nv, a.kids.length = nv := ⟨_, rfl⟩
    obtain ⟨k, hkd⟩ : ∃ kd, a.kind = kd := ⟨_, rfl⟩
    obtain ⟨n, hnm⟩ : ∃ nm, a.num = nm := ⟨_, rfl⟩
    obtain ⟨t, htx⟩ : ∃ tx, a.text = tx := ⟨_, rfl⟩
    rw [hnk, hnv, hkd, hnm, htx]
    obtain ⟨hb0, hA, hsz⟩ := bx_new w (.int .i64 k) (.int .i64 n) (.string t) (.slice a3 nk m3) (.slice a4 nv m4)
    obtain ⟨W, hW⟩ : ∃ W, w.alloc (.cells #[.int .i64 k, .int .i64 n, .string t, .slice a3 nk m3, .slice a4 nv m4] 25) = W := ⟨_, rfl⟩
    rw [hW] at hb0 hA hsz
    have HKI : Hid (KeysIn W a3 a.keys) := Lib.hid (KeysIn.below (w := w) (fun i hi => hkk i hi) hb0)
    have HVI : Hid (KidsIn W a4 a.kids) := Lib.hid (KidsIn.below (w := w) (fun i hi => hvv i hi) hb0)
    have HB := Lib.hid hb0
    obtain ⟨G, hG⟩ : ∃ G, w.heap.size = G := ⟨_, rfl⟩
    rw [hG] at hA hsz
    have hGl := hA.lt
    have HW := Lib.hid hW
    have HA := Lib.hid hA
    have p2 := hA.p2
    have p3 := hA.p3
    have p4 := hA.p4
    have HNK := Lib.hid hnk
    have HNV := Lib.hid hnv
    have HTX := Lib.hid htx
    have HIH := Lib.hid ih
    have g0 : ¬ (40 : Int) < (dd : Int) := by omega
    have hwr : IntKind.i64.wrap ((dd : Int) + 1) = (dd : Int) + 1 := by rw [IntKind.wrap_i64]; omega
    have hbig : Hid (∃ r : Int, (3000 : Int) = r ∧ 1 ≤ r ∧ r ≤ 3000 * (f + 1 + 1 : Nat) ∧ (r ≤ 2000 → Light r a)) := Lib.hid ⟨3000, rfl, by decide, by omega, fun h => absurd h (by decide)⟩
    clear hW hN hkk hvv hb0 ih hnk hnv hkd hnm htx hA
    by_cases h1 : t.size ≤ 2000
    rotate_left 1
    · have g1 : (2000 : Int) < (t.size : Int) := by omega
      go_enter Tryd.func18, Tryd.ntmps18
      go_upto_region 1 with fail
      rw [HW.out]
      (try rw [hG])
      go_wp2_with fail
      go_ret
      (try rw [← hG])
      obtain ⟨r, rfl, h⟩ := hbig.out
      exact ⟨_, rfl, HB.out, h⟩
    have g1 : ¬ (2000 : Int) < (t.size : Int) := by omega
    by_cases h2 : nk ≤ 300
    rotate_left 1
    · have g2 : (300 : Int) < (nk : Int) := by omega
      go_enter Tryd.func18, Tryd.ntmps18
      go_upto_region 1 with fail
      rw [HW.out]
      (try rw [hG])
      go_wp2_with fail
      go_ret
      (try rw [← hG])
      obtain ⟨r, rfl, h⟩ := hbig.out
      exact ⟨_, rfl, HB.out, h⟩
    have g2 : ¬ (300 : Int) < (nk : Int) := by omega
    by_cases h3 : nv ≤ 300
    rotate_left 1
    · have g3 : (300 : Int) < (nv : Int) := by omega
      go_enter Tryd.func18, Tryd.ntmps18
      go_upto_region 1 with fail
      rw [HW.out]
      (try rw [hG])
      go_wp2_with fail
      go_ret
      (try rw [← hG])
      obtain ⟨r, rfl, h⟩ := hbig.out
      exact ⟨_, rfl, HB.out, h⟩
    have g3 : ¬ (300 : Int) < (nv : Int) := by omega
    have HH : Hid (t.size ≤ 2000 ∧ nk ≤ 300 ∧ nv ≤ 300) := Lib.hid ⟨h1, h2, h3⟩
    clear h1 h2 h3
    go_enter Tryd.func18, Tryd.ntmps18
    go_upto_region 1 with fail
    rw [HW.out]
    (try rw [hG])
    go_wp2_with fail
    clear p2 p3 p4
    go_loopg [6] nk (fun m v wr => ∃ i : Nat, m = nk - i ∧ v = .int .i64 i ∧ i ≤ nk ∧ W = wr ∧ Hid (∀ q (h : q < a.keys.length), q < i → a.keys[q].size ≤ 2000))
    case atStart => exact ⟨0, rfl, rfl, Nat.zero_le _, rfl, Lib.hid (fun q _ h => absurd h (Nat.not_lt_zero q))⟩
    case round =>
      obtain ⟨i, rfl, rfl, hi, rfl, HK⟩ := hrel
      have p3 := HA.out.p3
      by_cases hlt : i < nk
      · have h1 : i < a.keys.length := by rw [HNK.out]; exact hlt
        obtain ⟨g, o, e1, t1⟩ := HKI.out i h1
        rw [e1] at p3
        have gi : (i : Int) < nk := by omega
        obtain ⟨kb, hkb⟩ : ∃ kb, a.keys[i] = kb := ⟨_, rfl⟩
        rw [hkb] at t1
        by_cases hz : kb.size ≤ 2000
        · have gz : ¬ (2000 : Int) < (kb.size : Int) := by omega
          have HK2 : Hid (∀ q (h : q < a.keys.length), q < i + 1 → a.keys[q].size ≤ 2000) := Lib.hid (fun q hq hqi => by
            rcases Nat.lt_or_ge q i with h | h
            · exact HK.out q hq h
            · obtain rfl : q = i := by omega
              rw [hkb]; exact hz)
          clear hkb HK hz e1
          go_wp2_with fail
          go_roundg (nk - (i + 1))
          case measure => omega
          case rel => exact ⟨i + 1, rfl, by go_num, by omega, rfl, HK2⟩
        · have gz : (2000 : Int) < (kb.size : Int) := by omega
          clear hkb HK hz e1
          go_wp2_with fail
          go_ret
          obtain ⟨r, rfl, h⟩ := hbig.out
          exact ⟨_, rfl, HB.out, h⟩
      · have gi : decide ((i : Int) < (nk : Int)) = false := by rw [decide_eq_false_iff_not]; omega
        have HKS : Hid (∀ q (h : q < a.keys.length), a.keys[q].size ≤ 2000) := Lib.hid (fun q hq => HK.out q hq (by have := HNK.out; omega))
        go_wp2_with fail
        clear p3 gi hlt hi HK
        go_loopg [5, 7] nv (fun m vw v wr => ∃ (i : Nat) (ws : Int), m = nv - i ∧ v = .int .i64 i ∧ vw = .int .i64 ws ∧ i ≤ nv ∧ Below W.heap.size W wr ∧ 1 ≤ ws ∧ ws ≤ 3000 * (f + 1 + 1 : Nat) ∧ Hid (ws ≤ 2000 → (∀ z (h : z < a.kids.length), z < i → Tame a.kids[z]) ∧ (cnts (a.kids.take i) : Int) ≤ ws - 1))
        case atStart => exact ⟨0, 1, rfl, rfl, rfl, Nat.zero_le _, Below.refl _ _, by decide, by omega, Lib.hid (fun _ => ⟨fun z _ h => absurd h (Nat.not_lt_zero z), by rw [List.take_zero, cnts]; decide⟩)⟩
        case round =>
          obtain ⟨i2, ws, rfl, rfl, rfl, hi2, hb, hw1, hw2, HS⟩ := hrel
          have p4 := (HA.out.same (hb.block G hGl)).p4
          by_cases hlt : i2 < nv
          · have h1 : i2 < a.kids.length := by rw [HNV.out]; exact hlt
            have gi : (i2 : Int) < nv := by omega
            by_cases hw3 : ws < 3000
            · obtain ⟨g, o, x0, x1, x2, x3, x4, e1, r0, r1, r2, r3, r4, hx⟩ := HVI.out.below hb i2 h1
              rw [e1] at p4
              have hcall := HIH.out (dd + 1) (by omega) a.kids[i2] wr _ _ _ _ _ hx
              rw [show ((dd + 1 : Nat) : Int) = (dd : Int) + 1 by omega] at hcall
              clear e1 hx
              go_wp2_with fail
              refine hcall.mono ?_
              rintro e w3 ⟨r, rfl, hb3, hr1, hr2, HL⟩
              have HLL := Lib.hid HL
              have hfb : (f : Int) ≤ 41 := by omega
              have hwr2 : IntKind.i64.wrap (ws + r) = ws + r := by rw [IntKind.wrap_i64]; omega
              clear HL hcall
              go_wp2_with fail
              go_roundg (nv - (i2 + 1))
              case measure => omega
              case rel =>
                refine ⟨i2 + 1, ws + r, rfl, by go_num, by first | rfl | rw [hwr2], by omega, hb.trans (hb3.mono hb.size), by omega, by omega, Lib.hid (fun hle => ?_)⟩
                have hs := HS.out (by omega)
                have hlr := HLL.out (by omega)
                refine ⟨fun z hz hzi => ?_, ?_⟩
                · rcases Nat.lt_or_ge z i2 with h | h
                  · exact hs.1 z hz h
                  · obtain rfl : z = i2 := by omega
                    exact hlr.tame
                · have h7 := hs.2
                  have h8 := hlr.few
                  rw [cnts_next _ _ h1]
                  omega
            · have gw : decide (ws < 3000) = false := by rw [decide_eq_false_iff_not]; exact hw3
              go_wp2_with fail
              go_ret
              (try rw [← hG])
              exact ⟨ws, rfl, HB.out.trans (hb.mono HB.out.size), hw1, hw2, fun h => by omega⟩
          · have gi : decide ((i2 : Int) < (nv : Int)) = false := by rw [decide_eq_false_iff_not]; omega
            go_wp2_with fail
            go_ret
            (try rw [← hG])
            refine ⟨ws, rfl, HB.out.trans (hb.mono HB.out.size), hw1, hw2, fun h => ?_⟩
            have hs := HS.out h
            obtain ⟨q1, q2, q3⟩ := HH.out
            have hn := HNV.out
            exact light_of (by rw [HTX.out]; exact q1) (by rw [HNK.out]; exact q2) (by rw [hn]; exact q3) HKS.out (fun z hz => hs.1 z hz (by omega)) (by
              have h9 := hs.2
              rw [show i2 = a.kids.length by omega] at h9
              exact h9)
/-- What is not great. -/
def Small (a : J) : Prop := Tame a ∧ cnt a ≤ 2000

set_option maxHeartbeats 2000000 in
set_option maxRecDepth 100000 in
theorem great_any {a : J} {w : World} {c0 c1 c2 c3 c4 : Value} (hN : NodeIn w a (.agg #[c0, c1, c2, c3, c4])) :
    Calls Tryd.prog 8 #[.agg #[c0, c1, c2, c3, c4]] w fun e w' => ∃ g : Bool, e = .returned (.bool g) ∧ Below w.heap.size w w' ∧ (g = false → Small a) := by
  obtain ⟨k, n, t, a3, nk, m3, a4, nv, m4, rfl, rfl, rfl, rfl, rfl⟩ := in_forms hN
  obtain ⟨hb0, hA, hsz⟩ := bx_new w (.int .i64 k) (.int .i64 n) (.string t) (.slice a3 nk m3) (.slice a4 nv m4)
  obtain ⟨W, hW⟩ : ∃ W, w.alloc (.cells #[.int .i64 k, .int .i64 n, .string t, .slice a3 nk m3, .slice a4 nv m4] 25) = W := ⟨_, rfl⟩
  rw [hW] at hb0 hA hsz
  have hcall := weight_any 41 0 rfl a W _ _ _ _ _ (node_below hb0 hN)
  have HB := Lib.hid hb0
  obtain ⟨G, hG⟩ : ∃ G, w.heap.size = G := ⟨_, rfl⟩
  rw [hG] at hA
  have HW := Lib.hid hW
  have p0 := hA.p0
  have p1 := hA.p1
  have p2 := hA.p2
  have p3 := hA.p3
  have p4 := hA.p4
  clear hA hb0 hW hN
  go_enter Tryd.func8, Tryd.ntmps8
  go_upto_region 1 with fail
  rw [HW.out]
  (try rw [hG])
  go_wp2_with fail
  refine hcall.mono ?_
  rintro e w1 ⟨r, rfl, hb1, h1, h2, h3⟩
  have H3 := Lib.hid h3
  clear h3 hcall
  go_wp2_with fail
  all_goals
    go_ret
    (try rw [← hG])
    refine ⟨_, rfl, HB.out.trans (hb1.mono HB.out.size), fun hg => ?_⟩
    have hle : r ≤ 2000 := by simpa using hg
    have hl := H3.out hle
    exact ⟨hl.tame, by have := hl.few; omega⟩
end Go.Proofs.YtoofcclcimkipaaDoor.J9
