/-
  A cut in the middle of a region that only reads, walked in the order of its text: of the region's own slots, from 76 to 149, one is told on. No law and no function of the project in this text. Conditions: none.
-/
import Derived.Test.YtpnffmimpkimeaaKit
import Derived.BigQuiet
namespace Go.Proofs.Ytpnffmimpkimeaa.Qc
open Go

section
variable {P : Program} {ops : Array Oper} {C : World → Prop} {Q : Act → Prop}
theorem cut (Mid : Act → Prop) : ∀ (k : Nat) (l : List Oper) (a : Act), wpQuiet P ops C Mid (l.take k) a → (∀ a', Mid a' → wpQuiet P ops C Q (l.drop k) a') → wpQuiet P ops C Q l a
  | 0, l, a, h1, h2 => h2 a h1
  | _ + 1, [], a, h1, h2 => h2 a h1
  | k + 1, o :: r, a, h1, h2 => by
    rw [List.take_succ_cons, wpQuiet] at h1
    rw [wpQuiet]
    split
    · rename_i hw
      rw [if_pos hw] at h1
      exact Oper.quiet_mono (fun a' h' => cut Mid k r a' h' h2) h1
    · rename_i hw
      rw [if_neg hw] at h1
      exact cut Mid k r _ h1 h2
/-- The frame as it was, but for the region's own slots; one of these holds v. -/
def Mid (n : Nat) (v : Value) (a a' : Act) : Prop := a'.defers = a.defers ∧ ∃ m : List Value, m.length = 74 ∧ a'.tmps = (a.tmps.toList.take 76 ++ (m ++ a.tmps.toList.drop 150)).toArray ∧ m[n - 76]? = some v
theorem mid_of {n : Nat} {v : Value} {a a' : Act} (hd : a'.defers = a.defers) (h1 : a'.tmps.toList.take 76 = a.tmps.toList.take 76) (h2 : a'.tmps.toList.drop 150 = a.tmps.toList.drop 150) (hs : 150 ≤ a'.tmps.toList.length) (hn : ((a'.tmps.toList.take 150).drop 76)[n - 76]? = some v) : Mid n v a a' := by
  refine ⟨hd, (a'.tmps.toList.take 150).drop 76, by rw [List.length_drop, List.length_take]; omega, ?_, hn⟩
  rw [← h1, ← h2]
  apply Array.ext'
  show a'.tmps.toList = _
  rw [show List.take 76 a'.tmps.toList = List.take 76 (List.take 150 a'.tmps.toList) by rw [List.take_take]; rfl, ← List.append_assoc, List.take_append_drop, List.take_append_drop]
theorem at_slot {l : List Oper} {a : Act} (k n : Nat) (v : Value) (h1 : wpQuiet P ops C (Mid n v a) (l.take k) a) (h2 : ∀ a', Mid n v a a' → wpQuiet P ops C Q (l.drop k) a') : wpQuiet P ops C Q l a := cut _ k l a h1 h2
end
theorem lit {n : Nat} {v : Value} {a a' : Act} (h : Mid n v a a') : ∃ x76 x77 x78 x79 x80 x81 x82 x83 x84 x85 x86 x87 x88 x89 x90 x91 x92 x93 x94 x95 x96 x97 x98 x99 x100 x101 x102 x103 x104 x105 x106 x107 x108 x109 x110 x111 x112 x113 x114 x115 x116 x117 x118 x119 x120 x121 x122 x123 x124 x125 x126 x127 x128 x129 x130 x131 x132 x133 x134 x135 x136 x137 x138 x139 x140 x141 x142 x143 x144 x145 x146 x147 x148 x149 : Value, a' = ⟨(a.tmps.toList.take 76 ++ ([x76, x77, x78, x79, x80, x81, x82, x83, x84, x85, x86, x87, x88, x89, x90, x91, x92, x93, x94, x95, x96, x97, x98, x99, x100, x101, x102, x103, x104, x105, x106, x107, x108, x109, x110, x111, x112, x113, x114, x115, x116, x117, x118, x119, x120, x121, x122, x123, x124, x125, x126, x127, x128, x129, x130, x131, x132, x133, x134, x135, x136, x137, x138, x139, x140, x141, x142, x143, x144, x145, x146, x147, x148, x149] ++ a.tmps.toList.drop 150)).toArray, a.defers⟩ ∧ ([x76, x77, x78, x79, x80, x81, x82, x83, x84, x85, x86, x87, x88, x89, x90, x91, x92, x93, x94, x95, x96, x97, x98, x99, x100, x101, x102, x103, x104, x105, x106, x107, x108, x109, x110, x111, x112, x113, x114, x115, x116, x117, x118, x119, x120, x121, x122, x123, x124, x125, x126, x127, x128, x129, x130, x131, x132, x133, x134, x135, x136, x137, x138, x139, x140, x141, x142, x143, x144, x145, x146, x147, x148, x149] : List Value)[n - 76]? = some v := by
  obtain ⟨hd, m, hm, ht, hn⟩ := h
  obtain ⟨x76, m1, rfl⟩ : ∃ y r, m = y :: r := by cases m with | nil => simp at hm | cons y r => exact ⟨y, r, rfl⟩
  obtain ⟨x77, m2, rfl⟩ : ∃ y r, m1 = y :: r := by cases m1 with | nil => simp at hm | cons y r => exact ⟨y, r, rfl⟩
  obtain ⟨x78, m3, rfl⟩ : ∃ y r, m2 = y :: r := by cases m2 with | nil => simp at hm | cons y r => exact ⟨y, r, rfl⟩
  obtain ⟨x79, m4, rfl⟩ : ∃ y r, m3 = y :: r := by cases m3 with | nil => simp at hm | cons y r => exact ⟨y, r, rfl⟩
  obtain ⟨x80, m5, rfl⟩ : ∃ y r, m4 = y :: r := by cases m4 with | nil => simp at hm | cons y r => exact ⟨y, r, rfl⟩
  obtain ⟨x81, m6, rfl⟩ : ∃ y r, m5 = y :: r := by cases m5 with | nil => simp at hm | cons y r => exact ⟨y, r, rfl⟩
  obtain ⟨x82, m7, rfl⟩ : ∃ y r, m6 = y :: r := by cases m6 with | nil => simp at hm | cons y r => exact ⟨y, r, rfl⟩
  obtain ⟨x83, m8, rfl⟩ : ∃ y r, m7 = y :: r := by cases m7 with | nil => simp at hm | cons y r => exact ⟨y, r, rfl⟩
  obtain ⟨x84, m9, rfl⟩ : ∃ y r, m8 = y :: r := by cases m8 with | nil => simp at hm | cons y r => exact ⟨y, r, rfl⟩
  obtain ⟨x85, m10, rfl⟩ : ∃ y r, m9 = y :: r := by cases m9 with | nil => simp at hm | cons y r => exact ⟨y, r, rfl⟩
  obtain ⟨x86, m11, rfl⟩ : ∃ y r, m10 = y :: r := by cases m10 with | nil => simp at hm | cons y r => exact ⟨y, r, rfl⟩
  obtain ⟨x87, m12, rfl⟩ : ∃ y r, m11 = y :: r := by cases m11 with | nil => simp at hm | cons y r => exact ⟨y, r, rfl⟩
  obtain ⟨x88, m13, rfl⟩ : ∃ y r, m12 = y :: r := by cases m12 with | nil => simp at hm | cons y r => exact ⟨y, r, rfl⟩
  obtain ⟨x89, m14, rfl⟩ : ∃ y r, m13 = y :: r := by cases m13 with | nil => simp at hm | cons y r => exact ⟨y, r, rfl⟩
  obtain ⟨x90, m15, rfl⟩ : ∃ y r, m14 = y :: r := by cases m14 with | nil => simp at hm | cons y r => exact ⟨y, r, rfl⟩
  obtain ⟨x91, m16, rfl⟩ : ∃ y r, m15 = y :: r := by cases m15 with | nil => simp at hm | cons y r => exact ⟨y, r, rfl⟩
  obtain ⟨x92, m17, rfl⟩ : ∃ y r, m16 = y :: r := by cases m16 with | nil => simp at hm | cons y r => exact ⟨y, r, rfl⟩
  obtain ⟨x93, m18, rfl⟩ : ∃ y r, m17 = y :: r := by cases m17 with | nil => simp at hm | cons y r => exact ⟨y, r, rfl⟩
  obtain ⟨x94, m19, rfl⟩ : ∃ y r, m18 = y :: r := by cases m18 with | nil => simp at hm | cons y r => exact ⟨y, r, rfl⟩
  obtain ⟨x95, m20, rfl⟩ : ∃ y r, m19 = y :: r := by cases m19 with | nil => simp at hm | cons y r => exact ⟨y, r, rfl⟩
  obtain ⟨x96, m21, rfl⟩ : ∃ y r, m20 = y :: r := by cases m20 with | nil => simp at hm | cons y r => exact ⟨y, r, rfl⟩
  obtain ⟨x97, m22, rfl⟩ : ∃ y r, m21 = y :: r := by cases m21 with | nil => simp at hm | cons y r => exact ⟨y, r, rfl⟩
  obtain ⟨x98, m23, rfl⟩ : ∃ y r, m22 = y :: r := by cases m22 with | nil => simp at hm | cons y r => exact ⟨y, r, rfl⟩
  obtain ⟨x99, m24, rfl⟩ : ∃ y r, m23 = y :: r := by cases m23 with | nil => simp at hm | cons y r => exact ⟨y, r, rfl⟩
  obtain ⟨x100, m25, rfl⟩ : ∃ y r, m24 = y :: r := by cases m24 with | nil => simp at hm | cons y r => exact ⟨y, r, rfl⟩
  obtain ⟨x101, m26, rfl⟩ : ∃ y r, m25 = y :: r := by cases m25 with | nil => simp at hm | cons y r => exact ⟨y, r, rfl⟩
  obtain ⟨x102, m27, rfl⟩ : ∃ y r, m26 = y :: r := by cases m26 with | nil => simp at hm | cons y r => exact ⟨y, r, rfl⟩
  obtain ⟨x103, m28, rfl⟩ : ∃ y r, m27 = y :: r := by cases m27 with | nil => simp at hm | cons y r => exact ⟨y, r, rfl⟩
  obtain ⟨x104, m29, rfl⟩ : ∃ y r, m28 = y :: r := by cases m28 with | nil => simp at hm | cons y r => exact ⟨y, r, rfl⟩
  obtain ⟨x105, m30, rfl⟩ : ∃ y r, m29 = y :: r := by cases m29 with | nil => simp at hm | cons y r => exact ⟨y, r, rfl⟩
  obtain ⟨x106, m31, rfl⟩ : ∃ y r, m30 = y :: r := by cases m30 with | nil => simp at hm | cons y r => exact ⟨y, r, rfl⟩
  obtain ⟨x107, m32, rfl⟩ : ∃ y r, m31 = y :: r := by cases m31 with | nil => simp at hm | cons y r => exact ⟨y, r, rfl⟩
  obtain ⟨x108, m33, rfl⟩ : ∃ y r, m32 = y :: r := by cases m32 with | nil => simp at hm | cons y r => exact ⟨y, r, rfl⟩
  obtain ⟨x109, m34, rfl⟩ : ∃ y r, m33 = y :: r := by cases m33 with | nil => simp at hm | cons y r => exact ⟨y, r, rfl⟩
  obtain ⟨x110, m35, rfl⟩ : ∃ y r, m34 = y :: r := by cases m34 with | nil => simp at hm | cons y r => exact ⟨y, r, rfl⟩
  obtain ⟨x111, m36, rfl⟩ : ∃ y r, m35 = y :: r := by cases m35 with | nil => simp at hm | cons y r => exact ⟨y, r, rfl⟩
  obtain ⟨x112, m37, rfl⟩ : ∃ y r, m36 = y :: r := by cases m36 with | nil => simp at hm | cons y r => exact ⟨y, r, rfl⟩
  obtain ⟨x113, m38, rfl⟩ : ∃ y r, m37 = y :: r := by cases m37 with | nil => simp at hm | cons y r => exact ⟨y, r, rfl⟩
  obtain ⟨x114, m39, rfl⟩ : ∃ y r, m38 = y :: r := by cases m38 with | nil => simp at hm | cons y r => exact ⟨y, r, rfl⟩
  obtain ⟨x115, m40, rfl⟩ : ∃ y r, m39 = y :: r := by cases m39 with | nil => simp at hm | cons y r => exact ⟨y, r, rfl⟩
  obtain ⟨x116, m41, rfl⟩ : ∃ y r, m40 = y :: r := by cases m40 with | nil => simp at hm | cons y r => exact ⟨y, r, rfl⟩
  obtain ⟨x117, m42, rfl⟩ : ∃ y r, m41 = y :: r := by cases m41 with | nil => simp at hm | cons y r => exact ⟨y, r, rfl⟩
  obtain ⟨x118, m43, rfl⟩ : ∃ y r, m42 = y :: r := by cases m42 with | nil => simp at hm | cons y r => exact ⟨y, r, rfl⟩
  obtain ⟨x119, m44, rfl⟩ : ∃ y r, m43 = y :: r := by cases m43 with | nil => simp at hm | cons y r => exact ⟨y, r, rfl⟩
  obtain ⟨x120, m45, rfl⟩ : ∃ y r, m44 = y :: r := by cases m44 with | nil => simp at hm | cons y r => exact ⟨y, r, rfl⟩
  obtain ⟨x121, m46, rfl⟩ : ∃ y r, m45 = y :: r := by cases m45 with | nil => simp at hm | cons y r => exact ⟨y, r, rfl⟩
  obtain ⟨x122, m47, rfl⟩ : ∃ y r, m46 = y :: r := by cases m46 with | nil => simp at hm | cons y r => exact ⟨y, r, rfl⟩
  obtain ⟨x123, m48, rfl⟩ : ∃ y r, m47 = y :: r := by cases m47 with | nil => simp at hm | cons y r => exact ⟨y, r, rfl⟩
  obtain ⟨x124, m49, rfl⟩ : ∃ y r, m48 = y :: r := by cases m48 with | nil => simp at hm | cons y r => exact ⟨y, r, rfl⟩
  obtain ⟨x125, m50, rfl⟩ : ∃ y r, m49 = y :: r := by cases m49 with | nil => simp at hm | cons y r => exact ⟨y, r, rfl⟩
  obtain ⟨x126, m51, rfl⟩ : ∃ y r, m50 = y :: r := by cases m50 with | nil => simp at hm | cons y r => exact ⟨y, r, rfl⟩
  obtain ⟨x127, m52, rfl⟩ : ∃ y r, m51 = y :: r := by cases m51 with | nil => simp at hm | cons y r => exact ⟨y, r, rfl⟩
  obtain ⟨x128, m53, rfl⟩ : ∃ y r, m52 = y :: r := by cases m52 with | nil => simp at hm | cons y r => exact ⟨y, r, rfl⟩
  obtain ⟨x129, m54, rfl⟩ : ∃ y r, m53 = y :: r := by cases m53 with | nil => simp at hm | cons y r => exact ⟨y, r, rfl⟩
  obtain ⟨x130, m55, rfl⟩ : ∃ y r, m54 = y :: r := by cases m54 with | nil => simp at hm | cons y r => exact ⟨y, r, rfl⟩
  obtain ⟨x131, m56, rfl⟩ : ∃ y r, m55 = y :: r := by cases m55 with | nil => simp at hm | cons y r => exact ⟨y, r, rfl⟩
  obtain ⟨x132, m57, rfl⟩ : ∃ y r, m56 = y :: r := by cases m56 with | nil => simp at hm | cons y r => exact ⟨y, r, rfl⟩
  obtain ⟨x133, m58, rfl⟩ : ∃ y r, m57 = y :: r := by cases m57 with | nil => simp at hm | cons y r => exact ⟨y, r, rfl⟩
  obtain ⟨x134, m59, rfl⟩ : ∃ y r, m58 = y :: r := by cases m58 with | nil => simp at hm | cons y r => exact ⟨y, r, rfl⟩
  obtain ⟨x135, m60, rfl⟩ : ∃ y r, m59 = y :: r := by cases m59 with | nil => simp at hm | cons y r => exact ⟨y, r, rfl⟩
  obtain ⟨x136, m61, rfl⟩ : ∃ y r, m60 = y :: r := by cases m60 with | nil => simp at hm | cons y r => exact ⟨y, r, rfl⟩
  obtain ⟨x137, m62, rfl⟩ : ∃ y r, m61 = y :: r := by cases m61 with | nil => simp at hm | cons y r => exact ⟨y, r, rfl⟩
  obtain ⟨x138, m63, rfl⟩ : ∃ y r, m62 = y :: r := by cases m62 with | nil => simp at hm | cons y r => exact ⟨y, r, rfl⟩
  obtain ⟨x139, m64, rfl⟩ : ∃ y r, m63 = y :: r := by cases m63 with | nil => simp at hm | cons y r => exact ⟨y, r, rfl⟩
  obtain ⟨x140, m65, rfl⟩ : ∃ y r, m64 = y :: r := by cases m64 with | nil => simp at hm | cons y r => exact ⟨y, r, rfl⟩
  obtain ⟨x141, m66, rfl⟩ : ∃ y r, m65 = y :: r := by cases m65 with | nil => simp at hm | cons y r => exact ⟨y, r, rfl⟩
  obtain ⟨x142, m67, rfl⟩ : ∃ y r, m66 = y :: r := by cases m66 with | nil => simp at hm | cons y r => exact ⟨y, r, rfl⟩
  obtain ⟨x143, m68, rfl⟩ : ∃ y r, m67 = y :: r := by cases m67 with | nil => simp at hm | cons y r => exact ⟨y, r, rfl⟩
  obtain ⟨x144, m69, rfl⟩ : ∃ y r, m68 = y :: r := by cases m68 with | nil => simp at hm | cons y r => exact ⟨y, r, rfl⟩
  obtain ⟨x145, m70, rfl⟩ : ∃ y r, m69 = y :: r := by cases m69 with | nil => simp at hm | cons y r => exact ⟨y, r, rfl⟩
  obtain ⟨x146, m71, rfl⟩ : ∃ y r, m70 = y :: r := by cases m70 with | nil => simp at hm | cons y r => exact ⟨y, r, rfl⟩
  obtain ⟨x147, m72, rfl⟩ : ∃ y r, m71 = y :: r := by cases m71 with | nil => simp at hm | cons y r => exact ⟨y, r, rfl⟩
  obtain ⟨x148, m73, rfl⟩ : ∃ y r, m72 = y :: r := by cases m72 with | nil => simp at hm | cons y r => exact ⟨y, r, rfl⟩
  obtain ⟨x149, m74, rfl⟩ : ∃ y r, m73 = y :: r := by cases m73 with | nil => simp at hm | cons y r => exact ⟨y, r, rfl⟩
  obtain rfl : m74 = [] := by simpa using hm
  refine ⟨x76, x77, x78, x79, x80, x81, x82, x83, x84, x85, x86, x87, x88, x89, x90, x91, x92, x93, x94, x95, x96, x97, x98, x99, x100, x101, x102, x103, x104, x105, x106, x107, x108, x109, x110, x111, x112, x113, x114, x115, x116, x117, x118, x119, x120, x121, x122, x123, x124, x125, x126, x127, x128, x129, x130, x131, x132, x133, x134, x135, x136, x137, x138, x139, x140, x141, x142, x143, x144, x145, x146, x147, x148, x149, ?_, hn⟩
  cases a' with
  | mk t d =>
    simp only at hd ht
    rw [hd, ht]
theorem on {n : Nat} {v : Value} {a a' : Act} {G : Act → Prop} (h : Mid n v a a') (k : ∀ x76 x77 x78 x79 x80 x81 x82 x83 x84 x85 x86 x87 x88 x89 x90 x91 x92 x93 x94 x95 x96 x97 x98 x99 x100 x101 x102 x103 x104 x105 x106 x107 x108 x109 x110 x111 x112 x113 x114 x115 x116 x117 x118 x119 x120 x121 x122 x123 x124 x125 x126 x127 x128 x129 x130 x131 x132 x133 x134 x135 x136 x137 x138 x139 x140 x141 x142 x143 x144 x145 x146 x147 x148 x149 : Value, ([x76, x77, x78, x79, x80, x81, x82, x83, x84, x85, x86, x87, x88, x89, x90, x91, x92, x93, x94, x95, x96, x97, x98, x99, x100, x101, x102, x103, x104, x105, x106, x107, x108, x109, x110, x111, x112, x113, x114, x115, x116, x117, x118, x119, x120, x121, x122, x123, x124, x125, x126, x127, x128, x129, x130, x131, x132, x133, x134, x135, x136, x137, x138, x139, x140, x141, x142, x143, x144, x145, x146, x147, x148, x149] : List Value)[n - 76]? = some v → G ⟨(a.tmps.toList.take 76 ++ ([x76, x77, x78, x79, x80, x81, x82, x83, x84, x85, x86, x87, x88, x89, x90, x91, x92, x93, x94, x95, x96, x97, x98, x99, x100, x101, x102, x103, x104, x105, x106, x107, x108, x109, x110, x111, x112, x113, x114, x115, x116, x117, x118, x119, x120, x121, x122, x123, x124, x125, x126, x127, x128, x129, x130, x131, x132, x133, x134, x135, x136, x137, x138, x139, x140, x141, x142, x143, x144, x145, x146, x147, x148, x149] ++ a.tmps.toList.drop 150)).toArray, a.defers⟩) : G a' := by
  obtain ⟨x76, x77, x78, x79, x80, x81, x82, x83, x84, x85, x86, x87, x88, x89, x90, x91, x92, x93, x94, x95, x96, x97, x98, x99, x100, x101, x102, x103, x104, x105, x106, x107, x108, x109, x110, x111, x112, x113, x114, x115, x116, x117, x118, x119, x120, x121, x122, x123, x124, x125, x126, x127, x128, x129, x130, x131, x132, x133, x134, x135, x136, x137, x138, x139, x140, x141, x142, x143, x144, x145, x146, x147, x148, x149, e, hn⟩ := lit h
  rw [e]
  exact k x76 x77 x78 x79 x80 x81 x82 x83 x84 x85 x86 x87 x88 x89 x90 x91 x92 x93 x94 x95 x96 x97 x98 x99 x100 x101 x102 x103 x104 x105 x106 x107 x108 x109 x110 x111 x112 x113 x114 x115 x116 x117 x118 x119 x120 x121 x122 x123 x124 x125 x126 x127 x128 x129 x130 x131 x132 x133 x134 x135 x136 x137 x138 x139 x140 x141 x142 x143 x144 x145 x146 x147 x148 x149 hn
end Go.Proofs.Ytpnffmimpkimeaa.Qc
