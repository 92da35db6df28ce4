/-
  The library's sort sorts a part of a row: what it keeps from round to round; the walk; the rows that the claims hand in.
-/
import Derived.Test.YtbaeillecojilaaDoorSrtPeq
import Derived.Test.YtbaeillecojilaaDoorSrtPrt
import Derived.Test.YtbaeillecojilaaDoorSrtBrk
import Derived.Test.YtbaeillecojilaaDoorSrtPin
import Derived.Test.YtbaeillecojilaaDoorSrtHeap
import Derived.Test.YtbaeillecojilaaDoorSrtCho
import Derived.Test.YtbaeillecojilaaDoorSrtSmall
namespace Go.Proofs.YtbaeillecojilaaDoor.sq
open Go.RowKit
open Go.Sort (swp PermIn SortedIn ltInt SWO bitsLen)

theorem lt_t {x y : Int} : ltInt x y = true ↔ x < y := by unfold Go.Sort.ltInt; exact decide_eq_true_iff
theorem lt_f {x y : Int} : ltInt x y = false ↔ y ≤ x := by unfold Go.Sort.ltInt; rw [decide_eq_false_iff_not]; omega

/-- The part that is still to be sorted; when it is, the whole part is. -/
structure Inv (a0 b0 : Nat) (d0 : Array Int) (a b : Nat) (d : Array Int) : Prop where
  ha : a0 ≤ a
  hab : a ≤ b
  hb : b ≤ b0
  hd : b0 ≤ d0.size
  perm : PermIn a0 b0 d0 d
  below : Go.Sort.Below ltInt a b d
  fin : ∀ d', PermIn a b d d' → SortedIn ltInt a b d' → SortedIn ltInt a0 b0 d'
theorem Inv.start {a b : Nat} {d : Array Int} (hab : a ≤ b) (hb : b ≤ d.size) (hB : Go.Sort.Below ltInt a b d) : Inv a b d a b d :=
  ⟨Nat.le_refl _, hab, Nat.le_refl _, hb, Go.Sort.permIn_refl _ _ _, hB, fun _ _ h => h⟩
theorem Inv.size {a0 b0 a b : Nat} {d0 d : Array Int} (h : Inv a0 b0 d0 a b d) : d.size = d0.size := h.perm.1
theorem Inv.bd {a0 b0 a b : Nat} {d0 d : Array Int} (h : Inv a0 b0 d0 a b d) : b ≤ d.size := by rw [h.size]; exact Nat.le_trans h.hb h.hd
theorem Inv.wide {a0 b0 a b : Nat} {d0 d d' : Array Int} (h : Inv a0 b0 d0 a b d) (hp : PermIn a b d d') : PermIn a0 b0 d0 d' :=
  Go.Sort.permIn_trans _ _ _ _ _ h.perm (Go.Sort.permIn_mono _ _ _ _ _ _ h.ha h.hb (by rw [h.size]; exact h.hd) hp)
theorem Inv.turn {a0 b0 a b : Nat} {d0 d d' : Array Int} (h : Inv a0 b0 d0 a b d) (hp : PermIn a b d d') : Inv a0 b0 d0 a b d' :=
  ⟨h.ha, h.hab, h.hb, h.hd, h.wide hp, h.below.perm h.bd hp, fun d'' p s => h.fin d'' (Go.Sort.permIn_trans _ _ _ _ _ hp p) s⟩
theorem Inv.done {a0 b0 a b : Nat} {d0 d d' : Array Int} (h : Inv a0 b0 d0 a b d) (hp : PermIn a b d d') (hs : SortedIn ltInt a b d') : PermIn a0 b0 d0 d' ∧ SortedIn ltInt a0 b0 d' := ⟨h.wide hp, h.fin d' hp hs⟩

/-- Behind the parting by equality. -/
theorem Inv.equal {a0 b0 a b q m j : Nat} {d0 d d' : Array Int} (h : Inv a0 b0 d0 a b d) (h0 : 0 < a) (hl : ltInt d[a - 1]! d[q]! = false)
    (h1 : a < m) (h2 : m ≤ b) (hm : m = j + 1) (hp : Parted (fun x => !ltInt d[q]! x) a b d[q]! d d' m j) : Inv a0 b0 d0 m b d' := by
  have hT := h.turn hp.perm
  have hle : ∀ x, a ≤ x → x < b → d'[a - 1]! ≤ d'[x]! := fun x k1 k2 => by
    rcases hT.below with e | e
    · omega
    · exact lt_f.1 (e x k1 k2)
  have hsame : d'[a - 1]! = d[a - 1]! := hp.perm.2.1 (a - 1) (.inl (by omega))
  have hpq : d[q]! ≤ d[a - 1]! := lt_f.1 hl
  have hlo : ∀ x, a ≤ x → x < m → d'[x]! = d[q]! := fun x k1 k2 => by
    have g1 := hle x k1 (by omega)
    rcases Nat.eq_or_lt_of_le k1 with e | e
    · rw [← e]; exact hp.piv
    · have g2 := hp.left x e k2
      simp only [Bool.not_eq_true'] at g2
      have g3 := lt_f.1 g2
      omega
  have hhi : ∀ x, m ≤ x → x < b → d[q]! ≤ d'[x]! := fun x k1 k2 => by
    have g2 := hp.right x (by omega) k2
    simp only [Bool.not_eq_false'] at g2
    have g3 := lt_t.1 g2
    omega
  refine ⟨by have := h.ha; omega, h2, h.hb, h.hd, hT.perm, .inr fun x k1 k2 => lt_f.2 (by rw [hlo (m - 1) (by omega) (by omega)]; exact hhi x k1 k2), fun d'' p s => hT.fin d'' (Go.Sort.permIn_mono _ _ _ _ _ _ (by omega) (Nat.le_refl _) hT.bd p) ?_⟩
  have hall := Go.Sort.permIn_all d' d'' m b (fun x => d[q]! ≤ x) hT.bd p hhi
  intro i k hi hik hk
  by_cases c1 : k < m
  · rw [p.2.1 i (.inl (by omega)), p.2.1 k (.inl c1), hlo i hi (by omega), hlo k (by omega) c1]
    exact lt_f.2 (Int.le_refl _)
  · by_cases c2 : i < m
    · rw [p.2.1 i (.inl c2), hlo i hi c2]
      exact lt_f.2 (hall k (by omega) hk)
    · exact s i k (by omega) hik hk

/-- How two sorted parts lie round the pivot. -/
theorem glue {a b m : Nat} {d : Array Int} (hL : SortedIn ltInt a m d) (hR : SortedIn ltInt (m + 1) b d) (hlo : ∀ x, a ≤ x → x < m → d[x]! < d[m]!) (hhi : ∀ x, m < x → x < b → d[m]! ≤ d[x]!) : SortedIn ltInt a b d := by
  intro i j hi hij hj
  rcases Nat.lt_trichotomy j m with c | c | c
  · exact hL i j hi hij c
  · subst c
    have := hlo i hi hij
    exact lt_f.2 (by omega)
  · rcases Nat.lt_trichotomy i m with e | e | e
    · have g1 := hlo i hi e
      have g2 := hhi j c hj
      exact lt_f.2 (by omega)
    · subst e
      exact lt_f.2 (hhi j c hj)
    · exact hR i j (by omega) hij hj

/-- Behind the parting: what lies on the pivot's two sides. -/
structure Split (a b m : Nat) (p : Int) (d d' : Array Int) : Prop where
  perm : PermIn a b d d'
  piv : d'[m]! = p
  left : ∀ x, a ≤ x → x < m → d'[x]! < p
  right : ∀ x, m < x → x < b → p ≤ d'[x]!
theorem Inv.splitL {a0 b0 a b m : Nat} {p : Int} {d0 d d' : Array Int} (h : Inv a0 b0 d0 a b d) (hs : Split a b m p d d') (h2 : m < b) : Go.Sort.Below ltInt a m d' := ((h.turn hs.perm).below).mono (by omega)
theorem Split.belowR {a b m : Nat} {p : Int} {d d' : Array Int} (hs : Split a b m p d d') : Go.Sort.Below ltInt (m + 1) b d' :=
  .inr fun x k1 k2 => lt_f.2 (by rw [Nat.add_sub_cancel, hs.piv]; exact hs.right x (by omega) k2)
/-- The left part is sorted: the right one is left. -/
theorem Inv.leftDone {a0 b0 a b m : Nat} {p : Int} {d0 d d' L : Array Int} (h : Inv a0 b0 d0 a b d) (hs : Split a b m p d d') (h1 : a ≤ m) (h2 : m < b) (hp : PermIn a m d' L) (hS : SortedIn ltInt a m L) : Inv a0 b0 d0 (m + 1) b L := by
  have hT := h.turn hs.perm
  have hTL := hT.turn (Go.Sort.permIn_mono _ _ _ _ _ _ (Nat.le_refl _) (by omega) hT.bd hp)
  have hpiv : L[m]! = p := by rw [hp.2.1 m (.inr (Nat.le_refl _))]; exact hs.piv
  have hlo : ∀ x, a ≤ x → x < m → L[x]! < p := Go.Sort.permIn_all d' L a m (fun x => x < p) (by have := hT.bd; omega) hp hs.left
  have hhi : ∀ x, m < x → x < b → p ≤ L[x]! := fun x k1 k2 => by rw [hp.2.1 x (.inr (by omega))]; exact hs.right x k1 k2
  refine ⟨by have := h.ha; omega, by omega, h.hb, h.hd, hTL.perm, .inr fun x k1 k2 => lt_f.2 (by rw [Nat.add_sub_cancel, hpiv]; exact hhi x (by omega) k2), fun d'' q s => hTL.fin d'' (Go.Sort.permIn_mono _ _ _ _ _ _ (by omega) (Nat.le_refl _) hTL.bd q) ?_⟩
  have hall := Go.Sort.permIn_all L d'' (m + 1) b (fun x => p ≤ x) hTL.bd q (fun x k1 k2 => hhi x (by omega) k2)
  have hm : d''[m]! = p := by rw [q.2.1 m (.inl (by omega))]; exact hpiv
  exact glue (Go.Sort.SortedIn.congr hS (fun i k1 k2 => q.2.1 i (.inl (by omega)))) s (fun x k1 k2 => by rw [hm, q.2.1 x (.inl (by omega))]; exact hlo x k1 k2) (fun x k1 k2 => by rw [hm]; exact hall x (by omega) k2)
/-- The right part is sorted: the left one is left. -/
theorem Inv.rightDone {a0 b0 a b m : Nat} {p : Int} {d0 d d' R : Array Int} (h : Inv a0 b0 d0 a b d) (hs : Split a b m p d d') (h1 : a ≤ m) (h2 : m < b) (hp : PermIn (m + 1) b d' R) (hS : SortedIn ltInt (m + 1) b R) : Inv a0 b0 d0 a m R := by
  have hT := h.turn hs.perm
  have hTR := hT.turn (Go.Sort.permIn_mono _ _ _ _ _ _ (by omega) (Nat.le_refl _) hT.bd hp)
  have hpiv : R[m]! = p := by rw [hp.2.1 m (.inl (by omega))]; exact hs.piv
  have hlo : ∀ x, a ≤ x → x < m → R[x]! < p := fun x k1 k2 => by rw [hp.2.1 x (.inl (by omega))]; exact hs.left x k1 k2
  have hhi : ∀ x, m + 1 ≤ x → x < b → p ≤ R[x]! := Go.Sort.permIn_all d' R (m + 1) b (fun x => p ≤ x) hT.bd hp (fun x k1 k2 => hs.right x (by omega) k2)
  refine ⟨h.ha, h1, by have := h.hb; omega, h.hd, hTR.perm, hTR.below.mono (by omega), fun d'' q s => hTR.fin d'' (Go.Sort.permIn_mono _ _ _ _ _ _ (Nat.le_refl _) (by omega) hTR.bd q) ?_⟩
  have hall := Go.Sort.permIn_all R d'' a m (fun x => x < p) (by have := hTR.bd; omega) q hlo
  have hm : d''[m]! = p := by rw [q.2.1 m (.inr (Nat.le_refl _))]; exact hpiv
  exact glue s (Go.Sort.SortedIn.congr hS (fun i k1 k2 => q.2.1 i (.inr (by omega)))) (fun x k1 k2 => by rw [hm]; exact hall x k1 k2) (fun x k1 k2 => by rw [hm, q.2.1 x (.inr (by omega))]; exact hhi x (by omega) k2)

theorem ins_at {w W : World} {g : Nat} {d D : Array Int} (cap a b : Nat) (hW : St w g D W) (hs : D.size = d.size) (hab : a ≤ b) (hb : b ≤ d.size) (hsz : d.size < 4611686018427387904) : Calls Tryd.prog 66 #[.slice (some ⟨g, 0, none⟩) d.size cap, .int .i64 a, .int .i64 b] W fun e w' => e = .returned (.tuple #[]) ∧ ∃ d', PermIn a b D d' ∧ SortedIn ltInt a b d' ∧ St w g d' w' := by
  rw [← hs] at hb hsz ⊢
  exact (insertion_any g cap a b D W hW.row hW.lt hab hb hsz).mono fun e w' h => by obtain ⟨h1, d', p, s, k⟩ := h; exact ⟨h1, d', p, s, hW.then k⟩
theorem heap_at {w W : World} {g : Nat} {d D : Array Int} (cap a b : Nat) (hW : St w g D W) (hs : D.size = d.size) (hab : a < b) (hb : b ≤ d.size) (hsz : d.size < 4611686018427387904) : Calls Tryd.prog 67 #[.slice (some ⟨g, 0, none⟩) d.size cap, .int .i64 a, .int .i64 b] W fun e w' => e = .returned (.tuple #[]) ∧ ∃ d', PermIn a b D d' ∧ SortedIn ltInt a b d' ∧ St w g d' w' := by
  rw [← hs] at hb hsz ⊢
  exact (heap_any g cap a b D W hW.row hW.lt hab hb hsz).mono fun e w' h => by obtain ⟨h1, d', p, s, k⟩ := h; exact ⟨h1, d', p, s, hW.then k⟩
theorem brk_at {w W : World} {g : Nat} {d D : Array Int} (cap a b : Nat) (hW : St w g D W) (hs : D.size = d.size) (hab : a + 8 ≤ b) (hb : b ≤ d.size) (hsz : d.size < 4611686018427387904) : Calls Tryd.prog 68 #[.slice (some ⟨g, 0, none⟩) d.size cap, .int .i64 a, .int .i64 b] W fun e w' => e = .returned (.tuple #[]) ∧ ∃ d', PermIn a b D d' ∧ St w g d' w' := by
  rw [← hs] at hb hsz ⊢
  exact (break_any g cap a b D W hW.row hW.lt hab hb hsz).mono fun e w' h => by obtain ⟨h1, d', p, k⟩ := h; exact ⟨h1, d', p, hW.then k⟩
theorem rev_at {w W : World} {g : Nat} {d D : Array Int} (cap a b : Nat) (hW : St w g D W) (hs : D.size = d.size) (hab : a < b) (hb : b ≤ d.size) (hsz : d.size < 4611686018427387904) : Calls Tryd.prog 70 #[.slice (some ⟨g, 0, none⟩) d.size cap, .int .i64 a, .int .i64 b] W fun e w' => e = .returned (.tuple #[]) ∧ ∃ d', PermIn a b D d' ∧ St w g d' w' := by
  rw [← hs] at hb hsz ⊢
  exact (reverse_any g cap a b D W hW.row hW.lt hab hb hsz).mono fun e w' h => by obtain ⟨h1, d', p, k⟩ := h; exact ⟨h1, d', p, hW.then k⟩
theorem cho_at {w W : World} {g : Nat} {d D : Array Int} (cap a b : Nat) (hW : St w g D W) (hs : D.size = d.size) (hab : a + 12 < b) (hb : b ≤ d.size) (hsz : d.size < 4611686018427387904) : Calls Tryd.prog 69 #[.slice (some ⟨g, 0, none⟩) d.size cap, .int .i64 a, .int .i64 b] W fun e w' => (∃ p h : Nat, e = .returned (.tuple #[.int .i64 p, .int .i64 h]) ∧ (a ≤ p ∧ p < b) ∧ h ≤ 2) ∧ St w g D w' := by
  rw [← hs] at hb hsz ⊢
  exact (choose_any g cap a b D W hW.row hW.lt hab hb hsz).mono fun e w' h => by obtain ⟨h1, k⟩ := h; exact ⟨h1, hW.then k⟩
theorem pin_at {w W : World} {g : Nat} {d D : Array Int} (cap a b : Nat) (hW : St w g D W) (hs : D.size = d.size) (hab : a < b) (hB : Go.Sort.Below ltInt a b D) (hb : b ≤ d.size) (hsz : d.size < 4611686018427387904) : Calls Tryd.prog 71 #[.slice (some ⟨g, 0, none⟩) d.size cap, .int .i64 a, .int .i64 b] W fun e w' => ∃ (r : Bool) (d' : Array Int), e = .returned (.bool r) ∧ PermIn a b D d' ∧ (r = true → SortedIn ltInt a b d') ∧ St w g d' w' := by
  rw [← hs] at hb hsz ⊢
  exact (partial_any g cap a b D W hW.row hW.lt hab hb hB hsz).mono fun e w' h => by obtain ⟨r, d', h1, p, s, k⟩ := h; exact ⟨r, d', h1, p, s, hW.then k⟩
theorem peq_at {w W : World} {g : Nat} {d D : Array Int} (cap a b : Nat) (hW : St w g D W) (hs : D.size = d.size) {q : Nat} (ha : a ≤ q) (hq : q < b) (hb : b ≤ d.size) (hsz : d.size < 4611686018427387904) : Calls Tryd.prog 73 #[.slice (some ⟨g, 0, none⟩) d.size cap, .int .i64 a, .int .i64 b, .int .i64 q] W fun e w' => ∃ (m j : Nat) (d' : Array Int), e = .returned (.int .i64 m) ∧ a < m ∧ m ≤ b ∧ m = j + 1 ∧ Parted (fun x => !ltInt D[q]! x) a b D[q]! D d' m j ∧ St w g d' w' := by
  rw [← hs] at hb hsz ⊢
  exact (parteq_any g cap a b q D W hW.row hW.lt ha hq hb hsz).mono fun e w' h => by obtain ⟨m, j, d', h1, h2, h3, h4, p, k⟩ := h; exact ⟨m, j, d', h1, h2, h3, h4, p, hW.then k⟩
theorem prt_at {w W : World} {g : Nat} {d D : Array Int} (cap a b : Nat) (hW : St w g D W) (hs : D.size = d.size) {q : Nat} (ha : a ≤ q) (hq : q < b) (hb : b ≤ d.size) (hsz : d.size < 4611686018427387904) : Calls Tryd.prog 74 #[.slice (some ⟨g, 0, none⟩) d.size cap, .int .i64 a, .int .i64 b, .int .i64 q] W fun e w' => ∃ (m : Nat) (d' : Array Int) (o : Bool), e = .returned (.tuple #[.int .i64 m, .bool o]) ∧ a ≤ m ∧ m < b ∧ Split a b m D[q]! D d' ∧ St w g d' w' := by
  rw [← hs] at hb hsz ⊢
  exact (part_any g cap a b q D W hW.row hW.lt ha hq hb hsz).mono fun e w' h => by obtain ⟨m, d', o, h1, h2, h3, ⟨p1, p2, p3, p4⟩, k⟩ := h; exact ⟨m, d', o, h1, h2, h3, ⟨p1, p2, fun x k1 k2 => lt_t.1 (p3 x k1 k2), fun x k1 k2 => lt_f.1 (p4 x k1 k2)⟩, hW.then k⟩

set_option maxHeartbeats 16000000 in
set_option maxRecDepth 100000 in
theorem pdq_any : ∀ (N g cap a b lim : Nat) (d : Array Int) (w : World), b - a < N → RowI w g d → g < w.heap.size → a ≤ b → b ≤ d.size → d.size < 4611686018427387904 → Go.Sort.Below ltInt a b d → lim < 4611686018427387904 →
    Calls Tryd.prog 55 #[.slice (some ⟨g, 0, none⟩) d.size cap, .int .i64 a, .int .i64 b, .int .i64 lim] w fun e w' =>
      e = .returned (.tuple #[]) ∧ ∃ d', PermIn a b d d' ∧ SortedIn ltInt a b d' ∧ St w g d' w' := by
  intro N
  induction N with
  | zero => intro g cap a b lim d w h; omega
  | succ N ih =>
    intro g cap a b lim d w hn hR hg hab hb hsz hB hlim
    have HS := Lib.hid (St.start hR hg)
    have HV0 := Lib.hid (Inv.start hab hb hB)
    have HIH : Hid (∀ (a b lim : Nat) (D : Array Int) (W : World), St w g D W → D.size = d.size → b - a < N → a ≤ b → b ≤ d.size → Go.Sort.Below ltInt a b D → lim < 4611686018427387904 →
        Calls Tryd.prog 55 #[.slice (some ⟨g, 0, none⟩) d.size cap, .int .i64 a, .int .i64 b, .int .i64 lim] W fun e w' =>
          e = .returned (.tuple #[]) ∧ ∃ d', PermIn a b D d' ∧ SortedIn ltInt a b d' ∧ St w g d' w') := Lib.hid (fun a b lim D W hW hs h1 h2 h3 h4 h5 => by
      rw [← hs] at h3 hsz ⊢
      exact (ih g cap a b lim D W h1 hW.row hW.lt h2 h3 hsz h4 h5).mono fun e w' h => by obtain ⟨h1, d', p, s, k⟩ := h; exact ⟨h1, d', p, s, hW.then k⟩)
    have HN0 := Lib.hid hn
    clear hR hB ih hn
    go_enter Tryd.func55, Tryd.ntmps55
    go_wp2
    go_loopw [1, 2, 3, 8, 9] (fun va vb vl vwb vwp wr => ∃ (x y l : Nat) (wb wp : Bool) (dk : Array Int), va = .int .i64 x ∧ vb = .int .i64 y ∧ vl = .int .i64 l ∧ vwb = .bool wb ∧ vwp = .bool wp ∧ l ≤ lim ∧ Hid (Inv a b d x y dk) ∧ Hid (St w g dk wr))
      (fun va vb _ _ _ _ => (intOf vb - intOf va).toNat)
    case atStart => exact ⟨a, b, lim, true, true, d, rfl, rfl, rfl, rfl, rfl, Nat.le_refl _, HV0, HS⟩
    case round =>
      clear HV0 HS
      obtain ⟨x, y, l, wb, wp, dk, rfl, rfl, rfl, rfl, rfl, hll, HV, HK⟩ := hrel
      have hxy0 : x ≤ y := HV.out.hab
      have hyd : y ≤ d.size := Nat.le_trans HV.out.hb HV.out.hd
      obtain ⟨n, hn⟩ : ∃ n, y - x = n := ⟨_, rfl⟩
      have hwn : IntKind.i64.wrap ((y : Int) - (x : Int)) = (n : Int) := wrapi (by omega) (by omega)
      by_cases h12 : n ≤ 12
      · have h12z : (n : Int) ≤ 12 := by omega
        clear hn h12
        go_wp2_with fail
        refine (ins_at cap x y HK.out HV.out.size hxy0 hyd hsz).mono ?_
        rintro e w1 ⟨rfl, d1, hp1, hs1, hk1⟩
        have HD1 := Lib.hid (HV.out.done hp1 hs1)
        have HK1 := Lib.hid hk1
        clear hp1 hs1 hk1
        go_wp2
        exact bodyPost_ret (results_none rfl _ _ _) rfl ⟨rfl, d1, HD1.out.1, HD1.out.2, HK1.out⟩
      · have h12z : (12 : Int) < (n : Int) := by omega
        have HN : Hid (12 < n ∧ y - x = n ∧ y - x ≤ N) := Lib.hid (by have := HN0.out; have := HV.out.ha; have := HV.out.hb; omega)
        have hxy : x < y := by omega
        clear hn h12 hxy0
        by_cases hl0 : l = 0
        · have hl0b : ((l : Int) == 0) = true := by simp; omega
          clear hl0
          go_wp2_with fail
          refine (heap_at cap x y HK.out HV.out.size hxy hyd hsz).mono ?_
          rintro e w1 ⟨rfl, d1, hp1, hs1, hk1⟩
          have HD1 := Lib.hid (HV.out.done hp1 hs1)
          have HK1 := Lib.hid hk1
          clear hp1 hs1 hk1
          go_wp2
          exact bodyPost_ret (results_none rfl _ _ _) rfl ⟨rfl, d1, HD1.out.1, HD1.out.2, HK1.out⟩
        · have hl0b : ((l : Int) == 0) = false := by simp; omega
          obtain ⟨l1, hl1⟩ : ∃ l1, l - 1 = l1 := ⟨_, rfl⟩
          have hwl : IntKind.i64.wrap ((l : Int) - 1) = (l1 : Int) := wrapi (by omega) (by omega)
          have hll1 : l1 ≤ lim := by omega
          clear hl0 hl1
          cases wb with
          | false =>
            go_wp2_with fail
            refine (brk_at cap x y HK.out HV.out.size (by have := HN.out; omega) hyd hsz).mono ?_
            rintro e w1 ⟨rfl, d1, hp1, hk1⟩
            have HV1 := Lib.hid (HV.out.turn hp1)
            have HK1 := Lib.hid hk1
            clear hp1 hk1
            go_wp2_with fail
            refine (cho_at cap x y HK1.out HV1.out.size (by have := HN.out; omega) hyd hsz).mono ?_
            rintro e w2 ⟨⟨p, h, rfl, ⟨hp1, hp2⟩, hh⟩, hk2⟩
            have HK2 := Lib.hid hk2
            clear hk2
            by_cases h2 : h = 2
            · have h2b : ((h : Int) == 2) = true := by simp; omega
              clear h2 hh
              go_wp2_with fail
              refine (rev_at cap x y HK2.out HV1.out.size hxy hyd hsz).mono ?_
              rintro e w3 ⟨rfl, d3, hp3, hk3⟩
              have HV3 := Lib.hid (HV1.out.turn hp3)
              have HK3 := Lib.hid hk3
              clear hp3 hk3
              obtain ⟨pm, hpm⟩ : ∃ pm, p - x = pm := ⟨_, rfl⟩
              have hwpm : IntKind.i64.wrap ((p : Int) - (x : Int)) = (pm : Int) := wrapi (by omega) (by omega)
              obtain ⟨y1, hy1⟩ : ∃ y1, y - 1 = y1 := ⟨_, rfl⟩
              have hwy1 : IntKind.i64.wrap ((y : Int) - 1) = (y1 : Int) := wrapi (by omega) (by omega)
              obtain ⟨P, hPP⟩ : ∃ P, y1 - pm = P := ⟨_, rfl⟩
              have hwP : IntKind.i64.wrap ((y1 : Int) - (pm : Int)) = (P : Int) := wrapi (by omega) (by omega)
              have hP1 : x ≤ P := by omega
              have hP2 : P < y := by omega
              clear hpm hy1 hPP
              have hsD : d3.size = d.size := HV3.out.size
              obtain ⟨G, hG, hcw, hfw⟩ := HK3.out.fam
              rw [hsD] at hcw hfw
              have HG := Lib.hid hG
              clear hG
              have hPd : P < d.size := by omega
              have hPdz : (P : Int) < (d.size : Int) := by omega
              by_cases h0 : 0 < x
              · have h0z : (0 : Int) < (x : Int) := by omega
                have hxm : x - 1 < d.size := by omega
                have hxmz : ((x - 1 : Nat) : Int) < (d.size : Int) := by omega
                have hwx : IntKind.i64.wrap ((x : Int) - 1) = ((x - 1 : Nat) : Int) := wrapi (by omega) (by omega)
                cases hl : ltInt (G (x - 1)) (G P) with
                | false =>
                  have HL : Hid (ltInt d3[x - 1]! d3[P]! = false) := Lib.hid (by rw [← HG.out, ← HG.out]; exact hl)
                  go_wp2
                  go_quiet (first | (go_at_call 72; refine Calls.quiet_of_same (less_any _ _ _)))
                  go_wp2_with fail
                  clear hl hcw hfw
                  refine (peq_at cap x y (HK3.out.drewN _) hsD (q := P) hP1 hP2 hyd hsz).mono ?_
                  rintro e w5 ⟨m, j, d5, rfl, hm1, hm2, hm3, hpt, hk5⟩
                  have HV5 := Lib.hid (HV3.out.equal h0 HL.out hm1 hm2 hm3 hpt)
                  have HK5 := Lib.hid hk5
                  clear hpt hk5 hm3
                  go_wp2
                  go_roundw
                  case rel => exact ⟨m, y, l1, false, wp, d5, rfl, rfl, rfl, rfl, rfl, by omega, HV5, HK5⟩
                  case measure => first | (simp [intOf]; done) | (simp [intOf]; omega)
                | true =>
                  go_wp2
                  go_quiet (first | (go_at_call 72; refine Calls.quiet_of_same (less_any _ _ _)))
                  go_wp2_with fail
                  clear hl hcw hfw
                  refine (prt_at cap x y (HK3.out.drewN _) hsD (q := P) hP1 hP2 hyd hsz).mono ?_
                  rintro e w5 ⟨m, d5, o, rfl, hm1, hm2, hsp, hk5⟩
                  have HSP := Lib.hid hsp
                  have HK5 := Lib.hid hk5
                  clear hsp hk5
                  have hs5 : d5.size = d.size := HSP.out.perm.1.trans hsD
                  obtain ⟨lf, hlf⟩ : ∃ lf, m - x = lf := ⟨_, rfl⟩
                  have hwlf : IntKind.i64.wrap ((m : Int) - (x : Int)) = (lf : Int) := wrapi (by omega) (by omega)
                  obtain ⟨rt, hrt⟩ : ∃ rt, y - m = rt := ⟨_, rfl⟩
                  have hwrt : IntKind.i64.wrap ((y : Int) - (m : Int)) = (rt : Int) := wrapi (by omega) (by omega)
                  have hn62 : n < 4611686018427387904 := by have := HN.out; omega
                  obtain ⟨tq, htq⟩ : ∃ tq, n / 8 = tq := ⟨_, rfl⟩
                  have hwtq : IntKind.i64.wrap ((n : Int) / 8) = (tq : Int) := wrapi (by omega) (by omega)
                  have hwtr : IntKind.i64.wrap (tq : Int) = (tq : Int) := wrapi rfl (by omega)
                  have hwm : IntKind.i64.wrap ((m : Int) + 1) = ((m + 1 : Nat) : Int) := wrapi (by omega) (by omega)
                  clear hlf hrt htq
                  by_cases hlr : lf < rt
                  · have hlrz : (lf : Int) < (rt : Int) := by omega
                    go_wp2_with fail
                    refine (HIH.out x m l1 d5 w5 HK5.out hs5 (by have := HN.out; omega) hm1 (by omega) (HV3.out.splitL HSP.out hm2) (by omega)).mono ?_
                    rintro e w6 ⟨rfl, d6, hp6, hq6, hk6⟩
                    have HV6 := Lib.hid (HV3.out.leftDone HSP.out hm1 hm2 hp6 hq6)
                    have HK6 := Lib.hid hk6
                    clear hp6 hq6 hk6
                    go_wp2
                    go_roundw
                    case rel => exact ⟨m + 1, y, l1, _, o, d6, by first | rfl | go_num, rfl, rfl, rfl, rfl, by omega, HV6, HK6⟩
                    case measure => first | (simp [intOf]; done) | (simp [intOf]; omega)
                  · have hlrz : (rt : Int) ≤ (lf : Int) := by omega
                    go_wp2_with fail
                    refine (HIH.out (m + 1) y l1 d5 w5 HK5.out hs5 (by have := HN.out; omega) (by omega) (by omega) HSP.out.belowR (by omega)).mono ?_
                    rintro e w6 ⟨rfl, d6, hp6, hq6, hk6⟩
                    have HV6 := Lib.hid (HV3.out.rightDone HSP.out hm1 hm2 hp6 hq6)
                    have HK6 := Lib.hid hk6
                    clear hp6 hq6 hk6
                    go_wp2
                    go_roundw
                    case rel => exact ⟨x, m, l1, _, o, d6, rfl, rfl, rfl, rfl, rfl, by omega, HV6, HK6⟩
                    case measure => first | (simp [intOf]; done) | (simp [intOf]; omega)
              · have h0z : (x : Int) ≤ 0 := by omega
                go_wp2
                go_quiet (first | (go_at_call 72; refine Calls.quiet_of_same (less_any _ _ _)))
                go_wp2_with fail
                clear hcw hfw
                refine (prt_at cap x y (HK3.out.drewN _) hsD (q := P) hP1 hP2 hyd hsz).mono ?_
                rintro e w5 ⟨m, d5, o, rfl, hm1, hm2, hsp, hk5⟩
                have HSP := Lib.hid hsp
                have HK5 := Lib.hid hk5
                clear hsp hk5
                have hs5 : d5.size = d.size := HSP.out.perm.1.trans hsD
                obtain ⟨lf, hlf⟩ : ∃ lf, m - x = lf := ⟨_, rfl⟩
                have hwlf : IntKind.i64.wrap ((m : Int) - (x : Int)) = (lf : Int) := wrapi (by omega) (by omega)
                obtain ⟨rt, hrt⟩ : ∃ rt, y - m = rt := ⟨_, rfl⟩
                have hwrt : IntKind.i64.wrap ((y : Int) - (m : Int)) = (rt : Int) := wrapi (by omega) (by omega)
                have hn62 : n < 4611686018427387904 := by have := HN.out; omega
                obtain ⟨tq, htq⟩ : ∃ tq, n / 8 = tq := ⟨_, rfl⟩
                have hwtq : IntKind.i64.wrap ((n : Int) / 8) = (tq : Int) := wrapi (by omega) (by omega)
                have hwtr : IntKind.i64.wrap (tq : Int) = (tq : Int) := wrapi rfl (by omega)
                have hwm : IntKind.i64.wrap ((m : Int) + 1) = ((m + 1 : Nat) : Int) := wrapi (by omega) (by omega)
                clear hlf hrt htq
                by_cases hlr : lf < rt
                · have hlrz : (lf : Int) < (rt : Int) := by omega
                  go_wp2_with fail
                  refine (HIH.out x m l1 d5 w5 HK5.out hs5 (by have := HN.out; omega) hm1 (by omega) (HV3.out.splitL HSP.out hm2) (by omega)).mono ?_
                  rintro e w6 ⟨rfl, d6, hp6, hq6, hk6⟩
                  have HV6 := Lib.hid (HV3.out.leftDone HSP.out hm1 hm2 hp6 hq6)
                  have HK6 := Lib.hid hk6
                  clear hp6 hq6 hk6
                  go_wp2
                  go_roundw
                  case rel => exact ⟨m + 1, y, l1, _, o, d6, by first | rfl | go_num, rfl, rfl, rfl, rfl, by omega, HV6, HK6⟩
                  case measure => first | (simp [intOf]; done) | (simp [intOf]; omega)
                · have hlrz : (rt : Int) ≤ (lf : Int) := by omega
                  go_wp2_with fail
                  refine (HIH.out (m + 1) y l1 d5 w5 HK5.out hs5 (by have := HN.out; omega) (by omega) (by omega) HSP.out.belowR (by omega)).mono ?_
                  rintro e w6 ⟨rfl, d6, hp6, hq6, hk6⟩
                  have HV6 := Lib.hid (HV3.out.rightDone HSP.out hm1 hm2 hp6 hq6)
                  have HK6 := Lib.hid hk6
                  clear hp6 hq6 hk6
                  go_wp2
                  go_roundw
                  case rel => exact ⟨x, m, l1, _, o, d6, rfl, rfl, rfl, rfl, rfl, by omega, HV6, HK6⟩
                  case measure => first | (simp [intOf]; done) | (simp [intOf]; omega)
            · have h2b : ((h : Int) == 2) = false := by simp; omega
              clear h2
              obtain ⟨P, hPP⟩ : ∃ P, p = P := ⟨_, rfl⟩
              rw [hPP] at hp1 hp2
              rw [hPP]
              clear hPP
              have hP1 : x ≤ P := hp1
              have hP2 : P < y := hp2
              clear hp1 hp2
              have hsD : d1.size = d.size := HV1.out.size
              obtain ⟨G, hG, hcw, hfw⟩ := HK2.out.fam
              rw [hsD] at hcw hfw
              have HG := Lib.hid hG
              clear hG
              have hPd : P < d.size := by omega
              have hPdz : (P : Int) < (d.size : Int) := by omega
              by_cases h0 : 0 < x
              · have h0z : (0 : Int) < (x : Int) := by omega
                have hxm : x - 1 < d.size := by omega
                have hxmz : ((x - 1 : Nat) : Int) < (d.size : Int) := by omega
                have hwx : IntKind.i64.wrap ((x : Int) - 1) = ((x - 1 : Nat) : Int) := wrapi (by omega) (by omega)
                cases hl : ltInt (G (x - 1)) (G P) with
                | false =>
                  have HL : Hid (ltInt d1[x - 1]! d1[P]! = false) := Lib.hid (by rw [← HG.out, ← HG.out]; exact hl)
                  go_wp2
                  go_quiet (first | (go_at_call 72; refine Calls.quiet_of_same (less_any _ _ _)))
                  go_wp2_with fail
                  clear hl hcw hfw
                  refine (peq_at cap x y (HK2.out.drewN _) hsD (q := P) hP1 hP2 hyd hsz).mono ?_
                  rintro e w5 ⟨m, j, d5, rfl, hm1, hm2, hm3, hpt, hk5⟩
                  have HV5 := Lib.hid (HV1.out.equal h0 HL.out hm1 hm2 hm3 hpt)
                  have HK5 := Lib.hid hk5
                  clear hpt hk5 hm3
                  go_wp2
                  go_roundw
                  case rel => exact ⟨m, y, l1, false, wp, d5, rfl, rfl, rfl, rfl, rfl, by omega, HV5, HK5⟩
                  case measure => first | (simp [intOf]; done) | (simp [intOf]; omega)
                | true =>
                  go_wp2
                  go_quiet (first | (go_at_call 72; refine Calls.quiet_of_same (less_any _ _ _)))
                  go_wp2_with fail
                  clear hl hcw hfw
                  refine (prt_at cap x y (HK2.out.drewN _) hsD (q := P) hP1 hP2 hyd hsz).mono ?_
                  rintro e w5 ⟨m, d5, o, rfl, hm1, hm2, hsp, hk5⟩
                  have HSP := Lib.hid hsp
                  have HK5 := Lib.hid hk5
                  clear hsp hk5
                  have hs5 : d5.size = d.size := HSP.out.perm.1.trans hsD
                  obtain ⟨lf, hlf⟩ : ∃ lf, m - x = lf := ⟨_, rfl⟩
                  have hwlf : IntKind.i64.wrap ((m : Int) - (x : Int)) = (lf : Int) := wrapi (by omega) (by omega)
                  obtain ⟨rt, hrt⟩ : ∃ rt, y - m = rt := ⟨_, rfl⟩
                  have hwrt : IntKind.i64.wrap ((y : Int) - (m : Int)) = (rt : Int) := wrapi (by omega) (by omega)
                  have hn62 : n < 4611686018427387904 := by have := HN.out; omega
                  obtain ⟨tq, htq⟩ : ∃ tq, n / 8 = tq := ⟨_, rfl⟩
                  have hwtq : IntKind.i64.wrap ((n : Int) / 8) = (tq : Int) := wrapi (by omega) (by omega)
                  have hwtr : IntKind.i64.wrap (tq : Int) = (tq : Int) := wrapi rfl (by omega)
                  have hwm : IntKind.i64.wrap ((m : Int) + 1) = ((m + 1 : Nat) : Int) := wrapi (by omega) (by omega)
                  clear hlf hrt htq
                  by_cases hlr : lf < rt
                  · have hlrz : (lf : Int) < (rt : Int) := by omega
                    go_wp2_with fail
                    refine (HIH.out x m l1 d5 w5 HK5.out hs5 (by have := HN.out; omega) hm1 (by omega) (HV1.out.splitL HSP.out hm2) (by omega)).mono ?_
                    rintro e w6 ⟨rfl, d6, hp6, hq6, hk6⟩
                    have HV6 := Lib.hid (HV1.out.leftDone HSP.out hm1 hm2 hp6 hq6)
                    have HK6 := Lib.hid hk6
                    clear hp6 hq6 hk6
                    go_wp2
                    go_roundw
                    case rel => exact ⟨m + 1, y, l1, _, o, d6, by first | rfl | go_num, rfl, rfl, rfl, rfl, by omega, HV6, HK6⟩
                    case measure => first | (simp [intOf]; done) | (simp [intOf]; omega)
                  · have hlrz : (rt : Int) ≤ (lf : Int) := by omega
                    go_wp2_with fail
                    refine (HIH.out (m + 1) y l1 d5 w5 HK5.out hs5 (by have := HN.out; omega) (by omega) (by omega) HSP.out.belowR (by omega)).mono ?_
                    rintro e w6 ⟨rfl, d6, hp6, hq6, hk6⟩
                    have HV6 := Lib.hid (HV1.out.rightDone HSP.out hm1 hm2 hp6 hq6)
                    have HK6 := Lib.hid hk6
                    clear hp6 hq6 hk6
                    go_wp2
                    go_roundw
                    case rel => exact ⟨x, m, l1, _, o, d6, rfl, rfl, rfl, rfl, rfl, by omega, HV6, HK6⟩
                    case measure => first | (simp [intOf]; done) | (simp [intOf]; omega)
              · have h0z : (x : Int) ≤ 0 := by omega
                go_wp2
                go_quiet (first | (go_at_call 72; refine Calls.quiet_of_same (less_any _ _ _)))
                go_wp2_with fail
                clear hcw hfw
                refine (prt_at cap x y (HK2.out.drewN _) hsD (q := P) hP1 hP2 hyd hsz).mono ?_
                rintro e w5 ⟨m, d5, o, rfl, hm1, hm2, hsp, hk5⟩
                have HSP := Lib.hid hsp
                have HK5 := Lib.hid hk5
                clear hsp hk5
                have hs5 : d5.size = d.size := HSP.out.perm.1.trans hsD
                obtain ⟨lf, hlf⟩ : ∃ lf, m - x = lf := ⟨_, rfl⟩
                have hwlf : IntKind.i64.wrap ((m : Int) - (x : Int)) = (lf : Int) := wrapi (by omega) (by omega)
                obtain ⟨rt, hrt⟩ : ∃ rt, y - m = rt := ⟨_, rfl⟩
                have hwrt : IntKind.i64.wrap ((y : Int) - (m : Int)) = (rt : Int) := wrapi (by omega) (by omega)
                have hn62 : n < 4611686018427387904 := by have := HN.out; omega
                obtain ⟨tq, htq⟩ : ∃ tq, n / 8 = tq := ⟨_, rfl⟩
                have hwtq : IntKind.i64.wrap ((n : Int) / 8) = (tq : Int) := wrapi (by omega) (by omega)
                have hwtr : IntKind.i64.wrap (tq : Int) = (tq : Int) := wrapi rfl (by omega)
                have hwm : IntKind.i64.wrap ((m : Int) + 1) = ((m + 1 : Nat) : Int) := wrapi (by omega) (by omega)
                clear hlf hrt htq
                by_cases hlr : lf < rt
                · have hlrz : (lf : Int) < (rt : Int) := by omega
                  go_wp2_with fail
                  refine (HIH.out x m l1 d5 w5 HK5.out hs5 (by have := HN.out; omega) hm1 (by omega) (HV1.out.splitL HSP.out hm2) (by omega)).mono ?_
                  rintro e w6 ⟨rfl, d6, hp6, hq6, hk6⟩
                  have HV6 := Lib.hid (HV1.out.leftDone HSP.out hm1 hm2 hp6 hq6)
                  have HK6 := Lib.hid hk6
                  clear hp6 hq6 hk6
                  go_wp2
                  go_roundw
                  case rel => exact ⟨m + 1, y, l1, _, o, d6, by first | rfl | go_num, rfl, rfl, rfl, rfl, by omega, HV6, HK6⟩
                  case measure => first | (simp [intOf]; done) | (simp [intOf]; omega)
                · have hlrz : (rt : Int) ≤ (lf : Int) := by omega
                  go_wp2_with fail
                  refine (HIH.out (m + 1) y l1 d5 w5 HK5.out hs5 (by have := HN.out; omega) (by omega) (by omega) HSP.out.belowR (by omega)).mono ?_
                  rintro e w6 ⟨rfl, d6, hp6, hq6, hk6⟩
                  have HV6 := Lib.hid (HV1.out.rightDone HSP.out hm1 hm2 hp6 hq6)
                  have HK6 := Lib.hid hk6
                  clear hp6 hq6 hk6
                  go_wp2
                  go_roundw
                  case rel => exact ⟨x, m, l1, _, o, d6, rfl, rfl, rfl, rfl, rfl, by omega, HV6, HK6⟩
                  case measure => first | (simp [intOf]; done) | (simp [intOf]; omega)
          | true =>
            go_wp2_with fail
            refine (cho_at cap x y HK.out HV.out.size (by have := HN.out; omega) hyd hsz).mono ?_
            rintro e w2 ⟨⟨p, h, rfl, ⟨hp1, hp2⟩, hh⟩, hk2⟩
            have HK2 := Lib.hid hk2
            clear hk2
            by_cases h2 : h = 2
            · have h2b : ((h : Int) == 2) = true := by simp; omega
              clear h2 hh
              go_wp2_with fail
              refine (rev_at cap x y HK2.out HV.out.size hxy hyd hsz).mono ?_
              rintro e w3 ⟨rfl, d3, hp3, hk3⟩
              have HV3 := Lib.hid (HV.out.turn hp3)
              have HK3 := Lib.hid hk3
              clear hp3 hk3
              obtain ⟨pm, hpm⟩ : ∃ pm, p - x = pm := ⟨_, rfl⟩
              have hwpm : IntKind.i64.wrap ((p : Int) - (x : Int)) = (pm : Int) := wrapi (by omega) (by omega)
              obtain ⟨y1, hy1⟩ : ∃ y1, y - 1 = y1 := ⟨_, rfl⟩
              have hwy1 : IntKind.i64.wrap ((y : Int) - 1) = (y1 : Int) := wrapi (by omega) (by omega)
              obtain ⟨P, hPP⟩ : ∃ P, y1 - pm = P := ⟨_, rfl⟩
              have hwP : IntKind.i64.wrap ((y1 : Int) - (pm : Int)) = (P : Int) := wrapi (by omega) (by omega)
              have hP1 : x ≤ P := by omega
              have hP2 : P < y := by omega
              clear hpm hy1 hPP
              cases wp with
              | false =>
                have hsD : d3.size = d.size := HV3.out.size
                obtain ⟨G, hG, hcw, hfw⟩ := HK3.out.fam
                rw [hsD] at hcw hfw
                have HG := Lib.hid hG
                clear hG
                have hPd : P < d.size := by omega
                have hPdz : (P : Int) < (d.size : Int) := by omega
                by_cases h0 : 0 < x
                · have h0z : (0 : Int) < (x : Int) := by omega
                  have hxm : x - 1 < d.size := by omega
                  have hxmz : ((x - 1 : Nat) : Int) < (d.size : Int) := by omega
                  have hwx : IntKind.i64.wrap ((x : Int) - 1) = ((x - 1 : Nat) : Int) := wrapi (by omega) (by omega)
                  cases hl : ltInt (G (x - 1)) (G P) with
                  | false =>
                    have HL : Hid (ltInt d3[x - 1]! d3[P]! = false) := Lib.hid (by rw [← HG.out, ← HG.out]; exact hl)
                    go_wp2
                    go_quiet (first | (go_at_call 72; refine Calls.quiet_of_same (less_any _ _ _)))
                    go_wp2_with fail
                    clear hl hcw hfw
                    refine (peq_at cap x y (HK3.out.drewN _) hsD (q := P) hP1 hP2 hyd hsz).mono ?_
                    rintro e w5 ⟨m, j, d5, rfl, hm1, hm2, hm3, hpt, hk5⟩
                    have HV5 := Lib.hid (HV3.out.equal h0 HL.out hm1 hm2 hm3 hpt)
                    have HK5 := Lib.hid hk5
                    clear hpt hk5 hm3
                    go_wp2
                    go_roundw
                    case rel => exact ⟨m, y, l, true, false, d5, rfl, rfl, rfl, rfl, rfl, by omega, HV5, HK5⟩
                    case measure => first | (simp [intOf]; done) | (simp [intOf]; omega)
                  | true =>
                    go_wp2
                    go_quiet (first | (go_at_call 72; refine Calls.quiet_of_same (less_any _ _ _)))
                    go_wp2_with fail
                    clear hl hcw hfw
                    refine (prt_at cap x y (HK3.out.drewN _) hsD (q := P) hP1 hP2 hyd hsz).mono ?_
                    rintro e w5 ⟨m, d5, o, rfl, hm1, hm2, hsp, hk5⟩
                    have HSP := Lib.hid hsp
                    have HK5 := Lib.hid hk5
                    clear hsp hk5
                    have hs5 : d5.size = d.size := HSP.out.perm.1.trans hsD
                    obtain ⟨lf, hlf⟩ : ∃ lf, m - x = lf := ⟨_, rfl⟩
                    have hwlf : IntKind.i64.wrap ((m : Int) - (x : Int)) = (lf : Int) := wrapi (by omega) (by omega)
                    obtain ⟨rt, hrt⟩ : ∃ rt, y - m = rt := ⟨_, rfl⟩
                    have hwrt : IntKind.i64.wrap ((y : Int) - (m : Int)) = (rt : Int) := wrapi (by omega) (by omega)
                    have hn62 : n < 4611686018427387904 := by have := HN.out; omega
                    obtain ⟨tq, htq⟩ : ∃ tq, n / 8 = tq := ⟨_, rfl⟩
                    have hwtq : IntKind.i64.wrap ((n : Int) / 8) = (tq : Int) := wrapi (by omega) (by omega)
                    have hwtr : IntKind.i64.wrap (tq : Int) = (tq : Int) := wrapi rfl (by omega)
                    have hwm : IntKind.i64.wrap ((m : Int) + 1) = ((m + 1 : Nat) : Int) := wrapi (by omega) (by omega)
                    clear hlf hrt htq
                    by_cases hlr : lf < rt
                    · have hlrz : (lf : Int) < (rt : Int) := by omega
                      go_wp2_with fail
                      refine (HIH.out x m l d5 w5 HK5.out hs5 (by have := HN.out; omega) hm1 (by omega) (HV3.out.splitL HSP.out hm2) (by omega)).mono ?_
                      rintro e w6 ⟨rfl, d6, hp6, hq6, hk6⟩
                      have HV6 := Lib.hid (HV3.out.leftDone HSP.out hm1 hm2 hp6 hq6)
                      have HK6 := Lib.hid hk6
                      clear hp6 hq6 hk6
                      go_wp2
                      go_roundw
                      case rel => exact ⟨m + 1, y, l, _, o, d6, by first | rfl | go_num, rfl, rfl, rfl, rfl, by omega, HV6, HK6⟩
                      case measure => first | (simp [intOf]; done) | (simp [intOf]; omega)
                    · have hlrz : (rt : Int) ≤ (lf : Int) := by omega
                      go_wp2_with fail
                      refine (HIH.out (m + 1) y l d5 w5 HK5.out hs5 (by have := HN.out; omega) (by omega) (by omega) HSP.out.belowR (by omega)).mono ?_
                      rintro e w6 ⟨rfl, d6, hp6, hq6, hk6⟩
                      have HV6 := Lib.hid (HV3.out.rightDone HSP.out hm1 hm2 hp6 hq6)
                      have HK6 := Lib.hid hk6
                      clear hp6 hq6 hk6
                      go_wp2
                      go_roundw
                      case rel => exact ⟨x, m, l, _, o, d6, rfl, rfl, rfl, rfl, rfl, by omega, HV6, HK6⟩
                      case measure => first | (simp [intOf]; done) | (simp [intOf]; omega)
                · have h0z : (x : Int) ≤ 0 := by omega
                  go_wp2
                  go_quiet (first | (go_at_call 72; refine Calls.quiet_of_same (less_any _ _ _)))
                  go_wp2_with fail
                  clear hcw hfw
                  refine (prt_at cap x y (HK3.out.drewN _) hsD (q := P) hP1 hP2 hyd hsz).mono ?_
                  rintro e w5 ⟨m, d5, o, rfl, hm1, hm2, hsp, hk5⟩
                  have HSP := Lib.hid hsp
                  have HK5 := Lib.hid hk5
                  clear hsp hk5
                  have hs5 : d5.size = d.size := HSP.out.perm.1.trans hsD
                  obtain ⟨lf, hlf⟩ : ∃ lf, m - x = lf := ⟨_, rfl⟩
                  have hwlf : IntKind.i64.wrap ((m : Int) - (x : Int)) = (lf : Int) := wrapi (by omega) (by omega)
                  obtain ⟨rt, hrt⟩ : ∃ rt, y - m = rt := ⟨_, rfl⟩
                  have hwrt : IntKind.i64.wrap ((y : Int) - (m : Int)) = (rt : Int) := wrapi (by omega) (by omega)
                  have hn62 : n < 4611686018427387904 := by have := HN.out; omega
                  obtain ⟨tq, htq⟩ : ∃ tq, n / 8 = tq := ⟨_, rfl⟩
                  have hwtq : IntKind.i64.wrap ((n : Int) / 8) = (tq : Int) := wrapi (by omega) (by omega)
                  have hwtr : IntKind.i64.wrap (tq : Int) = (tq : Int) := wrapi rfl (by omega)
                  have hwm : IntKind.i64.wrap ((m : Int) + 1) = ((m + 1 : Nat) : Int) := wrapi (by omega) (by omega)
                  clear hlf hrt htq
                  by_cases hlr : lf < rt
                  · have hlrz : (lf : Int) < (rt : Int) := by omega
                    go_wp2_with fail
                    refine (HIH.out x m l d5 w5 HK5.out hs5 (by have := HN.out; omega) hm1 (by omega) (HV3.out.splitL HSP.out hm2) (by omega)).mono ?_
                    rintro e w6 ⟨rfl, d6, hp6, hq6, hk6⟩
                    have HV6 := Lib.hid (HV3.out.leftDone HSP.out hm1 hm2 hp6 hq6)
                    have HK6 := Lib.hid hk6
                    clear hp6 hq6 hk6
                    go_wp2
                    go_roundw
                    case rel => exact ⟨m + 1, y, l, _, o, d6, by first | rfl | go_num, rfl, rfl, rfl, rfl, by omega, HV6, HK6⟩
                    case measure => first | (simp [intOf]; done) | (simp [intOf]; omega)
                  · have hlrz : (rt : Int) ≤ (lf : Int) := by omega
                    go_wp2_with fail
                    refine (HIH.out (m + 1) y l d5 w5 HK5.out hs5 (by have := HN.out; omega) (by omega) (by omega) HSP.out.belowR (by omega)).mono ?_
                    rintro e w6 ⟨rfl, d6, hp6, hq6, hk6⟩
                    have HV6 := Lib.hid (HV3.out.rightDone HSP.out hm1 hm2 hp6 hq6)
                    have HK6 := Lib.hid hk6
                    clear hp6 hq6 hk6
                    go_wp2
                    go_roundw
                    case rel => exact ⟨x, m, l, _, o, d6, rfl, rfl, rfl, rfl, rfl, by omega, HV6, HK6⟩
                    case measure => first | (simp [intOf]; done) | (simp [intOf]; omega)
              | true =>
                go_wp2_with fail
                refine (pin_at cap x y HK3.out HV3.out.size hxy HV3.out.below hyd hsz).mono ?_
                rintro e w4 ⟨r, d4, rfl, hp4, hs4, hk4⟩
                have HV4 := Lib.hid (HV3.out.turn hp4)
                have HK4 := Lib.hid hk4
                cases r with
                | true =>
                  have HD4 := Lib.hid (HV3.out.done hp4 (hs4 rfl))
                  clear hp4 hs4 hk4
                  go_wp2
                  exact bodyPost_ret (results_none rfl _ _ _) rfl ⟨rfl, d4, HD4.out.1, HD4.out.2, HK4.out⟩
                | false =>
                  clear hp4 hs4 hk4
                  have hsD : d4.size = d.size := HV4.out.size
                  obtain ⟨G, hG, hcw, hfw⟩ := HK4.out.fam
                  rw [hsD] at hcw hfw
                  have HG := Lib.hid hG
                  clear hG
                  have hPd : P < d.size := by omega
                  have hPdz : (P : Int) < (d.size : Int) := by omega
                  by_cases h0 : 0 < x
                  · have h0z : (0 : Int) < (x : Int) := by omega
                    have hxm : x - 1 < d.size := by omega
                    have hxmz : ((x - 1 : Nat) : Int) < (d.size : Int) := by omega
                    have hwx : IntKind.i64.wrap ((x : Int) - 1) = ((x - 1 : Nat) : Int) := wrapi (by omega) (by omega)
                    cases hl : ltInt (G (x - 1)) (G P) with
                    | false =>
                      have HL : Hid (ltInt d4[x - 1]! d4[P]! = false) := Lib.hid (by rw [← HG.out, ← HG.out]; exact hl)
                      go_wp2
                      go_quiet (first | (go_at_call 72; refine Calls.quiet_of_same (less_any _ _ _)))
                      go_wp2_with fail
                      clear hl hcw hfw
                      refine (peq_at cap x y (HK4.out.drewN _) hsD (q := P) hP1 hP2 hyd hsz).mono ?_
                      rintro e w5 ⟨m, j, d5, rfl, hm1, hm2, hm3, hpt, hk5⟩
                      have HV5 := Lib.hid (HV4.out.equal h0 HL.out hm1 hm2 hm3 hpt)
                      have HK5 := Lib.hid hk5
                      clear hpt hk5 hm3
                      go_wp2
                      go_roundw
                      case rel => exact ⟨m, y, l, true, true, d5, rfl, rfl, rfl, rfl, rfl, by omega, HV5, HK5⟩
                      case measure => first | (simp [intOf]; done) | (simp [intOf]; omega)
                    | true =>
                      go_wp2
                      go_quiet (first | (go_at_call 72; refine Calls.quiet_of_same (less_any _ _ _)))
                      go_wp2_with fail
                      clear hl hcw hfw
                      refine (prt_at cap x y (HK4.out.drewN _) hsD (q := P) hP1 hP2 hyd hsz).mono ?_
                      rintro e w5 ⟨m, d5, o, rfl, hm1, hm2, hsp, hk5⟩
                      have HSP := Lib.hid hsp
                      have HK5 := Lib.hid hk5
                      clear hsp hk5
                      have hs5 : d5.size = d.size := HSP.out.perm.1.trans hsD
                      obtain ⟨lf, hlf⟩ : ∃ lf, m - x = lf := ⟨_, rfl⟩
                      have hwlf : IntKind.i64.wrap ((m : Int) - (x : Int)) = (lf : Int) := wrapi (by omega) (by omega)
                      obtain ⟨rt, hrt⟩ : ∃ rt, y - m = rt := ⟨_, rfl⟩
                      have hwrt : IntKind.i64.wrap ((y : Int) - (m : Int)) = (rt : Int) := wrapi (by omega) (by omega)
                      have hn62 : n < 4611686018427387904 := by have := HN.out; omega
                      obtain ⟨tq, htq⟩ : ∃ tq, n / 8 = tq := ⟨_, rfl⟩
                      have hwtq : IntKind.i64.wrap ((n : Int) / 8) = (tq : Int) := wrapi (by omega) (by omega)
                      have hwtr : IntKind.i64.wrap (tq : Int) = (tq : Int) := wrapi rfl (by omega)
                      have hwm : IntKind.i64.wrap ((m : Int) + 1) = ((m + 1 : Nat) : Int) := wrapi (by omega) (by omega)
                      clear hlf hrt htq
                      by_cases hlr : lf < rt
                      · have hlrz : (lf : Int) < (rt : Int) := by omega
                        go_wp2_with fail
                        refine (HIH.out x m l d5 w5 HK5.out hs5 (by have := HN.out; omega) hm1 (by omega) (HV4.out.splitL HSP.out hm2) (by omega)).mono ?_
                        rintro e w6 ⟨rfl, d6, hp6, hq6, hk6⟩
                        have HV6 := Lib.hid (HV4.out.leftDone HSP.out hm1 hm2 hp6 hq6)
                        have HK6 := Lib.hid hk6
                        clear hp6 hq6 hk6
                        go_wp2
                        go_roundw
                        case rel => exact ⟨m + 1, y, l, _, o, d6, by first | rfl | go_num, rfl, rfl, rfl, rfl, by omega, HV6, HK6⟩
                        case measure => first | (simp [intOf]; done) | (simp [intOf]; omega)
                      · have hlrz : (rt : Int) ≤ (lf : Int) := by omega
                        go_wp2_with fail
                        refine (HIH.out (m + 1) y l d5 w5 HK5.out hs5 (by have := HN.out; omega) (by omega) (by omega) HSP.out.belowR (by omega)).mono ?_
                        rintro e w6 ⟨rfl, d6, hp6, hq6, hk6⟩
                        have HV6 := Lib.hid (HV4.out.rightDone HSP.out hm1 hm2 hp6 hq6)
                        have HK6 := Lib.hid hk6
                        clear hp6 hq6 hk6
                        go_wp2
                        go_roundw
                        case rel => exact ⟨x, m, l, _, o, d6, rfl, rfl, rfl, rfl, rfl, by omega, HV6, HK6⟩
                        case measure => first | (simp [intOf]; done) | (simp [intOf]; omega)
                  · have h0z : (x : Int) ≤ 0 := by omega
                    go_wp2
                    go_quiet (first | (go_at_call 72; refine Calls.quiet_of_same (less_any _ _ _)))
                    go_wp2_with fail
                    clear hcw hfw
                    refine (prt_at cap x y (HK4.out.drewN _) hsD (q := P) hP1 hP2 hyd hsz).mono ?_
                    rintro e w5 ⟨m, d5, o, rfl, hm1, hm2, hsp, hk5⟩
                    have HSP := Lib.hid hsp
                    have HK5 := Lib.hid hk5
                    clear hsp hk5
                    have hs5 : d5.size = d.size := HSP.out.perm.1.trans hsD
                    obtain ⟨lf, hlf⟩ : ∃ lf, m - x = lf := ⟨_, rfl⟩
                    have hwlf : IntKind.i64.wrap ((m : Int) - (x : Int)) = (lf : Int) := wrapi (by omega) (by omega)
                    obtain ⟨rt, hrt⟩ : ∃ rt, y - m = rt := ⟨_, rfl⟩
                    have hwrt : IntKind.i64.wrap ((y : Int) - (m : Int)) = (rt : Int) := wrapi (by omega) (by omega)
                    have hn62 : n < 4611686018427387904 := by have := HN.out; omega
                    obtain ⟨tq, htq⟩ : ∃ tq, n / 8 = tq := ⟨_, rfl⟩
                    have hwtq : IntKind.i64.wrap ((n : Int) / 8) = (tq : Int) := wrapi (by omega) (by omega)
                    have hwtr : IntKind.i64.wrap (tq : Int) = (tq : Int) := wrapi rfl (by omega)
                    have hwm : IntKind.i64.wrap ((m : Int) + 1) = ((m + 1 : Nat) : Int) := wrapi (by omega) (by omega)
                    clear hlf hrt htq
                    by_cases hlr : lf < rt
                    · have hlrz : (lf : Int) < (rt : Int) := by omega
                      go_wp2_with fail
                      refine (HIH.out x m l d5 w5 HK5.out hs5 (by have := HN.out; omega) hm1 (by omega) (HV4.out.splitL HSP.out hm2) (by omega)).mono ?_
                      rintro e w6 ⟨rfl, d6, hp6, hq6, hk6⟩
                      have HV6 := Lib.hid (HV4.out.leftDone HSP.out hm1 hm2 hp6 hq6)
                      have HK6 := Lib.hid hk6
                      clear hp6 hq6 hk6
                      go_wp2
                      go_roundw
                      case rel => exact ⟨m + 1, y, l, _, o, d6, by first | rfl | go_num, rfl, rfl, rfl, rfl, by omega, HV6, HK6⟩
                      case measure => first | (simp [intOf]; done) | (simp [intOf]; omega)
                    · have hlrz : (rt : Int) ≤ (lf : Int) := by omega
                      go_wp2_with fail
                      refine (HIH.out (m + 1) y l d5 w5 HK5.out hs5 (by have := HN.out; omega) (by omega) (by omega) HSP.out.belowR (by omega)).mono ?_
                      rintro e w6 ⟨rfl, d6, hp6, hq6, hk6⟩
                      have HV6 := Lib.hid (HV4.out.rightDone HSP.out hm1 hm2 hp6 hq6)
                      have HK6 := Lib.hid hk6
                      clear hp6 hq6 hk6
                      go_wp2
                      go_roundw
                      case rel => exact ⟨x, m, l, _, o, d6, rfl, rfl, rfl, rfl, rfl, by omega, HV6, HK6⟩
                      case measure => first | (simp [intOf]; done) | (simp [intOf]; omega)
            · have h2b : ((h : Int) == 2) = false := by simp; omega
              clear h2
              obtain ⟨P, hPP⟩ : ∃ P, p = P := ⟨_, rfl⟩
              rw [hPP] at hp1 hp2
              rw [hPP]
              clear hPP
              have hP1 : x ≤ P := hp1
              have hP2 : P < y := hp2
              clear hp1 hp2
              by_cases h1 : h = 1
              · have h1b : ((h : Int) == 1) = true := by simp; omega
                clear h1 hh
                cases wp with
                | false =>
                  have hsD : dk.size = d.size := HV.out.size
                  obtain ⟨G, hG, hcw, hfw⟩ := HK2.out.fam
                  rw [hsD] at hcw hfw
                  have HG := Lib.hid hG
                  clear hG
                  have hPd : P < d.size := by omega
                  have hPdz : (P : Int) < (d.size : Int) := by omega
                  by_cases h0 : 0 < x
                  · have h0z : (0 : Int) < (x : Int) := by omega
                    have hxm : x - 1 < d.size := by omega
                    have hxmz : ((x - 1 : Nat) : Int) < (d.size : Int) := by omega
                    have hwx : IntKind.i64.wrap ((x : Int) - 1) = ((x - 1 : Nat) : Int) := wrapi (by omega) (by omega)
                    cases hl : ltInt (G (x - 1)) (G P) with
                    | false =>
                      have HL : Hid (ltInt dk[x - 1]! dk[P]! = false) := Lib.hid (by rw [← HG.out, ← HG.out]; exact hl)
                      go_wp2
                      go_quiet (first | (go_at_call 72; refine Calls.quiet_of_same (less_any _ _ _)))
                      go_wp2_with fail
                      clear hl hcw hfw
                      refine (peq_at cap x y (HK2.out.drewN _) hsD (q := P) hP1 hP2 hyd hsz).mono ?_
                      rintro e w5 ⟨m, j, d5, rfl, hm1, hm2, hm3, hpt, hk5⟩
                      have HV5 := Lib.hid (HV.out.equal h0 HL.out hm1 hm2 hm3 hpt)
                      have HK5 := Lib.hid hk5
                      clear hpt hk5 hm3
                      go_wp2
                      go_roundw
                      case rel => exact ⟨m, y, l, true, false, d5, rfl, rfl, rfl, rfl, rfl, by omega, HV5, HK5⟩
                      case measure => first | (simp [intOf]; done) | (simp [intOf]; omega)
                    | true =>
                      go_wp2
                      go_quiet (first | (go_at_call 72; refine Calls.quiet_of_same (less_any _ _ _)))
                      go_wp2_with fail
                      clear hl hcw hfw
                      refine (prt_at cap x y (HK2.out.drewN _) hsD (q := P) hP1 hP2 hyd hsz).mono ?_
                      rintro e w5 ⟨m, d5, o, rfl, hm1, hm2, hsp, hk5⟩
                      have HSP := Lib.hid hsp
                      have HK5 := Lib.hid hk5
                      clear hsp hk5
                      have hs5 : d5.size = d.size := HSP.out.perm.1.trans hsD
                      obtain ⟨lf, hlf⟩ : ∃ lf, m - x = lf := ⟨_, rfl⟩
                      have hwlf : IntKind.i64.wrap ((m : Int) - (x : Int)) = (lf : Int) := wrapi (by omega) (by omega)
                      obtain ⟨rt, hrt⟩ : ∃ rt, y - m = rt := ⟨_, rfl⟩
                      have hwrt : IntKind.i64.wrap ((y : Int) - (m : Int)) = (rt : Int) := wrapi (by omega) (by omega)
                      have hn62 : n < 4611686018427387904 := by have := HN.out; omega
                      obtain ⟨tq, htq⟩ : ∃ tq, n / 8 = tq := ⟨_, rfl⟩
                      have hwtq : IntKind.i64.wrap ((n : Int) / 8) = (tq : Int) := wrapi (by omega) (by omega)
                      have hwtr : IntKind.i64.wrap (tq : Int) = (tq : Int) := wrapi rfl (by omega)
                      have hwm : IntKind.i64.wrap ((m : Int) + 1) = ((m + 1 : Nat) : Int) := wrapi (by omega) (by omega)
                      clear hlf hrt htq
                      by_cases hlr : lf < rt
                      · have hlrz : (lf : Int) < (rt : Int) := by omega
                        go_wp2_with fail
                        refine (HIH.out x m l d5 w5 HK5.out hs5 (by have := HN.out; omega) hm1 (by omega) (HV.out.splitL HSP.out hm2) (by omega)).mono ?_
                        rintro e w6 ⟨rfl, d6, hp6, hq6, hk6⟩
                        have HV6 := Lib.hid (HV.out.leftDone HSP.out hm1 hm2 hp6 hq6)
                        have HK6 := Lib.hid hk6
                        clear hp6 hq6 hk6
                        go_wp2
                        go_roundw
                        case rel => exact ⟨m + 1, y, l, _, o, d6, by first | rfl | go_num, rfl, rfl, rfl, rfl, by omega, HV6, HK6⟩
                        case measure => first | (simp [intOf]; done) | (simp [intOf]; omega)
                      · have hlrz : (rt : Int) ≤ (lf : Int) := by omega
                        go_wp2_with fail
                        refine (HIH.out (m + 1) y l d5 w5 HK5.out hs5 (by have := HN.out; omega) (by omega) (by omega) HSP.out.belowR (by omega)).mono ?_
                        rintro e w6 ⟨rfl, d6, hp6, hq6, hk6⟩
                        have HV6 := Lib.hid (HV.out.rightDone HSP.out hm1 hm2 hp6 hq6)
                        have HK6 := Lib.hid hk6
                        clear hp6 hq6 hk6
                        go_wp2
                        go_roundw
                        case rel => exact ⟨x, m, l, _, o, d6, rfl, rfl, rfl, rfl, rfl, by omega, HV6, HK6⟩
                        case measure => first | (simp [intOf]; done) | (simp [intOf]; omega)
                  · have h0z : (x : Int) ≤ 0 := by omega
                    go_wp2
                    go_quiet (first | (go_at_call 72; refine Calls.quiet_of_same (less_any _ _ _)))
                    go_wp2_with fail
                    clear hcw hfw
                    refine (prt_at cap x y (HK2.out.drewN _) hsD (q := P) hP1 hP2 hyd hsz).mono ?_
                    rintro e w5 ⟨m, d5, o, rfl, hm1, hm2, hsp, hk5⟩
                    have HSP := Lib.hid hsp
                    have HK5 := Lib.hid hk5
                    clear hsp hk5
                    have hs5 : d5.size = d.size := HSP.out.perm.1.trans hsD
                    obtain ⟨lf, hlf⟩ : ∃ lf, m - x = lf := ⟨_, rfl⟩
                    have hwlf : IntKind.i64.wrap ((m : Int) - (x : Int)) = (lf : Int) := wrapi (by omega) (by omega)
                    obtain ⟨rt, hrt⟩ : ∃ rt, y - m = rt := ⟨_, rfl⟩
                    have hwrt : IntKind.i64.wrap ((y : Int) - (m : Int)) = (rt : Int) := wrapi (by omega) (by omega)
                    have hn62 : n < 4611686018427387904 := by have := HN.out; omega
                    obtain ⟨tq, htq⟩ : ∃ tq, n / 8 = tq := ⟨_, rfl⟩
                    have hwtq : IntKind.i64.wrap ((n : Int) / 8) = (tq : Int) := wrapi (by omega) (by omega)
                    have hwtr : IntKind.i64.wrap (tq : Int) = (tq : Int) := wrapi rfl (by omega)
                    have hwm : IntKind.i64.wrap ((m : Int) + 1) = ((m + 1 : Nat) : Int) := wrapi (by omega) (by omega)
                    clear hlf hrt htq
                    by_cases hlr : lf < rt
                    · have hlrz : (lf : Int) < (rt : Int) := by omega
                      go_wp2_with fail
                      refine (HIH.out x m l d5 w5 HK5.out hs5 (by have := HN.out; omega) hm1 (by omega) (HV.out.splitL HSP.out hm2) (by omega)).mono ?_
                      rintro e w6 ⟨rfl, d6, hp6, hq6, hk6⟩
                      have HV6 := Lib.hid (HV.out.leftDone HSP.out hm1 hm2 hp6 hq6)
                      have HK6 := Lib.hid hk6
                      clear hp6 hq6 hk6
                      go_wp2
                      go_roundw
                      case rel => exact ⟨m + 1, y, l, _, o, d6, by first | rfl | go_num, rfl, rfl, rfl, rfl, by omega, HV6, HK6⟩
                      case measure => first | (simp [intOf]; done) | (simp [intOf]; omega)
                    · have hlrz : (rt : Int) ≤ (lf : Int) := by omega
                      go_wp2_with fail
                      refine (HIH.out (m + 1) y l d5 w5 HK5.out hs5 (by have := HN.out; omega) (by omega) (by omega) HSP.out.belowR (by omega)).mono ?_
                      rintro e w6 ⟨rfl, d6, hp6, hq6, hk6⟩
                      have HV6 := Lib.hid (HV.out.rightDone HSP.out hm1 hm2 hp6 hq6)
                      have HK6 := Lib.hid hk6
                      clear hp6 hq6 hk6
                      go_wp2
                      go_roundw
                      case rel => exact ⟨x, m, l, _, o, d6, rfl, rfl, rfl, rfl, rfl, by omega, HV6, HK6⟩
                      case measure => first | (simp [intOf]; done) | (simp [intOf]; omega)
                | true =>
                  go_wp2_with fail
                  refine (pin_at cap x y HK2.out HV.out.size hxy HV.out.below hyd hsz).mono ?_
                  rintro e w4 ⟨r, d4, rfl, hp4, hs4, hk4⟩
                  have HV4 := Lib.hid (HV.out.turn hp4)
                  have HK4 := Lib.hid hk4
                  cases r with
                  | true =>
                    have HD4 := Lib.hid (HV.out.done hp4 (hs4 rfl))
                    clear hp4 hs4 hk4
                    go_wp2
                    exact bodyPost_ret (results_none rfl _ _ _) rfl ⟨rfl, d4, HD4.out.1, HD4.out.2, HK4.out⟩
                  | false =>
                    clear hp4 hs4 hk4
                    have hsD : d4.size = d.size := HV4.out.size
                    obtain ⟨G, hG, hcw, hfw⟩ := HK4.out.fam
                    rw [hsD] at hcw hfw
                    have HG := Lib.hid hG
                    clear hG
                    have hPd : P < d.size := by omega
                    have hPdz : (P : Int) < (d.size : Int) := by omega
                    by_cases h0 : 0 < x
                    · have h0z : (0 : Int) < (x : Int) := by omega
                      have hxm : x - 1 < d.size := by omega
                      have hxmz : ((x - 1 : Nat) : Int) < (d.size : Int) := by omega
                      have hwx : IntKind.i64.wrap ((x : Int) - 1) = ((x - 1 : Nat) : Int) := wrapi (by omega) (by omega)
                      cases hl : ltInt (G (x - 1)) (G P) with
                      | false =>
                        have HL : Hid (ltInt d4[x - 1]! d4[P]! = false) := Lib.hid (by rw [← HG.out, ← HG.out]; exact hl)
                        go_wp2
                        go_quiet (first | (go_at_call 72; refine Calls.quiet_of_same (less_any _ _ _)))
                        go_wp2_with fail
                        clear hl hcw hfw
                        refine (peq_at cap x y (HK4.out.drewN _) hsD (q := P) hP1 hP2 hyd hsz).mono ?_
                        rintro e w5 ⟨m, j, d5, rfl, hm1, hm2, hm3, hpt, hk5⟩
                        have HV5 := Lib.hid (HV4.out.equal h0 HL.out hm1 hm2 hm3 hpt)
                        have HK5 := Lib.hid hk5
                        clear hpt hk5 hm3
                        go_wp2
                        go_roundw
                        case rel => exact ⟨m, y, l, true, true, d5, rfl, rfl, rfl, rfl, rfl, by omega, HV5, HK5⟩
                        case measure => first | (simp [intOf]; done) | (simp [intOf]; omega)
                      | true =>
                        go_wp2
                        go_quiet (first | (go_at_call 72; refine Calls.quiet_of_same (less_any _ _ _)))
                        go_wp2_with fail
                        clear hl hcw hfw
                        refine (prt_at cap x y (HK4.out.drewN _) hsD (q := P) hP1 hP2 hyd hsz).mono ?_
                        rintro e w5 ⟨m, d5, o, rfl, hm1, hm2, hsp, hk5⟩
                        have HSP := Lib.hid hsp
                        have HK5 := Lib.hid hk5
                        clear hsp hk5
                        have hs5 : d5.size = d.size := HSP.out.perm.1.trans hsD
                        obtain ⟨lf, hlf⟩ : ∃ lf, m - x = lf := ⟨_, rfl⟩
                        have hwlf : IntKind.i64.wrap ((m : Int) - (x : Int)) = (lf : Int) := wrapi (by omega) (by omega)
                        obtain ⟨rt, hrt⟩ : ∃ rt, y - m = rt := ⟨_, rfl⟩
                        have hwrt : IntKind.i64.wrap ((y : Int) - (m : Int)) = (rt : Int) := wrapi (by omega) (by omega)
                        have hn62 : n < 4611686018427387904 := by have := HN.out; omega
                        obtain ⟨tq, htq⟩ : ∃ tq, n / 8 = tq := ⟨_, rfl⟩
                        have hwtq : IntKind.i64.wrap ((n : Int) / 8) = (tq : Int) := wrapi (by omega) (by omega)
                        have hwtr : IntKind.i64.wrap (tq : Int) = (tq : Int) := wrapi rfl (by omega)
                        have hwm : IntKind.i64.wrap ((m : Int) + 1) = ((m + 1 : Nat) : Int) := wrapi (by omega) (by omega)
                        clear hlf hrt htq
                        by_cases hlr : lf < rt
                        · have hlrz : (lf : Int) < (rt : Int) := by omega
                          go_wp2_with fail
                          refine (HIH.out x m l d5 w5 HK5.out hs5 (by have := HN.out; omega) hm1 (by omega) (HV4.out.splitL HSP.out hm2) (by omega)).mono ?_
                          rintro e w6 ⟨rfl, d6, hp6, hq6, hk6⟩
                          have HV6 := Lib.hid (HV4.out.leftDone HSP.out hm1 hm2 hp6 hq6)
                          have HK6 := Lib.hid hk6
                          clear hp6 hq6 hk6
                          go_wp2
                          go_roundw
                          case rel => exact ⟨m + 1, y, l, _, o, d6, by first | rfl | go_num, rfl, rfl, rfl, rfl, by omega, HV6, HK6⟩
                          case measure => first | (simp [intOf]; done) | (simp [intOf]; omega)
                        · have hlrz : (rt : Int) ≤ (lf : Int) := by omega
                          go_wp2_with fail
                          refine (HIH.out (m + 1) y l d5 w5 HK5.out hs5 (by have := HN.out; omega) (by omega) (by omega) HSP.out.belowR (by omega)).mono ?_
                          rintro e w6 ⟨rfl, d6, hp6, hq6, hk6⟩
                          have HV6 := Lib.hid (HV4.out.rightDone HSP.out hm1 hm2 hp6 hq6)
                          have HK6 := Lib.hid hk6
                          clear hp6 hq6 hk6
                          go_wp2
                          go_roundw
                          case rel => exact ⟨x, m, l, _, o, d6, rfl, rfl, rfl, rfl, rfl, by omega, HV6, HK6⟩
                          case measure => first | (simp [intOf]; done) | (simp [intOf]; omega)
                    · have h0z : (x : Int) ≤ 0 := by omega
                      go_wp2
                      go_quiet (first | (go_at_call 72; refine Calls.quiet_of_same (less_any _ _ _)))
                      go_wp2_with fail
                      clear hcw hfw
                      refine (prt_at cap x y (HK4.out.drewN _) hsD (q := P) hP1 hP2 hyd hsz).mono ?_
                      rintro e w5 ⟨m, d5, o, rfl, hm1, hm2, hsp, hk5⟩
                      have HSP := Lib.hid hsp
                      have HK5 := Lib.hid hk5
                      clear hsp hk5
                      have hs5 : d5.size = d.size := HSP.out.perm.1.trans hsD
                      obtain ⟨lf, hlf⟩ : ∃ lf, m - x = lf := ⟨_, rfl⟩
                      have hwlf : IntKind.i64.wrap ((m : Int) - (x : Int)) = (lf : Int) := wrapi (by omega) (by omega)
                      obtain ⟨rt, hrt⟩ : ∃ rt, y - m = rt := ⟨_, rfl⟩
                      have hwrt : IntKind.i64.wrap ((y : Int) - (m : Int)) = (rt : Int) := wrapi (by omega) (by omega)
                      have hn62 : n < 4611686018427387904 := by have := HN.out; omega
                      obtain ⟨tq, htq⟩ : ∃ tq, n / 8 = tq := ⟨_, rfl⟩
                      have hwtq : IntKind.i64.wrap ((n : Int) / 8) = (tq : Int) := wrapi (by omega) (by omega)
                      have hwtr : IntKind.i64.wrap (tq : Int) = (tq : Int) := wrapi rfl (by omega)
                      have hwm : IntKind.i64.wrap ((m : Int) + 1) = ((m + 1 : Nat) : Int) := wrapi (by omega) (by omega)
                      clear hlf hrt htq
                      by_cases hlr : lf < rt
                      · have hlrz : (lf : Int) < (rt : Int) := by omega
                        go_wp2_with fail
                        refine (HIH.out x m l d5 w5 HK5.out hs5 (by have := HN.out; omega) hm1 (by omega) (HV4.out.splitL HSP.out hm2) (by omega)).mono ?_
                        rintro e w6 ⟨rfl, d6, hp6, hq6, hk6⟩
                        have HV6 := Lib.hid (HV4.out.leftDone HSP.out hm1 hm2 hp6 hq6)
                        have HK6 := Lib.hid hk6
                        clear hp6 hq6 hk6
                        go_wp2
                        go_roundw
                        case rel => exact ⟨m + 1, y, l, _, o, d6, by first | rfl | go_num, rfl, rfl, rfl, rfl, by omega, HV6, HK6⟩
                        case measure => first | (simp [intOf]; done) | (simp [intOf]; omega)
                      · have hlrz : (rt : Int) ≤ (lf : Int) := by omega
                        go_wp2_with fail
                        refine (HIH.out (m + 1) y l d5 w5 HK5.out hs5 (by have := HN.out; omega) (by omega) (by omega) HSP.out.belowR (by omega)).mono ?_
                        rintro e w6 ⟨rfl, d6, hp6, hq6, hk6⟩
                        have HV6 := Lib.hid (HV4.out.rightDone HSP.out hm1 hm2 hp6 hq6)
                        have HK6 := Lib.hid hk6
                        clear hp6 hq6 hk6
                        go_wp2
                        go_roundw
                        case rel => exact ⟨x, m, l, _, o, d6, rfl, rfl, rfl, rfl, rfl, by omega, HV6, HK6⟩
                        case measure => first | (simp [intOf]; done) | (simp [intOf]; omega)
              · have h1b : ((h : Int) == 1) = false := by simp; omega
                clear h1 hh
                cases wp with
                | false =>
                  have hsD : dk.size = d.size := HV.out.size
                  obtain ⟨G, hG, hcw, hfw⟩ := HK2.out.fam
                  rw [hsD] at hcw hfw
                  have HG := Lib.hid hG
                  clear hG
                  have hPd : P < d.size := by omega
                  have hPdz : (P : Int) < (d.size : Int) := by omega
                  by_cases h0 : 0 < x
                  · have h0z : (0 : Int) < (x : Int) := by omega
                    have hxm : x - 1 < d.size := by omega
                    have hxmz : ((x - 1 : Nat) : Int) < (d.size : Int) := by omega
                    have hwx : IntKind.i64.wrap ((x : Int) - 1) = ((x - 1 : Nat) : Int) := wrapi (by omega) (by omega)
                    cases hl : ltInt (G (x - 1)) (G P) with
                    | false =>
                      have HL : Hid (ltInt dk[x - 1]! dk[P]! = false) := Lib.hid (by rw [← HG.out, ← HG.out]; exact hl)
                      go_wp2
                      go_quiet (first | (go_at_call 72; refine Calls.quiet_of_same (less_any _ _ _)))
                      go_wp2_with fail
                      clear hl hcw hfw
                      refine (peq_at cap x y (HK2.out.drewN _) hsD (q := P) hP1 hP2 hyd hsz).mono ?_
                      rintro e w5 ⟨m, j, d5, rfl, hm1, hm2, hm3, hpt, hk5⟩
                      have HV5 := Lib.hid (HV.out.equal h0 HL.out hm1 hm2 hm3 hpt)
                      have HK5 := Lib.hid hk5
                      clear hpt hk5 hm3
                      go_wp2
                      go_roundw
                      case rel => exact ⟨m, y, l, true, false, d5, rfl, rfl, rfl, rfl, rfl, by omega, HV5, HK5⟩
                      case measure => first | (simp [intOf]; done) | (simp [intOf]; omega)
                    | true =>
                      go_wp2
                      go_quiet (first | (go_at_call 72; refine Calls.quiet_of_same (less_any _ _ _)))
                      go_wp2_with fail
                      clear hl hcw hfw
                      refine (prt_at cap x y (HK2.out.drewN _) hsD (q := P) hP1 hP2 hyd hsz).mono ?_
                      rintro e w5 ⟨m, d5, o, rfl, hm1, hm2, hsp, hk5⟩
                      have HSP := Lib.hid hsp
                      have HK5 := Lib.hid hk5
                      clear hsp hk5
                      have hs5 : d5.size = d.size := HSP.out.perm.1.trans hsD
                      obtain ⟨lf, hlf⟩ : ∃ lf, m - x = lf := ⟨_, rfl⟩
                      have hwlf : IntKind.i64.wrap ((m : Int) - (x : Int)) = (lf : Int) := wrapi (by omega) (by omega)
                      obtain ⟨rt, hrt⟩ : ∃ rt, y - m = rt := ⟨_, rfl⟩
                      have hwrt : IntKind.i64.wrap ((y : Int) - (m : Int)) = (rt : Int) := wrapi (by omega) (by omega)
                      have hn62 : n < 4611686018427387904 := by have := HN.out; omega
                      obtain ⟨tq, htq⟩ : ∃ tq, n / 8 = tq := ⟨_, rfl⟩
                      have hwtq : IntKind.i64.wrap ((n : Int) / 8) = (tq : Int) := wrapi (by omega) (by omega)
                      have hwtr : IntKind.i64.wrap (tq : Int) = (tq : Int) := wrapi rfl (by omega)
                      have hwm : IntKind.i64.wrap ((m : Int) + 1) = ((m + 1 : Nat) : Int) := wrapi (by omega) (by omega)
                      clear hlf hrt htq
                      by_cases hlr : lf < rt
                      · have hlrz : (lf : Int) < (rt : Int) := by omega
                        go_wp2_with fail
                        refine (HIH.out x m l d5 w5 HK5.out hs5 (by have := HN.out; omega) hm1 (by omega) (HV.out.splitL HSP.out hm2) (by omega)).mono ?_
                        rintro e w6 ⟨rfl, d6, hp6, hq6, hk6⟩
                        have HV6 := Lib.hid (HV.out.leftDone HSP.out hm1 hm2 hp6 hq6)
                        have HK6 := Lib.hid hk6
                        clear hp6 hq6 hk6
                        go_wp2
                        go_roundw
                        case rel => exact ⟨m + 1, y, l, _, o, d6, by first | rfl | go_num, rfl, rfl, rfl, rfl, by omega, HV6, HK6⟩
                        case measure => first | (simp [intOf]; done) | (simp [intOf]; omega)
                      · have hlrz : (rt : Int) ≤ (lf : Int) := by omega
                        go_wp2_with fail
                        refine (HIH.out (m + 1) y l d5 w5 HK5.out hs5 (by have := HN.out; omega) (by omega) (by omega) HSP.out.belowR (by omega)).mono ?_
                        rintro e w6 ⟨rfl, d6, hp6, hq6, hk6⟩
                        have HV6 := Lib.hid (HV.out.rightDone HSP.out hm1 hm2 hp6 hq6)
                        have HK6 := Lib.hid hk6
                        clear hp6 hq6 hk6
                        go_wp2
                        go_roundw
                        case rel => exact ⟨x, m, l, _, o, d6, rfl, rfl, rfl, rfl, rfl, by omega, HV6, HK6⟩
                        case measure => first | (simp [intOf]; done) | (simp [intOf]; omega)
                  · have h0z : (x : Int) ≤ 0 := by omega
                    go_wp2
                    go_quiet (first | (go_at_call 72; refine Calls.quiet_of_same (less_any _ _ _)))
                    go_wp2_with fail
                    clear hcw hfw
                    refine (prt_at cap x y (HK2.out.drewN _) hsD (q := P) hP1 hP2 hyd hsz).mono ?_
                    rintro e w5 ⟨m, d5, o, rfl, hm1, hm2, hsp, hk5⟩
                    have HSP := Lib.hid hsp
                    have HK5 := Lib.hid hk5
                    clear hsp hk5
                    have hs5 : d5.size = d.size := HSP.out.perm.1.trans hsD
                    obtain ⟨lf, hlf⟩ : ∃ lf, m - x = lf := ⟨_, rfl⟩
                    have hwlf : IntKind.i64.wrap ((m : Int) - (x : Int)) = (lf : Int) := wrapi (by omega) (by omega)
                    obtain ⟨rt, hrt⟩ : ∃ rt, y - m = rt := ⟨_, rfl⟩
                    have hwrt : IntKind.i64.wrap ((y : Int) - (m : Int)) = (rt : Int) := wrapi (by omega) (by omega)
                    have hn62 : n < 4611686018427387904 := by have := HN.out; omega
                    obtain ⟨tq, htq⟩ : ∃ tq, n / 8 = tq := ⟨_, rfl⟩
                    have hwtq : IntKind.i64.wrap ((n : Int) / 8) = (tq : Int) := wrapi (by omega) (by omega)
                    have hwtr : IntKind.i64.wrap (tq : Int) = (tq : Int) := wrapi rfl (by omega)
                    have hwm : IntKind.i64.wrap ((m : Int) + 1) = ((m + 1 : Nat) : Int) := wrapi (by omega) (by omega)
                    clear hlf hrt htq
                    by_cases hlr : lf < rt
                    · have hlrz : (lf : Int) < (rt : Int) := by omega
                      go_wp2_with fail
                      refine (HIH.out x m l d5 w5 HK5.out hs5 (by have := HN.out; omega) hm1 (by omega) (HV.out.splitL HSP.out hm2) (by omega)).mono ?_
                      rintro e w6 ⟨rfl, d6, hp6, hq6, hk6⟩
                      have HV6 := Lib.hid (HV.out.leftDone HSP.out hm1 hm2 hp6 hq6)
                      have HK6 := Lib.hid hk6
                      clear hp6 hq6 hk6
                      go_wp2
                      go_roundw
                      case rel => exact ⟨m + 1, y, l, _, o, d6, by first | rfl | go_num, rfl, rfl, rfl, rfl, by omega, HV6, HK6⟩
                      case measure => first | (simp [intOf]; done) | (simp [intOf]; omega)
                    · have hlrz : (rt : Int) ≤ (lf : Int) := by omega
                      go_wp2_with fail
                      refine (HIH.out (m + 1) y l d5 w5 HK5.out hs5 (by have := HN.out; omega) (by omega) (by omega) HSP.out.belowR (by omega)).mono ?_
                      rintro e w6 ⟨rfl, d6, hp6, hq6, hk6⟩
                      have HV6 := Lib.hid (HV.out.rightDone HSP.out hm1 hm2 hp6 hq6)
                      have HK6 := Lib.hid hk6
                      clear hp6 hq6 hk6
                      go_wp2
                      go_roundw
                      case rel => exact ⟨x, m, l, _, o, d6, rfl, rfl, rfl, rfl, rfl, by omega, HV6, HK6⟩
                      case measure => first | (simp [intOf]; done) | (simp [intOf]; omega)
                | true =>
                  have hsD : dk.size = d.size := HV.out.size
                  obtain ⟨G, hG, hcw, hfw⟩ := HK2.out.fam
                  rw [hsD] at hcw hfw
                  have HG := Lib.hid hG
                  clear hG
                  have hPd : P < d.size := by omega
                  have hPdz : (P : Int) < (d.size : Int) := by omega
                  by_cases h0 : 0 < x
                  · have h0z : (0 : Int) < (x : Int) := by omega
                    have hxm : x - 1 < d.size := by omega
                    have hxmz : ((x - 1 : Nat) : Int) < (d.size : Int) := by omega
                    have hwx : IntKind.i64.wrap ((x : Int) - 1) = ((x - 1 : Nat) : Int) := wrapi (by omega) (by omega)
                    cases hl : ltInt (G (x - 1)) (G P) with
                    | false =>
                      have HL : Hid (ltInt dk[x - 1]! dk[P]! = false) := Lib.hid (by rw [← HG.out, ← HG.out]; exact hl)
                      go_wp2
                      go_quiet (first | (go_at_call 72; refine Calls.quiet_of_same (less_any _ _ _)))
                      go_wp2_with fail
                      clear hl hcw hfw
                      refine (peq_at cap x y (HK2.out.drewN _) hsD (q := P) hP1 hP2 hyd hsz).mono ?_
                      rintro e w5 ⟨m, j, d5, rfl, hm1, hm2, hm3, hpt, hk5⟩
                      have HV5 := Lib.hid (HV.out.equal h0 HL.out hm1 hm2 hm3 hpt)
                      have HK5 := Lib.hid hk5
                      clear hpt hk5 hm3
                      go_wp2
                      go_roundw
                      case rel => exact ⟨m, y, l, true, true, d5, rfl, rfl, rfl, rfl, rfl, by omega, HV5, HK5⟩
                      case measure => first | (simp [intOf]; done) | (simp [intOf]; omega)
                    | true =>
                      go_wp2
                      go_quiet (first | (go_at_call 72; refine Calls.quiet_of_same (less_any _ _ _)))
                      go_wp2_with fail
                      clear hl hcw hfw
                      refine (prt_at cap x y (HK2.out.drewN _) hsD (q := P) hP1 hP2 hyd hsz).mono ?_
                      rintro e w5 ⟨m, d5, o, rfl, hm1, hm2, hsp, hk5⟩
                      have HSP := Lib.hid hsp
                      have HK5 := Lib.hid hk5
                      clear hsp hk5
                      have hs5 : d5.size = d.size := HSP.out.perm.1.trans hsD
                      obtain ⟨lf, hlf⟩ : ∃ lf, m - x = lf := ⟨_, rfl⟩
                      have hwlf : IntKind.i64.wrap ((m : Int) - (x : Int)) = (lf : Int) := wrapi (by omega) (by omega)
                      obtain ⟨rt, hrt⟩ : ∃ rt, y - m = rt := ⟨_, rfl⟩
                      have hwrt : IntKind.i64.wrap ((y : Int) - (m : Int)) = (rt : Int) := wrapi (by omega) (by omega)
                      have hn62 : n < 4611686018427387904 := by have := HN.out; omega
                      obtain ⟨tq, htq⟩ : ∃ tq, n / 8 = tq := ⟨_, rfl⟩
                      have hwtq : IntKind.i64.wrap ((n : Int) / 8) = (tq : Int) := wrapi (by omega) (by omega)
                      have hwtr : IntKind.i64.wrap (tq : Int) = (tq : Int) := wrapi rfl (by omega)
                      have hwm : IntKind.i64.wrap ((m : Int) + 1) = ((m + 1 : Nat) : Int) := wrapi (by omega) (by omega)
                      clear hlf hrt htq
                      by_cases hlr : lf < rt
                      · have hlrz : (lf : Int) < (rt : Int) := by omega
                        go_wp2_with fail
                        refine (HIH.out x m l d5 w5 HK5.out hs5 (by have := HN.out; omega) hm1 (by omega) (HV.out.splitL HSP.out hm2) (by omega)).mono ?_
                        rintro e w6 ⟨rfl, d6, hp6, hq6, hk6⟩
                        have HV6 := Lib.hid (HV.out.leftDone HSP.out hm1 hm2 hp6 hq6)
                        have HK6 := Lib.hid hk6
                        clear hp6 hq6 hk6
                        go_wp2
                        go_roundw
                        case rel => exact ⟨m + 1, y, l, _, o, d6, by first | rfl | go_num, rfl, rfl, rfl, rfl, by omega, HV6, HK6⟩
                        case measure => first | (simp [intOf]; done) | (simp [intOf]; omega)
                      · have hlrz : (rt : Int) ≤ (lf : Int) := by omega
                        go_wp2_with fail
                        refine (HIH.out (m + 1) y l d5 w5 HK5.out hs5 (by have := HN.out; omega) (by omega) (by omega) HSP.out.belowR (by omega)).mono ?_
                        rintro e w6 ⟨rfl, d6, hp6, hq6, hk6⟩
                        have HV6 := Lib.hid (HV.out.rightDone HSP.out hm1 hm2 hp6 hq6)
                        have HK6 := Lib.hid hk6
                        clear hp6 hq6 hk6
                        go_wp2
                        go_roundw
                        case rel => exact ⟨x, m, l, _, o, d6, rfl, rfl, rfl, rfl, rfl, by omega, HV6, HK6⟩
                        case measure => first | (simp [intOf]; done) | (simp [intOf]; omega)
                  · have h0z : (x : Int) ≤ 0 := by omega
                    go_wp2
                    go_quiet (first | (go_at_call 72; refine Calls.quiet_of_same (less_any _ _ _)))
                    go_wp2_with fail
                    clear hcw hfw
                    refine (prt_at cap x y (HK2.out.drewN _) hsD (q := P) hP1 hP2 hyd hsz).mono ?_
                    rintro e w5 ⟨m, d5, o, rfl, hm1, hm2, hsp, hk5⟩
                    have HSP := Lib.hid hsp
                    have HK5 := Lib.hid hk5
                    clear hsp hk5
                    have hs5 : d5.size = d.size := HSP.out.perm.1.trans hsD
                    obtain ⟨lf, hlf⟩ : ∃ lf, m - x = lf := ⟨_, rfl⟩
                    have hwlf : IntKind.i64.wrap ((m : Int) - (x : Int)) = (lf : Int) := wrapi (by omega) (by omega)
                    obtain ⟨rt, hrt⟩ : ∃ rt, y - m = rt := ⟨_, rfl⟩
                    have hwrt : IntKind.i64.wrap ((y : Int) - (m : Int)) = (rt : Int) := wrapi (by omega) (by omega)
                    have hn62 : n < 4611686018427387904 := by have := HN.out; omega
                    obtain ⟨tq, htq⟩ : ∃ tq, n / 8 = tq := ⟨_, rfl⟩
                    have hwtq : IntKind.i64.wrap ((n : Int) / 8) = (tq : Int) := wrapi (by omega) (by omega)
                    have hwtr : IntKind.i64.wrap (tq : Int) = (tq : Int) := wrapi rfl (by omega)
                    have hwm : IntKind.i64.wrap ((m : Int) + 1) = ((m + 1 : Nat) : Int) := wrapi (by omega) (by omega)
                    clear hlf hrt htq
                    by_cases hlr : lf < rt
                    · have hlrz : (lf : Int) < (rt : Int) := by omega
                      go_wp2_with fail
                      refine (HIH.out x m l d5 w5 HK5.out hs5 (by have := HN.out; omega) hm1 (by omega) (HV.out.splitL HSP.out hm2) (by omega)).mono ?_
                      rintro e w6 ⟨rfl, d6, hp6, hq6, hk6⟩
                      have HV6 := Lib.hid (HV.out.leftDone HSP.out hm1 hm2 hp6 hq6)
                      have HK6 := Lib.hid hk6
                      clear hp6 hq6 hk6
                      go_wp2
                      go_roundw
                      case rel => exact ⟨m + 1, y, l, _, o, d6, by first | rfl | go_num, rfl, rfl, rfl, rfl, by omega, HV6, HK6⟩
                      case measure => first | (simp [intOf]; done) | (simp [intOf]; omega)
                    · have hlrz : (rt : Int) ≤ (lf : Int) := by omega
                      go_wp2_with fail
                      refine (HIH.out (m + 1) y l d5 w5 HK5.out hs5 (by have := HN.out; omega) (by omega) (by omega) HSP.out.belowR (by omega)).mono ?_
                      rintro e w6 ⟨rfl, d6, hp6, hq6, hk6⟩
                      have HV6 := Lib.hid (HV.out.rightDone HSP.out hm1 hm2 hp6 hq6)
                      have HK6 := Lib.hid hk6
                      clear hp6 hq6 hk6
                      go_wp2
                      go_roundw
                      case rel => exact ⟨x, m, l, _, o, d6, rfl, rfl, rfl, rfl, rfl, by omega, HV6, HK6⟩
                      case measure => first | (simp [intOf]; done) | (simp [intOf]; omega)

theorem pdq_at300 : PdqAt 300 := fun g cap d w hR hg h => by
  have hk : Lib.bitLen d.size ≤ 9 := by
    rw [bitLen_eq _ (by omega)]
    exact (Go.Sort.bitsLen_le_iff d.size 9).2 (by omega)
  exact pdq_any (d.size + 1) g cap 0 d.size (Lib.bitLen d.size) d w (by omega) hR hg (Nat.zero_le _) (Nat.le_refl _) (by omega) (.inl rfl) (by omega)
theorem sort_at300 : SortAt 300 := sort_at 300 (by decide) pdq_at300
end Go.Proofs.YtbaeillecojilaaDoor.sq
