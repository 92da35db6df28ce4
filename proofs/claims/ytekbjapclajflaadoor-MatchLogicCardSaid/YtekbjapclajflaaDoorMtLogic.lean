/-
  The law MatchLogic, walked. Written by gen_logic.py.
-/
import Derived.Test.YtekbjapclajflaaDoorMtLogic1
namespace Go.Proofs.YtekbjapclajflaaDoor.mt
set_option linter.unusedVariables false
open Go.RowKit Go.Shelf
open fl (S S_size S_append S_inj)
attribute [local go_sem] Oper.semAt_some

/-- An append whose run is known, at an operation that its guard lets by. -/
theorem wpList_append_at {P : Program} {w : World} {ops : Array Oper} {rest : List Oper} {o : Oper} {a : Act} {Q : Exit → Act → World → Prop} (s x : Operand) (t : TypeId)
    (hw : Region.wanted o (yielded ops a.tmps) = true)
    (ho : o.op = .call { callee := .builtin .append, args := #[s, x], argTypes := #[t, t] }) (vs vx v' : Value) (w' : World) (hs : a.eval s = vs) (hx : a.eval x = vx)
    (hr : (Builtin.append_ #[t, t] o.type #[vs, vx]).run P w = .ok v' w') (h : wpList P ops Q rest (a.put o.dst v') w') : wpList P ops Q (o :: rest) a w :=
  wpList_step fun K hK => by
    rw [if_pos hw]
    unfold Oper.wp execOp
    simp only [ho, resolve, invoke, builtin, Sem.run_bind, Sem.run_pure, Result.andThen_ok, List.map_toArray, List.map_cons, List.map_nil, hs, hx, hr]
    exact hK _ _ h

/-- What the law makes, one row behind the other. -/
structure Made (W : World) (va vb : Value) (a b : List Key) (n1 o1 o2 d1 d2 r1 s1 s2 s3 : Value) (w1 w2 w3 w4 w5 w6 w7 w8 w9 : World) : Prop where
  e1 : App (.slice (some ⟨W.heap.size, 0, none⟩) 1 1) va (W.alloc (.cells #[.int .i64 2, .int .i64 0, .string ⟨#[]⟩, .string ⟨#[]⟩, .int .u64 0, .slice none 0 0] 36)) n1 w1
  e2 : App (.slice (some ⟨w1.heap.size, 0, none⟩) 1 1) va (w1.alloc (.cells #[.int .i64 3, .int .i64 0, .string ⟨#[]⟩, .string ⟨#[]⟩, .int .u64 0, .slice none 0 0] 36)) o1 w2
  e3 : App o1 vb w2 o2 w3
  e4 : App (.slice (some ⟨w3.heap.size, 0, none⟩) 1 1) va (w3.alloc (.cells #[.int .i64 1, .int .i64 2, .string ⟨#[]⟩, .string ⟨#[]⟩, .int .u64 0, .slice none 0 0] 36)) d1 w4
  e5 : App d1 vb w4 d2 w5
  e6 : App (.slice (some ⟨w5.heap.size, 0, none⟩) 1 1) o2 (w5.alloc (.cells #[.int .i64 2, .int .i64 0, .string ⟨#[]⟩, .string ⟨#[]⟩, .int .u64 0, .slice none 0 0] 36)) r1 w6
  e7 : App (.slice (some ⟨w6.heap.size, 0, none⟩) 1 1) n1 (w6.alloc (.cells #[.int .i64 1, .int .i64 2, .string ⟨#[]⟩, .string ⟨#[]⟩, .int .u64 0, .slice none 0 0] 36)) s1 w7
  e8 : App s1 (.slice (some ⟨w7.heap.size, 0, none⟩) 1 1) (w7.alloc (.cells #[.int .i64 2, .int .i64 0, .string ⟨#[]⟩, .string ⟨#[]⟩, .int .u64 0, .slice none 0 0] 36)) s2 w8
  e9 : App s2 vb w8 s3 w9
  bl : Below W.heap.size W w9
  kn1 : Sl w9 n1 ((kNot nilS) :: a)
  ko2 : Sl w9 o2 ((kOr nilS) :: (a ++ b))
  kd2 : Sl w9 d2 ((kAnd nilS) :: (a ++ b))
  kr1 : Sl w9 r1 ((kNot nilS) :: ((kOr nilS) :: (a ++ b)))
  ks3 : Sl w9 s3 ((kAnd nilS) :: (((kNot nilS) :: a) ++ ((kNot nilS) :: b)))
theorem made_any (W : World) (va vb : Value) (a b : List Key) (ha : Sl W va a) (hb : Sl W vb b) (la : a.length ≤ 64) (lb : b.length ≤ 64) :
    ∃ n1 o1 o2 d1 d2 r1 s1 s2 s3 w1 w2 w3 w4 w5 w6 w7 w8 w9, Made W va vb a b n1 o1 o2 d1 d2 r1 s1 s2 s3 w1 w2 w3 w4 w5 w6 w7 w8 w9 := by
  have kn : ∀ W, SetIn W (kNot nilS) := fun W => setIn_nil W (by decide)
  have ko : ∀ W, SetIn W (kOr nilS) := fun W => setIn_nil W (by decide)
  have ka : ∀ W, SetIn W (kAnd nilS) := fun W => setIn_nil W (by decide)
  have sa := fun (W' : World) (h : Below W.heap.size W W') => (ha.later h).sets
  have sb := fun (W' : World) (h : Below W.heap.size W W') => (hb.later h).sets
  -- not
  obtain ⟨n1, w1, e1, on, b1⟩ := made_keys (kNot nilS) va a (by omega) W ha (kn W)
  have B1 := b1
  have sn : Sl w1 n1 ((kNot nilS) :: a) := sl_own on (fun k hk => by
    rcases List.mem_cons.1 hk with rfl | hk
    · exact kn _
    · exact sa _ B1 k hk)
  -- or
  obtain ⟨o1, w2, e2, oo, b2⟩ := made_keys (kOr nilS) va a (by omega) w1 (ha.later B1) (ko w1)
  have B2 := bnext B1 b2
  have so1 : ∀ k ∈ ((kOr nilS) :: a), SetIn w2 k := fun k hk => by
    rcases List.mem_cons.1 hk with rfl | hk
    · exact ko _
    · exact sa _ B2 k hk
  obtain ⟨o2, w3, e3, oo2, b3⟩ := append_keys w1.heap.size o1 ((kOr nilS) :: a) b vb (by simp; omega) w2 oo b2.size (hb.later B2) so1
  have b23 : Below w1.heap.size w1 w3 := b2.trans b3
  have B3 := bnext B1 b23
  have so2 : Sl w3 o2 ((kOr nilS) :: (a ++ b)) := sl_own oo2 (fun k hk => by
    rcases List.mem_cons.1 hk with rfl | hk
    · exact ko _
    · rcases List.mem_append.1 hk with hk | hk
      · exact sa _ B3 k hk
      · exact sb _ B3 k hk)
  -- and
  obtain ⟨d1, w4, e4, od, b4⟩ := made_keys (kAnd nilS) va a (by omega) w3 (ha.later B3) (ka w3)
  have B4 := bnext B3 b4
  have sd1 : ∀ k ∈ ((kAnd nilS) :: a), SetIn w4 k := fun k hk => by
    rcases List.mem_cons.1 hk with rfl | hk
    · exact ka _
    · exact sa _ B4 k hk
  obtain ⟨d2, w5, e5, od2, b5⟩ := append_keys w3.heap.size d1 ((kAnd nilS) :: a) b vb (by simp; omega) w4 od b4.size (hb.later B4) sd1
  have b45 : Below w3.heap.size w3 w5 := b4.trans b5
  have B5 := bnext B3 b45
  have sd2 : Sl w5 d2 ((kAnd nilS) :: (a ++ b)) := sl_own od2 (fun k hk => by
    rcases List.mem_cons.1 hk with rfl | hk
    · exact ka _
    · rcases List.mem_append.1 hk with hk | hk
      · exact sa _ B5 k hk
      · exact sb _ B5 k hk)
  -- nor
  have so5 := so2.later b45
  obtain ⟨r1, w6, e6, or, b6⟩ := made_keys (kNot nilS) o2 ((kOr nilS) :: (a ++ b)) (by simp; omega) w5 so5 (kn w5)
  have B6 := bnext B5 b6
  have so6 := so5.later b6
  have sr : Sl w6 r1 ((kNot nilS) :: ((kOr nilS) :: (a ++ b))) := sl_own or (fun k hk => by
    rcases List.mem_cons.1 hk with rfl | hk
    · exact kn _
    · exact so6.sets k hk)
  -- nots
  have b16 : Below w1.heap.size w1 w6 := bnext (bnext b23 b45) b6
  have sn6 := sn.later b16
  obtain ⟨s1, w7, e7, os, b7⟩ := made_keys (kAnd nilS) n1 ((kNot nilS) :: a) (by simp; omega) w6 sn6 (ka w6)
  have B7 := bnext B6 b7
  have sn7 := sn6.later b7
  have ss1 : ∀ k ∈ ((kAnd nilS) :: ((kNot nilS) :: a)), SetIn w7 k := fun k hk => by
    rcases List.mem_cons.1 hk with rfl | hk
    · exact ka _
    · exact sn7.sets k hk
  have b7' := below_box w7 (.cells #[.int .i64 2, .int .i64 0, .string ⟨#[]⟩, .string ⟨#[]⟩, .int .u64 0, .slice none 0 0] 36)
  have sl7 : Sl (w7.alloc (.cells #[.int .i64 2, .int .i64 0, .string ⟨#[]⟩, .string ⟨#[]⟩, .int .u64 0, .slice none 0 0] 36)) (.slice (some ⟨w7.heap.size, 0, none⟩) 1 1) [(kNot nilS)] := by
    have := Sl.new w7 [(kNot nilS)] (fun x hx => by rw [List.mem_singleton.1 hx]; exact kn w7) 1 rfl
    rwa [show cellsK [(kNot nilS)] = keyCells (kNot nilS) by simp [cellsK]] at this
  obtain ⟨s2, w8, e8, os2, b8⟩ := append_keys w6.heap.size s1 ((kAnd nilS) :: ((kNot nilS) :: a)) [(kNot nilS)] (.slice (some ⟨w7.heap.size, 0, none⟩) 1 1) (by simp; omega) (w7.alloc (.cells #[.int .i64 2, .int .i64 0, .string ⟨#[]⟩, .string ⟨#[]⟩, .int .u64 0, .slice none 0 0] 36)) (own_below os b7') (Nat.le_trans b7.size b7'.size) sl7 (fun k hk => (ss1 k hk).later b7')
  have b68 : Below w6.heap.size w6 w8 := (b7.trans (b7'.mono b7.size)).trans b8
  have B8 := bnext B6 b68
  have ss2 : ∀ k ∈ (((kAnd nilS) :: ((kNot nilS) :: a)) ++ [(kNot nilS)]), SetIn w8 k := fun k hk => by
    rcases List.mem_append.1 hk with hk | hk
    · rcases List.mem_cons.1 hk with rfl | hk
      · exact ka _
      · exact (sn6.later b68).sets k hk
    · rw [List.mem_singleton.1 hk]; exact kn _
  obtain ⟨s3, w9, e9, os3, b9⟩ := append_keys w6.heap.size s2 (((kAnd nilS) :: ((kNot nilS) :: a)) ++ [(kNot nilS)]) b vb (by simp; omega) w8 os2 b68.size (hb.later B8) ss2
  have b69 : Below w6.heap.size w6 w9 := b68.trans b9
  have B9 := bnext B6 b69
  have el : ((kAnd nilS) :: ((kNot nilS) :: a)) ++ [(kNot nilS)] ++ b = ((kAnd nilS) :: (((kNot nilS) :: a) ++ ((kNot nilS) :: b))) := by simp
  rw [el] at os3
  have ss3 : Sl w9 s3 ((kAnd nilS) :: (((kNot nilS) :: a) ++ ((kNot nilS) :: b))) := sl_own os3 (fun k hk => by
    rw [← el] at hk
    rcases List.mem_append.1 hk with hk | hk
    · rcases List.mem_append.1 hk with hk | hk
      · rcases List.mem_cons.1 hk with rfl | hk
        · exact ka _
        · exact (sn6.later b69).sets k hk
      · rw [List.mem_singleton.1 hk]; exact kn _
    · exact sb _ B9 k hk)
  exact ⟨n1, o1, o2, d1, d2, r1, s1, s2, s3, w1, w2, w3, w4, w5, w6, w7, w8, w9, e1, e2, e3, e4, e5, e6, e7, e8, e9, B9, sn6.later b69, so6.later b69, (sd2.later b6).later b69, sr.later b69, ss3⟩

/-- What the calls take. -/
structure Lo (w W : World) (va vb n1 o2 d2 r1 s3 : Value) (a b : List Key) (y : Mail) (M : Int) : Prop where
  bl : Below w.heap.size w W
  bx : Arr W w.heap.size 30 #[.int .u64 (y.uid : Nat), y.fv, .int .u64 (y.mod : Nat), .string y.hash, .int .u64 (y.size : Nat), .int .u64 (y.seq : Nat), .int .u64 (y.mostSeq : Nat), .int .u64 (y.mostUid : Nat), .string (S y.m)]
  kva : Sl W va a
  kvb : Sl W vb b
  kn1 : Sl W n1 ((kNot nilS) :: a)
  ko2 : Sl W o2 ((kOr nilS) :: (a ++ b))
  kd2 : Sl W d2 ((kAnd nilS) :: (a ++ b))
  kr1 : Sl W r1 ((kNot nilS) :: ((kOr nilS) :: (a ++ b)))
  ks3 : Sl W s3 ((kAnd nilS) :: (((kNot nilS) :: a) ++ ((kNot nilS) :: b)))
  fl : FlagsIn W y
  mx : W.cell? ⟨0, 0, none⟩ = some (.int .i64 M)
theorem Lo.later {w W W' : World} {va vb n1 o2 d2 r1 s3 : Value} {a b : List Key} {y : Mail} {M : Int} (h : Lo w W va vb n1 o2 d2 r1 s3 a b y M) (k : Below W.heap.size W W') : Lo w W' va vb n1 o2 d2 r1 s3 a b y M :=
  ⟨bnext h.bl k, h.bx.below k, h.kva.later k, h.kvb.later k, h.kn1.later k, h.ko2.later k, h.kd2.later k, h.kr1.later k, h.ks3.later k, h.fl.later k, (k.cell (p := ⟨0, 0, none⟩) (World.block_lt_of_cell? W _ h.mx)).trans h.mx⟩
theorem Lo.x {w W : World} {va vb n1 o2 d2 r1 s3 : Value} {a b : List Key} {y : Mail} {M : Int} (h : Lo w W va vb n1 o2 d2 r1 s3 a b y M) : W.cell? ⟨w.heap.size, 0, none⟩ = some (.int .u64 (y.uid : Nat)) ∧ W.cell? ⟨w.heap.size, 1, none⟩ = some (y.fv) ∧ W.cell? ⟨w.heap.size, 2, none⟩ = some (.int .u64 (y.mod : Nat)) ∧ W.cell? ⟨w.heap.size, 3, none⟩ = some (.string y.hash) ∧ W.cell? ⟨w.heap.size, 4, none⟩ = some (.int .u64 (y.size : Nat)) ∧ W.cell? ⟨w.heap.size, 5, none⟩ = some (.int .u64 (y.seq : Nat)) ∧ W.cell? ⟨w.heap.size, 6, none⟩ = some (.int .u64 (y.mostSeq : Nat)) ∧ W.cell? ⟨w.heap.size, 7, none⟩ = some (.int .u64 (y.mostUid : Nat)) ∧ W.cell? ⟨w.heap.size, 8, none⟩ = some (.string (S y.m)) := mail_cells h.bx

set_option maxHeartbeats 8000000 in
set_option maxRecDepth 100000 in
theorem logic_walk (va vb : Value) (a b : List Key) (hla : a.length ≤ 140737488355328) (hlb : b.length ≤ 140737488355328) (y : Mail) (hy : y.m.length ≤ 140737488355328) (M : Int) (w : World) (hM : w.cell? ⟨0, 0, none⟩ = some (.int .i64 M)) (ha : Sl w va a) (hb : Sl w vb b) (hf : FlagsIn w y) :
    Calls Tryd.prog 3 #[va, vb, mailV y] w fun e w' => e = .returned (.bool true) ∧ Below w.heap.size w w' := by
  have b0 := below_box w (.cells #[.int .u64 (y.uid : Nat), y.fv, .int .u64 (y.mod : Nat), .string y.hash, .int .u64 (y.size : Nat), .int .u64 (y.seq : Nat), .int .u64 (y.mostSeq : Nat), .int .u64 (y.mostUid : Nat), .string (S y.m)] 30)
  have hin : In w (w.alloc (.cells #[.int .u64 (y.uid : Nat), y.fv, .int .u64 (y.mod : Nat), .string y.hash, .int .u64 (y.size : Nat), .int .u64 (y.seq : Nat), .int .u64 (y.mostSeq : Nat), .int .u64 (y.mostUid : Nat), .string (S y.m)] 30)) va a y M := ⟨b0, Arr.new w _ _, ha.later b0, hf.later b0, (b0.cell (p := ⟨0, 0, none⟩) (World.block_lt_of_cell? w _ hM)).trans hM⟩
  have hin2 : Sl (w.alloc (.cells #[.int .u64 (y.uid : Nat), y.fv, .int .u64 (y.mod : Nat), .string y.hash, .int .u64 (y.size : Nat), .int .u64 (y.seq : Nat), .int .u64 (y.mostSeq : Nat), .int .u64 (y.mostUid : Nat), .string (S y.m)] 30)) vb b := hb.later b0
  have c1 := alive_any M _ hin.m
  have HI := Lib.hid (And.intro hin hin2)
  have HSA := Lib.hid (fun W (h : In w W va a y M ∧ Sl W vb b) => short_any va a hla (S y.m) (by rw [S_size]; omega) W h.1.s)
  have HSB := Lib.hid (fun W (h : In w W va a y M ∧ Sl W vb b) => short_any vb b hlb (S y.m) (by rw [S_size]; omega) W h.2)
  have HWA := Lib.hid (fun W (h : In w W va a y M ∧ Sl W vb b) => whole_any va a hla W h.1.s)
  have HWB := Lib.hid (fun W (h : In w W va a y M ∧ Sl W vb b) => whole_any vb b hlb W h.2)
  simp only [S_size] at HSA HSB
  have HL := Lib.hid (And.intro hla (And.intro hlb hy))
  have nxt : Hid (∀ W W', (In w W va a y M ∧ Sl W vb b) → Below W.heap.size W W' → In w W' va a y M ∧ Sl W' vb b) := fun W W' h k => ⟨h.1.later k, h.2.later k⟩
  clear hM ha hb hf hin hin2 b0 hla hlb hy
  unfold mailV
  obtain ⟨sa, hsa⟩ : ∃ q, shortL a y.m.length = q := ⟨_, rfl⟩
  obtain ⟨sb, hsb⟩ : ∃ q, shortL b y.m.length = q := ⟨_, rfl⟩
  obtain ⟨wa, hwa⟩ : ∃ q, whole a = q := ⟨_, rfl⟩
  obtain ⟨wb, hwb⟩ : ∃ q, whole b = q := ⟨_, rfl⟩
  rw [hsa] at HSA
  rw [hsb] at HSB
  rw [hwa] at HWA
  rw [hwb] at HWB
  replace hsa := Lib.hid hsa
  replace hsb := Lib.hid hsb
  replace hwa := Lib.hid hwa
  replace hwb := Lib.hid hwb
  go_enter Tryd.func3, Tryd.ntmps3
  go_wp2_with fail
  refine c1.mono ?_
  rintro e w1 ⟨rfl, b1⟩
  have h1 := nxt.out _ _ HI.out b1
  obtain ⟨m0, m1, m2, m3, m4, m5, m6, m7, m8⟩ := h1.1.cells
  have c2 := HSA.out w1 h1
  replace h1 := Lib.hid h1
  clear c1 HI b1 HSA
  go_wp2_with fail
  refine c2.mono ?_
  rintro e w2 ⟨rfl, b2⟩
  have h2 := Lib.hid (nxt.out _ _ h1.out b2)
  clear c2 b2 h1 m0 m1 m2 m3 m4 m5 m6 m7 m8
  cases sa with
  | false =>
    clear HSB HWA HWB
    go_wp2_with fail
    go_ret
    exact ⟨rfl, h2.out.1.b⟩
  | true =>
  obtain ⟨m0, m1, m2, m3, m4, m5, m6, m7, m8⟩ := h2.out.1.cells
  have c3 := HSB.out w2 h2.out
  clear HSB
  go_wp2_with fail
  refine c3.mono ?_
  rintro e w3 ⟨rfl, b3⟩
  have h3 := Lib.hid (nxt.out _ _ h2.out b3)
  clear c3 b3 h2 m0 m1 m2 m3 m4 m5 m6 m7 m8
  cases sb with
  | false =>
    clear HWA HWB
    go_wp2_with fail
    go_ret
    exact ⟨rfl, h3.out.1.b⟩
  | true =>
  have c4 := HWA.out w3 h3.out
  clear HWA
  go_wp2_with fail
  refine c4.mono ?_
  rintro e w4 ⟨rfl, b4⟩
  have h4 := Lib.hid (nxt.out _ _ h3.out b4)
  clear c4 b4 h3
  cases wa with
  | false =>
    clear HWB
    go_wp2_with fail
    go_ret
    exact ⟨rfl, h4.out.1.b⟩
  | true =>
  have c5 := HWB.out w4 h4.out
  clear HWB
  go_wp2_with fail
  refine c5.mono ?_
  rintro e w5 ⟨rfl, b5⟩
  have h5 := Lib.hid (nxt.out _ _ h4.out b5)
  clear c5 b5 h4
  cases wb with
  | false =>
    go_wp2_with fail
    go_ret
    exact ⟨rfl, h5.out.1.b⟩
  | true =>
  obtain ⟨n1, o1, o2, d1, d2, r1, s1, s2, s3, x1, x2, x3, x4, x5, x6, x7, x8, x9, hmade⟩ := made_any w5 va vb a b h5.out.1.s h5.out.2 (short_yes hsa.out).1 (short_yes hsb.out).1
  obtain ⟨e1, e2, e3, e4, e5, e6, e7, e8, e9, bm, kn1, ko2, kd2, kr1, ks3⟩ := hmade
  have hlo : Lo w x9 va vb n1 o2 d2 r1 s3 a b y M := by
    have h9 := nxt.out _ _ h5.out bm
    exact ⟨h9.1.b, h9.1.a, h9.1.s, h9.2, kn1, ko2, kd2, kr1, ks3, h9.1.f, h9.1.m⟩
  have HL9 := Lib.hid hlo
  replace e1 := Lib.hid e1
  replace e2 := Lib.hid e2
  replace e3 := Lib.hid e3
  replace e4 := Lib.hid e4
  replace e5 := Lib.hid e5
  replace e6 := Lib.hid e6
  replace e7 := Lib.hid e7
  replace e8 := Lib.hid e8
  replace e9 := Lib.hid e9
  have LA := Lib.hid (short_yes hsa.out)
  have LB := Lib.hid (short_yes hsb.out)
  have HWR := Lib.hid (fun W (h : Lo w W va vb n1 o2 d2 r1 s3 a b y M) => whole_any r1 _ (by have := LA.out.1; have := LB.out.1; simp; omega) W h.kr1)
  have HWS := Lib.hid (fun W (h : Lo w W va vb n1 o2 d2 r1 s3 a b y M) => whole_any s3 _ (by have := LA.out.1; have := LB.out.1; simp; omega) W h.ks3)
  have HWD := Lib.hid (fun W (h : Lo w W va vb n1 o2 d2 r1 s3 a b y M) => whole_any d2 _ (by have := LA.out.1; have := LB.out.1; simp; omega) W h.kd2)
  obtain ⟨wr, hwr⟩ : ∃ q, whole ((kNot nilS) :: ((kOr nilS) :: (a ++ b))) = q := ⟨_, rfl⟩
  obtain ⟨ws, hws⟩ : ∃ q, whole ((kAnd nilS) :: (((kNot nilS) :: a) ++ ((kNot nilS) :: b))) = q := ⟨_, rfl⟩
  obtain ⟨wd, hwd⟩ : ∃ q, whole ((kAnd nilS) :: (a ++ b)) = q := ⟨_, rfl⟩
  rw [hwr] at HWR
  rw [hws] at HWS
  rw [hwd] at HWD
  replace hwr := Lib.hid hwr
  replace hws := Lib.hid hws
  replace hwd := Lib.hid hwd
  clear hlo bm kn1 ko2 kd2 kr1 ks3 h5 nxt
  go_wp2_with (at_builtin; first
    | (refine wpList_append_at _ _ _ rfl rfl _ _ _ _ rfl rfl e1.out ?_; clear e1)
    | (refine wpList_append_at _ _ _ rfl rfl _ _ _ _ rfl rfl e2.out ?_; clear e2)
    | (refine wpList_append_at _ _ _ rfl rfl _ _ _ _ rfl rfl e3.out ?_; clear e3)
    | (refine wpList_append_at _ _ _ rfl rfl _ _ _ _ rfl rfl e4.out ?_; clear e4)
    | (refine wpList_append_at _ _ _ rfl rfl _ _ _ _ rfl rfl e5.out ?_; clear e5)
    | (refine wpList_append_at _ _ _ rfl rfl _ _ _ _ rfl rfl e6.out ?_; clear e6)
    | (refine wpList_append_at _ _ _ rfl rfl _ _ _ _ rfl rfl e7.out ?_; clear e7)
    | (refine wpList_append_at _ _ _ rfl rfl _ _ _ _ rfl rfl e8.out ?_; clear e8)
    | (refine wpList_append_at _ _ _ rfl rfl _ _ _ _ rfl rfl e9.out ?_; clear e9)
    )
  have c6 := HWR.out x9 HL9.out
  clear HWR
  refine c6.mono ?_
  rintro e u1 ⟨rfl, bb1⟩
  have L1 := Lib.hid (HL9.out.later bb1)
  clear c6 bb1 HL9
  cases wr with
  | false =>
    clear HWS HWD
    go_wp2_with fail
    go_ret
    exact ⟨rfl, L1.out.bl⟩
  | true =>
  have c7 := HWS.out u1 L1.out
  clear HWS
  go_wp2_with fail
  refine c7.mono ?_
  rintro e u2 ⟨rfl, bb2⟩
  have L2 := Lib.hid (L1.out.later bb2)
  clear c7 bb2 L1
  cases ws with
  | false =>
    clear HWD
    go_wp2_with fail
    go_ret
    exact ⟨rfl, L2.out.bl⟩
  | true =>
  have c8 := HWD.out u2 L2.out
  clear HWD
  go_wp2_with fail
  refine c8.mono ?_
  rintro e u3 ⟨rfl, bb3⟩
  have L3 := Lib.hid (L2.out.later bb3)
  clear c8 bb3 L2
  cases wd with
  | false =>
    go_wp2_with fail
    go_ret
    exact ⟨rfl, L3.out.bl⟩
  | true =>
  have hmy : y.m.length < 4294967281 := by have := LA.out.2.1; omega
  have lta := short_light hsa.out
  have ltb := short_light hsb.out
  have ltn : ∀ k ∈ ((kNot nilS) :: a), Light k := fun k hk => by
    rcases List.mem_cons.1 hk with rfl | hk
    · exact ⟨by simp [kNot], by simp [kNot]⟩
    · exact lta k hk
  have ltab : ∀ k ∈ a ++ b, Light k := fun k hk => by
    rcases List.mem_append.1 hk with hk | hk
    · exact lta k hk
    · exact ltb k hk
  have lto : ∀ k ∈ ((kOr nilS) :: (a ++ b)), Light k := fun k hk => by
    rcases List.mem_cons.1 hk with rfl | hk
    · exact ⟨by simp [kOr], by simp [kOr]⟩
    · exact ltab k hk
  have ltd : ∀ k ∈ ((kAnd nilS) :: (a ++ b)), Light k := fun k hk => by
    rcases List.mem_cons.1 hk with rfl | hk
    · exact ⟨by simp [kAnd], by simp [kAnd]⟩
    · exact ltab k hk
  have ltr : ∀ k ∈ ((kNot nilS) :: ((kOr nilS) :: (a ++ b))), Light k := fun k hk => by
    rcases List.mem_cons.1 hk with rfl | hk
    · exact ⟨by simp [kNot], by simp [kNot]⟩
    · exact lto k hk
  have lts : ∀ k ∈ ((kAnd nilS) :: (((kNot nilS) :: a) ++ ((kNot nilS) :: b))), Light k := fun k hk => by
    rcases List.mem_cons.1 hk with rfl | hk
    · exact ⟨by simp [kAnd], by simp [kAnd]⟩
    · rcases List.mem_append.1 hk with hk | hk
      · exact ltn k hk
      · rcases List.mem_cons.1 hk with rfl | hk
        · exact ⟨by simp [kNot], by simp [kNot]⟩
        · exact ltb k hk
  have HN := Lib.hid (fun W (h : Lo w W va vb n1 o2 d2 r1 s3 a b y M) => says_any n1 _ (by have := LA.out.1; simp; omega) (fun _ => ltn) y hmy M W h.mx h.kn1 h.fl)
  have HA1 := Lib.hid (fun W (h : Lo w W va vb n1 o2 d2 r1 s3 a b y M) => says_any va _ (by have := LA.out.1; omega) (fun _ => lta) y hmy M W h.mx h.kva h.fl)
  have HB1 := Lib.hid (fun W (h : Lo w W va vb n1 o2 d2 r1 s3 a b y M) => says_any vb _ (by have := LB.out.1; omega) (fun _ => ltb) y hmy M W h.mx h.kvb h.fl)
  have HO := Lib.hid (fun W (h : Lo w W va vb n1 o2 d2 r1 s3 a b y M) => says_any o2 _ (by have := LA.out.1; have := LB.out.1; simp; omega) (fun _ => lto) y hmy M W h.mx h.ko2 h.fl)
  have HD := Lib.hid (fun W (h : Lo w W va vb n1 o2 d2 r1 s3 a b y M) => says_any d2 _ (by have := LA.out.1; have := LB.out.1; simp; omega) (fun _ => ltd) y hmy M W h.mx h.kd2 h.fl)
  have HR := Lib.hid (fun W (h : Lo w W va vb n1 o2 d2 r1 s3 a b y M) => says_any r1 _ (by have := LA.out.1; have := LB.out.1; simp; omega) (fun _ => ltr) y hmy M W h.mx h.kr1 h.fl)
  have HS := Lib.hid (fun W (h : Lo w W va vb n1 o2 d2 r1 s3 a b y M) => says_any s3 _ (by have := LA.out.1; have := LB.out.1; simp; omega) (fun _ => lts) y hmy M W h.mx h.ks3 h.fl)
  obtain ⟨j1, j2, j3, j4⟩ := logic (alone y) nilS nilS nilS nilS nilS nilS a b hwa.out hwb.out hwr.out hws.out hwd.out
  rw [j1] at HN
  rw [j2] at HO
  rw [j3] at HD
  rw [← j4] at HS
  unfold mailV at HN HA1 HB1 HO HD HR HS
  generalize says (alone y) ((kNot nilS) :: ((kOr nilS) :: (a ++ b))) = q at *
  generalize says (alone y) a = qa at *
  generalize says (alone y) b = qb at *
  clear hsa hsb hwa hwb hwr hws hwd HL LA LB hmy lta ltb ltn ltab lto ltd ltr lts j1 j2 j3 j4
  go_upto_region 13 with (fail)
  have h0 : Lo w u3.drew va vb n1 o2 d2 r1 s3 a b y M := L3.out.later (below_drew (Below.refl _ _))
  clear L3
  cases qa with
  | true =>
    cases qb with
    | true =>
      refine wp_region_held (S := fun W => Lo w W va vb n1 o2 d2 r1 s3 a b y M) (by kernel_rfl) ?_
      change wpAnyH _ _ _ _ _ _ _ _ (World.drew _)
      refine wpAnyH_take (i := 0) (v := n1) rfl (by kernel_rfl) (by kernel_rfl) (by kernel_rfl) (fun _ _ _ h => h) (Or.inl ⟨by kernel_rfl, fun W _ => by kernel_rfl⟩) h0 ?_
      refine wpAnyH_take (i := 1) (v := .agg #[.int .u64 (y.uid : Nat), y.fv, .int .u64 (y.mod : Nat), .string y.hash, .int .u64 (y.size : Nat), .int .u64 (y.seq : Nat), .int .u64 (y.mostSeq : Nat), .int .u64 (y.mostUid : Nat), .string (S y.m)]) rfl (by kernel_rfl) (by kernel_rfl) (by kernel_rfl) (fun _ _ _ h => h) (Or.inl ⟨by kernel_rfl, fun W hh => by obtain ⟨m0, m1, m2, m3, m4, m5, m6, m7, m8⟩ := hh.x; go_simp⟩) h0 ?_
      refine wpAnyH_take (i := 3) (v := va) rfl (by kernel_rfl) (by kernel_rfl) (by kernel_rfl) (fun _ _ _ h => h) (Or.inl ⟨by kernel_rfl, fun W _ => by kernel_rfl⟩) h0 ?_
      refine wpAnyH_take (i := 4) (v := .agg #[.int .u64 (y.uid : Nat), y.fv, .int .u64 (y.mod : Nat), .string y.hash, .int .u64 (y.size : Nat), .int .u64 (y.seq : Nat), .int .u64 (y.mostSeq : Nat), .int .u64 (y.mostUid : Nat), .string (S y.m)]) rfl (by kernel_rfl) (by kernel_rfl) (by kernel_rfl) (fun _ _ _ h => h) (Or.inl ⟨by kernel_rfl, fun W hh => by obtain ⟨m0, m1, m2, m3, m4, m5, m6, m7, m8⟩ := hh.x; go_simp⟩) h0 ?_
      refine wpAnyH_all (rs := [2]) (by kernel_rfl) (by simp) ?_
      refine AllReadyH.cons rfl (fun K hK => ?_) AllReadyH.nil
      go_simp
      with_reducible refine (HN.out _ h0).mono ?_
      rintro e u0 ⟨rfl, bb0⟩
      have g0 := h0.later bb0
      refine hK.out _ _ g0 (fun hx => ?_)
      clear hx hK K
      refine wpAnyH_all (rs := [5]) (by kernel_rfl) (by simp) ?_
      refine AllReadyH.cons rfl (fun K hK => ?_) AllReadyH.nil
      go_simp
      with_reducible refine (HA1.out _ g0).mono ?_
      rintro e u1 ⟨rfl, bb1⟩
      have g1 := g0.later bb1
      refine hK.out _ _ g1 (fun hx => ?_)
      clear hx hK K
      refine wpAnyH_take (i := 6) (v := .bool false) rfl (by kernel_rfl) (by kernel_rfl) (by kernel_rfl) (fun _ _ _ h => h) (Or.inl ⟨by kernel_rfl, fun W _ => by kernel_rfl⟩) g1 ?_
      refine wpAnyH_take (i := 7) (v := .bool true) rfl (by kernel_rfl) (by kernel_rfl) (by kernel_rfl) (fun _ _ _ h => h) (Or.inl ⟨by kernel_rfl, fun W _ => by kernel_rfl⟩) g1 ?_
      refine wpAnyH_take (i := 8) (v := .bool true) rfl (by kernel_rfl) (by kernel_rfl) (by kernel_rfl) (fun _ _ _ h => h) (Or.inl ⟨by kernel_rfl, fun W _ => by kernel_rfl⟩) g1 ?_
      refine wpAnyH_take (i := 9) (v := o2) rfl (by kernel_rfl) (by kernel_rfl) (by kernel_rfl) (fun _ _ _ h => h) (Or.inl ⟨by kernel_rfl, fun W _ => by kernel_rfl⟩) g1 ?_
      refine wpAnyH_take (i := 10) (v := .agg #[.int .u64 (y.uid : Nat), y.fv, .int .u64 (y.mod : Nat), .string y.hash, .int .u64 (y.size : Nat), .int .u64 (y.seq : Nat), .int .u64 (y.mostSeq : Nat), .int .u64 (y.mostUid : Nat), .string (S y.m)]) rfl (by kernel_rfl) (by kernel_rfl) (by kernel_rfl) (fun _ _ _ h => h) (Or.inl ⟨by kernel_rfl, fun W hh => by obtain ⟨m0, m1, m2, m3, m4, m5, m6, m7, m8⟩ := hh.x; go_simp⟩) g1 ?_
      refine wpAnyH_take (i := 12) (v := va) rfl (by kernel_rfl) (by kernel_rfl) (by kernel_rfl) (fun _ _ _ h => h) (Or.inl ⟨by kernel_rfl, fun W _ => by kernel_rfl⟩) g1 ?_
      refine wpAnyH_take (i := 13) (v := .agg #[.int .u64 (y.uid : Nat), y.fv, .int .u64 (y.mod : Nat), .string y.hash, .int .u64 (y.size : Nat), .int .u64 (y.seq : Nat), .int .u64 (y.mostSeq : Nat), .int .u64 (y.mostUid : Nat), .string (S y.m)]) rfl (by kernel_rfl) (by kernel_rfl) (by kernel_rfl) (fun _ _ _ h => h) (Or.inl ⟨by kernel_rfl, fun W hh => by obtain ⟨m0, m1, m2, m3, m4, m5, m6, m7, m8⟩ := hh.x; go_simp⟩) g1 ?_
      refine wpAnyH_all (rs := [11]) (by kernel_rfl) (by simp) ?_
      refine AllReadyH.cons rfl (fun K hK => ?_) AllReadyH.nil
      go_simp
      with_reducible refine (HO.out _ g1).mono ?_
      rintro e u2 ⟨rfl, bb2⟩
      have g2 := g1.later bb2
      refine hK.out _ _ g2 (fun hx => ?_)
      clear hx hK K
      refine wpAnyH_all (rs := [14]) (by kernel_rfl) (by simp) ?_
      refine AllReadyH.cons rfl (fun K hK => ?_) AllReadyH.nil
      go_simp
      with_reducible refine (HA1.out _ g2).mono ?_
      rintro e u3 ⟨rfl, bb3⟩
      have g3 := g2.later bb3
      refine hK.out _ _ g3 (fun hx => ?_)
      clear hx hK K
      refine wpAnyH_take (i := 15) (v := .bool true) rfl (by kernel_rfl) (by kernel_rfl) (by kernel_rfl) (fun _ _ _ h => h) (Or.inl ⟨by kernel_rfl, fun W _ => by kernel_rfl⟩) g3 ?_
      refine wpAnyH_take (i := 16) (v := undef) rfl (by kernel_rfl) (by kernel_rfl) (by kernel_rfl) (fun _ _ _ h => h) (Or.inr ⟨by kernel_rfl, rfl⟩) g3 ?_
      refine wpAnyH_take (i := 17) (v := undef) rfl (by kernel_rfl) (by kernel_rfl) (by kernel_rfl) (fun _ _ _ h => h) (Or.inr ⟨by kernel_rfl, rfl⟩) g3 ?_
      refine wpAnyH_take (i := 18) (v := undef) rfl (by kernel_rfl) (by kernel_rfl) (by kernel_rfl) (fun _ _ _ h => h) (Or.inr ⟨by kernel_rfl, rfl⟩) g3 ?_
      refine wpAnyH_take (i := 19) (v := .bool true) rfl (by kernel_rfl) (by kernel_rfl) (by kernel_rfl) (fun _ _ _ h => h) (Or.inl ⟨by kernel_rfl, fun W _ => by kernel_rfl⟩) g3 ?_
      refine wpAnyH_take (i := 20) (v := .bool true) rfl (by kernel_rfl) (by kernel_rfl) (by kernel_rfl) (fun _ _ _ h => h) (Or.inl ⟨by kernel_rfl, fun W _ => by kernel_rfl⟩) g3 ?_
      refine wpAnyH_take (i := 21) (v := .bool true) rfl (by kernel_rfl) (by kernel_rfl) (by kernel_rfl) (fun _ _ _ h => h) (Or.inl ⟨by kernel_rfl, fun W _ => by kernel_rfl⟩) g3 ?_
      refine wpAnyH_take (i := 22) (v := .bool true) rfl (by kernel_rfl) (by kernel_rfl) (by kernel_rfl) (fun _ _ _ h => h) (Or.inl ⟨by kernel_rfl, fun W _ => by kernel_rfl⟩) g3 ?_
      refine wpAnyH_take (i := 23) (v := d2) rfl (by kernel_rfl) (by kernel_rfl) (by kernel_rfl) (fun _ _ _ h => h) (Or.inl ⟨by kernel_rfl, fun W _ => by kernel_rfl⟩) g3 ?_
      refine wpAnyH_take (i := 24) (v := .agg #[.int .u64 (y.uid : Nat), y.fv, .int .u64 (y.mod : Nat), .string y.hash, .int .u64 (y.size : Nat), .int .u64 (y.seq : Nat), .int .u64 (y.mostSeq : Nat), .int .u64 (y.mostUid : Nat), .string (S y.m)]) rfl (by kernel_rfl) (by kernel_rfl) (by kernel_rfl) (fun _ _ _ h => h) (Or.inl ⟨by kernel_rfl, fun W hh => by obtain ⟨m0, m1, m2, m3, m4, m5, m6, m7, m8⟩ := hh.x; go_simp⟩) g3 ?_
      refine wpAnyH_take (i := 26) (v := va) rfl (by kernel_rfl) (by kernel_rfl) (by kernel_rfl) (fun _ _ _ h => h) (Or.inl ⟨by kernel_rfl, fun W _ => by kernel_rfl⟩) g3 ?_
      refine wpAnyH_take (i := 27) (v := .agg #[.int .u64 (y.uid : Nat), y.fv, .int .u64 (y.mod : Nat), .string y.hash, .int .u64 (y.size : Nat), .int .u64 (y.seq : Nat), .int .u64 (y.mostSeq : Nat), .int .u64 (y.mostUid : Nat), .string (S y.m)]) rfl (by kernel_rfl) (by kernel_rfl) (by kernel_rfl) (fun _ _ _ h => h) (Or.inl ⟨by kernel_rfl, fun W hh => by obtain ⟨m0, m1, m2, m3, m4, m5, m6, m7, m8⟩ := hh.x; go_simp⟩) g3 ?_
      refine wpAnyH_all (rs := [25]) (by kernel_rfl) (by simp) ?_
      refine AllReadyH.cons rfl (fun K hK => ?_) AllReadyH.nil
      go_simp
      with_reducible refine (HD.out _ g3).mono ?_
      rintro e u4 ⟨rfl, bb4⟩
      have g4 := g3.later bb4
      refine hK.out _ _ g4 (fun hx => ?_)
      clear hx hK K
      refine wpAnyH_all (rs := [28]) (by kernel_rfl) (by simp) ?_
      refine AllReadyH.cons rfl (fun K hK => ?_) AllReadyH.nil
      go_simp
      with_reducible refine (HA1.out _ g4).mono ?_
      rintro e u5 ⟨rfl, bb5⟩
      have g5 := g4.later bb5
      refine hK.out _ _ g5 (fun hx => ?_)
      clear hx hK K
      refine wpAnyH_take (i := 29) (v := .bool true) rfl (by kernel_rfl) (by kernel_rfl) (by kernel_rfl) (fun _ _ _ h => h) (Or.inl ⟨by kernel_rfl, fun W _ => by kernel_rfl⟩) g5 ?_
      refine wpAnyH_take (i := 30) (v := vb) rfl (by kernel_rfl) (by kernel_rfl) (by kernel_rfl) (fun _ _ _ h => h) (Or.inl ⟨by kernel_rfl, fun W _ => by kernel_rfl⟩) g5 ?_
      refine wpAnyH_take (i := 31) (v := .agg #[.int .u64 (y.uid : Nat), y.fv, .int .u64 (y.mod : Nat), .string y.hash, .int .u64 (y.size : Nat), .int .u64 (y.seq : Nat), .int .u64 (y.mostSeq : Nat), .int .u64 (y.mostUid : Nat), .string (S y.m)]) rfl (by kernel_rfl) (by kernel_rfl) (by kernel_rfl) (fun _ _ _ h => h) (Or.inl ⟨by kernel_rfl, fun W hh => by obtain ⟨m0, m1, m2, m3, m4, m5, m6, m7, m8⟩ := hh.x; go_simp⟩) g5 ?_
      refine wpAnyH_all (rs := [32]) (by kernel_rfl) (by simp) ?_
      refine AllReadyH.cons rfl (fun K hK => ?_) AllReadyH.nil
      go_simp
      with_reducible refine (HB1.out _ g5).mono ?_
      rintro e u6 ⟨rfl, bb6⟩
      have g6 := g5.later bb6
      refine hK.out _ _ g6 (fun hx => ?_)
      clear hx hK K
      refine wpAnyH_take (i := 33) (v := .bool true) rfl (by kernel_rfl) (by kernel_rfl) (by kernel_rfl) (fun _ _ _ h => h) (Or.inl ⟨by kernel_rfl, fun W _ => by kernel_rfl⟩) g6 ?_
      refine wpAnyH_take (i := 34) (v := .bool true) rfl (by kernel_rfl) (by kernel_rfl) (by kernel_rfl) (fun _ _ _ h => h) (Or.inl ⟨by kernel_rfl, fun W _ => by kernel_rfl⟩) g6 ?_
      refine wpAnyH_take (i := 35) (v := .bool true) rfl (by kernel_rfl) (by kernel_rfl) (by kernel_rfl) (fun _ _ _ h => h) (Or.inl ⟨by kernel_rfl, fun W _ => by kernel_rfl⟩) g6 ?_
      refine wpAnyH_take (i := 36) (v := .bool true) rfl (by kernel_rfl) (by kernel_rfl) (by kernel_rfl) (fun _ _ _ h => h) (Or.inl ⟨by kernel_rfl, fun W _ => by kernel_rfl⟩) g6 ?_
      refine wpAnyH_take (i := 37) (v := r1) rfl (by kernel_rfl) (by kernel_rfl) (by kernel_rfl) (fun _ _ _ h => h) (Or.inl ⟨by kernel_rfl, fun W _ => by kernel_rfl⟩) g6 ?_
      refine wpAnyH_take (i := 38) (v := .agg #[.int .u64 (y.uid : Nat), y.fv, .int .u64 (y.mod : Nat), .string y.hash, .int .u64 (y.size : Nat), .int .u64 (y.seq : Nat), .int .u64 (y.mostSeq : Nat), .int .u64 (y.mostUid : Nat), .string (S y.m)]) rfl (by kernel_rfl) (by kernel_rfl) (by kernel_rfl) (fun _ _ _ h => h) (Or.inl ⟨by kernel_rfl, fun W hh => by obtain ⟨m0, m1, m2, m3, m4, m5, m6, m7, m8⟩ := hh.x; go_simp⟩) g6 ?_
      refine wpAnyH_take (i := 40) (v := s3) rfl (by kernel_rfl) (by kernel_rfl) (by kernel_rfl) (fun _ _ _ h => h) (Or.inl ⟨by kernel_rfl, fun W _ => by kernel_rfl⟩) g6 ?_
      refine wpAnyH_take (i := 41) (v := .agg #[.int .u64 (y.uid : Nat), y.fv, .int .u64 (y.mod : Nat), .string y.hash, .int .u64 (y.size : Nat), .int .u64 (y.seq : Nat), .int .u64 (y.mostSeq : Nat), .int .u64 (y.mostUid : Nat), .string (S y.m)]) rfl (by kernel_rfl) (by kernel_rfl) (by kernel_rfl) (fun _ _ _ h => h) (Or.inl ⟨by kernel_rfl, fun W hh => by obtain ⟨m0, m1, m2, m3, m4, m5, m6, m7, m8⟩ := hh.x; go_simp⟩) g6 ?_
      refine wpAnyH_all (rs := [39]) (by kernel_rfl) (by simp) ?_
      refine AllReadyH.cons rfl (fun K hK => ?_) AllReadyH.nil
      go_simp
      with_reducible refine (HR.out _ g6).mono ?_
      rintro e u7 ⟨rfl, bb7⟩
      have g7 := g6.later bb7
      refine hK.out _ _ g7 (fun hx => ?_)
      clear hx hK K
      refine wpAnyH_all (rs := [42]) (by kernel_rfl) (by simp) ?_
      refine AllReadyH.cons rfl (fun K hK => ?_) AllReadyH.nil
      go_simp
      with_reducible refine (HS.out _ g7).mono ?_
      rintro e u8 ⟨rfl, bb8⟩
      have g8 := g7.later bb8
      refine hK.out _ _ g8 (fun hx => ?_)
      clear hx hK K
      refine wpAnyH_take (i := 43) (v := .bool (q == q)) rfl (by kernel_rfl) (by kernel_rfl) (by kernel_rfl) (fun _ _ _ h => h) (Or.inl ⟨by kernel_rfl, fun W _ => by kernel_rfl⟩) g8 ?_
      refine wpAnyH_take (i := 44) (v := .bool (q == q)) rfl (by kernel_rfl) (by kernel_rfl) (by kernel_rfl) (fun _ _ _ h => h) (Or.inl ⟨by kernel_rfl, fun W _ => by kernel_rfl⟩) g8 ?_
      refine wpAnyH_take (i := 45) (v := .bool (q == q)) rfl (by kernel_rfl) (by kernel_rfl) (by kernel_rfl) (fun _ _ _ h => h) (Or.inl ⟨by kernel_rfl, fun W _ => by kernel_rfl⟩) g8 ?_
      refine wpAnyH_done (by kernel_rfl) ?_ _
      go_wp2_with fail
      go_ret
      exact ⟨by cases q <;> kernel_rfl, g8.bl⟩
    | false =>
      refine wp_region_held (S := fun W => Lo w W va vb n1 o2 d2 r1 s3 a b y M) (by kernel_rfl) ?_
      change wpAnyH _ _ _ _ _ _ _ _ (World.drew _)
      refine wpAnyH_take (i := 0) (v := n1) rfl (by kernel_rfl) (by kernel_rfl) (by kernel_rfl) (fun _ _ _ h => h) (Or.inl ⟨by kernel_rfl, fun W _ => by kernel_rfl⟩) h0 ?_
      refine wpAnyH_take (i := 1) (v := .agg #[.int .u64 (y.uid : Nat), y.fv, .int .u64 (y.mod : Nat), .string y.hash, .int .u64 (y.size : Nat), .int .u64 (y.seq : Nat), .int .u64 (y.mostSeq : Nat), .int .u64 (y.mostUid : Nat), .string (S y.m)]) rfl (by kernel_rfl) (by kernel_rfl) (by kernel_rfl) (fun _ _ _ h => h) (Or.inl ⟨by kernel_rfl, fun W hh => by obtain ⟨m0, m1, m2, m3, m4, m5, m6, m7, m8⟩ := hh.x; go_simp⟩) h0 ?_
      refine wpAnyH_take (i := 3) (v := va) rfl (by kernel_rfl) (by kernel_rfl) (by kernel_rfl) (fun _ _ _ h => h) (Or.inl ⟨by kernel_rfl, fun W _ => by kernel_rfl⟩) h0 ?_
      refine wpAnyH_take (i := 4) (v := .agg #[.int .u64 (y.uid : Nat), y.fv, .int .u64 (y.mod : Nat), .string y.hash, .int .u64 (y.size : Nat), .int .u64 (y.seq : Nat), .int .u64 (y.mostSeq : Nat), .int .u64 (y.mostUid : Nat), .string (S y.m)]) rfl (by kernel_rfl) (by kernel_rfl) (by kernel_rfl) (fun _ _ _ h => h) (Or.inl ⟨by kernel_rfl, fun W hh => by obtain ⟨m0, m1, m2, m3, m4, m5, m6, m7, m8⟩ := hh.x; go_simp⟩) h0 ?_
      refine wpAnyH_all (rs := [2]) (by kernel_rfl) (by simp) ?_
      refine AllReadyH.cons rfl (fun K hK => ?_) AllReadyH.nil
      go_simp
      with_reducible refine (HN.out _ h0).mono ?_
      rintro e u0 ⟨rfl, bb0⟩
      have g0 := h0.later bb0
      refine hK.out _ _ g0 (fun hx => ?_)
      clear hx hK K
      refine wpAnyH_all (rs := [5]) (by kernel_rfl) (by simp) ?_
      refine AllReadyH.cons rfl (fun K hK => ?_) AllReadyH.nil
      go_simp
      with_reducible refine (HA1.out _ g0).mono ?_
      rintro e u1 ⟨rfl, bb1⟩
      have g1 := g0.later bb1
      refine hK.out _ _ g1 (fun hx => ?_)
      clear hx hK K
      refine wpAnyH_take (i := 6) (v := .bool false) rfl (by kernel_rfl) (by kernel_rfl) (by kernel_rfl) (fun _ _ _ h => h) (Or.inl ⟨by kernel_rfl, fun W _ => by kernel_rfl⟩) g1 ?_
      refine wpAnyH_take (i := 7) (v := .bool true) rfl (by kernel_rfl) (by kernel_rfl) (by kernel_rfl) (fun _ _ _ h => h) (Or.inl ⟨by kernel_rfl, fun W _ => by kernel_rfl⟩) g1 ?_
      refine wpAnyH_take (i := 8) (v := .bool true) rfl (by kernel_rfl) (by kernel_rfl) (by kernel_rfl) (fun _ _ _ h => h) (Or.inl ⟨by kernel_rfl, fun W _ => by kernel_rfl⟩) g1 ?_
      refine wpAnyH_take (i := 9) (v := o2) rfl (by kernel_rfl) (by kernel_rfl) (by kernel_rfl) (fun _ _ _ h => h) (Or.inl ⟨by kernel_rfl, fun W _ => by kernel_rfl⟩) g1 ?_
      refine wpAnyH_take (i := 10) (v := .agg #[.int .u64 (y.uid : Nat), y.fv, .int .u64 (y.mod : Nat), .string y.hash, .int .u64 (y.size : Nat), .int .u64 (y.seq : Nat), .int .u64 (y.mostSeq : Nat), .int .u64 (y.mostUid : Nat), .string (S y.m)]) rfl (by kernel_rfl) (by kernel_rfl) (by kernel_rfl) (fun _ _ _ h => h) (Or.inl ⟨by kernel_rfl, fun W hh => by obtain ⟨m0, m1, m2, m3, m4, m5, m6, m7, m8⟩ := hh.x; go_simp⟩) g1 ?_
      refine wpAnyH_take (i := 12) (v := va) rfl (by kernel_rfl) (by kernel_rfl) (by kernel_rfl) (fun _ _ _ h => h) (Or.inl ⟨by kernel_rfl, fun W _ => by kernel_rfl⟩) g1 ?_
      refine wpAnyH_take (i := 13) (v := .agg #[.int .u64 (y.uid : Nat), y.fv, .int .u64 (y.mod : Nat), .string y.hash, .int .u64 (y.size : Nat), .int .u64 (y.seq : Nat), .int .u64 (y.mostSeq : Nat), .int .u64 (y.mostUid : Nat), .string (S y.m)]) rfl (by kernel_rfl) (by kernel_rfl) (by kernel_rfl) (fun _ _ _ h => h) (Or.inl ⟨by kernel_rfl, fun W hh => by obtain ⟨m0, m1, m2, m3, m4, m5, m6, m7, m8⟩ := hh.x; go_simp⟩) g1 ?_
      refine wpAnyH_all (rs := [11]) (by kernel_rfl) (by simp) ?_
      refine AllReadyH.cons rfl (fun K hK => ?_) AllReadyH.nil
      go_simp
      with_reducible refine (HO.out _ g1).mono ?_
      rintro e u2 ⟨rfl, bb2⟩
      have g2 := g1.later bb2
      refine hK.out _ _ g2 (fun hx => ?_)
      clear hx hK K
      refine wpAnyH_all (rs := [14]) (by kernel_rfl) (by simp) ?_
      refine AllReadyH.cons rfl (fun K hK => ?_) AllReadyH.nil
      go_simp
      with_reducible refine (HA1.out _ g2).mono ?_
      rintro e u3 ⟨rfl, bb3⟩
      have g3 := g2.later bb3
      refine hK.out _ _ g3 (fun hx => ?_)
      clear hx hK K
      refine wpAnyH_take (i := 15) (v := .bool true) rfl (by kernel_rfl) (by kernel_rfl) (by kernel_rfl) (fun _ _ _ h => h) (Or.inl ⟨by kernel_rfl, fun W _ => by kernel_rfl⟩) g3 ?_
      refine wpAnyH_take (i := 16) (v := undef) rfl (by kernel_rfl) (by kernel_rfl) (by kernel_rfl) (fun _ _ _ h => h) (Or.inr ⟨by kernel_rfl, rfl⟩) g3 ?_
      refine wpAnyH_take (i := 17) (v := undef) rfl (by kernel_rfl) (by kernel_rfl) (by kernel_rfl) (fun _ _ _ h => h) (Or.inr ⟨by kernel_rfl, rfl⟩) g3 ?_
      refine wpAnyH_take (i := 18) (v := undef) rfl (by kernel_rfl) (by kernel_rfl) (by kernel_rfl) (fun _ _ _ h => h) (Or.inr ⟨by kernel_rfl, rfl⟩) g3 ?_
      refine wpAnyH_take (i := 19) (v := .bool true) rfl (by kernel_rfl) (by kernel_rfl) (by kernel_rfl) (fun _ _ _ h => h) (Or.inl ⟨by kernel_rfl, fun W _ => by kernel_rfl⟩) g3 ?_
      refine wpAnyH_take (i := 20) (v := .bool true) rfl (by kernel_rfl) (by kernel_rfl) (by kernel_rfl) (fun _ _ _ h => h) (Or.inl ⟨by kernel_rfl, fun W _ => by kernel_rfl⟩) g3 ?_
      refine wpAnyH_take (i := 21) (v := .bool true) rfl (by kernel_rfl) (by kernel_rfl) (by kernel_rfl) (fun _ _ _ h => h) (Or.inl ⟨by kernel_rfl, fun W _ => by kernel_rfl⟩) g3 ?_
      refine wpAnyH_take (i := 22) (v := .bool true) rfl (by kernel_rfl) (by kernel_rfl) (by kernel_rfl) (fun _ _ _ h => h) (Or.inl ⟨by kernel_rfl, fun W _ => by kernel_rfl⟩) g3 ?_
      refine wpAnyH_take (i := 23) (v := d2) rfl (by kernel_rfl) (by kernel_rfl) (by kernel_rfl) (fun _ _ _ h => h) (Or.inl ⟨by kernel_rfl, fun W _ => by kernel_rfl⟩) g3 ?_
      refine wpAnyH_take (i := 24) (v := .agg #[.int .u64 (y.uid : Nat), y.fv, .int .u64 (y.mod : Nat), .string y.hash, .int .u64 (y.size : Nat), .int .u64 (y.seq : Nat), .int .u64 (y.mostSeq : Nat), .int .u64 (y.mostUid : Nat), .string (S y.m)]) rfl (by kernel_rfl) (by kernel_rfl) (by kernel_rfl) (fun _ _ _ h => h) (Or.inl ⟨by kernel_rfl, fun W hh => by obtain ⟨m0, m1, m2, m3, m4, m5, m6, m7, m8⟩ := hh.x; go_simp⟩) g3 ?_
      refine wpAnyH_take (i := 26) (v := va) rfl (by kernel_rfl) (by kernel_rfl) (by kernel_rfl) (fun _ _ _ h => h) (Or.inl ⟨by kernel_rfl, fun W _ => by kernel_rfl⟩) g3 ?_
      refine wpAnyH_take (i := 27) (v := .agg #[.int .u64 (y.uid : Nat), y.fv, .int .u64 (y.mod : Nat), .string y.hash, .int .u64 (y.size : Nat), .int .u64 (y.seq : Nat), .int .u64 (y.mostSeq : Nat), .int .u64 (y.mostUid : Nat), .string (S y.m)]) rfl (by kernel_rfl) (by kernel_rfl) (by kernel_rfl) (fun _ _ _ h => h) (Or.inl ⟨by kernel_rfl, fun W hh => by obtain ⟨m0, m1, m2, m3, m4, m5, m6, m7, m8⟩ := hh.x; go_simp⟩) g3 ?_
      refine wpAnyH_all (rs := [25]) (by kernel_rfl) (by simp) ?_
      refine AllReadyH.cons rfl (fun K hK => ?_) AllReadyH.nil
      go_simp
      with_reducible refine (HD.out _ g3).mono ?_
      rintro e u4 ⟨rfl, bb4⟩
      have g4 := g3.later bb4
      refine hK.out _ _ g4 (fun hx => ?_)
      clear hx hK K
      refine wpAnyH_all (rs := [28]) (by kernel_rfl) (by simp) ?_
      refine AllReadyH.cons rfl (fun K hK => ?_) AllReadyH.nil
      go_simp
      with_reducible refine (HA1.out _ g4).mono ?_
      rintro e u5 ⟨rfl, bb5⟩
      have g5 := g4.later bb5
      refine hK.out _ _ g5 (fun hx => ?_)
      clear hx hK K
      refine wpAnyH_take (i := 29) (v := .bool true) rfl (by kernel_rfl) (by kernel_rfl) (by kernel_rfl) (fun _ _ _ h => h) (Or.inl ⟨by kernel_rfl, fun W _ => by kernel_rfl⟩) g5 ?_
      refine wpAnyH_take (i := 30) (v := vb) rfl (by kernel_rfl) (by kernel_rfl) (by kernel_rfl) (fun _ _ _ h => h) (Or.inl ⟨by kernel_rfl, fun W _ => by kernel_rfl⟩) g5 ?_
      refine wpAnyH_take (i := 31) (v := .agg #[.int .u64 (y.uid : Nat), y.fv, .int .u64 (y.mod : Nat), .string y.hash, .int .u64 (y.size : Nat), .int .u64 (y.seq : Nat), .int .u64 (y.mostSeq : Nat), .int .u64 (y.mostUid : Nat), .string (S y.m)]) rfl (by kernel_rfl) (by kernel_rfl) (by kernel_rfl) (fun _ _ _ h => h) (Or.inl ⟨by kernel_rfl, fun W hh => by obtain ⟨m0, m1, m2, m3, m4, m5, m6, m7, m8⟩ := hh.x; go_simp⟩) g5 ?_
      refine wpAnyH_all (rs := [32]) (by kernel_rfl) (by simp) ?_
      refine AllReadyH.cons rfl (fun K hK => ?_) AllReadyH.nil
      go_simp
      with_reducible refine (HB1.out _ g5).mono ?_
      rintro e u6 ⟨rfl, bb6⟩
      have g6 := g5.later bb6
      refine hK.out _ _ g6 (fun hx => ?_)
      clear hx hK K
      refine wpAnyH_take (i := 33) (v := .bool false) rfl (by kernel_rfl) (by kernel_rfl) (by kernel_rfl) (fun _ _ _ h => h) (Or.inl ⟨by kernel_rfl, fun W _ => by kernel_rfl⟩) g6 ?_
      refine wpAnyH_take (i := 34) (v := .bool true) rfl (by kernel_rfl) (by kernel_rfl) (by kernel_rfl) (fun _ _ _ h => h) (Or.inl ⟨by kernel_rfl, fun W _ => by kernel_rfl⟩) g6 ?_
      refine wpAnyH_take (i := 35) (v := .bool true) rfl (by kernel_rfl) (by kernel_rfl) (by kernel_rfl) (fun _ _ _ h => h) (Or.inl ⟨by kernel_rfl, fun W _ => by kernel_rfl⟩) g6 ?_
      refine wpAnyH_take (i := 36) (v := .bool true) rfl (by kernel_rfl) (by kernel_rfl) (by kernel_rfl) (fun _ _ _ h => h) (Or.inl ⟨by kernel_rfl, fun W _ => by kernel_rfl⟩) g6 ?_
      refine wpAnyH_take (i := 37) (v := r1) rfl (by kernel_rfl) (by kernel_rfl) (by kernel_rfl) (fun _ _ _ h => h) (Or.inl ⟨by kernel_rfl, fun W _ => by kernel_rfl⟩) g6 ?_
      refine wpAnyH_take (i := 38) (v := .agg #[.int .u64 (y.uid : Nat), y.fv, .int .u64 (y.mod : Nat), .string y.hash, .int .u64 (y.size : Nat), .int .u64 (y.seq : Nat), .int .u64 (y.mostSeq : Nat), .int .u64 (y.mostUid : Nat), .string (S y.m)]) rfl (by kernel_rfl) (by kernel_rfl) (by kernel_rfl) (fun _ _ _ h => h) (Or.inl ⟨by kernel_rfl, fun W hh => by obtain ⟨m0, m1, m2, m3, m4, m5, m6, m7, m8⟩ := hh.x; go_simp⟩) g6 ?_
      refine wpAnyH_take (i := 40) (v := s3) rfl (by kernel_rfl) (by kernel_rfl) (by kernel_rfl) (fun _ _ _ h => h) (Or.inl ⟨by kernel_rfl, fun W _ => by kernel_rfl⟩) g6 ?_
      refine wpAnyH_take (i := 41) (v := .agg #[.int .u64 (y.uid : Nat), y.fv, .int .u64 (y.mod : Nat), .string y.hash, .int .u64 (y.size : Nat), .int .u64 (y.seq : Nat), .int .u64 (y.mostSeq : Nat), .int .u64 (y.mostUid : Nat), .string (S y.m)]) rfl (by kernel_rfl) (by kernel_rfl) (by kernel_rfl) (fun _ _ _ h => h) (Or.inl ⟨by kernel_rfl, fun W hh => by obtain ⟨m0, m1, m2, m3, m4, m5, m6, m7, m8⟩ := hh.x; go_simp⟩) g6 ?_
      refine wpAnyH_all (rs := [39]) (by kernel_rfl) (by simp) ?_
      refine AllReadyH.cons rfl (fun K hK => ?_) AllReadyH.nil
      go_simp
      with_reducible refine (HR.out _ g6).mono ?_
      rintro e u7 ⟨rfl, bb7⟩
      have g7 := g6.later bb7
      refine hK.out _ _ g7 (fun hx => ?_)
      clear hx hK K
      refine wpAnyH_all (rs := [42]) (by kernel_rfl) (by simp) ?_
      refine AllReadyH.cons rfl (fun K hK => ?_) AllReadyH.nil
      go_simp
      with_reducible refine (HS.out _ g7).mono ?_
      rintro e u8 ⟨rfl, bb8⟩
      have g8 := g7.later bb8
      refine hK.out _ _ g8 (fun hx => ?_)
      clear hx hK K
      refine wpAnyH_take (i := 43) (v := .bool (q == q)) rfl (by kernel_rfl) (by kernel_rfl) (by kernel_rfl) (fun _ _ _ h => h) (Or.inl ⟨by kernel_rfl, fun W _ => by kernel_rfl⟩) g8 ?_
      refine wpAnyH_take (i := 44) (v := .bool (q == q)) rfl (by kernel_rfl) (by kernel_rfl) (by kernel_rfl) (fun _ _ _ h => h) (Or.inl ⟨by kernel_rfl, fun W _ => by kernel_rfl⟩) g8 ?_
      refine wpAnyH_take (i := 45) (v := .bool (q == q)) rfl (by kernel_rfl) (by kernel_rfl) (by kernel_rfl) (fun _ _ _ h => h) (Or.inl ⟨by kernel_rfl, fun W _ => by kernel_rfl⟩) g8 ?_
      refine wpAnyH_done (by kernel_rfl) ?_ _
      go_wp2_with fail
      go_ret
      exact ⟨by cases q <;> kernel_rfl, g8.bl⟩
  | false =>
    cases qb with
    | true =>
      refine wp_region_held (S := fun W => Lo w W va vb n1 o2 d2 r1 s3 a b y M) (by kernel_rfl) ?_
      change wpAnyH _ _ _ _ _ _ _ _ (World.drew _)
      refine wpAnyH_take (i := 0) (v := n1) rfl (by kernel_rfl) (by kernel_rfl) (by kernel_rfl) (fun _ _ _ h => h) (Or.inl ⟨by kernel_rfl, fun W _ => by kernel_rfl⟩) h0 ?_
      refine wpAnyH_take (i := 1) (v := .agg #[.int .u64 (y.uid : Nat), y.fv, .int .u64 (y.mod : Nat), .string y.hash, .int .u64 (y.size : Nat), .int .u64 (y.seq : Nat), .int .u64 (y.mostSeq : Nat), .int .u64 (y.mostUid : Nat), .string (S y.m)]) rfl (by kernel_rfl) (by kernel_rfl) (by kernel_rfl) (fun _ _ _ h => h) (Or.inl ⟨by kernel_rfl, fun W hh => by obtain ⟨m0, m1, m2, m3, m4, m5, m6, m7, m8⟩ := hh.x; go_simp⟩) h0 ?_
      refine wpAnyH_take (i := 3) (v := va) rfl (by kernel_rfl) (by kernel_rfl) (by kernel_rfl) (fun _ _ _ h => h) (Or.inl ⟨by kernel_rfl, fun W _ => by kernel_rfl⟩) h0 ?_
      refine wpAnyH_take (i := 4) (v := .agg #[.int .u64 (y.uid : Nat), y.fv, .int .u64 (y.mod : Nat), .string y.hash, .int .u64 (y.size : Nat), .int .u64 (y.seq : Nat), .int .u64 (y.mostSeq : Nat), .int .u64 (y.mostUid : Nat), .string (S y.m)]) rfl (by kernel_rfl) (by kernel_rfl) (by kernel_rfl) (fun _ _ _ h => h) (Or.inl ⟨by kernel_rfl, fun W hh => by obtain ⟨m0, m1, m2, m3, m4, m5, m6, m7, m8⟩ := hh.x; go_simp⟩) h0 ?_
      refine wpAnyH_all (rs := [2]) (by kernel_rfl) (by simp) ?_
      refine AllReadyH.cons rfl (fun K hK => ?_) AllReadyH.nil
      go_simp
      with_reducible refine (HN.out _ h0).mono ?_
      rintro e u0 ⟨rfl, bb0⟩
      have g0 := h0.later bb0
      refine hK.out _ _ g0 (fun hx => ?_)
      clear hx hK K
      refine wpAnyH_all (rs := [5]) (by kernel_rfl) (by simp) ?_
      refine AllReadyH.cons rfl (fun K hK => ?_) AllReadyH.nil
      go_simp
      with_reducible refine (HA1.out _ g0).mono ?_
      rintro e u1 ⟨rfl, bb1⟩
      have g1 := g0.later bb1
      refine hK.out _ _ g1 (fun hx => ?_)
      clear hx hK K
      refine wpAnyH_take (i := 6) (v := .bool true) rfl (by kernel_rfl) (by kernel_rfl) (by kernel_rfl) (fun _ _ _ h => h) (Or.inl ⟨by kernel_rfl, fun W _ => by kernel_rfl⟩) g1 ?_
      refine wpAnyH_take (i := 7) (v := .bool true) rfl (by kernel_rfl) (by kernel_rfl) (by kernel_rfl) (fun _ _ _ h => h) (Or.inl ⟨by kernel_rfl, fun W _ => by kernel_rfl⟩) g1 ?_
      refine wpAnyH_take (i := 8) (v := .bool true) rfl (by kernel_rfl) (by kernel_rfl) (by kernel_rfl) (fun _ _ _ h => h) (Or.inl ⟨by kernel_rfl, fun W _ => by kernel_rfl⟩) g1 ?_
      refine wpAnyH_take (i := 9) (v := o2) rfl (by kernel_rfl) (by kernel_rfl) (by kernel_rfl) (fun _ _ _ h => h) (Or.inl ⟨by kernel_rfl, fun W _ => by kernel_rfl⟩) g1 ?_
      refine wpAnyH_take (i := 10) (v := .agg #[.int .u64 (y.uid : Nat), y.fv, .int .u64 (y.mod : Nat), .string y.hash, .int .u64 (y.size : Nat), .int .u64 (y.seq : Nat), .int .u64 (y.mostSeq : Nat), .int .u64 (y.mostUid : Nat), .string (S y.m)]) rfl (by kernel_rfl) (by kernel_rfl) (by kernel_rfl) (fun _ _ _ h => h) (Or.inl ⟨by kernel_rfl, fun W hh => by obtain ⟨m0, m1, m2, m3, m4, m5, m6, m7, m8⟩ := hh.x; go_simp⟩) g1 ?_
      refine wpAnyH_take (i := 12) (v := va) rfl (by kernel_rfl) (by kernel_rfl) (by kernel_rfl) (fun _ _ _ h => h) (Or.inl ⟨by kernel_rfl, fun W _ => by kernel_rfl⟩) g1 ?_
      refine wpAnyH_take (i := 13) (v := .agg #[.int .u64 (y.uid : Nat), y.fv, .int .u64 (y.mod : Nat), .string y.hash, .int .u64 (y.size : Nat), .int .u64 (y.seq : Nat), .int .u64 (y.mostSeq : Nat), .int .u64 (y.mostUid : Nat), .string (S y.m)]) rfl (by kernel_rfl) (by kernel_rfl) (by kernel_rfl) (fun _ _ _ h => h) (Or.inl ⟨by kernel_rfl, fun W hh => by obtain ⟨m0, m1, m2, m3, m4, m5, m6, m7, m8⟩ := hh.x; go_simp⟩) g1 ?_
      refine wpAnyH_all (rs := [11]) (by kernel_rfl) (by simp) ?_
      refine AllReadyH.cons rfl (fun K hK => ?_) AllReadyH.nil
      go_simp
      with_reducible refine (HO.out _ g1).mono ?_
      rintro e u2 ⟨rfl, bb2⟩
      have g2 := g1.later bb2
      refine hK.out _ _ g2 (fun hx => ?_)
      clear hx hK K
      refine wpAnyH_all (rs := [14]) (by kernel_rfl) (by simp) ?_
      refine AllReadyH.cons rfl (fun K hK => ?_) AllReadyH.nil
      go_simp
      with_reducible refine (HA1.out _ g2).mono ?_
      rintro e u3 ⟨rfl, bb3⟩
      have g3 := g2.later bb3
      refine hK.out _ _ g3 (fun hx => ?_)
      clear hx hK K
      refine wpAnyH_take (i := 15) (v := .bool false) rfl (by kernel_rfl) (by kernel_rfl) (by kernel_rfl) (fun _ _ _ h => h) (Or.inl ⟨by kernel_rfl, fun W _ => by kernel_rfl⟩) g3 ?_
      refine wpAnyH_take (i := 16) (v := vb) rfl (by kernel_rfl) (by kernel_rfl) (by kernel_rfl) (fun _ _ _ h => h) (Or.inl ⟨by kernel_rfl, fun W _ => by kernel_rfl⟩) g3 ?_
      refine wpAnyH_take (i := 17) (v := .agg #[.int .u64 (y.uid : Nat), y.fv, .int .u64 (y.mod : Nat), .string y.hash, .int .u64 (y.size : Nat), .int .u64 (y.seq : Nat), .int .u64 (y.mostSeq : Nat), .int .u64 (y.mostUid : Nat), .string (S y.m)]) rfl (by kernel_rfl) (by kernel_rfl) (by kernel_rfl) (fun _ _ _ h => h) (Or.inl ⟨by kernel_rfl, fun W hh => by obtain ⟨m0, m1, m2, m3, m4, m5, m6, m7, m8⟩ := hh.x; go_simp⟩) g3 ?_
      refine wpAnyH_all (rs := [18]) (by kernel_rfl) (by simp) ?_
      refine AllReadyH.cons rfl (fun K hK => ?_) AllReadyH.nil
      go_simp
      with_reducible refine (HB1.out _ g3).mono ?_
      rintro e u4 ⟨rfl, bb4⟩
      have g4 := g3.later bb4
      refine hK.out _ _ g4 (fun hx => ?_)
      clear hx hK K
      refine wpAnyH_take (i := 19) (v := .bool true) rfl (by kernel_rfl) (by kernel_rfl) (by kernel_rfl) (fun _ _ _ h => h) (Or.inl ⟨by kernel_rfl, fun W _ => by kernel_rfl⟩) g4 ?_
      refine wpAnyH_take (i := 20) (v := .bool true) rfl (by kernel_rfl) (by kernel_rfl) (by kernel_rfl) (fun _ _ _ h => h) (Or.inl ⟨by kernel_rfl, fun W _ => by kernel_rfl⟩) g4 ?_
      refine wpAnyH_take (i := 21) (v := .bool true) rfl (by kernel_rfl) (by kernel_rfl) (by kernel_rfl) (fun _ _ _ h => h) (Or.inl ⟨by kernel_rfl, fun W _ => by kernel_rfl⟩) g4 ?_
      refine wpAnyH_take (i := 22) (v := .bool true) rfl (by kernel_rfl) (by kernel_rfl) (by kernel_rfl) (fun _ _ _ h => h) (Or.inl ⟨by kernel_rfl, fun W _ => by kernel_rfl⟩) g4 ?_
      refine wpAnyH_take (i := 23) (v := d2) rfl (by kernel_rfl) (by kernel_rfl) (by kernel_rfl) (fun _ _ _ h => h) (Or.inl ⟨by kernel_rfl, fun W _ => by kernel_rfl⟩) g4 ?_
      refine wpAnyH_take (i := 24) (v := .agg #[.int .u64 (y.uid : Nat), y.fv, .int .u64 (y.mod : Nat), .string y.hash, .int .u64 (y.size : Nat), .int .u64 (y.seq : Nat), .int .u64 (y.mostSeq : Nat), .int .u64 (y.mostUid : Nat), .string (S y.m)]) rfl (by kernel_rfl) (by kernel_rfl) (by kernel_rfl) (fun _ _ _ h => h) (Or.inl ⟨by kernel_rfl, fun W hh => by obtain ⟨m0, m1, m2, m3, m4, m5, m6, m7, m8⟩ := hh.x; go_simp⟩) g4 ?_
      refine wpAnyH_take (i := 26) (v := va) rfl (by kernel_rfl) (by kernel_rfl) (by kernel_rfl) (fun _ _ _ h => h) (Or.inl ⟨by kernel_rfl, fun W _ => by kernel_rfl⟩) g4 ?_
      refine wpAnyH_take (i := 27) (v := .agg #[.int .u64 (y.uid : Nat), y.fv, .int .u64 (y.mod : Nat), .string y.hash, .int .u64 (y.size : Nat), .int .u64 (y.seq : Nat), .int .u64 (y.mostSeq : Nat), .int .u64 (y.mostUid : Nat), .string (S y.m)]) rfl (by kernel_rfl) (by kernel_rfl) (by kernel_rfl) (fun _ _ _ h => h) (Or.inl ⟨by kernel_rfl, fun W hh => by obtain ⟨m0, m1, m2, m3, m4, m5, m6, m7, m8⟩ := hh.x; go_simp⟩) g4 ?_
      refine wpAnyH_all (rs := [25]) (by kernel_rfl) (by simp) ?_
      refine AllReadyH.cons rfl (fun K hK => ?_) AllReadyH.nil
      go_simp
      with_reducible refine (HD.out _ g4).mono ?_
      rintro e u5 ⟨rfl, bb5⟩
      have g5 := g4.later bb5
      refine hK.out _ _ g5 (fun hx => ?_)
      clear hx hK K
      refine wpAnyH_all (rs := [28]) (by kernel_rfl) (by simp) ?_
      refine AllReadyH.cons rfl (fun K hK => ?_) AllReadyH.nil
      go_simp
      with_reducible refine (HA1.out _ g5).mono ?_
      rintro e u6 ⟨rfl, bb6⟩
      have g6 := g5.later bb6
      refine hK.out _ _ g6 (fun hx => ?_)
      clear hx hK K
      refine wpAnyH_take (i := 29) (v := .bool false) rfl (by kernel_rfl) (by kernel_rfl) (by kernel_rfl) (fun _ _ _ h => h) (Or.inl ⟨by kernel_rfl, fun W _ => by kernel_rfl⟩) g6 ?_
      refine wpAnyH_take (i := 30) (v := undef) rfl (by kernel_rfl) (by kernel_rfl) (by kernel_rfl) (fun _ _ _ h => h) (Or.inr ⟨by kernel_rfl, rfl⟩) g6 ?_
      refine wpAnyH_take (i := 31) (v := undef) rfl (by kernel_rfl) (by kernel_rfl) (by kernel_rfl) (fun _ _ _ h => h) (Or.inr ⟨by kernel_rfl, rfl⟩) g6 ?_
      refine wpAnyH_take (i := 32) (v := undef) rfl (by kernel_rfl) (by kernel_rfl) (by kernel_rfl) (fun _ _ _ h => h) (Or.inr ⟨by kernel_rfl, rfl⟩) g6 ?_
      refine wpAnyH_take (i := 33) (v := .bool false) rfl (by kernel_rfl) (by kernel_rfl) (by kernel_rfl) (fun _ _ _ h => h) (Or.inl ⟨by kernel_rfl, fun W _ => by kernel_rfl⟩) g6 ?_
      refine wpAnyH_take (i := 34) (v := .bool true) rfl (by kernel_rfl) (by kernel_rfl) (by kernel_rfl) (fun _ _ _ h => h) (Or.inl ⟨by kernel_rfl, fun W _ => by kernel_rfl⟩) g6 ?_
      refine wpAnyH_take (i := 35) (v := .bool true) rfl (by kernel_rfl) (by kernel_rfl) (by kernel_rfl) (fun _ _ _ h => h) (Or.inl ⟨by kernel_rfl, fun W _ => by kernel_rfl⟩) g6 ?_
      refine wpAnyH_take (i := 36) (v := .bool true) rfl (by kernel_rfl) (by kernel_rfl) (by kernel_rfl) (fun _ _ _ h => h) (Or.inl ⟨by kernel_rfl, fun W _ => by kernel_rfl⟩) g6 ?_
      refine wpAnyH_take (i := 37) (v := r1) rfl (by kernel_rfl) (by kernel_rfl) (by kernel_rfl) (fun _ _ _ h => h) (Or.inl ⟨by kernel_rfl, fun W _ => by kernel_rfl⟩) g6 ?_
      refine wpAnyH_take (i := 38) (v := .agg #[.int .u64 (y.uid : Nat), y.fv, .int .u64 (y.mod : Nat), .string y.hash, .int .u64 (y.size : Nat), .int .u64 (y.seq : Nat), .int .u64 (y.mostSeq : Nat), .int .u64 (y.mostUid : Nat), .string (S y.m)]) rfl (by kernel_rfl) (by kernel_rfl) (by kernel_rfl) (fun _ _ _ h => h) (Or.inl ⟨by kernel_rfl, fun W hh => by obtain ⟨m0, m1, m2, m3, m4, m5, m6, m7, m8⟩ := hh.x; go_simp⟩) g6 ?_
      refine wpAnyH_take (i := 40) (v := s3) rfl (by kernel_rfl) (by kernel_rfl) (by kernel_rfl) (fun _ _ _ h => h) (Or.inl ⟨by kernel_rfl, fun W _ => by kernel_rfl⟩) g6 ?_
      refine wpAnyH_take (i := 41) (v := .agg #[.int .u64 (y.uid : Nat), y.fv, .int .u64 (y.mod : Nat), .string y.hash, .int .u64 (y.size : Nat), .int .u64 (y.seq : Nat), .int .u64 (y.mostSeq : Nat), .int .u64 (y.mostUid : Nat), .string (S y.m)]) rfl (by kernel_rfl) (by kernel_rfl) (by kernel_rfl) (fun _ _ _ h => h) (Or.inl ⟨by kernel_rfl, fun W hh => by obtain ⟨m0, m1, m2, m3, m4, m5, m6, m7, m8⟩ := hh.x; go_simp⟩) g6 ?_
      refine wpAnyH_all (rs := [39]) (by kernel_rfl) (by simp) ?_
      refine AllReadyH.cons rfl (fun K hK => ?_) AllReadyH.nil
      go_simp
      with_reducible refine (HR.out _ g6).mono ?_
      rintro e u7 ⟨rfl, bb7⟩
      have g7 := g6.later bb7
      refine hK.out _ _ g7 (fun hx => ?_)
      clear hx hK K
      refine wpAnyH_all (rs := [42]) (by kernel_rfl) (by simp) ?_
      refine AllReadyH.cons rfl (fun K hK => ?_) AllReadyH.nil
      go_simp
      with_reducible refine (HS.out _ g7).mono ?_
      rintro e u8 ⟨rfl, bb8⟩
      have g8 := g7.later bb8
      refine hK.out _ _ g8 (fun hx => ?_)
      clear hx hK K
      refine wpAnyH_take (i := 43) (v := .bool (q == q)) rfl (by kernel_rfl) (by kernel_rfl) (by kernel_rfl) (fun _ _ _ h => h) (Or.inl ⟨by kernel_rfl, fun W _ => by kernel_rfl⟩) g8 ?_
      refine wpAnyH_take (i := 44) (v := .bool (q == q)) rfl (by kernel_rfl) (by kernel_rfl) (by kernel_rfl) (fun _ _ _ h => h) (Or.inl ⟨by kernel_rfl, fun W _ => by kernel_rfl⟩) g8 ?_
      refine wpAnyH_take (i := 45) (v := .bool (q == q)) rfl (by kernel_rfl) (by kernel_rfl) (by kernel_rfl) (fun _ _ _ h => h) (Or.inl ⟨by kernel_rfl, fun W _ => by kernel_rfl⟩) g8 ?_
      refine wpAnyH_done (by kernel_rfl) ?_ _
      go_wp2_with fail
      go_ret
      exact ⟨by cases q <;> kernel_rfl, g8.bl⟩
    | false =>
      refine wp_region_held (S := fun W => Lo w W va vb n1 o2 d2 r1 s3 a b y M) (by kernel_rfl) ?_
      change wpAnyH _ _ _ _ _ _ _ _ (World.drew _)
      refine wpAnyH_take (i := 0) (v := n1) rfl (by kernel_rfl) (by kernel_rfl) (by kernel_rfl) (fun _ _ _ h => h) (Or.inl ⟨by kernel_rfl, fun W _ => by kernel_rfl⟩) h0 ?_
      refine wpAnyH_take (i := 1) (v := .agg #[.int .u64 (y.uid : Nat), y.fv, .int .u64 (y.mod : Nat), .string y.hash, .int .u64 (y.size : Nat), .int .u64 (y.seq : Nat), .int .u64 (y.mostSeq : Nat), .int .u64 (y.mostUid : Nat), .string (S y.m)]) rfl (by kernel_rfl) (by kernel_rfl) (by kernel_rfl) (fun _ _ _ h => h) (Or.inl ⟨by kernel_rfl, fun W hh => by obtain ⟨m0, m1, m2, m3, m4, m5, m6, m7, m8⟩ := hh.x; go_simp⟩) h0 ?_
      refine wpAnyH_take (i := 3) (v := va) rfl (by kernel_rfl) (by kernel_rfl) (by kernel_rfl) (fun _ _ _ h => h) (Or.inl ⟨by kernel_rfl, fun W _ => by kernel_rfl⟩) h0 ?_
      refine wpAnyH_take (i := 4) (v := .agg #[.int .u64 (y.uid : Nat), y.fv, .int .u64 (y.mod : Nat), .string y.hash, .int .u64 (y.size : Nat), .int .u64 (y.seq : Nat), .int .u64 (y.mostSeq : Nat), .int .u64 (y.mostUid : Nat), .string (S y.m)]) rfl (by kernel_rfl) (by kernel_rfl) (by kernel_rfl) (fun _ _ _ h => h) (Or.inl ⟨by kernel_rfl, fun W hh => by obtain ⟨m0, m1, m2, m3, m4, m5, m6, m7, m8⟩ := hh.x; go_simp⟩) h0 ?_
      refine wpAnyH_all (rs := [2]) (by kernel_rfl) (by simp) ?_
      refine AllReadyH.cons rfl (fun K hK => ?_) AllReadyH.nil
      go_simp
      with_reducible refine (HN.out _ h0).mono ?_
      rintro e u0 ⟨rfl, bb0⟩
      have g0 := h0.later bb0
      refine hK.out _ _ g0 (fun hx => ?_)
      clear hx hK K
      refine wpAnyH_all (rs := [5]) (by kernel_rfl) (by simp) ?_
      refine AllReadyH.cons rfl (fun K hK => ?_) AllReadyH.nil
      go_simp
      with_reducible refine (HA1.out _ g0).mono ?_
      rintro e u1 ⟨rfl, bb1⟩
      have g1 := g0.later bb1
      refine hK.out _ _ g1 (fun hx => ?_)
      clear hx hK K
      refine wpAnyH_take (i := 6) (v := .bool true) rfl (by kernel_rfl) (by kernel_rfl) (by kernel_rfl) (fun _ _ _ h => h) (Or.inl ⟨by kernel_rfl, fun W _ => by kernel_rfl⟩) g1 ?_
      refine wpAnyH_take (i := 7) (v := .bool true) rfl (by kernel_rfl) (by kernel_rfl) (by kernel_rfl) (fun _ _ _ h => h) (Or.inl ⟨by kernel_rfl, fun W _ => by kernel_rfl⟩) g1 ?_
      refine wpAnyH_take (i := 8) (v := .bool true) rfl (by kernel_rfl) (by kernel_rfl) (by kernel_rfl) (fun _ _ _ h => h) (Or.inl ⟨by kernel_rfl, fun W _ => by kernel_rfl⟩) g1 ?_
      refine wpAnyH_take (i := 9) (v := o2) rfl (by kernel_rfl) (by kernel_rfl) (by kernel_rfl) (fun _ _ _ h => h) (Or.inl ⟨by kernel_rfl, fun W _ => by kernel_rfl⟩) g1 ?_
      refine wpAnyH_take (i := 10) (v := .agg #[.int .u64 (y.uid : Nat), y.fv, .int .u64 (y.mod : Nat), .string y.hash, .int .u64 (y.size : Nat), .int .u64 (y.seq : Nat), .int .u64 (y.mostSeq : Nat), .int .u64 (y.mostUid : Nat), .string (S y.m)]) rfl (by kernel_rfl) (by kernel_rfl) (by kernel_rfl) (fun _ _ _ h => h) (Or.inl ⟨by kernel_rfl, fun W hh => by obtain ⟨m0, m1, m2, m3, m4, m5, m6, m7, m8⟩ := hh.x; go_simp⟩) g1 ?_
      refine wpAnyH_take (i := 12) (v := va) rfl (by kernel_rfl) (by kernel_rfl) (by kernel_rfl) (fun _ _ _ h => h) (Or.inl ⟨by kernel_rfl, fun W _ => by kernel_rfl⟩) g1 ?_
      refine wpAnyH_take (i := 13) (v := .agg #[.int .u64 (y.uid : Nat), y.fv, .int .u64 (y.mod : Nat), .string y.hash, .int .u64 (y.size : Nat), .int .u64 (y.seq : Nat), .int .u64 (y.mostSeq : Nat), .int .u64 (y.mostUid : Nat), .string (S y.m)]) rfl (by kernel_rfl) (by kernel_rfl) (by kernel_rfl) (fun _ _ _ h => h) (Or.inl ⟨by kernel_rfl, fun W hh => by obtain ⟨m0, m1, m2, m3, m4, m5, m6, m7, m8⟩ := hh.x; go_simp⟩) g1 ?_
      refine wpAnyH_all (rs := [11]) (by kernel_rfl) (by simp) ?_
      refine AllReadyH.cons rfl (fun K hK => ?_) AllReadyH.nil
      go_simp
      with_reducible refine (HO.out _ g1).mono ?_
      rintro e u2 ⟨rfl, bb2⟩
      have g2 := g1.later bb2
      refine hK.out _ _ g2 (fun hx => ?_)
      clear hx hK K
      refine wpAnyH_all (rs := [14]) (by kernel_rfl) (by simp) ?_
      refine AllReadyH.cons rfl (fun K hK => ?_) AllReadyH.nil
      go_simp
      with_reducible refine (HA1.out _ g2).mono ?_
      rintro e u3 ⟨rfl, bb3⟩
      have g3 := g2.later bb3
      refine hK.out _ _ g3 (fun hx => ?_)
      clear hx hK K
      refine wpAnyH_take (i := 15) (v := .bool false) rfl (by kernel_rfl) (by kernel_rfl) (by kernel_rfl) (fun _ _ _ h => h) (Or.inl ⟨by kernel_rfl, fun W _ => by kernel_rfl⟩) g3 ?_
      refine wpAnyH_take (i := 16) (v := vb) rfl (by kernel_rfl) (by kernel_rfl) (by kernel_rfl) (fun _ _ _ h => h) (Or.inl ⟨by kernel_rfl, fun W _ => by kernel_rfl⟩) g3 ?_
      refine wpAnyH_take (i := 17) (v := .agg #[.int .u64 (y.uid : Nat), y.fv, .int .u64 (y.mod : Nat), .string y.hash, .int .u64 (y.size : Nat), .int .u64 (y.seq : Nat), .int .u64 (y.mostSeq : Nat), .int .u64 (y.mostUid : Nat), .string (S y.m)]) rfl (by kernel_rfl) (by kernel_rfl) (by kernel_rfl) (fun _ _ _ h => h) (Or.inl ⟨by kernel_rfl, fun W hh => by obtain ⟨m0, m1, m2, m3, m4, m5, m6, m7, m8⟩ := hh.x; go_simp⟩) g3 ?_
      refine wpAnyH_all (rs := [18]) (by kernel_rfl) (by simp) ?_
      refine AllReadyH.cons rfl (fun K hK => ?_) AllReadyH.nil
      go_simp
      with_reducible refine (HB1.out _ g3).mono ?_
      rintro e u4 ⟨rfl, bb4⟩
      have g4 := g3.later bb4
      refine hK.out _ _ g4 (fun hx => ?_)
      clear hx hK K
      refine wpAnyH_take (i := 19) (v := .bool false) rfl (by kernel_rfl) (by kernel_rfl) (by kernel_rfl) (fun _ _ _ h => h) (Or.inl ⟨by kernel_rfl, fun W _ => by kernel_rfl⟩) g4 ?_
      refine wpAnyH_take (i := 20) (v := .bool true) rfl (by kernel_rfl) (by kernel_rfl) (by kernel_rfl) (fun _ _ _ h => h) (Or.inl ⟨by kernel_rfl, fun W _ => by kernel_rfl⟩) g4 ?_
      refine wpAnyH_take (i := 21) (v := .bool true) rfl (by kernel_rfl) (by kernel_rfl) (by kernel_rfl) (fun _ _ _ h => h) (Or.inl ⟨by kernel_rfl, fun W _ => by kernel_rfl⟩) g4 ?_
      refine wpAnyH_take (i := 22) (v := .bool true) rfl (by kernel_rfl) (by kernel_rfl) (by kernel_rfl) (fun _ _ _ h => h) (Or.inl ⟨by kernel_rfl, fun W _ => by kernel_rfl⟩) g4 ?_
      refine wpAnyH_take (i := 23) (v := d2) rfl (by kernel_rfl) (by kernel_rfl) (by kernel_rfl) (fun _ _ _ h => h) (Or.inl ⟨by kernel_rfl, fun W _ => by kernel_rfl⟩) g4 ?_
      refine wpAnyH_take (i := 24) (v := .agg #[.int .u64 (y.uid : Nat), y.fv, .int .u64 (y.mod : Nat), .string y.hash, .int .u64 (y.size : Nat), .int .u64 (y.seq : Nat), .int .u64 (y.mostSeq : Nat), .int .u64 (y.mostUid : Nat), .string (S y.m)]) rfl (by kernel_rfl) (by kernel_rfl) (by kernel_rfl) (fun _ _ _ h => h) (Or.inl ⟨by kernel_rfl, fun W hh => by obtain ⟨m0, m1, m2, m3, m4, m5, m6, m7, m8⟩ := hh.x; go_simp⟩) g4 ?_
      refine wpAnyH_take (i := 26) (v := va) rfl (by kernel_rfl) (by kernel_rfl) (by kernel_rfl) (fun _ _ _ h => h) (Or.inl ⟨by kernel_rfl, fun W _ => by kernel_rfl⟩) g4 ?_
      refine wpAnyH_take (i := 27) (v := .agg #[.int .u64 (y.uid : Nat), y.fv, .int .u64 (y.mod : Nat), .string y.hash, .int .u64 (y.size : Nat), .int .u64 (y.seq : Nat), .int .u64 (y.mostSeq : Nat), .int .u64 (y.mostUid : Nat), .string (S y.m)]) rfl (by kernel_rfl) (by kernel_rfl) (by kernel_rfl) (fun _ _ _ h => h) (Or.inl ⟨by kernel_rfl, fun W hh => by obtain ⟨m0, m1, m2, m3, m4, m5, m6, m7, m8⟩ := hh.x; go_simp⟩) g4 ?_
      refine wpAnyH_all (rs := [25]) (by kernel_rfl) (by simp) ?_
      refine AllReadyH.cons rfl (fun K hK => ?_) AllReadyH.nil
      go_simp
      with_reducible refine (HD.out _ g4).mono ?_
      rintro e u5 ⟨rfl, bb5⟩
      have g5 := g4.later bb5
      refine hK.out _ _ g5 (fun hx => ?_)
      clear hx hK K
      refine wpAnyH_all (rs := [28]) (by kernel_rfl) (by simp) ?_
      refine AllReadyH.cons rfl (fun K hK => ?_) AllReadyH.nil
      go_simp
      with_reducible refine (HA1.out _ g5).mono ?_
      rintro e u6 ⟨rfl, bb6⟩
      have g6 := g5.later bb6
      refine hK.out _ _ g6 (fun hx => ?_)
      clear hx hK K
      refine wpAnyH_take (i := 29) (v := .bool false) rfl (by kernel_rfl) (by kernel_rfl) (by kernel_rfl) (fun _ _ _ h => h) (Or.inl ⟨by kernel_rfl, fun W _ => by kernel_rfl⟩) g6 ?_
      refine wpAnyH_take (i := 30) (v := undef) rfl (by kernel_rfl) (by kernel_rfl) (by kernel_rfl) (fun _ _ _ h => h) (Or.inr ⟨by kernel_rfl, rfl⟩) g6 ?_
      refine wpAnyH_take (i := 31) (v := undef) rfl (by kernel_rfl) (by kernel_rfl) (by kernel_rfl) (fun _ _ _ h => h) (Or.inr ⟨by kernel_rfl, rfl⟩) g6 ?_
      refine wpAnyH_take (i := 32) (v := undef) rfl (by kernel_rfl) (by kernel_rfl) (by kernel_rfl) (fun _ _ _ h => h) (Or.inr ⟨by kernel_rfl, rfl⟩) g6 ?_
      refine wpAnyH_take (i := 33) (v := .bool false) rfl (by kernel_rfl) (by kernel_rfl) (by kernel_rfl) (fun _ _ _ h => h) (Or.inl ⟨by kernel_rfl, fun W _ => by kernel_rfl⟩) g6 ?_
      refine wpAnyH_take (i := 34) (v := .bool true) rfl (by kernel_rfl) (by kernel_rfl) (by kernel_rfl) (fun _ _ _ h => h) (Or.inl ⟨by kernel_rfl, fun W _ => by kernel_rfl⟩) g6 ?_
      refine wpAnyH_take (i := 35) (v := .bool true) rfl (by kernel_rfl) (by kernel_rfl) (by kernel_rfl) (fun _ _ _ h => h) (Or.inl ⟨by kernel_rfl, fun W _ => by kernel_rfl⟩) g6 ?_
      refine wpAnyH_take (i := 36) (v := .bool true) rfl (by kernel_rfl) (by kernel_rfl) (by kernel_rfl) (fun _ _ _ h => h) (Or.inl ⟨by kernel_rfl, fun W _ => by kernel_rfl⟩) g6 ?_
      refine wpAnyH_take (i := 37) (v := r1) rfl (by kernel_rfl) (by kernel_rfl) (by kernel_rfl) (fun _ _ _ h => h) (Or.inl ⟨by kernel_rfl, fun W _ => by kernel_rfl⟩) g6 ?_
      refine wpAnyH_take (i := 38) (v := .agg #[.int .u64 (y.uid : Nat), y.fv, .int .u64 (y.mod : Nat), .string y.hash, .int .u64 (y.size : Nat), .int .u64 (y.seq : Nat), .int .u64 (y.mostSeq : Nat), .int .u64 (y.mostUid : Nat), .string (S y.m)]) rfl (by kernel_rfl) (by kernel_rfl) (by kernel_rfl) (fun _ _ _ h => h) (Or.inl ⟨by kernel_rfl, fun W hh => by obtain ⟨m0, m1, m2, m3, m4, m5, m6, m7, m8⟩ := hh.x; go_simp⟩) g6 ?_
      refine wpAnyH_take (i := 40) (v := s3) rfl (by kernel_rfl) (by kernel_rfl) (by kernel_rfl) (fun _ _ _ h => h) (Or.inl ⟨by kernel_rfl, fun W _ => by kernel_rfl⟩) g6 ?_
      refine wpAnyH_take (i := 41) (v := .agg #[.int .u64 (y.uid : Nat), y.fv, .int .u64 (y.mod : Nat), .string y.hash, .int .u64 (y.size : Nat), .int .u64 (y.seq : Nat), .int .u64 (y.mostSeq : Nat), .int .u64 (y.mostUid : Nat), .string (S y.m)]) rfl (by kernel_rfl) (by kernel_rfl) (by kernel_rfl) (fun _ _ _ h => h) (Or.inl ⟨by kernel_rfl, fun W hh => by obtain ⟨m0, m1, m2, m3, m4, m5, m6, m7, m8⟩ := hh.x; go_simp⟩) g6 ?_
      refine wpAnyH_all (rs := [39]) (by kernel_rfl) (by simp) ?_
      refine AllReadyH.cons rfl (fun K hK => ?_) AllReadyH.nil
      go_simp
      with_reducible refine (HR.out _ g6).mono ?_
      rintro e u7 ⟨rfl, bb7⟩
      have g7 := g6.later bb7
      refine hK.out _ _ g7 (fun hx => ?_)
      clear hx hK K
      refine wpAnyH_all (rs := [42]) (by kernel_rfl) (by simp) ?_
      refine AllReadyH.cons rfl (fun K hK => ?_) AllReadyH.nil
      go_simp
      with_reducible refine (HS.out _ g7).mono ?_
      rintro e u8 ⟨rfl, bb8⟩
      have g8 := g7.later bb8
      refine hK.out _ _ g8 (fun hx => ?_)
      clear hx hK K
      refine wpAnyH_take (i := 43) (v := .bool (q == q)) rfl (by kernel_rfl) (by kernel_rfl) (by kernel_rfl) (fun _ _ _ h => h) (Or.inl ⟨by kernel_rfl, fun W _ => by kernel_rfl⟩) g8 ?_
      refine wpAnyH_take (i := 44) (v := .bool (q == q)) rfl (by kernel_rfl) (by kernel_rfl) (by kernel_rfl) (fun _ _ _ h => h) (Or.inl ⟨by kernel_rfl, fun W _ => by kernel_rfl⟩) g8 ?_
      refine wpAnyH_take (i := 45) (v := .bool (q == q)) rfl (by kernel_rfl) (by kernel_rfl) (by kernel_rfl) (fun _ _ _ h => h) (Or.inl ⟨by kernel_rfl, fun W _ => by kernel_rfl⟩) g8 ?_
      refine wpAnyH_done (by kernel_rfl) ?_ _
      go_wp2_with fail
      go_ret
      exact ⟨by cases q <;> kernel_rfl, g8.bl⟩
end Go.Proofs.YtekbjapclajflaaDoor.mt
