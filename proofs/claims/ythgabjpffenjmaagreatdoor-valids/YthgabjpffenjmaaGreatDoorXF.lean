import Derived.Test.YthgabjpffenjmaaGreatDoorXA
import Derived.Test.YthgabjpffenjmaaGreatDoorXC
import Derived.Test.YthgabjpffenjmaaGreatDoorXO0

/-
  A list in its usual order, each part once: plain mathematics.
-/
namespace Go.Proofs.YthgabjpffenjmaaGreatDoor

def gtB (a b : List UInt8) : Bool := !(Op.bytesLess a b || a == b)
def selStep (fl le x : List UInt8) : List UInt8 := if gtB x fl && (le.isEmpty || Op.bytesLess x le) then x else le
/-- The least part above the floor, or the empty text. -/
def sel (l : List (List UInt8)) (fl : List UInt8) : List UInt8 := l.foldl (selStep fl) []
def ordGo (sep : List UInt8) (l : List (List UInt8)) : Nat → List UInt8 → List UInt8 → List UInt8
  | 0, t, _ => t
  | f + 1, t, last => if (sel l last).isEmpty then t else ordGo sep l f (t ++ (if last.isEmpty then [] else sep) ++ sel l last) (sel l last)
def ordT (sep : List UInt8) (l : List (List UInt8)) : List UInt8 := ordGo sep l l.length [] []

theorem sel_snoc (l : List (List UInt8)) (x fl : List UInt8) : sel (l ++ [x]) fl = selStep fl (sel l fl) x := by simp [sel]

/-- What is selected is one of the parts, or nothing. -/
theorem sel_mem (fl : List UInt8) : ∀ (l : List (List UInt8)) (le : List UInt8), l.foldl (selStep fl) le = le ∨ l.foldl (selStep fl) le ∈ l
  | [], le => Or.inl rfl
  | x :: l, le => by
    rw [List.foldl_cons]
    rcases sel_mem fl l (selStep fl le x) with h | h
    · rw [h]
      unfold selStep
      split
      · right; simp
      · left; rfl
    · right; simp [h]

/-- Two ways of writing the same things, in the same order. -/
structure Same {α : Type} (ps : List α) (f g : α → List UInt8) : Prop where
  lt : ∀ p ∈ ps, ∀ q ∈ ps, Op.bytesLess (f p) (f q) = Op.bytesLess (g p) (g q)
  eq : ∀ p ∈ ps, ∀ q ∈ ps, (f p == f q) = (g p == g q)
  nf : ∀ p ∈ ps, (f p).isEmpty = false
  ng : ∀ p ∈ ps, (g p).isEmpty = false

def optT {α : Type} (f : α → List UInt8) : Option α → List UInt8
  | none => []
  | some p => f p

theorem gt_nil {a : List UInt8} (h : a.isEmpty = false) : gtB a [] = true := by
  cases a with
  | nil => cases h
  | cons x a => simp [gtB, Op.bytesLess]

theorem sel_same {α : Type} {ps : List α} {f g : α → List UInt8} (S : Same ps f g) : ∀ (qs : List α), (∀ q ∈ qs, q ∈ ps) → ∀ (fl le : Option α), (∀ p, fl = some p → p ∈ ps) → (∀ p, le = some p → p ∈ ps) →
    ∃ r : Option α, (∀ p, r = some p → p ∈ ps) ∧ (qs.map f).foldl (selStep (optT f fl)) (optT f le) = optT f r ∧ (qs.map g).foldl (selStep (optT g fl)) (optT g le) = optT g r
  | [], _, fl, le, _, hle => ⟨le, hle, rfl, rfl⟩
  | q :: qs, hq, fl, le, hfl, hle => by
    have hqp : q ∈ ps := hq q (by simp)
    have hgt : gtB (f q) (optT f fl) = gtB (g q) (optT g fl) := by
      cases fl with
      | none => simp only [optT]; rw [gt_nil (S.nf q hqp), gt_nil (S.ng q hqp)]
      | some p => simp only [optT, gtB]; rw [S.lt q hqp p (hfl p rfl), S.eq q hqp p (hfl p rfl)]
    have hor : ((optT f le).isEmpty || Op.bytesLess (f q) (optT f le)) = ((optT g le).isEmpty || Op.bytesLess (g q) (optT g le)) := by
      cases le with
      | none => rfl
      | some p => simp only [optT]; rw [S.nf p (hle p rfl), S.ng p (hle p rfl), S.lt q hqp p (hle p rfl)]
    simp only [List.map_cons, List.foldl_cons]
    by_cases h : (gtB (f q) (optT f fl) && ((optT f le).isEmpty || Op.bytesLess (f q) (optT f le))) = true
    · have e1 : selStep (optT f fl) (optT f le) (f q) = optT f (some q) := by unfold selStep; rw [if_pos h]; rfl
      have e2 : selStep (optT g fl) (optT g le) (g q) = optT g (some q) := by unfold selStep; rw [if_pos (by rw [← hgt, ← hor]; exact h)]; rfl
      rw [e1, e2]
      exact sel_same S qs (fun x hx => hq x (by simp [hx])) fl (some q) hfl (fun p hp => by injection hp with hp; rw [← hp]; exact hqp)
    · have e1 : selStep (optT f fl) (optT f le) (f q) = optT f le := by unfold selStep; rw [if_neg h]
      have e2 : selStep (optT g fl) (optT g le) (g q) = optT g le := by unfold selStep; rw [if_neg (by rw [← hgt, ← hor]; exact h)]
      rw [e1, e2]
      exact sel_same S qs (fun x hx => hq x (by simp [hx])) fl le hfl hle

theorem opt_empty {α : Type} {ps : List α} {f g : α → List UInt8} (S : Same ps f g) {r : Option α} (h : ∀ p, r = some p → p ∈ ps) : (optT f r).isEmpty = r.isNone ∧ (optT g r).isEmpty = r.isNone := by
  cases r with
  | none => exact ⟨rfl, rfl⟩
  | some p => exact ⟨S.nf p (h p rfl), S.ng p (h p rfl)⟩

/-- The parts with their sign behind each, or the sign between: but for the last one the same. -/
theorem ord_same {α : Type} {ps : List α} {f g : α → List UInt8} (S : Same ps f g) (x : List UInt8) (hfg : ∀ p ∈ ps, f p = g p ++ x) : ∀ (n : Nat) (u : List UInt8) (last : α), last ∈ ps →
    ordGo [] (ps.map f) n (u ++ x) (f last) = ordGo x (ps.map g) n u (g last) ++ x
  | 0, u, last, hl => rfl
  | n + 1, u, last, hl => by
    obtain ⟨r, hr, e1, e2⟩ := sel_same S ps (fun q hq => hq) (some last) none (fun p hp => by injection hp with hp; rw [← hp]; exact hl) (fun p hp => by cases hp)
    have e1' : sel (ps.map f) (f last) = optT f r := e1
    have e2' : sel (ps.map g) (g last) = optT g r := e2
    obtain ⟨m1, m2⟩ := opt_empty S hr
    rw [ordGo, ordGo, e1', e2', m1, m2, S.nf last hl, S.ng last hl]
    cases r with
    | none => rfl
    | some p =>
      have hp := hr p rfl
      simp only [optT, Option.isNone_some, Bool.false_eq_true, if_false]
      have ih := ord_same S x hfg n (u ++ x ++ g p) p hp
      rw [hfg p hp] at ih ⊢
      rw [← ih]
      simp
theorem ord_first {α : Type} {ps : List α} {f g : α → List UInt8} (S : Same ps f g) (x : List UInt8) (hfg : ∀ p ∈ ps, f p = g p ++ x) (hne : ps ≠ []) : ordT [] (ps.map f) = ordT x (ps.map g) ++ x := by
  unfold ordT
  obtain ⟨n, hn⟩ : ∃ n, ps.length = n + 1 := ⟨ps.length - 1, by have := List.length_pos_iff.2 hne; omega⟩
  rw [List.length_map, List.length_map, hn]
  obtain ⟨r, hr, e1, e2⟩ := sel_same S ps (fun q hq => hq) none none (fun p hp => by cases hp) (fun p hp => by cases hp)
  have e1' : sel (ps.map f) [] = optT f r := e1
  have e2' : sel (ps.map g) [] = optT g r := e2
  obtain ⟨m1, m2⟩ := opt_empty S hr
  rw [ordGo, ordGo, e1', e2', m1, m2]
  cases r with
  | some p =>
    have hp := hr p rfl
    simp only [optT, Option.isNone_some, Bool.false_eq_true, if_false, List.isEmpty_nil, if_true, List.nil_append]
    have ih := ord_same S x hfg n (g p) p hp
    rw [← hfg p hp] at ih
    exact ih
  | none =>
    -- the first of all parts is above the empty text: something is selected
    exfalso
    obtain ⟨q, qs, rfl⟩ : ∃ q qs, ps = q :: qs := by cases ps with | nil => exact absurd rfl hne | cons q qs => exact ⟨q, qs, rfl⟩
    have hq : (f q).isEmpty = false := S.nf q (by simp)
    have key : ∀ (l : List (List UInt8)) (le : List UInt8), (∀ a ∈ l, a.isEmpty = false) → le.isEmpty = false → (l.foldl (selStep []) le).isEmpty = false := by
      intro l
      induction l with
      | nil => intro le _ h; exact h
      | cons a l ih =>
        intro le hl h
        rw [List.foldl_cons]
        refine ih _ (fun b hb => hl b (by simp [hb])) ?_
        unfold selStep
        split
        · exact hl a (by simp)
        · exact h
    have h1 := key (qs.map f) (f q) (fun a ha => by obtain ⟨p, hp, rfl⟩ := List.mem_map.1 ha; exact S.nf p (by simp [hp])) hq
    have h2 : sel ((q :: qs).map f) [] = (qs.map f).foldl (selStep []) (f q) := by
      unfold sel
      rw [List.map_cons, List.foldl_cons]
      congr 1
      unfold selStep
      rw [gt_nil hq]
      simp
    rw [e1'] at h2
    rw [← h2] at h1
    simp [optT] at h1

end Go.Proofs.YthgabjpffenjmaaGreatDoor

namespace Go.Proofs.YthgabjpffenjmaaGreatDoor
open Go.RowKit

theorem tl (l : List UInt8) : (bs l).toList = l := by rw [ByteArray.toList_eq, bs_list]
theorem bs_app (a b : List UInt8) : bs a ++ bs b = bs (a ++ b) := by
  apply ByteArray.ext
  simp [bs, ByteArray.data_append]
theorem ret_str {a b : ByteArray} (h : a = b) : Ending.returned (.string a) = .returned (.string b) := by rw [h]

set_option maxHeartbeats 1600000 in
set_option maxRecDepth 100000 in
theorem doc_leastAbove (v : Value) (l : List (List UInt8)) (fl : ByteArray) (w : World) (hl : l.length ≤ 2000) (hst : StAt w v l) :
    Calls Tryz.prog 93 #[v, .string fl] w fun e w' => e = .returned (strV (sel l fl.data.toList)) ∧ w' = w := by
  obtain ⟨F, rfl⟩ : ∃ F, fl = bs F := ⟨fl.data.toList, rfl⟩
  rw [bs_list]
  obtain ⟨ao, cap, rfl, hcell⟩ : ∃ ao cap, v = .slice ao l.length cap ∧ ∀ j (h : j < l.length), ∃ g, ao = some ⟨g, 0, none⟩ ∧ w.cell? ⟨g, j, none⟩ = some (.string (bs l[j])) := by
    rcases hst.cells with ⟨rfl, rfl⟩ | ⟨g, cap, rfl, _, hx⟩
    · exact ⟨none, 0, rfl, fun j h => by simp at h⟩
    · exact ⟨_, _, rfl, fun j h => ⟨g, rfl, hx j _ (List.getElem?_eq_getElem h)⟩⟩
  have HC : Hid _ := hcell
  clear hcell hst
  go_enter Tryz.func93, Tryz.ntmps93
  go_wp2
  go_loop [5, 10] (fun m i => ∃ k : Nat, k ≤ l.length ∧ i = .int .i64 k ∧ m = .string (bs (sel (l.take k) F))) (fun _ i => l.length - (intOf i).toNat)
  case atStart => exact ⟨0, by omega, rfl, rfl⟩
  case round =>
    obtain ⟨k, hk, rfl, rfl⟩ := hrel
    by_cases hlt : k < l.length
    · obtain ⟨g, rfl, x⟩ := HC.out k hlt
      have HS : Hid (sel (l.take (k + 1)) F = selStep F (sel (l.take k) F) l[k]) := by show _ = _; rw [List.take_succ_eq_append_getElem hlt, sel_snoc]
      clear HC
      generalize sel (l.take k) F = L at *
      generalize hX : l[k] = X at *
      clear hX
      have HT : Hid (selStep F L X = if (!(Op.bytesLess (bs X).toList (bs F).toList || (bs X).toList == (bs F).toList)) && ((bs L).toList.isEmpty || Op.bytesLess (bs X).toList (bs L).toList) then X else L) := by
        show _ = _; rw [tl, tl, tl]; rfl
      rcases h1 : Op.bytesLess (bs X).toList (bs F).toList with _ | _
      · rcases h2 : ((bs X).toList == (bs F).toList) with _ | _
        · rcases h3 : (bs L).toList.isEmpty with _ | _
          · rcases h4 : Op.bytesLess (bs X).toList (bs L).toList with _ | _
            · have HE : Hid (sel (l.take (k + 1)) F = L) := by show _ = _; rw [HS.out, HT.out, h1, h2, h3, h4]; rfl
              clear HS HT
              go_wp2
              go_round
              case rel => exact ⟨k + 1, by omega, by go_num, by rw [HE.out]⟩
              case measure => simp [intOf]; omega
            · have HE : Hid (sel (l.take (k + 1)) F = X) := by show _ = _; rw [HS.out, HT.out, h1, h2, h3, h4]; rfl
              clear HS HT
              go_wp2
              go_round
              case rel => exact ⟨k + 1, by omega, by go_num, by rw [HE.out]⟩
              case measure => simp [intOf]; omega
          · have HE : Hid (sel (l.take (k + 1)) F = X) := by show _ = _; rw [HS.out, HT.out, h1, h2, h3]; rfl
            clear HS HT
            go_wp2
            go_round
            case rel => exact ⟨k + 1, by omega, by go_num, by rw [HE.out]⟩
            case measure => simp [intOf]; omega
        · have HE : Hid (sel (l.take (k + 1)) F = L) := by show _ = _; rw [HS.out, HT.out, h1, h2]; rfl
          clear HS HT
          go_wp2
          go_round
          case rel => exact ⟨k + 1, by omega, by go_num, by rw [HE.out]⟩
          case measure => simp [intOf]; omega
      · have HE : Hid (sel (l.take (k + 1)) F = L) := by show _ = _; rw [HS.out, HT.out, h1]; rfl
        clear HS HT
        go_wp2
        go_round
        case rel => exact ⟨k + 1, by omega, by go_num, by rw [HE.out]⟩
        case measure => simp [intOf]; omega
    · have HE : Hid (sel (l.take k) F = sel l F) := by show _ = _; rw [List.take_of_length_le (by omega)]
      clear HC
      go_wp2
      go_ret
      exact ⟨ret_str (by rw [HE.out]), rfl⟩

end Go.Proofs.YthgabjpffenjmaaGreatDoor

namespace Go.Proofs.YthgabjpffenjmaaGreatDoor
open Go.RowKit

set_option maxHeartbeats 1600000 in
set_option maxRecDepth 100000 in
theorem doc_inOrder (v : Value) (l : List (List UInt8)) (sp : ByteArray) (w : World) (hl : l.length ≤ 2000) (hM : ∀ a ∈ l, a.length ≤ 3000000) (hsp : sp.size ≤ 10) (hst : StAt w v l) :
    Calls Tryz.prog 50 #[v, .string sp] w fun e w' => e = .returned (strV (ordT sp.data.toList l)) ∧ w' = w := by
  obtain ⟨S, rfl⟩ : ∃ S, sp = bs S := ⟨sp.data.toList, rfl⟩
  rw [bs_list]
  obtain ⟨ao, cap, rfl⟩ : ∃ ao cap, v = .slice ao l.length cap := by
    rcases hst.cells with ⟨rfl, rfl⟩ | ⟨g, cap, rfl, _, _⟩
    · exact ⟨none, 0, rfl⟩
    · exact ⟨_, _, rfl⟩
  have HC : Hid (StAt w (.slice ao l.length cap) l) := hst
  have HM : Hid (∀ a ∈ l, a.length ≤ 3000000) := hM
  clear hst hM
  go_enter Tryz.func50, Tryz.ntmps50
  go_wp2
  go_loop [5, 6, 10] (fun t m i => ∃ (k : Nat) (T L : List UInt8), k ≤ l.length ∧ i = .int .i64 k ∧ t = .string (bs T) ∧ m = .string (bs L) ∧ (bs T).size ≤ k * 3000010 ∧ Hid (ordT S l = ordGo S l (l.length - k) T L)) (fun _ _ i => l.length - (intOf i).toNat)
  case atStart => exact ⟨0, [], [], by omega, rfl, rfl, rfl, by decide, rfl⟩
  case round =>
    obtain ⟨k, T, L, hk, rfl, rfl, rfl, hTs, HO⟩ := hrel
    by_cases hlt : k < l.length
    · have HD : Hid (ordT S l = if (sel l L).isEmpty then T else ordGo S l (l.length - (k + 1)) (T ++ (if L.isEmpty then [] else S) ++ sel l L) (sel l L)) := by
        show _ = _; rw [HO.out, show l.length - k = (l.length - (k + 1)) + 1 by omega, ordGo]
      clear HO
      have hsel : (bs (sel l L)).size ≤ 3000000 := by
        rw [bs_size]
        rcases sel_mem L l [] with h | h
        · show (sel l L).length ≤ _; unfold sel; rw [h]; simp
        · exact HM.out _ h
      go_wp2_with fail
      refine (doc_leastAbove _ l (bs L) _ hl HC.out).mono ?_
      rintro e w1 ⟨rfl, rfl⟩
      rw [bs_list]
      unfold strV
      rcases h1 : (bs (sel l L)).toList.isEmpty with _ | _
      · rcases h2 : (bs L).toList.isEmpty with _ | _
        · have HE : Hid (ordT S l = ordGo S l (l.length - (k + 1)) (T ++ S ++ sel l L) (sel l L)) := by
            show _ = _; rw [tl] at h1 h2; rw [HD.out, h1, h2]; rfl
          clear HD
          go_wp2
          go_round
          case rel => exact ⟨k + 1, T ++ S ++ sel l L, sel l L, by omega, by go_num, by rw [bs_app, bs_app], rfl, by rw [bs_size] at hTs hsp hsel ⊢; simp only [List.length_append]; omega, HE⟩
          case measure => simp [intOf]; omega
        · have HE : Hid (ordT S l = ordGo S l (l.length - (k + 1)) (T ++ sel l L) (sel l L)) := by
            show _ = _; rw [tl] at h1 h2; rw [HD.out, h1, h2]; simp
          clear HD
          go_wp2
          go_round
          case rel => exact ⟨k + 1, T ++ sel l L, sel l L, by omega, by go_num, by rw [bs_app], rfl, by rw [bs_size] at hTs hsp hsel ⊢; simp only [List.length_append]; omega, HE⟩
          case measure => simp [intOf]; omega
      · have HE : Hid (ordT S l = T) := by show _ = _; rw [tl] at h1; rw [HD.out, h1]; rfl
        clear HD
        go_wp2
        go_ret
        exact ⟨ret_str (by rw [HE.out]), rfl⟩
    · have HE : Hid (ordT S l = T) := by show _ = _; rw [HO.out, show l.length - k = 0 by omega]; rfl
      go_wp2
      go_ret
      exact ⟨ret_str (by rw [HE.out]), rfl⟩

end Go.Proofs.YthgabjpffenjmaaGreatDoor

namespace Go.Proofs.YthgabjpffenjmaaGreatDoor
open Go.RowKit

set_option maxHeartbeats 400000 in
theorem doc_markText (m : Nat) (hm : m ≤ 3) (w : World) : Calls Tryz.prog 90 #[.int .i64 m] w fun e w' => e = .returned (strV (mkT m)) ∧ w' = w := by
  rcases (by omega : m = 0 ∨ m = 1 ∨ m = 2 ∨ m = 3) with rfl | rfl | rfl | rfl
  all_goals
    go_enter Tryz.func90, Tryz.ntmps90
    go_wp2
    go_ret
    exact ⟨rfl, rfl⟩

/-- string([]byte{..}): the bytes lie in the newest block. -/
theorem conv_new (w : World) (l : List UInt8) : (convert 59 9 (.slice (some ⟨w.heap.size, 0, none⟩) l.length l.length)).run Tryz.prog (w.alloc (.cells (l.map fun b => Value.int .u8 (b.toNat : Int)).toArray 5)) = .ok (.string (bs l)) (w.alloc (.cells (l.map fun b => Value.int .u8 (b.toNat : Int)).toArray 5)) := by
  refine run_convert_bytes_back (P := Tryz.prog) _ 59 9 5 ⟨w.heap.size, 0, none⟩ l.length l Tryz.underlying59 Tryz.underlying5 Tryz.underlying9 (fun j hj => ?_)
  rw [Addr.add_lit, cellAt (blk_new _ _)]
  simp [hj]
theorem conv1 (w : World) (n : Nat) (hn : n < 256) : (convert 59 9 (.slice (some ⟨w.heap.size, 0, none⟩) 1 1)).run Tryz.prog (w.alloc (.cells #[.int .u8 n] 5)) = .ok (.string (bs [b8 n])) (w.alloc (.cells #[.int .u8 n] 5)) := by
  have := conv_new w [b8 n]
  simpa [b8_val hn] using this
theorem conv2 (w : World) (n m : Nat) (hn : n < 256) (hm : m < 256) : (convert 59 9 (.slice (some ⟨w.heap.size, 0, none⟩) 2 2)).run Tryz.prog (w.alloc (.cells #[.int .u8 n, .int .u8 m] 5)) = .ok (.string (bs [b8 n, b8 m])) (w.alloc (.cells #[.int .u8 n, .int .u8 m] 5)) := by
  have := conv_new w [b8 n, b8 m]
  simpa [b8_val hn, b8_val hm] using this
theorem conv3 (w : World) (n m k : Nat) (hn : n < 256) (hm : m < 256) (hk : k < 256) : (convert 59 9 (.slice (some ⟨w.heap.size, 0, none⟩) 3 3)).run Tryz.prog (w.alloc (.cells #[.int .u8 n, .int .u8 m, .int .u8 k] 5)) = .ok (.string (bs [b8 n, b8 m, b8 k])) (w.alloc (.cells #[.int .u8 n, .int .u8 m, .int .u8 k] 5)) := by
  have := conv_new w [b8 n, b8 m, b8 k]
  simpa [b8_val hn, b8_val hm, b8_val hk] using this

theorem nm_lt {n : Nat} (h : nmB n = true) : n < 256 := by have := nm_rng h; omega
theorem vr_lt {n : Nat} (h : vrB n = true) : n < 256 := by have := vr_rng h; omega
theorem sg_lt {n : Nat} (h : sgB n = true) : n < 256 ∧ n ≠ 0 := by have := sg_ne h; omega

set_option maxHeartbeats 400000 in
set_option maxRecDepth 100000 in
theorem doc_constraintText (c : Cn) (hc : CnOk c) (w : World) : Calls Tryz.prog 94 #[cnVal c] w fun e w' => e = .returned (strV (cnT c)) ∧ Below w.heap.size w w' := by
  obtain ⟨n, sg, v⟩ := c
  have hn := nm_lt hc.n
  unfold cnVal
  simp only at hn ⊢
  rcases hc.sv with ⟨h0, h1⟩ | ⟨h0, h1⟩
  · simp only at h0 h1
    subst h0 h1
    have HT : Hid (cnT { n := n, s := 0, v := 0 } = [b8 n]) := rfl
    have hcv := conv1 (w.alloc (.cells #[.int .u8 n, .int .u8 0, .int .u8 0] 138)) n hn
    rw [World.size_alloc] at hcv
    clear hc
    go_enter Tryz.func94, Tryz.ntmps94
    go_wp2
    go_ret
    exact ⟨ret_str (by rw [HT.out]), ((Below.refl _ _).alloc (Nat.le_refl _) _).alloc (by simp) _⟩
  · obtain ⟨hs, hs0⟩ := sg_lt h0
    have hv := vr_lt h1
    simp only at hs hs0 hv
    have HT : Hid (cnT { n := n, s := sg, v := v } = [b8 n, b8 sg, b8 v]) := by show _ = _; unfold cnT; rw [if_neg hs0]
    have hz : ((sg : Int) == 0) = false := by rw [beq_eq_false_iff_ne]; omega
    have hcv := conv3 (w.alloc (.cells #[.int .u8 n, .int .u8 sg, .int .u8 v] 138)) n sg v hn hs hv
    rw [World.size_alloc] at hcv
    clear hc h0 h1
    go_enter Tryz.func94, Tryz.ntmps94
    go_wp2
    go_ret
    exact ⟨ret_str (by rw [HT.out]), ((Below.refl _ _).alloc (Nat.le_refl _) _).alloc (by simp) _⟩

end Go.Proofs.YthgabjpffenjmaaGreatDoor

namespace Go.Proofs.YthgabjpffenjmaaGreatDoor
open Go.RowKit

theorem cs_row {B : Nat} {w : World} {v : Value} {l : List Cn} (h : CsAt B w v l) : (v = .slice none 0 0 ∧ l = []) ∨ ∃ g cap, v = .slice (some ⟨g, 0, none⟩) l.length cap ∧ g < w.heap.size ∧ ∀ j (h : j < l.length), w.cell? ⟨g, j * 3, none⟩ = some (.int .u8 l[j].n) ∧ w.cell? ⟨g, j * 3 + 1, none⟩ = some (.int .u8 l[j].s) ∧ w.cell? ⟨g, j * 3 + 2, none⟩ = some (.int .u8 l[j].v) := by
  rcases own_shape h with ⟨rfl, h0⟩ | ⟨g, cap, rfl, hc⟩
  · exact Or.inl ⟨rfl, List.eq_nil_of_length_eq_zero h0⟩
  · refine Or.inr ⟨g, cap, rfl, own_lt h, fun j hj => ?_⟩
    have h3 : ∀ c ∈ l.map cnCells, c.length = 3 := fun c hc => by obtain ⟨d, _, rfl⟩ := List.mem_map.1 hc; rfl
    have hf : ∀ k, k < 3 → (cnFlat l)[j * 3 + k]? = (cnCells l[j])[k]? := fun k hk => by
      unfold cnFlat
      rw [List.flatMap_def, flat_get 3 _ h3 j k hk]
      simp [hj]
    exact ⟨own_cell h _ _ (hf 0 (by omega)), own_cell h _ _ (hf 1 (by omega)), own_cell h _ _ (hf 2 (by omega))⟩

theorem StAt.ofMap {α : Type} {f : α → List UInt8} {l : List α} {w : World} {base k : Nat} {v : Value} (h : w.ownsRow base 9 1 v k ((l.map fun c => strV (f c)).take k)) (hk : k = l.length) : StAt w v (l.map f) := by
  subst hk
  rw [List.take_of_length_le (by simp)] at h
  refine StAt.of (base := base) ?_
  simpa [Function.comp_def] using h
theorem cnT_len (c : Cn) : (cnT c).length ≤ 3 := by unfold cnT; split <;> simp

set_option maxHeartbeats 1600000 in
set_option maxRecDepth 100000 in
theorem doc_constraintsText (B : Nat) (v : Value) (l : List Cn) (sp : ByteArray) (w : World) (hl : l.length ≤ 801) (hok : ∀ c ∈ l, CnOk c) (hsp : sp.size ≤ 10) (hcs : CsAt B w v l) :
    Calls Tryz.prog 51 #[v, .string sp] w fun e w' => e = .returned (strV (ordT sp.data.toList (l.map cnT))) ∧ Below w.heap.size w w' := by
  obtain ⟨i0, hi, hz0, hz1, hz2⟩ := info_parts Tryz.infoStr
  obtain ⟨ao, cap, rfl, hcell⟩ : ∃ ao cap, v = .slice ao l.length cap ∧ ∀ j (h : j < l.length), ∃ g, ao = some ⟨g, 0, none⟩ ∧ g < w.heap.size ∧ w.cell? ⟨g, j * 3, none⟩ = some (.int .u8 l[j].n) ∧ w.cell? ⟨g, j * 3 + 1, none⟩ = some (.int .u8 l[j].s) ∧ w.cell? ⟨g, j * 3 + 2, none⟩ = some (.int .u8 l[j].v) := by
    rcases cs_row hcs with ⟨rfl, rfl⟩ | ⟨g, cap, rfl, hg, hx⟩
    · exact ⟨none, 0, rfl, fun j h => by simp at h⟩
    · exact ⟨_, _, rfl, fun j h => ⟨g, rfl, hg, hx j h⟩⟩
  have HC : Hid _ := hcell
  have HOK : Hid (∀ c ∈ l, CnOk c) := hok
  clear hcell hcs hok
  go_enter Tryz.func51, Tryz.ntmps51
  go_wp2
  go_loopw [5, 11] (fun o i wr => ∃ k : Nat, k ≤ l.length ∧ i = .int .i64 k ∧ wr.ownsRow w.heap.size 9 1 o k ((l.map fun c => strV (cnT c)).take k) ∧ Below w.heap.size w wr) (fun _ i _ => l.length - (intOf i).toNat)
  case atStart => exact ⟨0, by omega, rfl, World.ownsRow_nil _ _ _ _, Below.refl _ _⟩
  case round =>
    obtain ⟨k, hk, rfl, hown, hb⟩ := hrel
    have hbs := hb.size
    by_cases hlt : k < l.length
    · obtain ⟨g, rfl, hg, x0, x1, x2⟩ := HC.out k hlt
      rw [← hb.cell (p := ⟨g, _, none⟩) hg] at x0 x1 x2
      have hc : CnOk l[k] := HOK.out _ (List.getElem_mem _)
      have HS : Hid ((l.map (fun c => strV (cnT c))).take (k + 1) = (l.map (fun c => strV (cnT c))).take k ++ [strV (cnT l[k])]) := by show _ = _; rw [List.take_succ_eq_append_getElem (by simpa using hlt), List.getElem_map]
      generalize l[k] = c at *
      have HO : Hid _ := hown
      have HCC : Hid (CnOk c) := hc
      clear hc
      go_wp2_with fail
      refine (doc_constraintText c HCC.out _).mono ?_
      rintro e w1 ⟨rfl, hb1⟩
      have hb1' : Below wr.heap.size wr w1 := ((Below.refl _ _).alloc (Nat.le_refl _) _).trans (hb1.mono (by simp))
      have hown1 := World.ownsRow.kept (row := none) hown ⟨hb1'.os, hb1'.tape, hb1'.output, hb1'.size, fun k hk _ => hb1'.block k hk⟩ (by rcases Value.ownBlock _ with _ | k <;> simp)
      have hs1 := hb1'.size
      have HB1 : Hid (Below w.heap.size w w1) := hb.trans (hb1'.mono hbs)
      unfold strV at *
      clear hb1 hb1' HO hown
      go_wp2_with (at_builtin; refine wpList_append_own _ rfl _ _ 80 rfl w.heap.size 9 i0 (.string ByteArray.empty) 1 16 Tryz.underlying80 hi hz0 hz1 hz2 rfl (by decide) _ _ _ rfl (hown1.alloc _) ⟨w1.heap.size, 0, none⟩ 1 1 [.string (bs (cnT c))] rfl rfl ?c1 ?c2 ?c3 ?c4 ?c5 ?_)
      case c1 => exact cell_one_new _ _ _
      case c2 => intro u hu; simp at hu; subst hu; rfl
      case c3 => unfold maxLen; omega
      case c4 => omega
      case c5 => simp; omega
      intro v' w2 hown' hgrow _
      have HB2 : Hid (Below w.heap.size w w2) := (HB1.out.alloc (by omega) _).grown hgrow (by simp; omega) (fun j hj => (hown1.lt j hj).1)
      have HO2 : Hid (w2.ownsRow w.heap.size 9 1 v' (k + 1) ((l.map fun c => Value.string (bs (cnT c))).take (k + 1))) := by show World.ownsRow _ _ _ _ _ _ _; rw [HS.out]; exact hown'
      clear hown' hgrow hown1
      go_wp2
      go_roundw
      case rel => exact ⟨k + 1, by omega, by go_num, HO2.out, HB2.out⟩
      case measure => simp [intOf]; omega
    · have hkl : k = l.length := by omega
      have hst := StAt.ofMap (f := cnT) hown hkl
      have HST : Hid _ := hst
      have HB : Hid (Below w.heap.size w wr) := hb
      clear hst hown hb hkl
      go_wp2_with fail
      refine (doc_inOrder _ (l.map cnT) sp _ (by simp; omega) (fun a ha => by obtain ⟨c, _, rfl⟩ := List.mem_map.1 ha; have := cnT_len c; omega) hsp HST.out).mono ?_
      rintro e w1 ⟨rfl, rfl⟩
      go_wp2
      go_ret
      exact ⟨rfl, HB.out⟩

theorem ord_len (sep : List UInt8) (l : List (List UInt8)) (M : Nat) (hM : ∀ a ∈ l, a.length ≤ M) : ∀ (n : Nat) (t last : List UInt8), (ordGo sep l n t last).length ≤ t.length + n * (M + sep.length)
  | 0, t, last => by simp [ordGo]
  | n + 1, t, last => by
    have hs : (sel l last).length ≤ M := by
      rcases sel_mem last l [] with h | h
      · unfold sel; rw [h]; simp
      · exact hM _ h
    rw [ordGo]
    split
    · omega
    · have ih := ord_len sep l M hM n (t ++ (if last.isEmpty then [] else sep) ++ sel l last) (sel l last)
      have h2 : (if last.isEmpty then [] else sep).length ≤ sep.length := by split <;> simp
      simp only [List.length_append] at ih
      rw [Nat.add_mul]
      omega
theorem ordT_len (sep : List UInt8) (l : List (List UInt8)) (M : Nat) (hM : ∀ a ∈ l, a.length ≤ M) : (ordT sep l).length ≤ l.length * (M + sep.length) := by
  have := ord_len sep l M hM l.length [] []
  simpa [ordT] using this

/-- A row of old memory is there later. -/
theorem own_below' {B : Nat} {w w' : World} {v : Value} {l : List Cn} (h : CsAt B w v l) (hb : Below w.heap.size w w') : CsAt B w' v l := h.kp ((Kp.refl _ _).below hb)

/-- A need in its usual form. -/
def ndS (n : List Cn) : List UInt8 := ordT [124] (n.map cnT)
theorem ndS_len (n : List Cn) (h : n.length ≤ 801) : (ndS n).length ≤ 3204 := by
  have := ordT_len [124] (n.map cnT) 3 (fun a ha => by obtain ⟨c, _, rfl⟩ := List.mem_map.1 ha; exact cnT_len c)
  simp at this
  unfold ndS
  omega

theorem ns_row {B : Nat} {w : World} {v : Value} {l : List (List Cn)} (h : NsAt B w v l) : (v = .slice none 0 0 ∧ l = []) ∨ ∃ g cap, v = .slice (some ⟨g, 0, none⟩) l.length cap ∧ g < w.heap.size ∧ ∀ j (h : j < l.length), ∃ a n c, w.cell? ⟨g, j, none⟩ = some (.slice a n c) ∧ CsAt B w (.slice a n c) l[j] := by
  obtain ⟨vs, h1, h2⟩ := h
  rcases own_shape h1 with ⟨rfl, h0⟩ | ⟨g, cap, rfl, hc⟩
  · exact Or.inl ⟨rfl, List.eq_nil_of_length_eq_zero h0⟩
  · refine Or.inr ⟨g, cap, rfl, own_lt h1, fun j hj => ?_⟩
    obtain ⟨u, hu, hcs⟩ := h2.get (j := j) (List.getElem?_eq_getElem hj)
    obtain ⟨a, n, c, rfl⟩ : ∃ a n c, u = .slice a n c := by rcases own_shape hcs with ⟨rfl, _⟩ | ⟨g, cap, rfl, _⟩ <;> exact ⟨_, _, _, rfl⟩
    exact ⟨a, n, c, own_cell h1 j _ hu, hcs⟩

set_option maxHeartbeats 1600000 in
set_option maxRecDepth 100000 in
theorem doc_needsText (B : Nat) (v : Value) (l : List (List Cn)) (w : World) (hl : l.length ≤ 801) (hl2 : ∀ n ∈ l, n.length ≤ 801) (hok : ∀ n ∈ l, NdOk n) (hns : NsAt B w v l) :
    Calls Tryz.prog 91 #[v] w fun e w' => e = .returned (strV (ordT [44] (l.map ndS))) ∧ Below w.heap.size w w' := by
  obtain ⟨i0, hi, hz0, hz1, hz2⟩ := info_parts Tryz.infoStr
  obtain ⟨ao, cap, rfl, hcell⟩ : ∃ ao cap, v = .slice ao l.length cap ∧ ∀ j (h : j < l.length), ∃ g, ao = some ⟨g, 0, none⟩ ∧ g < w.heap.size ∧ ∃ a n c, w.cell? ⟨g, j, none⟩ = some (.slice a n c) ∧ CsAt B w (.slice a n c) l[j] := by
    rcases ns_row hns with ⟨rfl, rfl⟩ | ⟨g, cap, rfl, hg, hx⟩
    · exact ⟨none, 0, rfl, fun j h => by simp at h⟩
    · exact ⟨_, _, rfl, fun j h => ⟨g, rfl, hg, hx j h⟩⟩
  have HC : Hid _ := hcell
  have HOK : Hid (∀ n ∈ l, NdOk n) := hok
  have HL2 : Hid (∀ n ∈ l, n.length ≤ 801) := hl2
  clear hcell hns hok hl2
  go_enter Tryz.func91, Tryz.ntmps91
  go_wp2
  go_loopw [3, 9] (fun o i wr => ∃ k : Nat, k ≤ l.length ∧ i = .int .i64 k ∧ wr.ownsRow w.heap.size 9 1 o k ((l.map fun c => strV (ndS c)).take k) ∧ Below w.heap.size w wr) (fun _ i _ => l.length - (intOf i).toNat)
  case atStart => exact ⟨0, by omega, rfl, World.ownsRow_nil _ _ _ _, Below.refl _ _⟩
  case round =>
    obtain ⟨k, hk, rfl, hown, hb⟩ := hrel
    have hbs := hb.size
    by_cases hlt : k < l.length
    · obtain ⟨g, rfl, hg, a, n, c, x0, hcs⟩ := HC.out k hlt
      rw [← hb.cell (p := ⟨g, _, none⟩) hg] at x0
      have hcs' : CsAt B wr (.slice a n c) l[k] := own_below' hcs hb
      have hc : NdOk l[k] := HOK.out _ (List.getElem_mem _)
      have hcl : l[k].length ≤ 801 := HL2.out _ (List.getElem_mem _)
      have HS : Hid ((l.map (fun c => strV (ndS c))).take (k + 1) = (l.map (fun c => strV (ndS c))).take k ++ [strV (ndS l[k])]) := by show _ = _; rw [List.take_succ_eq_append_getElem (by simpa using hlt), List.getElem_map]
      generalize l[k] = N at *
      have HCS : Hid (CsAt B wr (.slice a n c) N) := hcs'
      have HCC : Hid (NdOk N) := hc
      clear hc hcs hcs'
      go_wp2_with fail
      refine (doc_constraintsText B (.slice a n c) N (bs [124]) _ hcl HCC.out.2 (by decide) (HCS.out.alloc _)).mono ?_
      rintro e w1 ⟨rfl, hb1⟩
      rw [bs_list]
      have hb1' : Below wr.heap.size wr w1 := ((Below.refl _ _).alloc (Nat.le_refl _) _).trans (hb1.mono (by simp))
      have hown1 := World.ownsRow.kept (row := none) hown ⟨hb1'.os, hb1'.tape, hb1'.output, hb1'.size, fun k hk _ => hb1'.block k hk⟩ (by rcases Value.ownBlock _ with _ | k <;> simp)
      have hs1 := hb1'.size
      have HB1 : Hid (Below w.heap.size w w1) := hb.trans (hb1'.mono hbs)
      rw [show ordT [124] (N.map cnT) = ndS N from rfl]
      unfold strV at *
      clear hb1 hb1' hown HCS
      go_wp2_with (at_builtin; refine wpList_append_own _ rfl _ _ 80 rfl w.heap.size 9 i0 (.string ByteArray.empty) 1 16 Tryz.underlying80 hi hz0 hz1 hz2 rfl (by decide) _ _ _ rfl (hown1.alloc _) ⟨w1.heap.size, 0, none⟩ 1 1 [.string (bs (ndS N))] rfl rfl ?c1 ?c2 ?c3 ?c4 ?c5 ?_)
      case c1 => exact cell_one_new _ _ _
      case c2 => intro u hu; simp at hu; subst hu; rfl
      case c3 => unfold maxLen; omega
      case c4 => omega
      case c5 => simp; omega
      intro v' w2 hown' hgrow _
      have HB2 : Hid (Below w.heap.size w w2) := (HB1.out.alloc (by omega) _).grown hgrow (by simp; omega) (fun j hj => (hown1.lt j hj).1)
      have HO2 : Hid (w2.ownsRow w.heap.size 9 1 v' (k + 1) ((l.map fun c => Value.string (bs (ndS c))).take (k + 1))) := by show World.ownsRow _ _ _ _ _ _ _; rw [HS.out]; exact hown'
      clear hown' hgrow hown1
      go_wp2
      go_roundw
      case rel => exact ⟨k + 1, by omega, by go_num, HO2.out, HB2.out⟩
      case measure => simp [intOf]; omega
    · have hkl : k = l.length := by omega
      have hst := StAt.ofMap (f := ndS) hown hkl
      have HST : Hid _ := hst
      have HB : Hid (Below w.heap.size w wr) := hb
      clear hst hown hb hkl
      go_wp2_with fail
      refine (doc_inOrder _ (l.map ndS) (bs [44]) _ (by simp; omega) (fun a ha => by obtain ⟨c, hc, rfl⟩ := List.mem_map.1 ha; have := ndS_len c (HL2.out c hc); omega) (by decide) HST.out).mono ?_
      rintro e w1 ⟨rfl, rfl⟩
      rw [bs_list]
      go_wp2
      go_ret
      exact ⟨rfl, HB.out⟩

theorem bs_row {B : Nat} {w : World} {v : Value} {l : List Nat} (h : BsAt B w v l) : (v = .slice none 0 0 ∧ l = []) ∨ ∃ g cap, v = .slice (some ⟨g, 0, none⟩) l.length cap ∧ g < w.heap.size ∧ ∀ j (h : j < l.length), w.cell? ⟨g, j, none⟩ = some (.int .u8 (l[j] : Int)) := by
  rcases own_shape h with ⟨rfl, h0⟩ | ⟨g, cap, rfl, hc⟩
  · exact Or.inl ⟨rfl, List.eq_nil_of_length_eq_zero h0⟩
  · exact Or.inr ⟨g, cap, rfl, own_lt h, fun j hj => own_cell h j _ (by simp [hj])⟩

set_option maxHeartbeats 1600000 in
set_option maxRecDepth 100000 in
theorem doc_namesText (B : Nat) (v : Value) (l : List Nat) (w : World) (hl : l.length ≤ 801) (hok : ∀ n ∈ l, nmB (n : Nat) = true) (hns : BsAt B w v l) :
    Calls Tryz.prog 92 #[v] w fun e w' => e = .returned (strV (ordT [44] (l.map fun c => [b8 c]))) ∧ Below w.heap.size w w' := by
  obtain ⟨i0, hi, hz0, hz1, hz2⟩ := info_parts Tryz.infoStr
  obtain ⟨ao, cap, rfl, hcell⟩ : ∃ ao cap, v = .slice ao l.length cap ∧ ∀ j (h : j < l.length), ∃ g, ao = some ⟨g, 0, none⟩ ∧ g < w.heap.size ∧ w.cell? ⟨g, j, none⟩ = some (.int .u8 (l[j] : Int)) := by
    rcases bs_row hns with ⟨rfl, rfl⟩ | ⟨g, cap, rfl, hg, hx⟩
    · exact ⟨none, 0, rfl, fun j h => by simp at h⟩
    · exact ⟨_, _, rfl, fun j h => ⟨g, rfl, hg, hx j h⟩⟩
  have HC : Hid _ := hcell
  have HOK : Hid (∀ n ∈ l, nmB (n : Nat) = true) := hok
  clear hcell hns hok
  go_enter Tryz.func92, Tryz.ntmps92
  go_wp2
  go_loopw [3, 8] (fun o i wr => ∃ k : Nat, k ≤ l.length ∧ i = .int .i64 k ∧ wr.ownsRow w.heap.size 9 1 o k ((l.map fun (c : Nat) => strV [b8 c]).take k) ∧ Below w.heap.size w wr) (fun _ i _ => l.length - (intOf i).toNat)
  case atStart => exact ⟨0, by omega, rfl, World.ownsRow_nil _ _ _ _, Below.refl _ _⟩
  case round =>
    obtain ⟨k, hk, rfl, hown, hb⟩ := hrel
    have hbs := hb.size
    by_cases hlt : k < l.length
    · obtain ⟨g, rfl, hg, x0⟩ := HC.out k hlt
      rw [← hb.cell (p := ⟨g, _, none⟩) hg] at x0
      have hn : l[k] < 256 := nm_lt (HOK.out _ (List.getElem_mem _))
      have HS : Hid ((l.map (fun (c : Nat) => strV [b8 c])).take (k + 1) = (l.map (fun (c : Nat) => strV [b8 c])).take k ++ [strV [b8 l[k]]]) := by show _ = _; rw [List.take_succ_eq_append_getElem (by simpa using hlt), List.getElem_map]
      generalize l[k] = N at *
      have hcv := conv1 wr N hn
      have hown1 := hown.alloc (.cells #[.int .u8 N] 5)
      unfold strV at *
      go_wp2_with (at_builtin; refine wpList_append_own _ rfl _ _ 80 rfl w.heap.size 9 i0 (.string ByteArray.empty) 1 16 Tryz.underlying80 hi hz0 hz1 hz2 rfl (by decide) _ _ _ rfl (hown1.alloc _) ⟨wr.heap.size + 1, 0, none⟩ 1 1 [.string (bs [b8 N])] rfl rfl ?c1 ?c2 ?c3 ?c4 ?c5 ?_)
      case c1 => have := cell_one_new (wr.alloc (.cells #[.int .u8 N] 5)) (.string (bs [b8 N])) 9; rwa [World.size_alloc] at this
      case c2 => intro u hu; simp at hu; subst hu; rfl
      case c3 => unfold maxLen; omega
      case c4 => omega
      case c5 => simp; omega
      intro v' w2 hown' hgrow _
      have HB2 : Hid (Below w.heap.size w w2) := ((hb.alloc hbs _).alloc (by simp; omega) _).grown hgrow (by simp; omega) (fun j hj => (hown1.lt j hj).1)
      have HO2 : Hid (w2.ownsRow w.heap.size 9 1 v' (k + 1) ((l.map fun (c : Nat) => Value.string (bs [b8 c])).take (k + 1))) := by show World.ownsRow _ _ _ _ _ _ _; rw [HS.out]; exact hown'
      clear hown' hgrow hown1 hown hb
      go_wp2
      go_roundw
      case rel => exact ⟨k + 1, by omega, by go_num, HO2.out, HB2.out⟩
      case measure => simp [intOf]; omega
    · have hkl : k = l.length := by omega
      have hst := StAt.ofMap (f := fun (c : Nat) => [b8 c]) hown hkl
      have HST : Hid _ := hst
      have HB : Hid (Below w.heap.size w wr) := hb
      clear hst hown hb hkl
      go_wp2_with fail
      refine (doc_inOrder _ (l.map fun c => [b8 c]) (bs [44]) _ (by simp; omega) (fun a ha => by obtain ⟨c, hc, rfl⟩ := List.mem_map.1 ha; simp) (by decide) HST.out).mono ?_
      rintro e w1 ⟨rfl, rfl⟩
      rw [bs_list]
      go_wp2
      go_ret
      exact ⟨rfl, HB.out⟩

end Go.Proofs.YthgabjpffenjmaaGreatDoor

namespace Go.Proofs.YthgabjpffenjmaaGreatDoor
open Go.RowKit

/-- A package in its usual form, without its last sign. -/
def pkS0 (p : Pk) : List UInt8 := [b8 p.n, b8 p.v] ++ mkT p.m ++ [58] ++ ordT [44] (p.needs.map ndS) ++ [58] ++ ordT [44] (p.conf.map cnT) ++ [58] ++ ordT [44] (p.prov.map fun c => [b8 c])
def pkS (p : Pk) : List UInt8 := pkS0 p ++ [59]
structure PkSm (p : Pk) : Prop where
  needs : p.needs.length ≤ 801
  need : ∀ n ∈ p.needs, n.length ≤ 801
  conf : p.conf.length ≤ 801
  prov : p.prov.length ≤ 801
theorem mkT_len (m : Nat) : (mkT m).length ≤ 2 := by
  unfold mkT
  split
  · simp
  · split
    · simp
    · split <;> simp
theorem nsS_len (l : List (List Cn)) (h : l.length ≤ 801) (h2 : ∀ n ∈ l, n.length ≤ 801) : (ordT [44] (l.map ndS)).length ≤ 2600000 := by
  have := ordT_len [44] (l.map ndS) 3204 (fun a ha => by obtain ⟨c, hc, rfl⟩ := List.mem_map.1 ha; exact ndS_len c (h2 c hc))
  simp at this
  omega
theorem csS_len (l : List Cn) (h : l.length ≤ 801) : (ordT [44] (l.map cnT)).length ≤ 4000 := by
  have := ordT_len [44] (l.map cnT) 3 (fun a ha => by obtain ⟨c, _, rfl⟩ := List.mem_map.1 ha; exact cnT_len c)
  simp at this
  omega
theorem nmS_len (l : List Nat) (h : l.length ≤ 801) : (ordT [44] (l.map fun c => [b8 c])).length ≤ 2000 := by
  have := ordT_len [44] (l.map fun c => [b8 c]) 1 (fun a ha => by obtain ⟨c, _, rfl⟩ := List.mem_map.1 ha; simp)
  simp at this
  omega

set_option maxHeartbeats 1600000 in
set_option maxRecDepth 100000 in
theorem doc_packText (B : Nat) (p : Pk) (an : Option Addr) (nn cn : Nat) (ac : Option Addr) (nc cc : Nat) (ap : Option Addr) (np cp : Nat) (w : World) (hsm : PkSm p) (hok : PkOk p) (hp : PkAt B w p (.slice an nn cn) (.slice ac nc cc) (.slice ap np cp)) :
    Calls Tryz.prog 49 #[.agg #[.int .u8 p.n, .int .u8 p.v, .int .i64 p.m, .slice an nn cn, .slice ac nc cc, .slice ap np cp]] w fun e w' => e = .returned (strV (pkS p)) ∧ Below w.heap.size w w' := by
  have hn := nm_lt hok.n
  have hv := vr_lt hok.v
  have hcv := conv2 (w.alloc (.cells #[.int .u8 p.n, .int .u8 p.v, .int .i64 p.m, .slice an nn cn, .slice ac nc cc, .slice ap np cp] 101)) p.n p.v hn hv
  rw [World.size_alloc] at hcv
  have HP : Hid (PkAt B w p (.slice an nn cn) (.slice ac nc cc) (.slice ap np cp)) := hp
  have HOK : Hid (PkOk p) := hok
  have HSM : Hid (PkSm p) := hsm
  clear hp hok hsm
  go_enter Tryz.func49, Tryz.ntmps49
  go_wp2_with fail
  refine (doc_markText p.m HOK.out.m _).mono ?_
  rintro e w1 ⟨rfl, rfl⟩
  have hbx : Below w.heap.size w ((w.alloc (.cells #[.int .u8 p.n, .int .u8 p.v, .int .i64 p.m, .slice an nn cn, .slice ac nc cc, .slice ap np cp] 101)).alloc (.cells #[.int .u8 p.n, .int .u8 p.v] 5)) := ((Below.refl _ _).alloc (Nat.le_refl _) _).alloc (by simp) _
  have HBX : Hid _ := hbx
  clear hbx
  go_wp2_with fail
  refine (doc_needsText B (.slice an nn cn) p.needs _ HSM.out.needs HSM.out.need HOK.out.needs (HP.out.1.kp ((Kp.refl _ _).below HBX.out))).mono ?_
  rintro e w2 ⟨rfl, hb2⟩
  have hblk := blk_below hb2 (blk_old (blk_new w (.cells #[.int .u8 p.n, .int .u8 p.v, .int .i64 p.m, .slice an nn cn, .slice ac nc cc, .slice ap np cp] 101)) (.cells #[.int .u8 p.n, .int .u8 p.v] 5)) (by simp; omega)
  have HB2 : Hid (Below w.heap.size w w2) := HBX.out.trans (hb2.mono (by simp; omega))
  have HBK2 : Hid _ := hblk
  have x4 : w2.cell? ⟨w.heap.size, 4, none⟩ = some (.slice ac nc cc) := by rw [cellAt hblk]; rfl
  clear hb2 hblk hcv HBX
  go_wp2_with fail
  refine (doc_constraintsText B (.slice ac nc cc) p.conf (bs [44]) _ HSM.out.conf HOK.out.conf (by decide) (HP.out.2.1.kp ((Kp.refl _ _).below HB2.out))).mono ?_
  rintro e w3 ⟨rfl, hb3⟩
  rw [bs_list]
  have hblk := blk_below hb3 HBK2.out (ltAt HBK2.out)
  have HB3 : Hid (Below w.heap.size w w3) := HB2.out.trans (hb3.mono HB2.out.size)
  have x5 : w3.cell? ⟨w.heap.size, 5, none⟩ = some (.slice ap np cp) := by rw [cellAt hblk]; rfl
  clear hb3 hblk HBK2 HB2 x4
  go_wp2_with fail
  refine (doc_namesText B (.slice ap np cp) p.prov _ HSM.out.prov HOK.out.prov (HP.out.2.2.kp ((Kp.refl _ _).below HB3.out))).mono ?_
  rintro e w4 ⟨rfl, hb4⟩
  have HB4 : Hid (Below w.heap.size w w4) := HB3.out.trans (hb4.mono HB3.out.size)
  clear hb4 HB3 x5
  have HE : Hid (bs (pkS p) = bs [b8 p.n, b8 p.v] ++ bs (mkT p.m) ++ bs [58] ++ bs (ordT [44] (p.needs.map ndS)) ++ bs [58] ++ bs (ordT [44] (p.conf.map cnT)) ++ bs [58] ++ bs (ordT [44] (p.prov.map fun c => [b8 c])) ++ bs [59]) := by
    show _ = _; simp only [bs_app]; rfl
  have s1 : (bs (mkT p.m)).size ≤ 2 := by rw [bs_size]; exact mkT_len _
  have s2 : (bs (ordT [44] (p.needs.map ndS))).size ≤ 2600000 := by rw [bs_size]; exact nsS_len _ HSM.out.needs HSM.out.need
  have s3 : (bs (ordT [44] (p.conf.map cnT))).size ≤ 4000 := by rw [bs_size]; exact csS_len _ HSM.out.conf
  have s4 : (bs (ordT [44] (p.prov.map fun c => [b8 c]))).size ≤ 2000 := by rw [bs_size]; exact nmS_len _ HSM.out.prov
  have s0 : (bs [b8 p.n, b8 p.v]).size ≤ 2 := by rw [bs_size]; simp
  unfold strV
  generalize bs (mkT p.m) = M at *
  generalize bs (ordT [44] (p.needs.map ndS)) = N at *
  generalize bs (ordT [44] (p.conf.map cnT)) = C at *
  generalize bs (ordT [44] (p.prov.map fun c => [b8 c])) = Q at *
  generalize bs [b8 p.n, b8 p.v] = I at *
  go_wp2
  go_ret
  exact ⟨ret_str (by rw [HE.out]; rfl), HB4.out⟩

theorem pkS_len (p : Pk) (h : PkSm p) : (pkS p).length ≤ 2700000 := by
  have h1 := mkT_len p.m
  have h2 := nsS_len p.needs h.needs h.need
  have h3 := csS_len p.conf h.conf
  have h4 := nmS_len p.prov h.prov
  unfold pkS pkS0
  simp only [List.length_append, List.length_cons, List.length_nil]
  omega

/-- Packages in a row, each with what it leads to. -/
theorem pks_row2 {B : Nat} {w : World} {v : Value} {ps : List Pk} (h : PksAt B w v ps) : (v = .slice none 0 0 ∧ ps = []) ∨ ∃ g cap, v = .slice (some ⟨g, 0, none⟩) ps.length cap ∧ g < w.heap.size ∧ ∀ j (h : j < ps.length), ∃ an nn cn ac nc cc ap np cp, (w.cell? ⟨g, j * 6, none⟩ = some (.int .u8 ps[j].n) ∧ w.cell? ⟨g, j * 6 + 1, none⟩ = some (.int .u8 ps[j].v) ∧ w.cell? ⟨g, j * 6 + 2, none⟩ = some (.int .i64 ps[j].m) ∧
    w.cell? ⟨g, j * 6 + 3, none⟩ = some (.slice an nn cn) ∧ w.cell? ⟨g, j * 6 + 4, none⟩ = some (.slice ac nc cc) ∧ w.cell? ⟨g, j * 6 + 5, none⟩ = some (.slice ap np cp)) ∧ PkAt B w ps[j] (.slice an nn cn) (.slice ac nc cc) (.slice ap np cp) := by
  obtain ⟨css, h1, h2⟩ := h
  rcases own_shape h1 with ⟨rfl, h0⟩ | ⟨g, cap, rfl, hc⟩
  · exact Or.inl ⟨rfl, List.eq_nil_of_length_eq_zero h0⟩
  · refine Or.inr ⟨g, cap, rfl, own_lt h1, fun j hj => ?_⟩
    obtain ⟨c, hcj, vn, vc, vp, rfl, hp⟩ := h2.get (j := j) (List.getElem?_eq_getElem hj)
    have h6 : ∀ c ∈ css, c.length = 6 := All2.forall (Q := fun c : List Value => c.length = 6) (fun a b ⟨_, _, _, e, _⟩ => by rw [e]; rfl) h2
    have hf : ∀ k, k < 6 → css.flatten[j * 6 + k]? = (pkCells ps[j] vn vc vp)[k]? := fun k hk => by rw [flat_get 6 css h6 j k hk, hcj]; rfl
    obtain ⟨an, nn, cn, rfl⟩ := shape3 hp.1
    obtain ⟨ac, nc, cc, rfl⟩ : ∃ a n c, vc = .slice a n c := by rcases own_shape hp.2.1 with ⟨rfl, _⟩ | ⟨g, cap, rfl, _⟩ <;> exact ⟨_, _, _, rfl⟩
    obtain ⟨ap, np, cp, rfl⟩ : ∃ a n c, vp = .slice a n c := by rcases own_shape hp.2.2 with ⟨rfl, _⟩ | ⟨g, cap, rfl, _⟩ <;> exact ⟨_, _, _, rfl⟩
    exact ⟨an, nn, cn, ac, nc, cc, ap, np, cp, ⟨own_cell h1 _ _ (hf 0 (by omega)), own_cell h1 _ _ (hf 1 (by omega)), own_cell h1 _ _ (hf 2 (by omega)), own_cell h1 _ _ (hf 3 (by omega)), own_cell h1 _ _ (hf 4 (by omega)), own_cell h1 _ _ (hf 5 (by omega))⟩, hp⟩

structure DcSm (d : Dc) : Prop where
  packs : d.packs.length ≤ 801
  pack : ∀ p ∈ d.packs, PkSm p
  ins : d.ins.length ≤ 801
  rem : d.rem.length ≤ 801
  upg : d.upg.length ≤ 801
def dcS (d : Dc) : List UInt8 := ordT [] (d.packs.map pkS) ++ [47] ++ ordT [44] (d.ins.map cnT) ++ [47] ++ ordT [44] (d.rem.map cnT) ++ [47] ++ ordT [44] (d.upg.map cnT)

set_option maxHeartbeats 1600000 in
set_option maxRecDepth 100000 in
theorem doc_Show (B : Nat) (d : Dc) (ap : Option Addr) (np cp : Nat) (ai : Option Addr) (ni ci : Nat) (ar : Option Addr) (nr cr : Nat) (au : Option Addr) (nu cu : Nat) (w : World) (hsm : DcSm d) (hok : DcOk d) (hd : DcAt B w d (.slice ap np cp) (.slice ai ni ci) (.slice ar nr cr) (.slice au nu cu)) :
    Calls Tryz.prog 24 #[.agg #[.slice ap np cp, .slice ai ni ci, .slice ar nr cr, .slice au nu cu]] w fun e w' => e = .returned (strV (dcS d)) ∧ Below w.heap.size w w' := by
  obtain ⟨i0, hi, hz0, hz1, hz2⟩ := info_parts Tryz.infoStr
  have hnp : np = d.packs.length := by
    rcases pks_row2 hd.1 with ⟨h, h0⟩ | ⟨g, cap, h, _⟩
    · injection h with _ h _; rw [h0]; exact h
    · injection h with _ h _
  subst hnp
  have hrow : ∀ j (h : j < d.packs.length), ∃ g, ap = some ⟨g, 0, none⟩ ∧ g < w.heap.size ∧ ∃ an nn cn ac nc cc ap np cp, (w.cell? ⟨g, j * 6, none⟩ = some (.int .u8 d.packs[j].n) ∧ w.cell? ⟨g, j * 6 + 1, none⟩ = some (.int .u8 d.packs[j].v) ∧ w.cell? ⟨g, j * 6 + 2, none⟩ = some (.int .i64 d.packs[j].m) ∧
    w.cell? ⟨g, j * 6 + 3, none⟩ = some (.slice an nn cn) ∧ w.cell? ⟨g, j * 6 + 4, none⟩ = some (.slice ac nc cc) ∧ w.cell? ⟨g, j * 6 + 5, none⟩ = some (.slice ap np cp)) ∧ PkAt B w d.packs[j] (.slice an nn cn) (.slice ac nc cc) (.slice ap np cp) := by
    intro j hj
    rcases pks_row2 hd.1 with ⟨_, h0⟩ | ⟨g, cap, h, hg, hx⟩
    · rw [h0] at hj; simp at hj
    · injection h with h _ _
      exact ⟨g, h, hg, hx j hj⟩
  have HR : Hid _ := hrow
  have HD : Hid (DcAt B w d (.slice ap d.packs.length cp) (.slice ai ni ci) (.slice ar nr cr) (.slice au nu cu)) := hd
  have HOK : Hid (DcOk d) := hok
  have HSM : Hid (DcSm d) := hsm
  have hpl := hsm.packs
  clear hrow hd hok hsm
  generalize hps : d.packs = ps at *
  have HPS : Hid (d.packs = ps) := hps
  clear hps
  go_enter Tryz.func24, Tryz.ntmps24
  go_wp2
  go_loopw [3, 14] (fun o i wr => ∃ k : Nat, k ≤ ps.length ∧ i = .int .i64 k ∧ wr.ownsRow (w.heap.size + 1) 9 1 o k ((ps.map fun c => strV (pkS c)).take k) ∧ Below w.heap.size w wr ∧ wr.heap[w.heap.size]? = some (.cells #[.slice ap ps.length cp, .slice ai ni ci, .slice ar nr cr, .slice au nu cu] 50 (0, 0))) (fun _ i _ => ps.length - (intOf i).toNat)
  case atStart => exact ⟨0, by omega, rfl, World.ownsRow_nil _ _ _ _, (Below.refl _ _).alloc (Nat.le_refl _) _, blk_new _ _⟩
  case round =>
    obtain ⟨k, hk, rfl, hown, hb, hblk⟩ := hrel
    have hbs := hb.size
    have hHlt := ltAt hblk
    by_cases hlt : k < ps.length
    · obtain ⟨g, rfl, hg, an, nn, cn, ac, nc, cc, ap', np, cp', ⟨x0, x1, x2, x3, x4, x5⟩, hpk⟩ := HR.out k hlt
      rw [← hb.cell (p := ⟨g, _, none⟩) hg] at x0 x1 x2 x3 x4 x5
      have hpk' : PkAt B wr ps[k] (.slice an nn cn) (.slice ac nc cc) (.slice ap' np cp') := hpk.kp ((Kp.refl _ _).below hb)
      have hpo : PkOk ps[k] := HOK.out.packs _ (by rw [HPS.out]; exact List.getElem_mem _)
      have hps : PkSm ps[k] := HSM.out.pack _ (by rw [HPS.out]; exact List.getElem_mem _)
      have HS : Hid ((ps.map (fun c => strV (pkS c))).take (k + 1) = (ps.map (fun c => strV (pkS c))).take k ++ [strV (pkS ps[k])]) := by show _ = _; rw [List.take_succ_eq_append_getElem (by simpa using hlt), List.getElem_map]
      generalize ps[k] = P at *
      have HPK : Hid (PkAt B wr P (.slice an nn cn) (.slice ac nc cc) (.slice ap' np cp') ∧ PkOk P ∧ PkSm P) := ⟨hpk', hpo, hps⟩
      have HBK : Hid _ := hblk
      clear hpk hpk' hpo hps hblk
      go_wp2_with fail
      refine (doc_packText B P an nn cn ac nc cc ap' np cp' _ HPK.out.2.2 HPK.out.2.1 (HPK.out.1.alloc _)).mono ?_
      rintro e w1 ⟨rfl, hb1⟩
      have hb1' : Below wr.heap.size wr w1 := ((Below.refl _ _).alloc (Nat.le_refl _) _).trans (hb1.mono (by simp))
      have hown1 := World.ownsRow.kept (row := none) hown ⟨hb1'.os, hb1'.tape, hb1'.output, hb1'.size, fun k hk _ => hb1'.block k hk⟩ (by rcases Value.ownBlock _ with _ | k <;> simp)
      have hs1 := hb1'.size
      have HB1 : Hid (Below w.heap.size w w1) := hb.trans (hb1'.mono hbs)
      have HBK1 : Hid (w1.heap[w.heap.size]? = _) := blk_below hb1' HBK.out (ltAt HBK.out)
      unfold strV at *
      clear hb1 hb1' hown HPK HBK
      go_wp2_with (at_builtin; refine wpList_append_own _ rfl _ _ 80 rfl (w.heap.size + 1) 9 i0 (.string ByteArray.empty) 1 16 Tryz.underlying80 hi hz0 hz1 hz2 rfl (by decide) _ _ _ rfl (hown1.alloc _) ⟨w1.heap.size, 0, none⟩ 1 1 [.string (bs (pkS P))] rfl rfl ?c1 ?c2 ?c3 ?c4 ?c5 ?_)
      case c1 => exact cell_one_new _ _ _
      case c2 => intro u hu; simp at hu; subst hu; rfl
      case c3 => unfold maxLen; omega
      case c4 => omega
      case c5 => simp; omega
      intro v' w2 hown' hgrow _
      have HB2 : Hid (Below w.heap.size w w2) := (HB1.out.alloc (by omega) _).grown hgrow (by simp; omega) (fun j hj => by have := (hown1.lt j hj).1; omega)
      have HBK2 : Hid (w2.heap[w.heap.size]? = _) := (hgrow.block w.heap.size (by simp; omega) (fun e => by have := (hown1.lt _ e.symm).1; omega)).trans (blk_old HBK1.out _)
      have HO2 : Hid (w2.ownsRow (w.heap.size + 1) 9 1 v' (k + 1) ((ps.map fun c => Value.string (bs (pkS c))).take (k + 1))) := by show World.ownsRow _ _ _ _ _ _ _; rw [HS.out]; exact hown'
      clear hown' hgrow hown1
      go_wp2
      go_roundw
      case rel => exact ⟨k + 1, by omega, by go_num, HO2.out, HB2.out, HBK2.out⟩
      case measure => simp [intOf]; omega
    · have hkl : k = ps.length := by omega
      have hst := StAt.ofMap (f := pkS) hown hkl
      have HST : Hid _ := hst
      have HB : Hid (Below w.heap.size w wr) := hb
      have HBK : Hid _ := hblk
      have HDr : Hid (DcAt B wr d (.slice ap ps.length cp) (.slice ai ni ci) (.slice ar nr cr) (.slice au nu cu)) := HD.out.kp ((Kp.refl _ _).below hb)
      have y1 : wr.cell? ⟨w.heap.size, 1, none⟩ = some (.slice ai ni ci) := by rw [cellAt hblk]; rfl
      clear hst hown hb hkl hblk HD HR
      go_wp2_with fail
      refine (doc_inOrder _ (ps.map pkS) (bs []) _ (by simp; omega) (fun a ha => by obtain ⟨c, hc, rfl⟩ := List.mem_map.1 ha; have := pkS_len c (HSM.out.pack c (by rw [HPS.out]; exact hc)); omega) (by decide) HST.out).mono ?_
      rintro e w1 ⟨rfl, rfl⟩
      rw [bs_list]
      go_wp2_with fail
      refine (doc_constraintsText B (.slice ai ni ci) d.ins (bs [44]) _ HSM.out.ins HOK.out.ins (by decide) HDr.out.2.1).mono ?_
      rintro e w2 ⟨rfl, hb2⟩
      rw [bs_list]
      have hk2 := blk_below hb2 HBK.out (ltAt HBK.out)
      have y2 : w2.cell? ⟨w.heap.size, 2, none⟩ = some (.slice ar nr cr) := by rw [cellAt hk2]; rfl
      have HBK2 : Hid _ := hk2
      have HD2 : Hid (DcAt B w2 d (.slice ap ps.length cp) (.slice ai ni ci) (.slice ar nr cr) (.slice au nu cu)) := HDr.out.kp ((Kp.refl _ _).below hb2)
      have HB2 : Hid (Below w.heap.size w w2) := HB.out.trans (hb2.mono HB.out.size)
      clear hb2 hk2 HBK HDr HB y1 HST
      go_wp2_with fail
      refine (doc_constraintsText B (.slice ar nr cr) d.rem (bs [44]) _ HSM.out.rem HOK.out.rem (by decide) HD2.out.2.2.1).mono ?_
      rintro e w3 ⟨rfl, hb3⟩
      rw [bs_list]
      have hk3 := blk_below hb3 HBK2.out (ltAt HBK2.out)
      have y3 : w3.cell? ⟨w.heap.size, 3, none⟩ = some (.slice au nu cu) := by rw [cellAt hk3]; rfl
      have HD3 : Hid (DcAt B w3 d (.slice ap ps.length cp) (.slice ai ni ci) (.slice ar nr cr) (.slice au nu cu)) := HD2.out.kp ((Kp.refl _ _).below hb3)
      have HB3 : Hid (Below w.heap.size w w3) := HB2.out.trans (hb3.mono HB2.out.size)
      clear hb3 hk3 HBK2 HD2 HB2 y2
      go_wp2_with fail
      refine (doc_constraintsText B (.slice au nu cu) d.upg (bs [44]) _ HSM.out.upg HOK.out.upg (by decide) HD3.out.2.2.2).mono ?_
      rintro e w4 ⟨rfl, hb4⟩
      rw [bs_list]
      have HB4 : Hid (Below w.heap.size w w4) := HB3.out.trans (hb4.mono HB3.out.size)
      clear hb4 HD3 HB3 y3
      have HE : Hid (bs (dcS d) = bs (ordT [] (ps.map pkS)) ++ bs [47] ++ bs (ordT [44] (d.ins.map cnT)) ++ bs [47] ++ bs (ordT [44] (d.rem.map cnT)) ++ bs [47] ++ bs (ordT [44] (d.upg.map cnT))) := by
        show _ = _; rw [← HPS.out]; simp only [bs_app]; rfl
      have s0 : (bs (ordT [] (ps.map pkS))).size ≤ 2162700000 := by
        rw [bs_size]
        have := ordT_len [] (ps.map pkS) 2700000 (fun a ha => by obtain ⟨c, hc, rfl⟩ := List.mem_map.1 ha; exact pkS_len c (HSM.out.pack c (by rw [HPS.out]; exact hc)))
        rw [List.length_map, List.length_nil, Nat.add_zero] at this
        exact Nat.le_trans this (Nat.mul_le_mul_right 2700000 hpl)
      have s1 : (bs (ordT [44] (d.ins.map cnT))).size ≤ 4000 := by rw [bs_size]; exact csS_len _ HSM.out.ins
      have s2 : (bs (ordT [44] (d.rem.map cnT))).size ≤ 4000 := by rw [bs_size]; exact csS_len _ HSM.out.rem
      have s3 : (bs (ordT [44] (d.upg.map cnT))).size ≤ 4000 := by rw [bs_size]; exact csS_len _ HSM.out.upg
      unfold strV
      generalize bs (ordT [] (ps.map pkS)) = A0 at *
      generalize bs (ordT [44] (d.ins.map cnT)) = A1 at *
      generalize bs (ordT [44] (d.rem.map cnT)) = A2 at *
      generalize bs (ordT [44] (d.upg.map cnT)) = A3 at *
      go_wp2
      go_ret
      exact ⟨ret_str (by rw [HE.out]; rfl), HB4.out⟩

end Go.Proofs.YthgabjpffenjmaaGreatDoor

namespace Go.Proofs.YthgabjpffenjmaaGreatDoor
open Go.RowKit

theorem join_cnt {x : UInt8} : ∀ {l : List (List UInt8)}, (∀ a ∈ l, a ≠ []) → l.length ≤ (joinT x l).length
  | [], _ => Nat.le_refl _
  | [a], h => by have := h a (by simp); cases a with | nil => exact absurd rfl this | cons b a => simp [joinT]
  | a :: b :: l, h => by
    have ih := join_cnt (x := x) (l := b :: l) (fun c hc => h c (by simp [hc]))
    rw [joinT_cons (by simp)]
    simp at ih ⊢
    omega
theorem ls_cnt (l : List Cn) : l.length ≤ (lsT l).length := by
  have := join_cnt (x := 44) (l := l.map cnT) (fun a ha => by obtain ⟨c, _, rfl⟩ := List.mem_map.1 ha; exact cn_ne c)
  rwa [List.length_map] at this
theorem nd_cnt (l : List Cn) : l.length ≤ (ndT l).length := by
  have := join_cnt (x := 124) (l := l.map cnT) (fun a ha => by obtain ⟨c, _, rfl⟩ := List.mem_map.1 ha; exact cn_ne c)
  rwa [List.length_map] at this
theorem ns_cnt {l : List (List Cn)} (h : ∀ n ∈ l, NdOk n) : l.length ≤ (nsT l).length := by
  have := join_cnt (x := 44) (l := l.map ndT) (fun a ha => by obtain ⟨c, hc, rfl⟩ := List.mem_map.1 ha; exact nd_ne (h c hc))
  rwa [List.length_map] at this
theorem nm_cnt (l : List Nat) : l.length ≤ (nmT l).length := by
  have := join_cnt (x := 44) (l := l.map fun c => [b8 c]) (fun a ha => by obtain ⟨c, _, rfl⟩ := List.mem_map.1 ha; simp)
  rwa [List.length_map] at this
theorem pks_cnt : ∀ (ps : List Pk), ps.length ≤ (pksT ps).length
  | [] => Nat.le_refl _
  | p :: ps => by
    have ih := pks_cnt ps
    unfold pksT at ih ⊢
    rw [List.flatMap_cons, List.length_append, List.length_cons]
    have : 1 ≤ (pkT p).length := by simp [pkT]
    omega
theorem dc_small {d : Dc} (hok : DcOk d) (h : (dcT d).length ≤ 800) : DcSm d := by
  have e : dcT d = joinT 47 [pksT d.packs, lsT d.ins, lsT d.rem, lsT d.upg] := by simp [dcT, joinT]
  have h0 : (pksT d.packs).length ≤ 800 := by have := join_len (c := 47) (l := [pksT d.packs, lsT d.ins, lsT d.rem, lsT d.upg]) (a := pksT d.packs) (by simp); rw [← e] at this; omega
  have h1 : (lsT d.ins).length ≤ 800 := by have := join_len (c := 47) (l := [pksT d.packs, lsT d.ins, lsT d.rem, lsT d.upg]) (a := lsT d.ins) (by simp); rw [← e] at this; omega
  have h2 : (lsT d.rem).length ≤ 800 := by have := join_len (c := 47) (l := [pksT d.packs, lsT d.ins, lsT d.rem, lsT d.upg]) (a := lsT d.rem) (by simp); rw [← e] at this; omega
  have h3 : (lsT d.upg).length ≤ 800 := by have := join_len (c := 47) (l := [pksT d.packs, lsT d.ins, lsT d.rem, lsT d.upg]) (a := lsT d.upg) (by simp); rw [← e] at this; omega
  have k0 := pks_cnt d.packs
  have k1 := ls_cnt d.ins
  have k2 := ls_cnt d.rem
  have k3 := ls_cnt d.upg
  refine ⟨by omega, fun p hp => ?_, by omega, by omega, by omega⟩
  have hpo := hok.packs p hp
  have hb : (pkB p).length ≤ 800 := by
    have h4 : (pkB p).length ≤ (pksT d.packs).length := by rw [pks_join]; exact join_len (by simp; left; exact ⟨p, hp, rfl⟩)
    omega
  have g1 : (nsT p.needs).length ≤ 800 := by have := join_len (c := 58) (l := [pkH p, nsT p.needs, lsT p.conf, nmT p.prov]) (a := nsT p.needs) (by simp); unfold pkB at hb; omega
  have g2 : (lsT p.conf).length ≤ 800 := by have := join_len (c := 58) (l := [pkH p, nsT p.needs, lsT p.conf, nmT p.prov]) (a := lsT p.conf) (by simp); unfold pkB at hb; omega
  have g3 : (nmT p.prov).length ≤ 800 := by have := join_len (c := 58) (l := [pkH p, nsT p.needs, lsT p.conf, nmT p.prov]) (a := nmT p.prov) (by simp); unfold pkB at hb; omega
  have c1 := ns_cnt hpo.needs
  have c2 := ls_cnt p.conf
  have c3 := nm_cnt p.prov
  refine ⟨by omega, fun n hn => ?_, by omega, by omega⟩
  have c4 := nd_cnt n
  have c5 : (ndT n).length ≤ (nsT p.needs).length := join_len (by simp; exact ⟨n, hn, rfl⟩)
  omega

/-- What stands where Check finds no error. -/
theorem rd_ok {t : List UInt8} (h : rdE t = 0) : t = dcT (dcV t) ∧ DcOk (dcV t) ∧ t.length ≤ 800 ∧ (dcV t).packs.length ≤ 20 ∧ ¬ ftT (dcV t).packs < (dcV t).packs.length := by
  unfold rdE at h
  split at h
  · cases h
  · split at h
    · cases h
    · split at h
      · cases h
      · split at h
        · cases h
        · rename_i h1 h2 h3 h4
          obtain ⟨r1, _⟩ := dc_run t
          obtain ⟨_, r2, r3⟩ := r1 (by simpa using h2)
          exact ⟨r2, r3, by omega, by omega, h4⟩

/-- Show's answer. -/
def shT (t : List UInt8) : List UInt8 := if rdE t = 0 then dcS (dcV t) else []

set_option maxHeartbeats 800000 in
set_option maxRecDepth 100000 in
theorem up_Show (s : ByteArray) (w : World) (hs : s.size ≤ maxLen) : Calls Tryz.prog 12 #[.string s] w fun e w' => e = .returned (.tuple #[.string (bs (shT s.data.toList)), .int .i64 (rdE s.data.toList)]) ∧ Below w.heap.size w w' := by
  by_cases h : rdE s.data.toList = 0
  · obtain ⟨r1, r2, r3, _⟩ := rd_ok h
    have HSM : Hid (DcSm (dcV s.data.toList)) := dc_small r2 (by rw [← r1]; exact r3)
    have HOK : Hid (DcOk (dcV s.data.toList)) := r2
    have HT : Hid (shT s.data.toList = dcS (dcV s.data.toList)) := by show _ = _; unfold shT; rw [if_pos h]
    have HE : Hid (rdE s.data.toList = 0) := h
    clear r1 r2 r3 h
    go_enter Tryz.func12, Tryz.ntmps12
    go_wp2_with fail
    refine (doc_Read s _ hs).mono ?_
    rintro e w1 ⟨ap, np, cp, ai, ni, ci, ar, nr, cr, au, nu, cu, rfl, hb, hd⟩
    have HD : Hid (DcAt (w.heap.size + 1) w1 (dcV s.data.toList) (.slice ap np cp) (.slice ai ni ci) (.slice ar nr cr) (.slice au nu cu)) := hd HE.out
    have HB : Hid (Below w.heap.size w w1) := hb
    have hz : ((rdE s.data.toList : Int) != 0) = false := by rw [HE.out]; rfl
    clear hd hb
    go_wp2_with fail
    refine (doc_Show (w.heap.size + 1) (dcV s.data.toList) ap np cp ai ni ci ar nr cr au nu cu _ HSM.out HOK.out (HD.out.alloc _)).mono ?_
    rintro e w2 ⟨rfl, hb2⟩
    have HB2 : Hid (Below w.heap.size w w2) := (HB.out.alloc HB.out.size _).trans (hb2.mono (by have := HB.out.size; simp; omega))
    clear hb2 HB HD
    unfold strV
    go_wp2
    go_ret2
    exact ⟨by rw [HT.out, HE.out]; rfl, HB2.out⟩
  · have HT : Hid (shT s.data.toList = []) := by show _ = _; unfold shT; rw [if_neg h]
    have hz : ((rdE s.data.toList : Int) != 0) = true := by rw [bne_iff_ne]; omega
    go_enter Tryz.func12, Tryz.ntmps12
    go_wp2_with fail
    refine (doc_Read s _ hs).mono ?_
    rintro e w1 ⟨ap, np, cp, ai, ni, ci, ar, nr, cr, au, nu, cu, rfl, hb, hd⟩
    have HB : Hid (Below w.heap.size w w1) := hb
    clear hd hb
    go_wp2_with fail
    go_quiet (fail)
    go_wp2
    go_ret2
    exact ⟨by rw [HT.out]; rfl, (HB.out.alloc HB.out.size _).trans ⟨rfl, rfl, rfl, Nat.le_refl _, fun _ _ => rfl⟩⟩

end Go.Proofs.YthgabjpffenjmaaGreatDoor
