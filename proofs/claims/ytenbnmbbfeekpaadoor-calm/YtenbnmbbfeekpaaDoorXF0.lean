import Derived.Test.YtenbnmbbfeekpaaDoorXA
import Derived.Test.YtenbnmbbfeekpaaDoorXC
import Derived.Test.YtenbnmbbfeekpaaDoorXO0

/-
  A list in its usual order, each part once: plain mathematics.
-/
namespace Go.Proofs.YtenbnmbbfeekpaaDoor

def gtB (a b : List UInt8) : Bool := !(Op.bytesLess a b || a == b)
def selStep (fl le x : List UInt8) : List UInt8 := if gtB x fl && (le.isEmpty || Op.bytesLess x le) then x else le
/-- The least part above the floor, or the empty text. -/
def sel (l : List (List UInt8)) (fl : List UInt8) : List UInt8 := l.foldl (selStep fl) []
def ordGo (sep : List UInt8) (l : List (List UInt8)) : Nat → List UInt8 → List UInt8 → List UInt8
  | 0, t, _ => t
  | f + 1, t, last => if (sel l last).isEmpty then t else ordGo sep l f (t ++ (if last.isEmpty then [] else sep) ++ sel l last) (sel l last)
def ordT (sep : List UInt8) (l : List (List UInt8)) : List UInt8 := ordGo sep l l.length [] []

theorem sel_snoc (l : List (List UInt8)) (x fl : List UInt8) : sel (l ++ [x]) fl = selStep fl (sel l fl) x := by simp [sel]

/-- What is selected is one of the parts, or nothing. -/
theorem sel_mem (fl : List UInt8) : ∀ (l : List (List UInt8)) (le : List UInt8), l.foldl (selStep fl) le = le ∨ l.foldl (selStep fl) le ∈ l
  | [], le => Or.inl rfl
  | x :: l, le => by
    rw [List.foldl_cons]
    rcases sel_mem fl l (selStep fl le x) with h | h
    · rw [h]
      unfold selStep
      split
      · right; simp
      · left; rfl
    · right; simp [h]

/-- Two ways of writing the same things, in the same order. -/
structure Same {α : Type} (ps : List α) (f g : α → List UInt8) : Prop where
  lt : ∀ p ∈ ps, ∀ q ∈ ps, Op.bytesLess (f p) (f q) = Op.bytesLess (g p) (g q)
  eq : ∀ p ∈ ps, ∀ q ∈ ps, (f p == f q) = (g p == g q)
  nf : ∀ p ∈ ps, (f p).isEmpty = false
  ng : ∀ p ∈ ps, (g p).isEmpty = false

def optT {α : Type} (f : α → List UInt8) : Option α → List UInt8
  | none => []
  | some p => f p

theorem gt_nil {a : List UInt8} (h : a.isEmpty = false) : gtB a [] = true := by
  cases a with
  | nil => cases h
  | cons x a => simp [gtB, Op.bytesLess]

theorem sel_same {α : Type} {ps : List α} {f g : α → List UInt8} (S : Same ps f g) : ∀ (qs : List α), (∀ q ∈ qs, q ∈ ps) → ∀ (fl le : Option α), (∀ p, fl = some p → p ∈ ps) → (∀ p, le = some p → p ∈ ps) →
    ∃ r : Option α, (∀ p, r = some p → p ∈ ps) ∧ (qs.map f).foldl (selStep (optT f fl)) (optT f le) = optT f r ∧ (qs.map g).foldl (selStep (optT g fl)) (optT g le) = optT g r
  | [], _, fl, le, _, hle => ⟨le, hle, rfl, rfl⟩
  | q :: qs, hq, fl, le, hfl, hle => by
    have hqp : q ∈ ps := hq q (by simp)
    have hgt : gtB (f q) (optT f fl) = gtB (g q) (optT g fl) := by
      cases fl with
      | none => simp only [optT]; rw [gt_nil (S.nf q hqp), gt_nil (S.ng q hqp)]
      | some p => simp only [optT, gtB]; rw [S.lt q hqp p (hfl p rfl), S.eq q hqp p (hfl p rfl)]
    have hor : ((optT f le).isEmpty || Op.bytesLess (f q) (optT f le)) = ((optT g le).isEmpty || Op.bytesLess (g q) (optT g le)) := by
      cases le with
      | none => rfl
      | some p => simp only [optT]; rw [S.nf p (hle p rfl), S.ng p (hle p rfl), S.lt q hqp p (hle p rfl)]
    simp only [List.map_cons, List.foldl_cons]
    by_cases h : (gtB (f q) (optT f fl) && ((optT f le).isEmpty || Op.bytesLess (f q) (optT f le))) = true
    · have e1 : selStep (optT f fl) (optT f le) (f q) = optT f (some q) := by unfold selStep; rw [if_pos h]; rfl
      have e2 : selStep (optT g fl) (optT g le) (g q) = optT g (some q) := by unfold selStep; rw [if_pos (by rw [← hgt, ← hor]; exact h)]; rfl
      rw [e1, e2]
      exact sel_same S qs (fun x hx => hq x (by simp [hx])) fl (some q) hfl (fun p hp => by injection hp with hp; rw [← hp]; exact hqp)
    · have e1 : selStep (optT f fl) (optT f le) (f q) = optT f le := by unfold selStep; rw [if_neg h]
      have e2 : selStep (optT g fl) (optT g le) (g q) = optT g le := by unfold selStep; rw [if_neg (by rw [← hgt, ← hor]; exact h)]
      rw [e1, e2]
      exact sel_same S qs (fun x hx => hq x (by simp [hx])) fl le hfl hle

theorem opt_empty {α : Type} {ps : List α} {f g : α → List UInt8} (S : Same ps f g) {r : Option α} (h : ∀ p, r = some p → p ∈ ps) : (optT f r).isEmpty = r.isNone ∧ (optT g r).isEmpty = r.isNone := by
  cases r with
  | none => exact ⟨rfl, rfl⟩
  | some p => exact ⟨S.nf p (h p rfl), S.ng p (h p rfl)⟩

/-- The parts with their sign behind each, or the sign between: but for the last one the same. -/
theorem ord_same {α : Type} {ps : List α} {f g : α → List UInt8} (S : Same ps f g) (x : List UInt8) (hfg : ∀ p ∈ ps, f p = g p ++ x) : ∀ (n : Nat) (u : List UInt8) (last : α), last ∈ ps →
    ordGo [] (ps.map f) n (u ++ x) (f last) = ordGo x (ps.map g) n u (g last) ++ x
  | 0, u, last, hl => rfl
  | n + 1, u, last, hl => by
    obtain ⟨r, hr, e1, e2⟩ := sel_same S ps (fun q hq => hq) (some last) none (fun p hp => by injection hp with hp; rw [← hp]; exact hl) (fun p hp => by cases hp)
    have e1' : sel (ps.map f) (f last) = optT f r := e1
    have e2' : sel (ps.map g) (g last) = optT g r := e2
    obtain ⟨m1, m2⟩ := opt_empty S hr
    rw [ordGo, ordGo, e1', e2', m1, m2, S.nf last hl, S.ng last hl]
    cases r with
    | none => rfl
    | some p =>
      have hp := hr p rfl
      simp only [optT, Option.isNone_some, Bool.false_eq_true, if_false]
      have ih := ord_same S x hfg n (u ++ x ++ g p) p hp
      rw [hfg p hp] at ih ⊢
      rw [← ih]
      simp
theorem ord_first {α : Type} {ps : List α} {f g : α → List UInt8} (S : Same ps f g) (x : List UInt8) (hfg : ∀ p ∈ ps, f p = g p ++ x) (hne : ps ≠ []) : ordT [] (ps.map f) = ordT x (ps.map g) ++ x := by
  unfold ordT
  obtain ⟨n, hn⟩ : ∃ n, ps.length = n + 1 := ⟨ps.length - 1, by have := List.length_pos_iff.2 hne; omega⟩
  rw [List.length_map, List.length_map, hn]
  obtain ⟨r, hr, e1, e2⟩ := sel_same S ps (fun q hq => hq) none none (fun p hp => by cases hp) (fun p hp => by cases hp)
  have e1' : sel (ps.map f) [] = optT f r := e1
  have e2' : sel (ps.map g) [] = optT g r := e2
  obtain ⟨m1, m2⟩ := opt_empty S hr
  rw [ordGo, ordGo, e1', e2', m1, m2]
  cases r with
  | some p =>
    have hp := hr p rfl
    simp only [optT, Option.isNone_some, Bool.false_eq_true, if_false, List.isEmpty_nil, if_true, List.nil_append]
    have ih := ord_same S x hfg n (g p) p hp
    rw [← hfg p hp] at ih
    exact ih
  | none =>
    -- the first of all parts is above the empty text: something is selected
    exfalso
    obtain ⟨q, qs, rfl⟩ : ∃ q qs, ps = q :: qs := by cases ps with | nil => exact absurd rfl hne | cons q qs => exact ⟨q, qs, rfl⟩
    have hq : (f q).isEmpty = false := S.nf q (by simp)
    have key : ∀ (l : List (List UInt8)) (le : List UInt8), (∀ a ∈ l, a.isEmpty = false) → le.isEmpty = false → (l.foldl (selStep []) le).isEmpty = false := by
      intro l
      induction l with
      | nil => intro le _ h; exact h
      | cons a l ih =>
        intro le hl h
        rw [List.foldl_cons]
        refine ih _ (fun b hb => hl b (by simp [hb])) ?_
        unfold selStep
        split
        · exact hl a (by simp)
        · exact h
    have h1 := key (qs.map f) (f q) (fun a ha => by obtain ⟨p, hp, rfl⟩ := List.mem_map.1 ha; exact S.nf p (by simp [hp])) hq
    have h2 : sel ((q :: qs).map f) [] = (qs.map f).foldl (selStep []) (f q) := by
      unfold sel
      rw [List.map_cons, List.foldl_cons]
      congr 1
      unfold selStep
      rw [gt_nil hq]
      simp
    rw [e1'] at h2
    rw [← h2] at h1
    simp [optT] at h1

end Go.Proofs.YtenbnmbbfeekpaaDoor

/-
  How a document is written in its usual form, and what a document without a fault is: the plain part, without the walks.
-/
namespace Go.Proofs.YtenbnmbbfeekpaaDoor
open Go.RowKit

theorem tl (l : List UInt8) : (bs l).toList = l := by rw [ByteArray.toList_eq, bs_list]

theorem bs_app (a b : List UInt8) : bs a ++ bs b = bs (a ++ b) := by
  apply ByteArray.ext
  simp [bs, ByteArray.data_append]

theorem ret_str {a b : ByteArray} (h : a = b) : Ending.returned (.string a) = .returned (.string b) := by rw [h]

/-- string([]byte{..}): the bytes lie in the newest block. -/
theorem conv_new (w : World) (l : List UInt8) : (convert 84 9 (.slice (some ⟨w.heap.size, 0, none⟩) l.length l.length)).run Tryd.prog (w.alloc (.cells (l.map fun b => Value.int .u8 (b.toNat : Int)).toArray 5)) = .ok (.string (bs l)) (w.alloc (.cells (l.map fun b => Value.int .u8 (b.toNat : Int)).toArray 5)) := by
  refine run_convert_bytes_back (P := Tryd.prog) _ 84 9 5 ⟨w.heap.size, 0, none⟩ l.length l Tryd.underlying84 Tryd.underlying5 Tryd.underlying9 (fun j hj => ?_)
  rw [Addr.add_lit, cellAt (blk_new _ _)]
  simp [hj]

theorem conv1 (w : World) (n : Nat) (hn : n < 256) : (convert 84 9 (.slice (some ⟨w.heap.size, 0, none⟩) 1 1)).run Tryd.prog (w.alloc (.cells #[.int .u8 n] 5)) = .ok (.string (bs [b8 n])) (w.alloc (.cells #[.int .u8 n] 5)) := by
  have := conv_new w [b8 n]
  simpa [b8_val hn] using this

theorem conv2 (w : World) (n m : Nat) (hn : n < 256) (hm : m < 256) : (convert 84 9 (.slice (some ⟨w.heap.size, 0, none⟩) 2 2)).run Tryd.prog (w.alloc (.cells #[.int .u8 n, .int .u8 m] 5)) = .ok (.string (bs [b8 n, b8 m])) (w.alloc (.cells #[.int .u8 n, .int .u8 m] 5)) := by
  have := conv_new w [b8 n, b8 m]
  simpa [b8_val hn, b8_val hm] using this

theorem conv3 (w : World) (n m k : Nat) (hn : n < 256) (hm : m < 256) (hk : k < 256) : (convert 84 9 (.slice (some ⟨w.heap.size, 0, none⟩) 3 3)).run Tryd.prog (w.alloc (.cells #[.int .u8 n, .int .u8 m, .int .u8 k] 5)) = .ok (.string (bs [b8 n, b8 m, b8 k])) (w.alloc (.cells #[.int .u8 n, .int .u8 m, .int .u8 k] 5)) := by
  have := conv_new w [b8 n, b8 m, b8 k]
  simpa [b8_val hn, b8_val hm, b8_val hk] using this

theorem nm_lt {n : Nat} (h : nmB n = true) : n < 256 := by have := nm_rng h; omega

theorem vr_lt {n : Nat} (h : vrB n = true) : n < 256 := by have := vr_rng h; omega

theorem sg_lt {n : Nat} (h : sgB n = true) : n < 256 ∧ n ≠ 0 := by have := sg_ne h; omega

theorem cs_row {B : Nat} {w : World} {v : Value} {l : List Cn} (h : CsAt B w v l) : (v = .slice none 0 0 ∧ l = []) ∨ ∃ g cap, v = .slice (some ⟨g, 0, none⟩) l.length cap ∧ g < w.heap.size ∧ ∀ j (h : j < l.length), w.cell? ⟨g, j * 3, none⟩ = some (.int .u8 l[j].n) ∧ w.cell? ⟨g, j * 3 + 1, none⟩ = some (.int .u8 l[j].s) ∧ w.cell? ⟨g, j * 3 + 2, none⟩ = some (.int .u8 l[j].v) := by
  rcases own_shape h with ⟨rfl, h0⟩ | ⟨g, cap, rfl, hc⟩
  · exact Or.inl ⟨rfl, List.eq_nil_of_length_eq_zero h0⟩
  · refine Or.inr ⟨g, cap, rfl, own_lt h, fun j hj => ?_⟩
    have h3 : ∀ c ∈ l.map cnCells, c.length = 3 := fun c hc => by obtain ⟨d, _, rfl⟩ := List.mem_map.1 hc; rfl
    have hf : ∀ k, k < 3 → (cnFlat l)[j * 3 + k]? = (cnCells l[j])[k]? := fun k hk => by
      unfold cnFlat
      rw [List.flatMap_def, flat_get 3 _ h3 j k hk]
      simp [hj]
    exact ⟨own_cell h _ _ (hf 0 (by omega)), own_cell h _ _ (hf 1 (by omega)), own_cell h _ _ (hf 2 (by omega))⟩

theorem StAt.ofMap {α : Type} {f : α → List UInt8} {l : List α} {w : World} {base k : Nat} {v : Value} (h : w.ownsRow base 9 1 v k ((l.map fun c => strV (f c)).take k)) (hk : k = l.length) : StAt w v (l.map f) := by
  subst hk
  rw [List.take_of_length_le (by simp)] at h
  refine StAt.of (base := base) ?_
  simpa [Function.comp_def] using h

theorem cnT_len (c : Cn) : (cnT c).length ≤ 3 := by unfold cnT; split <;> simp

theorem ord_len (sep : List UInt8) (l : List (List UInt8)) (M : Nat) (hM : ∀ a ∈ l, a.length ≤ M) : ∀ (n : Nat) (t last : List UInt8), (ordGo sep l n t last).length ≤ t.length + n * (M + sep.length)
  | 0, t, last => by simp [ordGo]
  | n + 1, t, last => by
    have hs : (sel l last).length ≤ M := by
      rcases sel_mem last l [] with h | h
      · unfold sel; rw [h]; simp
      · exact hM _ h
    rw [ordGo]
    split
    · omega
    · have ih := ord_len sep l M hM n (t ++ (if last.isEmpty then [] else sep) ++ sel l last) (sel l last)
      have h2 : (if last.isEmpty then [] else sep).length ≤ sep.length := by split <;> simp
      simp only [List.length_append] at ih
      rw [Nat.add_mul]
      omega

theorem ordT_len (sep : List UInt8) (l : List (List UInt8)) (M : Nat) (hM : ∀ a ∈ l, a.length ≤ M) : (ordT sep l).length ≤ l.length * (M + sep.length) := by
  have := ord_len sep l M hM l.length [] []
  simpa [ordT] using this

/-- A row of old memory is there later. -/
theorem own_below' {B : Nat} {w w' : World} {v : Value} {l : List Cn} (h : CsAt B w v l) (hb : Below w.heap.size w w') : CsAt B w' v l := h.kp ((Kp.refl _ _).below hb)

/-- A need in its usual form. -/
def ndS (n : List Cn) : List UInt8 := ordT [124] (n.map cnT)

theorem ndS_len (n : List Cn) (h : n.length ≤ 801) : (ndS n).length ≤ 3204 := by
  have := ordT_len [124] (n.map cnT) 3 (fun a ha => by obtain ⟨c, _, rfl⟩ := List.mem_map.1 ha; exact cnT_len c)
  simp at this
  unfold ndS
  omega

theorem ns_row {B : Nat} {w : World} {v : Value} {l : List (List Cn)} (h : NsAt B w v l) : (v = .slice none 0 0 ∧ l = []) ∨ ∃ g cap, v = .slice (some ⟨g, 0, none⟩) l.length cap ∧ g < w.heap.size ∧ ∀ j (h : j < l.length), ∃ a n c, w.cell? ⟨g, j, none⟩ = some (.slice a n c) ∧ CsAt B w (.slice a n c) l[j] := by
  obtain ⟨vs, h1, h2⟩ := h
  rcases own_shape h1 with ⟨rfl, h0⟩ | ⟨g, cap, rfl, hc⟩
  · exact Or.inl ⟨rfl, List.eq_nil_of_length_eq_zero h0⟩
  · refine Or.inr ⟨g, cap, rfl, own_lt h1, fun j hj => ?_⟩
    obtain ⟨u, hu, hcs⟩ := h2.get (j := j) (List.getElem?_eq_getElem hj)
    obtain ⟨a, n, c, rfl⟩ : ∃ a n c, u = .slice a n c := by rcases own_shape hcs with ⟨rfl, _⟩ | ⟨g, cap, rfl, _⟩ <;> exact ⟨_, _, _, rfl⟩
    exact ⟨a, n, c, own_cell h1 j _ hu, hcs⟩

theorem bs_row {B : Nat} {w : World} {v : Value} {l : List Nat} (h : BsAt B w v l) : (v = .slice none 0 0 ∧ l = []) ∨ ∃ g cap, v = .slice (some ⟨g, 0, none⟩) l.length cap ∧ g < w.heap.size ∧ ∀ j (h : j < l.length), w.cell? ⟨g, j, none⟩ = some (.int .u8 (l[j] : Int)) := by
  rcases own_shape h with ⟨rfl, h0⟩ | ⟨g, cap, rfl, hc⟩
  · exact Or.inl ⟨rfl, List.eq_nil_of_length_eq_zero h0⟩
  · exact Or.inr ⟨g, cap, rfl, own_lt h, fun j hj => own_cell h j _ (by simp [hj])⟩

/-- A package in its usual form, without its last sign. -/
def pkS0 (p : Pk) : List UInt8 := [b8 p.n, b8 p.v] ++ mkT p.m ++ [58] ++ ordT [44] (p.needs.map ndS) ++ [58] ++ ordT [44] (p.conf.map cnT) ++ [58] ++ ordT [44] (p.prov.map fun c => [b8 c])

def pkS (p : Pk) : List UInt8 := pkS0 p ++ [59]

structure PkSm (p : Pk) : Prop where
  needs : p.needs.length ≤ 801
  need : ∀ n ∈ p.needs, n.length ≤ 801
  conf : p.conf.length ≤ 801
  prov : p.prov.length ≤ 801

theorem mkT_len (m : Nat) : (mkT m).length ≤ 2 := by
  unfold mkT
  split
  · simp
  · split
    · simp
    · split <;> simp

theorem nsS_len (l : List (List Cn)) (h : l.length ≤ 801) (h2 : ∀ n ∈ l, n.length ≤ 801) : (ordT [44] (l.map ndS)).length ≤ 2600000 := by
  have := ordT_len [44] (l.map ndS) 3204 (fun a ha => by obtain ⟨c, hc, rfl⟩ := List.mem_map.1 ha; exact ndS_len c (h2 c hc))
  simp at this
  omega

theorem csS_len (l : List Cn) (h : l.length ≤ 801) : (ordT [44] (l.map cnT)).length ≤ 4000 := by
  have := ordT_len [44] (l.map cnT) 3 (fun a ha => by obtain ⟨c, _, rfl⟩ := List.mem_map.1 ha; exact cnT_len c)
  simp at this
  omega

theorem nmS_len (l : List Nat) (h : l.length ≤ 801) : (ordT [44] (l.map fun c => [b8 c])).length ≤ 2000 := by
  have := ordT_len [44] (l.map fun c => [b8 c]) 1 (fun a ha => by obtain ⟨c, _, rfl⟩ := List.mem_map.1 ha; simp)
  simp at this
  omega

theorem pkS_len (p : Pk) (h : PkSm p) : (pkS p).length ≤ 2700000 := by
  have h1 := mkT_len p.m
  have h2 := nsS_len p.needs h.needs h.need
  have h3 := csS_len p.conf h.conf
  have h4 := nmS_len p.prov h.prov
  unfold pkS pkS0
  simp only [List.length_append, List.length_cons, List.length_nil]
  omega

/-- Packages in a row, each with what it leads to. -/
theorem pks_row2 {B : Nat} {w : World} {v : Value} {ps : List Pk} (h : PksAt B w v ps) : (v = .slice none 0 0 ∧ ps = []) ∨ ∃ g cap, v = .slice (some ⟨g, 0, none⟩) ps.length cap ∧ g < w.heap.size ∧ ∀ j (h : j < ps.length), ∃ an nn cn ac nc cc ap np cp, (w.cell? ⟨g, j * 6, none⟩ = some (.int .u8 ps[j].n) ∧ w.cell? ⟨g, j * 6 + 1, none⟩ = some (.int .u8 ps[j].v) ∧ w.cell? ⟨g, j * 6 + 2, none⟩ = some (.int .i64 ps[j].m) ∧
    w.cell? ⟨g, j * 6 + 3, none⟩ = some (.slice an nn cn) ∧ w.cell? ⟨g, j * 6 + 4, none⟩ = some (.slice ac nc cc) ∧ w.cell? ⟨g, j * 6 + 5, none⟩ = some (.slice ap np cp)) ∧ PkAt B w ps[j] (.slice an nn cn) (.slice ac nc cc) (.slice ap np cp) := by
  obtain ⟨css, h1, h2⟩ := h
  rcases own_shape h1 with ⟨rfl, h0⟩ | ⟨g, cap, rfl, hc⟩
  · exact Or.inl ⟨rfl, List.eq_nil_of_length_eq_zero h0⟩
  · refine Or.inr ⟨g, cap, rfl, own_lt h1, fun j hj => ?_⟩
    obtain ⟨c, hcj, vn, vc, vp, rfl, hp⟩ := h2.get (j := j) (List.getElem?_eq_getElem hj)
    have h6 : ∀ c ∈ css, c.length = 6 := All2.forall (Q := fun c : List Value => c.length = 6) (fun a b ⟨_, _, _, e, _⟩ => by rw [e]; rfl) h2
    have hf : ∀ k, k < 6 → css.flatten[j * 6 + k]? = (pkCells ps[j] vn vc vp)[k]? := fun k hk => by rw [flat_get 6 css h6 j k hk, hcj]; rfl
    obtain ⟨an, nn, cn, rfl⟩ := shape3 hp.1
    obtain ⟨ac, nc, cc, rfl⟩ : ∃ a n c, vc = .slice a n c := by rcases own_shape hp.2.1 with ⟨rfl, _⟩ | ⟨g, cap, rfl, _⟩ <;> exact ⟨_, _, _, rfl⟩
    obtain ⟨ap, np, cp, rfl⟩ : ∃ a n c, vp = .slice a n c := by rcases own_shape hp.2.2 with ⟨rfl, _⟩ | ⟨g, cap, rfl, _⟩ <;> exact ⟨_, _, _, rfl⟩
    exact ⟨an, nn, cn, ac, nc, cc, ap, np, cp, ⟨own_cell h1 _ _ (hf 0 (by omega)), own_cell h1 _ _ (hf 1 (by omega)), own_cell h1 _ _ (hf 2 (by omega)), own_cell h1 _ _ (hf 3 (by omega)), own_cell h1 _ _ (hf 4 (by omega)), own_cell h1 _ _ (hf 5 (by omega))⟩, hp⟩

structure DcSm (d : Dc) : Prop where
  packs : d.packs.length ≤ 801
  pack : ∀ p ∈ d.packs, PkSm p
  ins : d.ins.length ≤ 801
  rem : d.rem.length ≤ 801
  upg : d.upg.length ≤ 801

def dcS (d : Dc) : List UInt8 := ordT [] (d.packs.map pkS) ++ [47] ++ ordT [44] (d.ins.map cnT) ++ [47] ++ ordT [44] (d.rem.map cnT) ++ [47] ++ ordT [44] (d.upg.map cnT)

theorem join_cnt {x : UInt8} : ∀ {l : List (List UInt8)}, (∀ a ∈ l, a ≠ []) → l.length ≤ (joinT x l).length
  | [], _ => Nat.le_refl _
  | [a], h => by have := h a (by simp); cases a with | nil => exact absurd rfl this | cons b a => simp [joinT]
  | a :: b :: l, h => by
    have ih := join_cnt (x := x) (l := b :: l) (fun c hc => h c (by simp [hc]))
    rw [joinT_cons (by simp)]
    simp at ih ⊢
    omega

theorem ls_cnt (l : List Cn) : l.length ≤ (lsT l).length := by
  have := join_cnt (x := 44) (l := l.map cnT) (fun a ha => by obtain ⟨c, _, rfl⟩ := List.mem_map.1 ha; exact cn_ne c)
  rwa [List.length_map] at this

theorem nd_cnt (l : List Cn) : l.length ≤ (ndT l).length := by
  have := join_cnt (x := 124) (l := l.map cnT) (fun a ha => by obtain ⟨c, _, rfl⟩ := List.mem_map.1 ha; exact cn_ne c)
  rwa [List.length_map] at this

theorem ns_cnt {l : List (List Cn)} (h : ∀ n ∈ l, NdOk n) : l.length ≤ (nsT l).length := by
  have := join_cnt (x := 44) (l := l.map ndT) (fun a ha => by obtain ⟨c, hc, rfl⟩ := List.mem_map.1 ha; exact nd_ne (h c hc))
  rwa [List.length_map] at this

theorem nm_cnt (l : List Nat) : l.length ≤ (nmT l).length := by
  have := join_cnt (x := 44) (l := l.map fun c => [b8 c]) (fun a ha => by obtain ⟨c, _, rfl⟩ := List.mem_map.1 ha; simp)
  rwa [List.length_map] at this

theorem pks_cnt : ∀ (ps : List Pk), ps.length ≤ (pksT ps).length
  | [] => Nat.le_refl _
  | p :: ps => by
    have ih := pks_cnt ps
    unfold pksT at ih ⊢
    rw [List.flatMap_cons, List.length_append, List.length_cons]
    have : 1 ≤ (pkT p).length := by simp [pkT]
    omega

theorem dc_small {d : Dc} (hok : DcOk d) (h : (dcT d).length ≤ 800) : DcSm d := by
  have e : dcT d = joinT 47 [pksT d.packs, lsT d.ins, lsT d.rem, lsT d.upg] := by simp [dcT, joinT]
  have h0 : (pksT d.packs).length ≤ 800 := by have := join_len (c := 47) (l := [pksT d.packs, lsT d.ins, lsT d.rem, lsT d.upg]) (a := pksT d.packs) (by simp); rw [← e] at this; omega
  have h1 : (lsT d.ins).length ≤ 800 := by have := join_len (c := 47) (l := [pksT d.packs, lsT d.ins, lsT d.rem, lsT d.upg]) (a := lsT d.ins) (by simp); rw [← e] at this; omega
  have h2 : (lsT d.rem).length ≤ 800 := by have := join_len (c := 47) (l := [pksT d.packs, lsT d.ins, lsT d.rem, lsT d.upg]) (a := lsT d.rem) (by simp); rw [← e] at this; omega
  have h3 : (lsT d.upg).length ≤ 800 := by have := join_len (c := 47) (l := [pksT d.packs, lsT d.ins, lsT d.rem, lsT d.upg]) (a := lsT d.upg) (by simp); rw [← e] at this; omega
  have k0 := pks_cnt d.packs
  have k1 := ls_cnt d.ins
  have k2 := ls_cnt d.rem
  have k3 := ls_cnt d.upg
  refine ⟨by omega, fun p hp => ?_, by omega, by omega, by omega⟩
  have hpo := hok.packs p hp
  have hb : (pkB p).length ≤ 800 := by
    have h4 : (pkB p).length ≤ (pksT d.packs).length := by rw [pks_join]; exact join_len (by simp; left; exact ⟨p, hp, rfl⟩)
    omega
  have g1 : (nsT p.needs).length ≤ 800 := by have := join_len (c := 58) (l := [pkH p, nsT p.needs, lsT p.conf, nmT p.prov]) (a := nsT p.needs) (by simp); unfold pkB at hb; omega
  have g2 : (lsT p.conf).length ≤ 800 := by have := join_len (c := 58) (l := [pkH p, nsT p.needs, lsT p.conf, nmT p.prov]) (a := lsT p.conf) (by simp); unfold pkB at hb; omega
  have g3 : (nmT p.prov).length ≤ 800 := by have := join_len (c := 58) (l := [pkH p, nsT p.needs, lsT p.conf, nmT p.prov]) (a := nmT p.prov) (by simp); unfold pkB at hb; omega
  have c1 := ns_cnt hpo.needs
  have c2 := ls_cnt p.conf
  have c3 := nm_cnt p.prov
  refine ⟨by omega, fun n hn => ?_, by omega, by omega⟩
  have c4 := nd_cnt n
  have c5 : (ndT n).length ≤ (nsT p.needs).length := join_len (by simp; exact ⟨n, hn, rfl⟩)
  omega

/-- What stands where Check finds no error. -/
theorem rd_ok {t : List UInt8} (h : rdE t = 0) : t = dcT (dcV t) ∧ DcOk (dcV t) ∧ t.length ≤ 800 ∧ (dcV t).packs.length ≤ 20 ∧ ¬ ftT (dcV t).packs < (dcV t).packs.length := by
  unfold rdE at h
  split at h
  · cases h
  · split at h
    · cases h
    · split at h
      · cases h
      · split at h
        · cases h
        · rename_i h1 h2 h3 h4
          obtain ⟨r1, _⟩ := dc_run t
          obtain ⟨_, r2, r3⟩ := r1 (by simpa using h2)
          exact ⟨r2, r3, by omega, by omega, h4⟩

/-- Show's answer. -/
def shT (t : List UInt8) : List UInt8 := if rdE t = 0 then dcS (dcV t) else []

end Go.Proofs.YtenbnmbbfeekpaaDoor
