/- What the document's own Lex answers: what the machine says. -/
import Derived.Test.YtgjfhfjmdkhllaaDoorRefB
import Derived.Laws.AppendOwnNone
namespace Go.Proofs.YtgjfhfjmdkhllaaDoor
open Go.RowKit
open M
set_option linter.unusedVariables false
set_option linter.unusedSimpArgs false

theorem bad_here : ∀ (bs : List UInt8) m cur ts l x, (∀ c ∈ bs, cls c ≠ 5) → run (.ok m cur ts l) bs = .bad x → x = l := by
  intro bs
  induction bs with
  | nil => intro m cur ts l x _ e; cases e
  | cons c bs ih =>
    intro m cur ts l x hno e
    have hno' : ∀ c ∈ bs, cls c ≠ 5 := fun y hy => hno y (by simp [hy])
    rw [run_cons] at e
    rcases step_cases m cur ts l c with ⟨h5, _⟩ | ⟨_, _, h⟩ | ⟨_, _, _, h⟩ | ⟨_, _, _, h⟩ | ⟨_, _, h⟩ | ⟨_, _, h⟩ | h
    · exact absurd h5 (hno c (by simp))
    all_goals rw [h] at e
    · exact ih _ _ _ _ _ hno' e
    · exact ih _ _ _ _ _ hno' e
    · exact ih _ _ _ _ _ hno' e
    · exact ih _ _ _ _ _ hno' e
    · exact ih _ _ _ _ _ hno' e
    · rw [run_bad] at e; cases e; rfl

theorem row_is_bad (s : ByteArray) (l : List UInt8) (hs : s.data.toList = l) (hl : l.length ≤ 4000) (hno : ∀ c ∈ l, cls c ≠ 4 ∧ cls c ≠ 5) (line : Nat) (hline : line ≤ 100000) (x : Nat) (h : rowF l line = .bad x) (w : World) :
    Calls Tryd.prog 31 #[.string s, .int .i64 line] w fun e w' => e = .returned (.tuple #[.slice none 0 0, .bool false]) ∧ Below w.heap.size w w' :=
  (row_any s l hs hl hno line hline w).mono fun e w' ⟨hp, hb⟩ => by
    rcases hp with ⟨_, _, _, he⟩ | ⟨m, cur, ts, v, hr, _⟩
    · exact ⟨he, hb⟩
    · rw [h] at hr; cases hr
theorem row_is_ok (s : ByteArray) (l : List UInt8) (hs : s.data.toList = l) (hl : l.length ≤ 4000) (hno : ∀ c ∈ l, cls c ≠ 4 ∧ cls c ≠ 5) (line : Nat) (hline : line ≤ 100000) (m : Nat) (cur : List UInt8) (ts : List Tok) (l' : Nat) (h : rowF l line = .ok m cur ts l') (w : World) :
    Calls Tryd.prog 31 #[.string s, .int .i64 line] w fun e w' => ∃ v, e = .returned (.tuple #[v, .bool true]) ∧ OwnR w' w.heap.size v (endLine (flush m cur ts line) line) ∧ Below w.heap.size w w' :=
  (row_any s l hs hl hno line hline w).mono fun e w' ⟨hp, hb⟩ => by
    rcases hp with ⟨_, hr, _⟩ | ⟨m', cur', ts', v, hr, _, he, ho⟩
    · rw [h] at hr; cases hr
    · rw [h] at hr; cases hr; exact ⟨v, he, ho, hb⟩

theorem cells_one (ts : List Tok) : ∀ u ∈ cells ts, u.oneCell' = true := by
  intro u hu
  obtain ⟨t, _, ht⟩ := List.mem_flatMap.1 hu
  exact one_tok t u ht

/-- Tokens appended to tokens. -/
theorem wpList_append_toks (w : World) {ops : Array Oper} {rest : List Oper} {o : Oper} {a : Act} {Q : Exit → Act → World → Prop} (hgd : o.guard = none) (s x : Operand)
    (ho : o.op = .call { callee := .builtin .append, args := #[s, x], argTypes := #[57, 57] })
    (base : Nat) (v : Value) (X : List Tok) (hs : a.eval s = v) (hown : OwnR w base v X) (base' : Nat) (v' : Value) (Y : List Tok) (hx : a.eval x = v') (hown' : OwnR w base' v' Y)
    (h63 : X.length + Y.length ≤ 100000000) (hbase : base ≤ w.heap.size)
    (h : ∀ v2 w2, OwnR w2 base v2 (X ++ Y) → w.grownBy w2 v.ownBlock → wpList Tryd.prog ops Q rest (a.put o.dst v2) w2) : wpList Tryd.prog ops Q (o :: rest) a w := by
  obtain ⟨i0, hi, hz0, hz1, hz2⟩ := info_parts Tryd.info62
  rcases hown'.2 with ⟨rfl, h0⟩ | ⟨g, cap, cur, rfl, _⟩
  · have hY : Y = [] := List.eq_nil_of_length_eq_zero h0
    subst hY
    exact wpList_append_own_none hgd s x 57 ho base 62 i0 3 Tryd.underlying57 hi v X.length (cells X) hs hown hx (h v w (by rw [List.append_nil]; exact hown) (World.grownBy.refl _ _))
  · exact wpList_append_own w hgd s x 57 ho base 62 i0 _ 3 32 Tryd.underlying57 hi hz0 hz1 hz2 rfl (by decide) v X.length (cells X) hs hown ⟨g, 0, none⟩ Y.length cap (cells Y) hx (cells_len Y) (hown'.cells rfl) (cells_one Y) (by unfold maxLen; omega) (by omega) hbase fun v2 w2 h2 h3 _ => h v2 w2 (ownR_app h2) h3

/-! ### Line by line -/
def seg (l : List UInt8) (fr i : Nat) : List UInt8 := (l.drop fr).take (i - fr)
def LexInv (l : List UInt8) (i fr line : Nat) (X : List Tok) : Prop :=
  (i ≤ l.length ∧ fr ≤ i ∧ (∀ c ∈ seg l fr i, cls c ≠ 5) ∧ run init (l.take fr) = .ok 0 [] X line ∧ closed X = true ∧ line ≤ fr + 1 ∧ X.length ≤ 9000 * line) ∨
  (i = l.length + 1 ∧ line ≤ i + 1 ∧ fin (run init l) = (X, 0, 0))
theorem seg_snoc {l : List UInt8} {fr i : Nat} (h1 : fr ≤ i) (h2 : i < l.length) : seg l fr (i + 1) = seg l fr i ++ [l[i]] := by
  unfold seg
  rw [show i + 1 - fr = (i - fr) + 1 by omega, List.take_succ_eq_append_getElem (by simp; omega)]
  simp [show fr + (i - fr) = i by omega]
theorem seg_split {l : List UInt8} {fr i : Nat} (h1 : fr ≤ i) : l = l.take fr ++ (seg l fr i ++ l.drop i) := by
  unfold seg
  conv => lhs; rw [← List.take_append_drop fr l, ← List.take_append_drop (i - fr) (l.drop fr)]
  rw [List.drop_drop, show fr + (i - fr) = i by omega]
theorem seg_take {l : List UInt8} {fr i : Nat} (h1 : fr ≤ i) (h2 : i ≤ l.length) : l.take i = l.take fr ++ seg l fr i := by
  have e := seg_split (l := l) h1
  have : (l.take fr ++ (seg l fr i ++ l.drop i)).take i = l.take fr ++ seg l fr i := by
    rw [← List.append_assoc, List.take_append_of_le_length (by unfold seg; simp; omega), List.take_of_length_le (by unfold seg; simp; omega)]
  rw [← e] at this
  exact this
theorem linv_start (l : List UInt8) : LexInv l 0 0 1 [] := .inl ⟨Nat.zero_le _, Nat.le_refl _, fun c hc => by simp [seg] at hc, rfl, rfl, by omega, by simp⟩
theorem linv_on {l : List UInt8} {i fr line : Nat} {X : List Tok} (h : LexInv l i fr line X) (hi : i < l.length) (hc : l[i] ≠ 10) : LexInv l (i + 1) fr line X := by
  rcases h with ⟨h1, h2, h3, h4, h5, h6, h7⟩ | ⟨h1, _⟩
  · refine .inl ⟨hi, by omega, fun c hcm => ?_, h4, h5, h6, h7⟩
    rw [seg_snoc h2 hi] at hcm
    rcases List.mem_append.1 hcm with hm | hm
    · exact h3 c hm
    · rw [List.mem_singleton.1 hm]; exact fun e => hc ((cls10 _).1 e)
  · omega
theorem cut_len (s : List UInt8) : (cutF s).length ≤ s.length := (List.takeWhile_sublist _).length_le
theorem cut_fine {s : List UInt8} (h : ∀ c ∈ s, cls c ≠ 5) : ∀ c ∈ cutF s, cls c ≠ 4 ∧ cls c ≠ 5 := fun c hc => ⟨cut_no s c hc, h c (cut_sub s c hc)⟩
theorem linv_bad {l : List UInt8} {i fr line : Nat} {X : List Tok} (h : LexInv l i fr line X) (hi : i ≤ l.length) {x : Nat} (hr : rowF (cutF (seg l fr i)) line = .bad x) : fin (run init l) = ([], line, 2) := by
  rcases h with ⟨h1, h2, h3, h4, h5, h6, h7⟩ | ⟨h1, _⟩
  · have hx : x = line := bad_here _ _ _ _ _ _ (fun c hc => (cut_fine h3 c hc).2) hr
    subst hx
    have e := seg_split (l := l) h2
    rw [e, run_app, h4, line_bad h5 hr]
    rfl
  · omega
theorem linv_row {l : List UInt8} {i fr line m l' : Nat} {cur : List UInt8} {ts : List Tok} (hs : (seg l fr i).length ≤ 4000) (hr : rowF (cutF (seg l fr i)) line = .ok m cur ts l') : (endLine (flush m cur ts line) line).length ≤ 8002 := by
  have h1 := flush_len _ _ _ _ _ _ _ _ hr
  have h2 := cut_len (seg l fr i)
  have h3 : (flush m cur ts line).length = ts.length + (if m = 1 ∨ m = 2 then 1 else 0) := by unfold flush; split <;> simp
  have h4 : (endLine (flush m cur ts line) line).length ≤ (flush m cur ts line).length + 1 := by unfold endLine; split <;> simp
  simp at h1
  omega
theorem linv_nl {l : List UInt8} {i fr line m l' : Nat} {cur : List UInt8} {ts X : List Tok} (h : LexInv l i fr line X) (hl : l.length ≤ 4000) (hi : i < l.length) (hc : l[i] = 10) (hr : rowF (cutF (seg l fr i)) line = .ok m cur ts l') :
    LexInv l (i + 1) (i + 1) (line + 1) (X ++ endLine (flush m cur ts line) line) := by
  rcases h with ⟨h1, h2, h3, h4, h5, h6, h7⟩ | ⟨h1, _⟩
  · have hsl : (seg l fr i).length ≤ 4000 := by unfold seg; simp; omega
    have hb := linv_row hsl hr
    refine .inl ⟨hi, Nat.le_refl _, fun c hcm => by simp [seg] at hcm, ?_, closed_line h5 _ _, by omega, by rw [List.length_append]; omega⟩
    rw [List.take_succ_eq_append_getElem hi, seg_take h2 h1, List.append_assoc, run_app, h4, hc]
    exact (line_ok h5 h3 hr).2
  · omega
theorem linv_end {l : List UInt8} {i fr line m l' : Nat} {cur : List UInt8} {ts X : List Tok} (h : LexInv l i fr line X) (hi : i = l.length) (hr : rowF (cutF (seg l fr i)) line = .ok m cur ts l') :
    LexInv l (i + 1) (i + 1) (line + 1) (X ++ endLine (flush m cur ts line) line) := by
  rcases h with ⟨h1, h2, h3, h4, h5, h6, h7⟩ | ⟨h1, _⟩
  · subst hi
    refine .inr ⟨rfl, by omega, ?_⟩
    have e := seg_take h2 h1
    rw [List.take_length] at e
    conv => lhs; rw [e]
    rw [run_app, h4]
    exact (line_ok h5 h3 hr).1
  · omega
theorem linv_bd {l : List UInt8} {i fr line : Nat} {X : List Tok} (h : LexInv l i fr line X) (hl : l.length ≤ 4000) (hi : i ≤ l.length) : fr ≤ i ∧ line ≤ 4001 ∧ X.length ≤ 9000 * line ∧ ∀ c ∈ seg l fr i, cls c ≠ 5 := by
  rcases h with ⟨h1, h2, h3, h4, h5, h6, h7⟩ | ⟨h1, _⟩
  · exact ⟨h2, by omega, h7, h3⟩
  · omega
theorem linv_le {l : List UInt8} {i fr line : Nat} {X : List Tok} (h : LexInv l i fr line X) : i ≤ l.length + 1 := by
  rcases h with ⟨h1, _⟩ | ⟨h1, _⟩ <;> omega
theorem linv_fin {l : List UInt8} {i fr line : Nat} {X : List Tok} (h : LexInv l i fr line X) (hi : ¬ i ≤ l.length) : fin (run init l) = (X, 0, 0) := by
  rcases h with ⟨h1, _⟩ | ⟨_, _, h⟩
  · omega
  · exact h
theorem ba_seg {s : ByteArray} {l : List UInt8} (h : s.data.toList = l) (a b : Nat) : (s.extract a b).data.toList = seg l a b := by
  subst h
  unfold seg
  simp only [ByteArray.data_extract, Array.toList_extract]

theorem ne10r {c : UInt8} (h : c ≠ 10) : ((c.toNat : Nat) : Int) ≠ 10 := fun e => by
  have h' : c.toNat = 10 := by omega
  exact h (UInt8.toNat_inj.1 h')

set_option maxRecDepth 1000000 in
set_option maxHeartbeats 4000000 in
theorem refLex_any (s : ByteArray) (l : List UInt8) (hs : s.data.toList = l) (hl : l.length ≤ 4000) (w : World) :
    Calls Tryd.prog 20 #[.string s] w fun e w' => ∃ v, e = .returned (.tuple #[v, .int .i64 (fin (run init l)).2.1, .int .i64 (fin (run init l)).2.2]) ∧ OwnR w' w.heap.size v (fin (run init l)).1 ∧ Below w.heap.size w w' := by
  have hsz : s.size ≤ 4000 := by rw [ba_size hs]; exact hl
  have HS : Hid (s.data.toList = l) := hs
  have HSL : Hid (s.size = l.length) := ba_size hs
  have HOS : Hid (OwnR (w.alloc (.cells #[] 62)) w.heap.size (.slice (some ⟨w.heap.size, 0, none⟩) 0 0) []) := World.ownsRow_lit w #[] 0 (Nat.le_refl _) (Nat.zero_le _) rfl
  have HBS : Hid (Below w.heap.size w (w.alloc (.cells #[] 62))) := (Below.refl _ _).alloc (Nat.le_refl _) _
  clear hs
  go_enter Tryd.func20, Tryd.ntmps20
  go_wp2
  go_loopw [5, 6, 7, 8] (fun vo lv fv iv wr => ∃ (i fr line : Nat) (X : List Tok), iv = .int .i64 i ∧ fv = .int .i64 fr ∧ lv = .int .i64 line ∧ OwnR wr w.heap.size vo X ∧ LexInv l i fr line X ∧ Below w.heap.size w wr) (fun _ _ _ iv _ => s.size + 1 - (intOf iv).toNat)
  case atStart => exact ⟨0, 0, 1, [], rfl, rfl, rfl, HOS.out, linv_start l, HBS.out⟩
  case round =>
    obtain ⟨i, fr, line, X, rfl, rfl, rfl, hown, hinv, hbel⟩ := hrel
    have HO : Hid (OwnR wr w.heap.size u5 X) := hown
    have HL : Hid (LexInv l i fr line X) := hinv
    have HE : Hid (Below w.heap.size w wr) := hbel
    have hsr := hbel.size
    have hile := linv_le hinv
    rw [← HSL.out] at hile
    clear hown hinv hbel HOS HBS
    by_cases hi : i ≤ s.size
    · have hil : i ≤ l.length := by rw [← HSL.out]; exact hi
      obtain ⟨hfr, hln, hXl, hsn⟩ := linv_bd HL.out hl hil
      have hsg : (seg l fr i).length ≤ 4000 := by unfold seg; simp; omega
      have hcl : (cutF (seg l fr i)).length ≤ 4000 := Nat.le_trans (cut_len _) hsg
      have HFI : Hid (∀ c ∈ cutF (seg l fr i), cls c ≠ 4 ∧ cls c ≠ 5) := cut_fine hsn
      have kc := cut_any (s.extract fr i) (seg l fr i) (ba_seg HS.out fr i) hsg wr
      clear hsn
      by_cases hlt : i < s.size
      · have hlt' : i < l.length := by rw [← HSL.out]; exact hlt
        have HG : Hid (s[i] = l[i]) := ba_get HS.out i hlt
        by_cases hten : s[i] = 10
        · have d : (((s[i].toNat : Nat) : Int) != 10) = false := by rw [hten]; rfl
          have H10 : Hid (l[i] = 10) := by have := HG.out; rw [hten] at this; exact this.symm
          clear hten
          cases hrr : rowF (cutF (seg l fr i)) line with
          | error x =>
            have HRR : Hid (rowF (cutF (seg l fr i)) line = .bad x) := hrr
            have HFN : Hid (fin (run init l) = ([], line, 2)) := linv_bad HL.out (by omega) HRR.out
            clear hrr
            go_wp2_with (first | (go_at_call 32; refine kc.mono ?_; rintro e w2 ⟨s', rfl, hs', rfl⟩) | (go_at_call 31; refine (row_is_bad s' _ hs' hcl HFI.out line (by omega) x HRR.out _).mono ?_; rintro e w3 ⟨rfl, hb3⟩))
            go_ret3
            rw [HFN.out]
            exact ⟨_, rfl, World.ownsRow_nil _ _ _ _, HE.out.trans (hb3.mono hsr)⟩
          | ok q =>
            obtain ⟨m, cur, ts, l'⟩ := q
            have HRR : Hid (rowF (cutF (seg l fr i)) line = .ok m cur ts l') := hrr
            have HNX : Hid (LexInv l (i + 1) (i + 1) (line + 1) (X ++ endLine (flush m cur ts line) line)) := linv_nl HL.out hl hlt' H10.out hrr
            have hrl := linv_row hsg hrr
            clear hrr
            go_wp2_with (first | (go_at_call 32; refine kc.mono ?_; rintro e w2 ⟨s', rfl, hs', rfl⟩) | (go_at_call 31; refine (row_is_ok s' _ hs' hcl HFI.out line (by omega) m cur ts l' HRR.out _).mono ?_; rintro e w3 ⟨v3, rfl, ho3, hb3⟩; have hO3 : OwnR w3 w.heap.size _ X := ownsRow_later HO.out hb3; have hE3 : Below w.heap.size w w3 := HE.out.trans (hb3.mono hsr); have hs3 := hE3.size) | (at_builtin; refine wpList_append_toks _ rfl (.tmp 44) (.tmp 45) rfl w.heap.size _ X rfl hO3 _ _ (endLine (flush m cur ts line) line) rfl ho3 (by omega) (by omega) ?_; intro v4 w4 hO4 hg4; have hE4 : Below w.heap.size w w4 := hE3.grown hg4 (by omega) (fun q hq => (hO3.lt q hq).1)))
            go_roundw
            case rel => exact ⟨i + 1, i + 1, line + 1, _, by go_num, by go_num, by go_num, hO4, HNX.out, hE4⟩
            case measure => simp [intOf]; omega
        · have d : (((s[i].toNat : Nat) : Int) != 10) = true := bne_iff_ne.2 (ne10r hten)
          have HNX : Hid (LexInv l (i + 1) fr line X) := linv_on HL.out hlt' (by rw [← HG.out]; exact hten)
          clear hten
          go_wp2
          go_roundw
          case rel => exact ⟨i + 1, fr, line, X, by go_num, rfl, rfl, HO.out, HNX.out, HE.out⟩
          case measure => simp [intOf]; omega
      · have HIE : Hid (i = l.length) := by rw [← HSL.out]; exact hide_it (by omega)
        have hi2 : ¬ ((i : Int) < (s.size : Int)) := by omega
        cases hrr : rowF (cutF (seg l fr i)) line with
        | error x =>
          have HRR : Hid (rowF (cutF (seg l fr i)) line = .bad x) := hrr
          have HFN : Hid (fin (run init l) = ([], line, 2)) := linv_bad HL.out (by omega) HRR.out
          clear hrr
          go_wp2_with (first | (go_at_call 32; refine kc.mono ?_; rintro e w2 ⟨s', rfl, hs', rfl⟩) | (go_at_call 31; refine (row_is_bad s' _ hs' hcl HFI.out line (by omega) x HRR.out _).mono ?_; rintro e w3 ⟨rfl, hb3⟩))
          go_ret3
          rw [HFN.out]
          exact ⟨_, rfl, World.ownsRow_nil _ _ _ _, HE.out.trans (hb3.mono hsr)⟩
        | ok q =>
          obtain ⟨m, cur, ts, l'⟩ := q
          have HRR : Hid (rowF (cutF (seg l fr i)) line = .ok m cur ts l') := hrr
          have HNX : Hid (LexInv l (i + 1) (i + 1) (line + 1) (X ++ endLine (flush m cur ts line) line)) := linv_end HL.out HIE.out hrr
          have hrl := linv_row hsg hrr
          clear hrr
          go_wp2_with (first | (go_at_call 32; refine kc.mono ?_; rintro e w2 ⟨s', rfl, hs', rfl⟩) | (go_at_call 31; refine (row_is_ok s' _ hs' hcl HFI.out line (by omega) m cur ts l' HRR.out _).mono ?_; rintro e w3 ⟨v3, rfl, ho3, hb3⟩; have hO3 : OwnR w3 w.heap.size _ X := ownsRow_later HO.out hb3; have hE3 : Below w.heap.size w w3 := HE.out.trans (hb3.mono hsr); have hs3 := hE3.size) | (at_builtin; refine wpList_append_toks _ rfl (.tmp 44) (.tmp 45) rfl w.heap.size _ X rfl hO3 _ _ (endLine (flush m cur ts line) line) rfl ho3 (by omega) (by omega) ?_; intro v4 w4 hO4 hg4; have hE4 : Below w.heap.size w w4 := hE3.grown hg4 (by omega) (fun q hq => (hO3.lt q hq).1)))
          go_roundw
          case rel => exact ⟨i + 1, i + 1, line + 1, _, by go_num, by go_num, by go_num, hO4, HNX.out, hE4⟩
          case measure => simp [intOf]; omega
    · have HFN : Hid (fin (run init l) = (X, 0, 0)) := linv_fin HL.out (by rw [← HSL.out]; exact hi)
      go_wp2
      go_ret3
      rw [HFN.out]
      exact ⟨_, rfl, HO.out, HE.out⟩

end Go.Proofs.YtgjfhfjmdkhllaaDoor
