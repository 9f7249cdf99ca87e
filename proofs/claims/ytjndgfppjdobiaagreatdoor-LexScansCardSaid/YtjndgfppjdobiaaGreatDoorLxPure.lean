/-
  Tokens as plain data: blanks, the token at a place, the scan; what stands behind a token doesn't matter; plain mathematics.
-/
import Derived.Test.YtjndgfppjdobiaaGreatDoorVaKeys
namespace Go.Proofs.YtjndgfppjdobiaaGreatDoor.Lx
open Va

def whiteB (c : UInt8) : Bool := c == 9 || c == 10 || c == 13 || c == 32
/-- How many blanks there are ahead; in a comment, or not. -/
def blk : Bool → List UInt8 → Nat
  | _, [] => 0
  | true, c :: r => if c = 10 then 1 + blk false r else 1 + blk true r
  | false, c :: r => if whiteB c = true then 1 + blk false r else if c = 47 ∧ r.head? = some 47 then 1 + blk true r else 0
/-- What a text between quotes says, and how many bytes it has with its end. -/
def quo : Nat → List UInt8 → Option (List UInt8 × Nat)
  | 0, _ => none
  | f + 1, l => if l.head? = some 34 then some ([], 1) else match unesc l with
    | none => none
    | some (c, r) => if esc c ++ r = l then match quo f r with
      | none => none
      | some (t, n) => some (c :: t, (esc c).length + n)
      else none
def signs : List (List UInt8) := [[45, 62], [46, 46], [61, 61], [33, 61], [60, 61], [62, 61], [38, 38], [124, 124], [123], [125], [40], [41], [91], [93], [59], [58], [44], [46], [61], [60], [62], [43], [45], [42], [47], [37], [33]]
def digsOk (d : List UInt8) : Bool := (d.length == 1 || d.head? != some 48) && decide (undig d ≤ 9223372036854775807)
structure Tok where
  kind : Int
  text : List UInt8
  num : Int
  len : Nat
deriving DecidableEq
def tokM : List UInt8 → Option Tok
  | [] => none
  | c :: r =>
    if c = 39 then (let n := r.takeWhile wordB; if nameB n = true then some ⟨4, n, 0, n.length + 1⟩ else none)
    else if letB c = true then (let n := (c :: r).takeWhile wordB; if nameB n = true then some ⟨1, n, 0, n.length⟩ else none)
    else if digB c = true then (let d := (c :: r).takeWhile digB; if digsOk d = true then some ⟨2, d, undig d, d.length⟩ else none)
    else if c = 34 then (match quo (r.length + 1) r with
      | none => none
      | some (t, n) => if t.length ≤ 64 then some ⟨3, t, 0, n + 1⟩ else none)
    else match signs.find? (fun s => s.isPrefixOf (c :: r)) with
      | none => none
      | some s => some ⟨5, s, 0, s.length⟩

/-- A token with its place. -/
structure TA where
  kind : Int
  text : List UInt8
  num : Int
  at_ : Nat
/-- The tokens from a place on: ok, or where none is. -/
def scanF : Nat → List UInt8 → Nat → List TA × Option Nat
  | 0, _, at_ => ([], some at_)
  | f + 1, l, at_ =>
    let b := blk false l
    match l.drop b with
    | [] => ([⟨0, [], 0, at_ + b⟩], none)
    | m@(_ :: _) => match tokM m with
      | none => ([], some (at_ + b))
      | some t => let (ts, e) := scanF f (m.drop t.len) (at_ + b + t.len); (⟨t.kind, t.text, t.num, at_ + b⟩ :: ts, e)

/-! ### blanks -/
theorem blk_le : ∀ b l, blk b l ≤ l.length
  | _, [] => by simp [blk]
  | true, c :: r => by
    unfold blk
    have h1 := blk_le false r
    have h2 := blk_le true r
    split <;> simp <;> omega
  | false, c :: r => by
    unfold blk
    have h1 := blk_le false r
    have h2 := blk_le true r
    split
    · simp; omega
    · split <;> simp; omega
theorem blk_t (c : UInt8) (r : List UInt8) : blk true (c :: r) = if c = 10 then 1 + blk false r else 1 + blk true r := rfl
theorem blk_f (c : UInt8) (r : List UInt8) : blk false (c :: r) = if whiteB c = true then 1 + blk false r else if c = 47 ∧ r.head? = some 47 then 1 + blk true r else 0 := rfl
/-- Where something stands that is no blank, more behind it changes nothing. -/
theorem blk_append : ∀ b l q, blk b l < l.length → q.head? ≠ some 47 → blk b (l ++ q) = blk b l
  | _, [], _, h, _ => by simp at h
  | true, c :: r, q, h, hq => by
    rw [blk_t] at h
    rw [List.cons_append, blk_t, blk_t]
    by_cases hc : c = 10
    · rw [if_pos hc] at h
      simp only [if_pos hc]
      rw [blk_append false r q (by simp at h; omega) hq]
    · rw [if_neg hc] at h
      simp only [if_neg hc]
      rw [blk_append true r q (by simp at h; omega) hq]
  | false, c :: r, q, h, hq => by
    rw [blk_f] at h
    rw [List.cons_append, blk_f, blk_f]
    by_cases hw : whiteB c = true
    · rw [if_pos hw] at h
      simp only [if_pos hw]
      rw [blk_append false r q (by simp at h; omega) hq]
    · rw [if_neg hw] at h
      simp only [if_neg hw]
      by_cases hc : c = 47 ∧ r.head? = some 47
      · rw [if_pos hc] at h
        have hr : (r ++ q).head? = some 47 := by rw [List.head?_append, hc.2]; rfl
        rw [if_pos ⟨hc.1, hr⟩, if_pos hc]
        rw [blk_append true r q (by simp at h; omega) hq]
      · rw [if_neg hc]
        rw [if_neg]
        rintro ⟨h1, h2⟩
        apply hc
        refine ⟨h1, ?_⟩
        cases r with
        | nil => simp at h2; exact absurd h2 hq
        | cons d s => simpa using h2
/-- Where all is blank, a line's end goes on behind it. -/
theorem blk_all : ∀ b l q, blk b l = l.length → blk b (l ++ 10 :: q) = l.length + 1 + blk false q
  | true, [], q, _ => by rw [List.nil_append, blk_t]; simp
  | false, [], q, _ => by rw [List.nil_append, blk_f]; simp [whiteB]
  | true, c :: r, q, h => by
    rw [blk_t] at h
    rw [List.cons_append, blk_t]
    by_cases hc : c = 10
    · rw [if_pos hc] at h
      simp only [if_pos hc]
      rw [blk_all false r q (by simp at h; omega)]; simp; omega
    · rw [if_neg hc] at h
      simp only [if_neg hc]
      rw [blk_all true r q (by simp at h; omega)]; simp; omega
  | false, c :: r, q, h => by
    rw [blk_f] at h
    rw [List.cons_append, blk_f]
    by_cases hw : whiteB c = true
    · rw [if_pos hw] at h
      simp only [if_pos hw]
      rw [blk_all false r q (by simp at h; omega)]; simp; omega
    · rw [if_neg hw] at h
      simp only [if_neg hw]
      by_cases hc : c = 47 ∧ r.head? = some 47
      · rw [if_pos hc] at h
        have hr : (r ++ 10 :: q).head? = some 47 := by rw [List.head?_append, hc.2]; rfl
        rw [if_pos ⟨hc.1, hr⟩]
        rw [blk_all true r q (by simp at h; omega)]; simp; omega
      · rw [if_neg hc] at h; simp at h

/-! ### tokens -/
theorem takeWhile_append (p : UInt8 → Bool) (l q : List UInt8) (h : (l.takeWhile p).length < l.length ∨ ∀ c, q.head? = some c → p c = false) : (l ++ q).takeWhile p = l.takeWhile p := by
  induction l with
  | nil =>
    simp only [List.nil_append, List.takeWhile_nil, List.length_nil, Nat.lt_irrefl, false_or] at h ⊢
    cases q with
    | nil => rfl
    | cons c s => rw [List.takeWhile_cons, h c rfl]; simp
  | cons c r ih =>
    simp only [List.cons_append, List.takeWhile_cons] at h ⊢
    by_cases hp : p c = true
    · rw [if_pos hp] at h ⊢
      rw [if_pos hp, ih (by rcases h with h | h; exact .inl (by simpa using h); exact .inr h)]
    · rw [if_neg hp, if_neg hp]
theorem quo_append : ∀ f l q g x, quo f l = some x → f ≤ g → quo g (l ++ q) = some x
  | 0, l, q, g, x, h, _ => by simp [quo] at h
  | f + 1, l, q, g, x, h, hg => by
    obtain ⟨g, rfl⟩ : ∃ n, g = n + 1 := ⟨g - 1, by omega⟩
    unfold quo at h ⊢
    by_cases h34 : l.head? = some 34
    · rw [if_pos h34] at h
      rw [if_pos (by rw [List.head?_append, h34]; rfl)]; exact h
    · rw [if_neg h34] at h
      cases hu : unesc l with
      | none => rw [hu] at h; cases h
      | some cr =>
        obtain ⟨c, r⟩ := cr
        rw [hu] at h
        simp only at h
        by_cases he : esc c ++ r = l
        · rw [if_pos he] at h
          have hu2 : unesc (l ++ q) = some (c, r ++ q) := by rw [← he, List.append_assoc, unesc_esc]
          have hne : l ≠ [] := by intro e; rw [e] at hu; simp [unesc] at hu
          have h34' : (l ++ q).head? ≠ some 34 := by
            cases l with
            | nil => exact absurd rfl hne
            | cons d s => simpa using h34
          rw [if_neg h34', hu2]
          simp only
          rw [if_pos (by rw [← he, List.append_assoc])]
          cases hq : quo f r with
          | none => rw [hq] at h; cases h
          | some tn =>
            obtain ⟨t, n⟩ := tn
            rw [hq] at h
            rw [quo_append f r q g (t, n) hq (by omega)]
            exact h
        · rw [if_neg he] at h; cases h

end Go.Proofs.YtjndgfppjdobiaaGreatDoor.Lx
