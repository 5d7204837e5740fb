import PyProof.Rows.All
import Wide.All
import OpenK.AllK
import Wide.FinOn
import KE.GoesEnum
import KE.GoesEnumKw
import PySem.Challenge.RW_unseenheap_k01_words_of_a_text
import HandS.ForMost
import HandS.Exc
import HandS.WordsExc
import HandS.TryOnly
import HandS.ExcOwn
import HandS.ExcInit
import HandS.ExcField
import HandS.Wide
import HandS.IsInst
import HandS.StrMore
import HandS.Codes
import HandS.ReplaceLit
import HandS.ReplaceList
import HandS.Replace
set_option Elab.async false
set_option linter.all false
/-! The mathematics of the words of a text: lists of signs alone. -/
namespace Wk
inductive So | name | key | number | text | mark
  deriving DecidableEq, Repr
inductive Wd | s (l : List Nat) | n (k : Nat)
  deriving DecidableEq, Repr
structure Tk where
  so : So
  wd : Wd
  ln : Nat
  deriving DecidableEq, Repr
inductive Res | ok (ts : List Tk) | bad (l : Nat)
  deriving DecidableEq, Repr
def Res.app (ts : List Tk) : Res → Res
  | .ok us => .ok (ts ++ us)
  | .bad l => .bad l
theorem Res.app_nil (r : Res) : Res.app [] r = r := by cases r <;> rfl
theorem Res.app_app (a b : List Tk) (r : Res) : Res.app a (Res.app b r) = Res.app (a ++ b) r := by
  cases r with
  | ok us => show Res.ok (a ++ (b ++ us)) = Res.ok (a ++ b ++ us); rw [List.append_assoc]
  | bad l => rfl
def lettersL : List Nat := [97, 98, 99, 100, 101, 102, 103, 104, 105, 106, 107, 108, 109, 110, 111, 112, 113, 114, 115, 116, 117, 118, 119, 120, 121, 122,
  65, 66, 67, 68, 69, 70, 71, 72, 73, 74, 75, 76, 77, 78, 79, 80, 81, 82, 83, 84, 85, 86, 87, 88, 89, 90, 95]
def figsL : List Nat := [48, 49, 50, 51, 52, 53, 54, 55, 56, 57]
def marksL : List Nat := [40, 41, 91, 93, 123, 125, 44, 59, 46, 61, 60, 62, 43, 45, 42, 47]
def codes (s : String) : List Nat := s.toList.map Char.toNat
def keyStrings : List String := ["class", "of", "fun", "var", "if", "else", "while", "break", "continue", "return", "throw", "try", "catch", "say", "true", "false", "nil", "this", "super", "new", "and", "or", "not", "len", "weak", "worth", "number", "spawn", "join", "yield", "mod"]
def keysL : List (List Nat) := keyStrings.map codes
def isL (c : Nat) : Bool := decide (c ∈ lettersL)
def isF (c : Nat) : Bool := decide (c ∈ figsL)
def isS (c : Nat) : Bool := isL c || isF c
def plain (c : Nat) : Bool := decide (32 ≤ c) && decide (c ≤ 126) && decide (c ≠ 37)
def val (s : List Nat) : Nat := s.foldl (fun a c => a * 10 + (c - 48)) 0
def isName (s : List Nat) : Bool := decide (1 ≤ s.length) && decide (s.length ≤ 20) && !decide (s ∈ keysL) && isL (s.headD 0) && s.all isS
def isNum (s : List Nat) : Bool := decide (s.length ≤ 18) && s.all isF && (if s.headD 0 = 48 then decide (s = [48]) else decide (val s ≤ 2 ^ 59 - 1))
def classify (s : List Nat) : Option (So × Wd) :=
  if s ∈ keysL then some (.key, .s s) else if isName s = true then some (.name, .s s) else if isNum s = true then some (.number, .n (val s)) else none
/-- what a text has behind its first quote, and what stands behind its last one -/
def textP (acc : List Nat) : List Nat → Option (List Nat × List Nat)
  | [] => none
  | [c] => if c = 34 then some (acc, []) else none
  | c :: d :: r => if c = 34 then (if d = 34 then textP (acc ++ [34]) r else some (acc, d :: r)) else if plain c = true then textP (acc ++ [c]) (d :: r) else none
def two (c : Nat) (r : List Nat) : Bool := decide (c ∈ [61, 33, 60, 62]) && decide (r.headD 0 = 61)
def tok : List Nat → Option (So × Wd × List Nat)
  | [] => none
  | c :: r =>
    if isS c = true then (classify (c :: r.takeWhile isS)).map fun p => (p.1, p.2, r.dropWhile isS)
    else if c = 34 then (textP [] r).map fun p => (.text, .s p.1, p.2)
    else if two c r = true then some (.mark, .s [c, 61], r.tail)
    else if c ∈ marksL then some (.mark, .s [c], r) else none
theorem textP_len : ∀ (r acc : List Nat) {w r' : List Nat}, textP acc r = some (w, r') → r'.length < r.length
  | [], _, _, _, h => by simp [textP] at h
  | [c], acc, w, r', h => by
    simp only [textP] at h
    split at h
    · cases h; simp
    · cases h
  | c :: d :: r, acc, w, r', h => by
    simp only [textP] at h
    split at h
    · split at h
      · have := textP_len r _ h; simp; omega
      · cases h; simp
    · split at h
      · have := textP_len (d :: r) _ h; simp at this ⊢; omega
      · cases h
theorem drop_len (p : Nat → Bool) : ∀ l : List Nat, (l.dropWhile p).length ≤ l.length
  | [] => Nat.le_refl _
  | a :: l => by
    rw [List.dropWhile_cons]
    split
    · exact Nat.le_succ_of_le (drop_len p l)
    · exact Nat.le_refl _
theorem tok_len {l : List Nat} {so : So} {wd : Wd} {r' : List Nat} (h : tok l = some (so, wd, r')) : r'.length < l.length := by
  cases l with
  | nil => simp [tok] at h
  | cons c r =>
    simp only [tok] at h
    split at h
    · cases e : classify (c :: r.takeWhile isS) with
      | none => rw [e] at h; cases h
      | some p => rw [e] at h; cases h; have := drop_len isS r; simp; omega
    · split at h
      · cases e : textP [] r with
        | none => rw [e] at h; cases h
        | some p =>
          rw [e] at h
          cases h
          have := textP_len r [] e
          simp; omega
      · split at h
        · cases h; simp; omega
        · split at h
          · cases h; simp
          · cases h
def notNl (c : Nat) : Bool := !decide (c = 10)
/-- the words of a text from a line on, or the first line with what is none -/
def cutF (line : Nat) (l : List Nat) : Res :=
  match l with
  | [] => .ok []
  | c :: r =>
    if c = 10 then cutF (line + 1) r
    else if c = 32 then cutF line r
    else if c = 35 then (if (r.takeWhile notNl).all plain = true then cutF line (r.dropWhile notNl) else .bad line)
    else match h : tok (c :: r) with
      | none => .bad line
      | some (so, wd, r') => Res.app [⟨so, wd, line⟩] (cutF line r')
termination_by l.length
decreasing_by
  · simp
  · simp
  · have := drop_len notNl r; simp; omega
  · exact tok_len h
theorem cutF_nil (n : Nat) : cutF n [] = .ok [] := by rw [cutF]
theorem cutF_nl (n : Nat) (r : List Nat) : cutF n (10 :: r) = cutF (n + 1) r := by rw [cutF]; rfl
theorem cutF_sp (n : Nat) (r : List Nat) : cutF n (32 :: r) = cutF n r := by rw [cutF]; simp
theorem cutF_note (n : Nat) (r : List Nat) : cutF n (35 :: r) = if (r.takeWhile notNl).all plain = true then cutF n (r.dropWhile notNl) else .bad n := by rw [cutF]; simp
theorem cutF_tok {n c : Nat} {r : List Nat} (h1 : c ≠ 10) (h2 : c ≠ 32) (h3 : c ≠ 35) : cutF n (c :: r) = match tok (c :: r) with
      | none => .bad n
      | some (so, wd, r') => Res.app [⟨so, wd, n⟩] (cutF n r') := by
  rw [cutF]
  simp only [h1, h2, h3, if_false]
  split <;> simp_all
theorem cutF_some {n c : Nat} {r : List Nat} {so : So} {wd : Wd} {r' : List Nat} (h1 : c ≠ 10) (h2 : c ≠ 32) (h3 : c ≠ 35) (h : tok (c :: r) = some (so, wd, r')) : cutF n (c :: r) = Res.app [⟨so, wd, n⟩] (cutF n r') := by
  rw [cutF_tok h1 h2 h3, h]
theorem cutF_none {n c : Nat} {r : List Nat} (h1 : c ≠ 10) (h2 : c ≠ 32) (h3 : c ≠ 35) (h : tok (c :: r) = none) : cutF n (c :: r) = .bad n := by
  rw [cutF_tok h1 h2 h3, h]
end Wk
set_option maxRecDepth 100000
namespace Wk
open PySem L2 TL
def top (i : Nat) : Stmt := PySem.Challenge.pw_unseenheap_k01_words_of_a_text.main.body.getD i (.Pass ⟨0, 0, 0, 0⟩)
open SX (S S_len)
theorem S_tl (l : List Nat) : (S l).cps.toList = l := rfl
theorem S_inj {a b : List Nat} (h : S a = S b) : a = b := by
  have h2 : (S a).cps.toList = (S b).cps.toList := by rw [h]
  exact h2
theorem S_of (s : String) : Str.ofString s = S (codes s) := ext_tl (tl_ofString s)
theorem S_mk (x : Str) : x = S x.cps.toList := ext_tl rfl
theorem S_app (a b : List Nat) : S a ++ S b = S (a ++ b) := ext_tl (tl_append (S a) (S b))
/-- what the top has written beside the defs -/
structure Txt (K : PySem.W.Frag) (mg : Str → Option Value) where
  n_len : mg "len" = none
  n_int : mg "int" = none
  n_abs : mg "abs" = none
  n_isinstance : mg "isinstance" = none
  n_str : mg "str" = none
  n_list : mg "list" = none
  n_tuple : mg "tuple" = none
  n_bool : mg "bool" = none
  n_all : mg "all" = none
  n_range : mg "range" = none
  n_ord : mg "ord" = none
  n_enumerate : mg "enumerate" = none
  tLETTERS : Tok
  mLETTERS : mg "LETTERS" = some (.str (S lettersL) tLETTERS)
  tFIGURES : Tok
  mFIGURES : mg "FIGURES" = some (.str (S figsL) tFIGURES)
  tMARKS : Tok
  mMARKS : mg "MARKS" = some (.str (S marksL) tMARKS)
  tMOST_SIGNS : Tok
  mMOST_SIGNS : mg "MOST_SIGNS" = some (.int 20 tMOST_SIGNS)
  tMOST_FIGURES : Tok
  mMOST_FIGURES : mg "MOST_FIGURES" = some (.int 18 tMOST_FIGURES)
  tBARRED : Tok
  mBARRED : mg "BARRED" = some (.int 37 tBARRED)
  tGREATEST : Tok
  mGREATEST : mg "GREATEST" = some (.int (2 ^ 59 - 1) tGREATEST)
  aKEYS : Addr
  mKEYS : mg "KEYS" = some (.ref aKEYS)
  kKEYS : ∀ H, SqT K H aKEYS (keysL.map fun l => V.str (S l))
  aDOUBLE : Addr
  mDOUBLE_MARKS : mg "DOUBLE_MARKS" = some (.ref aDOUBLE)
  kDOUBLE : ∀ H, SqT K H aDOUBLE ([[61, 61], [33, 61], [60, 61], [62, 61]].map fun l => V.str (S l))
/-- the callee: where it stands, what it promises -/
structure Def (P : Program) (w : World) (K : PySem.W.Frag) (mg : Str → Option Value) (base : Heap) (CX : CXT) (x : Str) (ps : List Str) (k : Nat) (sp : Sp) where
  f : Addr
  fd : FuncData
  ok : FnOk P w K mg base CX k f fd ps sp
  g : mg x = some (.ref f)
  k : PySem.W.keepIn K (.ref f) = true
  b : Binds K fd ps []
section
variable {P : Program} {w : World} {K : PySem.W.Frag} {mg : Str → Option Value} {base : Heap}
abbrev s_is_of_stretch : Stmt := top 19
theorem sc_is_of_stretch : FnScope ["sign"] ["sign"] (defScope s_is_of_stretch) := ⟨rfl, rfl, rfl, by decide +kernel, rfl, by decide +kernel, by decide +kernel⟩
def sp_is_of_stretch : Sp := fun vs H Q _ => ∃ c, vs = [.str (S [c])] ∧ Q (.bl (isS c)) H
theorem ok_is_of_stretch (T : Txt K mg) {f : Addr} {fd : FuncData} (F : Fun K "is_of_stretch" "is_of_stretch" s_is_of_stretch f fd) : FnOk P w K mg base CX0 1 f fd ["sign"] sp_is_of_stretch := by
  refine F.ok sc_is_of_stretch (fun vs H Q E h => ?_) (fun cdv A outer s H vs Q E hr h => ?_)
  · obtain ⟨c, rfl, _⟩ := h; rfl
  obtain ⟨c, rfl, q⟩ := h
  refine ⟨_, (pss_one (ps_ret (pe_or (pe_cmpR op_in_sign (pv 0) (pe_glob (v := .str (S lettersL)) rfl T.mLETTERS ⟨_, rfl⟩) rfl) (pe_one (pe_cmpR op_in_sign (pv 0) (pe_glob (v := .str (S figsL)) rfl T.mFIGURES ⟨_, rfl⟩) rfl))))), ?_⟩
  refine ⟨_, rfl, c, _, rfl, rfl, _, rfl, ?_⟩
  refine ite2 (fun e => ?_) (fun e => ?_)
  · have e' : isL c = true := e
    have : isS c = true := by unfold isS; rw [e']; rfl
    rw [this] at q; exact q
  · have e' : isL c = false := by
      have : ¬ isL c = true := e
      simpa using this
    refine ⟨_, rfl, c, _, rfl, rfl, ?_⟩
    have : isS c = isF c := by unfold isS; rw [e']; rfl
    rw [this] at q; exact q
end
end Wk
set_option maxRecDepth 100000
set_option maxHeartbeats 4000000
namespace Wk
open PySem L2 TL PySem.Builtin
open PySem.Builtin.Str (tooLong)
open SX (S S_len)
theorem take_next {α : Type} : ∀ {l : List α} {i : Nat} {x : α}, l[i]? = some x → l.take (i + 1) = l.take i ++ [x]
  | [], i, x, h => by simp at h
  | a :: l, 0, x, h => by
    have e : a = x := Option.some.inj h
    subst e; rfl
  | a :: l, i + 1, x, h => by
    show a :: l.take (i + 1) = a :: l.take i ++ [x]
    rw [take_next (l := l) (i := i) (x := x) h]; rfl
theorem same_new {H : Hp} {p : Addr} (h : H p = none) (o : HO) : Same H (upd H p o) := fun b u q => by rw [upd_ne (ne_of_none q h)]; exact q
theorem same_to {H H' : Hp} {p : Addr} (g : Same H H') (h : H' p = none) (o : HO) : Same H (upd H' p o) := g.trans (same_new h o)
/-- an object that H does not know may change -/
theorem same_mut {H H' : Hp} {p : Addr} (g : Same H H') (h : H p = none) (o : HO) : Same H (upd H' p o) := fun b u q => by rw [upd_ne (ne_of_none q h)]; exact g b u q
theorem seqT {K : PySem.W.Frag} {H H' : Hp} {a : Addr} {xs : List V} (e : Same H H') (h : SqT K H a xs) : SqT K H' a xs := by
  rcases h with (h | ⟨o, h⟩) | h
  · exact .inl (.inl (e _ _ h))
  · exact .inl (.inr ⟨o, e _ _ h⟩)
  · exact .inr h
theorem line_eq : sizeLine = 16777216 := sizeLine_eq
theorem ited {p A B : Prop} [Decidable p] (h1 : p → A) (h2 : ¬ p → B) : if decide p = true then A else B := by
  by_cases h : p
  · rw [if_pos (decide_eq_true h)]; exact h1 h
  · rw [if_neg (by rw [decide_eq_false h]; exact Bool.false_ne_true)]; exact h2 h
theorem itedn {p A B : Prop} [Decidable p] (h1 : ¬ p → A) (h2 : p → B) : if (!decide p) = true then A else B := by
  by_cases h : p
  · rw [if_neg (by rw [decide_eq_true h]; exact Bool.false_ne_true)]; exact h2 h
  · rw [if_pos (by rw [decide_eq_false h]; rfl)]; exact h1 h
theorem iteb {b : Bool} {A B : Prop} (h1 : b = true → A) (h2 : b = false → B) : if b = true then A else B := by
  cases b with
  | true => rw [if_pos rfl]; exact h1 rfl
  | false => rw [if_neg Bool.false_ne_true]; exact h2 rfl
theorem itebn {b : Bool} {A B : Prop} (h1 : b = false → A) (h2 : b = true → B) : if (!b) = true then A else B := by
  cases b with
  | true => rw [if_neg (by exact Bool.false_ne_true)]; exact h2 rfl
  | false => rw [if_pos (by rfl)]; exact h1 rfl
theorem bl_to {R : VK} {x y : Bool} {H : Hp} (r : R (.bl y) H) (e : x = y) : R (.bl x) H := e ▸ r
/-- all([.. for sign in text]) -/
theorem all_text {K : PySem.W.Frag} {l : List Nat} {p : Nat → Bool} {i : Nat} {te tv : TE} {σ : L2.St} {H : Hp} {Q : VK} (hl : l.length < sizeLine)
    (hv : ∀ R : V → Hp → Prop, R (.str (S l)) H → tv σ H R) (hw : ∀ c, wipe ((wipe σ [i]).set i (some (.str (S [c])))) [i] = wipe σ [i])
    (he : ∀ c ∈ l, ∀ H' (R : VK), R (.bl (p c)) H' → te ((wipe σ [i]).set i (some (.str (S [c])))) H' R) (q : ∀ H', Same H H' → Q (.bl (l.all p)) H') :
    tCB (rAll K) (tCons (tLc (iStr tv) (gName i) tYes te [i]) tNil) σ H Q := by
  refine hv _ ⟨_, rfl, fun D hD => ?_⟩
  refine ⟨fun k m H' => k + m = l.length ∧ Same H H' ∧ H' D = some (.lst ((l.take k).map fun c => V.bl (p c))), ⟨l.length, by omega, same_new hD _, upd_same⟩, ?_⟩
  rintro k m H' ⟨e, g, hd⟩
  by_cases hk : k < l.length
  · have hg : (S l).cps.size = l.length := by simp [S]
    have hx : l[k]? = some l[k] := List.getElem?_eq_getElem hk
    refine .inr ⟨(by show k < (S l).cps.size; rw [hg]; exact hk), fun H2 => k + 1 + (m - 1) = l.length ∧ Same H H2 ∧ H2 D = some (.lst ((l.take (k + 1)).map fun c => V.bl (p c))), fun H2 h2 => ⟨m - 1, by omega, h2⟩, fun x H2 y => ?_⟩
    obtain ⟨e2, c, hc, e3⟩ := y
    subst e2; subst e3
    have hc' : l[k]? = some c := by
      have : (S l).cps.toList[k]? = some c := by rw [Array.getElem?_toList]; exact hc
      exact this
    have hm : c ∈ l := List.mem_of_getElem? hc'
    refine ⟨hw c, ?_⟩
    unfold tYes
    dsimp only
    rw [if_pos rfl]
    refine he c hm _ _ ?_
    refine ⟨_, hd, by rw [List.length_map, List.length_take]; omega, by omega, same_mut g hD _, ?_⟩
    rw [upd_same, take_next hc', List.map_append]; rfl
  · have ek : k = l.length := by omega
    have hg : (S l).cps.size = l.length := by simp [S]
    refine .inl ⟨(by show (S l).cps.size ≤ k; rw [hg]; omega), ?_⟩
    subst ek
    rw [List.take_length] at hd
    refine ⟨D, l.map p, rfl, SqL.of (by rw [List.map_map]; exact hd), ?_⟩
    have e2 : (l.map p).all id = l.all p := by rw [List.all_map]; rfl
    rw [e2]
    exact q _ g
/-- text * int, two times and more -/
theorem fold_app : ∀ (n : Nat) (l : List Nat) (acc : Array Nat), (List.replicate n l.toArray).foldl (· ++ ·) acc = (acc.toList ++ (List.replicate n l).flatten).toArray
  | 0, l, acc => by simp
  | n + 1, l, acc => by
    rw [List.replicate_succ, List.foldl_cons, fold_app n l _, List.replicate_succ, List.flatten_cons]
    simp
def rMulS : R2 := fun x y H Q => ∃ (l : List Nat) (k : Int), x = .str (S l) ∧ y = .int k ∧ 2 ≤ k ∧ k ≤ 100000 ∧ 1 ≤ l.length ∧ l.length ≤ 100 ∧ Q (.str (S (List.replicate k.toNat l).flatten)) H
section
variable {X : Cx}
theorem op_mul_str : OpR X (binaryOp .Mult) rMulS := by
  intro pins s σ H x y v u Q I rx ry h
  obtain ⟨l, k, rfl, rfl, h2, h3, h4, h5, q⟩ := h
  obtain ⟨t, rfl⟩ := rx
  obtain ⟨t', rfl⟩ := ry
  have hlen : (S l).length = l.length := S_len l
  have hz : sizeLine = 16777216 := sizeLine_eq
  have hp : l.length * k.toNat ≤ 100 * 100000 := Nat.mul_le_mul h5 (by omega)
  have e1 : (decide (k < -(2 ^ 63 : Int)) || decide (k ≥ 2 ^ 63)) = false := by
    rw [decide_eq_false (show ¬ k < -(2 ^ 63 : Int) by omega), decide_eq_false (show ¬ k ≥ 2 ^ 63 by omega)]; rfl
  have e2 : (k == 1 || (S l).length == 0) = false := by
    rw [hlen, Bool.or_eq_false_iff]
    exact ⟨beq_eq_false_iff_ne.mpr (by omega), beq_eq_false_iff_ne.mpr (by omega)⟩
  have hl : tooLong ((S l).length * k.toNat) = false := by
    unfold tooLong
    rw [hlen]
    exact decide_eq_false (by omega)
  refine PySem.P.mul_str e1 (fun _ _ => ?_) (fun _ _ => hl) ?_
  · rw [hlen]
    have : (2 ^ 63 - 1 : Int) / 100000 ≤ (2 ^ 63 - 1) / k := by
      apply Int.le_ediv_of_mul_le (by omega)
      have : (2 ^ 63 - 1 : Int) / 100000 * k ≤ (2 ^ 63 - 1 : Int) / 100000 * 100000 := Int.mul_le_mul_of_nonneg_left h3 (by decide)
      omega
    have : (92233720368547 : Int) ≤ (2 ^ 63 - 1) / k := this
    generalize (2 ^ 63 - 1 : Int) / k = q at this ⊢
    omega
  · rw [if_neg (by omega), if_neg (by rw [e2]; exact Bool.false_ne_true)]
    have e3 : (⟨(List.replicate k.toNat (S l).cps).foldl (· ++ ·) #[]⟩ : Str) = S (List.replicate k.toNat l).flatten := by
      show (⟨(List.replicate k.toNat l.toArray).foldl (· ++ ·) #[]⟩ : Str) = _
      rw [fold_app]
      rfl
    rw [e3]
    refine ⟨?_, ⟨.str _, H, I.tok _, ⟨_, rfl⟩, q⟩⟩
    rw [S_len]
    have : (List.replicate k.toNat l).flatten.length = k.toNat * l.length := by simp
    rw [this, Nat.mul_comm]
    omega
theorem pget_list : PGet X (rIxL X.K) := by
  intro pins s σ H o i ov iv Q I ro ri h
  obtain ⟨p, xs, k, z, rfl, rfl, hq, he, q⟩ := h
  cases ro
  obtain ⟨t, rfl⟩ := ri
  obtain ⟨its, r, pl, hz⟩ := I.list hq
  obtain ⟨j, h1, h2, h3, h4, h5⟩ := atI_get he
  obtain ⟨w, ew, rw'⟩ := r.get h2
  have hl := r.length
  have hn := line63
  have fin : EP X pins σ Q w s := ⟨z, H, I, rw', q⟩
  by_cases h0 : 0 ≤ k
  · have hj : k.toNat = j := by
      rw [seqIndex_of h0 h5] at h1
      exact Option.some.inj h1
    exact wpAny_getItem_list pl.isList h0 (by omega) (by rw [hj]; simpa using ew) fin
  · have hj : (k + (its.toArray.size : Int)).toNat = j := by
      rw [seqIndex_neg (by omega) h4] at h1
      rw [List.size_toArray, ← hl]
      exact Option.some.inj h1
    exact wpAny_getItem_list_neg (Q := fun r s' => EP X pins σ Q r s') pl.isList (by omega) (by rw [List.size_toArray] <;> omega) (by omega) (by rw [hj]; simpa using ew) fin
/-- a written text + what wants a token -/
theorem pe_addT {e : Expr} {te : TE} {r : R2} {c : Str} {j : Nat} {cp pos : Pos} (ho : OpR X (binaryOp .Add) r) (he : PET X e te) : PE X (.BinOp (.Constant (.str c) j cp) .Add e pos) (tOp r (tC (.str c)) te) := by
  refine ⟨fun pins s σ H Q I h => ?_⟩
  refine wpAny_BinOp (Calls.Constant_str ?_)
  exact thn (he pins _ σ H _ (by show 1 ≤ s.toks + 1; omega) (I.tok (s.toks + 1)) h) fun u s2 ⟨y, H2, I2, r2, q2⟩ => ho pins s2 σ H2 (.str c) y _ u Q I2 ⟨_, rfl⟩ r2 q2
theorem pa_consT {es : List Expr} {ta : TA} {c : Str} {j : Nat} {cp : Pos} (hr : PAT X es ta) (hs : starEach (.Constant (.str c) j cp :: es) X.env = (false, eval (.Constant (.str c) j cp) X.env) :: starEach es X.env := by rfl) : PA X (.Constant (.str c) j cp :: es) (tCons (tC (.str c)) ta) := by
  refine ⟨fun pos pins s σ H Q I h => ?_⟩
  rw [hs]
  show wpAny _ _ (spliced ((false, eval (.Constant (.str c) j cp) X.env) :: backTo pos (starEach es X.env))) _ _ s
  refine Calls.spliced_cons (Calls.Constant_str ?_)
  exact thn (hr pos pins _ σ H _ (by show 1 ≤ s.toks + 1; omega) (I.tok (s.toks + 1)) h) fun us s2 ⟨xs, H2, I2, r2, q2⟩ => ⟨.str c :: xs, H2, I2, .cons ⟨_, rfl⟩ r2, q2⟩
end
end Wk
set_option maxRecDepth 100000
set_option maxHeartbeats 4000000
namespace Wk
open PySem L2 TL PyProof.Rows
open SX (S S_len)
section
variable {P : Program} {w : World} {K : PySem.W.Frag} {mg : Str → Option Value} {base : Heap}
/-! ### is_plain -/
abbrev s_is_plain : Stmt := top 22
theorem sc_is_plain : FnScope ["thing", "sign"] ["thing"] (defScope s_is_plain) := ⟨rfl, rfl, rfl, by decide +kernel, rfl, by decide +kernel, by decide +kernel⟩
def sp_is_plain : Sp := fun vs H Q _ => ∃ l, vs = [.str (S l)] ∧ l.length ≤ 1000000 ∧ ∀ H', Same H H' → Q (.bl (l.all plain)) H'
theorem ok_is_plain (T : Txt K mg) {f : Addr} {fd : FuncData} (F : Fun K "is_plain" "is_plain" s_is_plain f fd) : FnOk P w K mg base CX0 1 f fd ["thing"] sp_is_plain := by
  refine F.ok sc_is_plain (fun vs H Q E h => ?_) (fun cdv A outer s H vs Q E hr h => ?_)
  · obtain ⟨c, rfl, _⟩ := h; rfl
  obtain ⟨l, rfl, hl, q⟩ := h
  refine ⟨_, (pss_cons (ps_if (pt_not (pt_val (pe_callB call_isi rfl T.n_isinstance boot_isinstance (pa_cons (pv 0) (pa_cons (pe_bltn (v := .ty "str") rfl T.n_str boot_str rfl) pa_nil))))) (pss_one (ps_ret pe_bl)) pss_nil)
    (pss_one (ps_ret (pe_callB (cr_all rfl) rfl T.n_all boot_all (pa_cons (pe_lc (own := [("sign", 1)]) (g := gName 1) (tt := tYes) rfl sc_is_plain.nd (pi_str (pv 0)) (blkOk_by (N := ["thing", "sign"]) (sc := defScope s_is_plain) (by decide +kernel)) (fun _ _ _ _ _ => pg_name (i := 1) sc_is_plain.nd rfl (Or.inl rfl)) (fun _ _ _ _ _ => pts_nil) (fun _ _ _ _ _ => (pe_and (pe_chain op_le op_le pe_int (pe_callB call_ord rfl T.n_ord boot_ord (pa_cons (pv 1) pa_nil)) pe_int) (pe_one (pe_cmpR op_ne (pe_callB call_ord rfl T.n_ord boot_ord (pa_cons (pv 1) pa_nil)) (pe_glob (v := .int 37) rfl T.mBARRED ⟨_, rfl⟩) (nomark _)))))) pa_nil))))), ?_⟩
  have hz := line_eq
  refine ⟨_, rfl, _, _, _, _, true, rfl, .ty "str", .base (.str _), kit_ty (by decide +kernel), true, rfl, ?_⟩
  refine iteF ?_
  show tCB (rAll K) (tCons (tLc (iStr (tVar 0)) (gName 1) tYes _ [1]) tNil) [some (V.str (S l)), none] H _
  refine all_text (l := l) (p := plain) (by omega) ?_ ?_ ?_ ?_
  · exact fun R r => ⟨_, rfl, r⟩
  · exact fun c => rfl
  rotate_left
  · exact fun H' g => q H' g
  intro c hc H' R r
  -- 32 <= ord(sign) <= 126 and ord(sign) != BARRED
  refine ⟨_, rfl, S [c], rfl, rfl, _, _, rfl, rfl, _, rfl, ?_⟩
  have e0 : (S [c]).cps.getD 0 0 = c := rfl
  rw [e0]
  refine ited (fun h1 => ?_) (fun h1 => ?_)
  · refine ⟨_, _, rfl, rfl, _, rfl, ?_⟩
    refine ited (fun h2 => ?_) (fun h2 => ?_)
    · refine ⟨_, rfl, S [c], rfl, rfl, rfl, bl_to r ?_⟩
      rw [e0, Bool.eq_iff_iff]; simp [plain]; omega
    · exact bl_to r (by rw [Bool.eq_iff_iff]; simp [plain]; omega)
  · exact ⟨_, rfl, bl_to r (by rw [Bool.eq_iff_iff]; simp [plain]; omega)⟩
/-! ### is_name -/
abbrev s_is_name : Stmt := top 21
theorem sc_is_name : FnScope ["thing", "sign"] ["thing"] (defScope s_is_name) := ⟨rfl, rfl, rfl, by decide +kernel, rfl, by decide +kernel, by decide +kernel⟩
def sp_is_name : Sp := fun vs H Q _ => ∃ l, vs = [.str (S l)] ∧ l.length ≤ 1000000 ∧ ∀ H', Same H H' → Q (.bl (isName l)) H'
theorem isName_len {l : List Nat} (h : ¬ (1 ≤ l.length ∧ l.length ≤ 20)) : isName l = false := by
  unfold isName
  by_cases h1 : 1 ≤ l.length
  · have h2 : ¬ l.length ≤ 20 := fun h2 => h ⟨h1, h2⟩
    simp [h2]
  · simp [h1]
theorem inV_keys (l : List Nat) (ks : List (List Nat)) : inV (.str (S l)) (ks.map fun k => V.str (S k)) = decide (l ∈ ks) := by
  rw [Bool.eq_iff_iff]
  unfold inV
  rw [List.any_eq_true, decide_eq_true_eq]
  constructor
  · rintro ⟨y, hy, e⟩
    obtain ⟨k, hk, rfl⟩ := List.mem_map.mp hy
    have : S k = S l := by
      have e' : decide (S k = S l) = true := by simpa [eqV] using e
      exact of_decide_eq_true e'
    rw [← S_inj this]; exact hk
  · intro h
    exact ⟨_, List.mem_map.mpr ⟨l, h, rfl⟩, by simp [eqV]⟩
theorem flat_keys (ks : List (List Nat)) : (ks.map fun k => V.str (S k)).all flatV = true := by
  rw [List.all_map, List.all_eq_true]; intro k _; rfl
theorem ok_is_name (T : Txt K mg) {f : Addr} {fd : FuncData} (F : Fun K "is_name" "is_name" s_is_name f fd) (D_is_of_stretch : Def P w K mg base CX0 "is_of_stretch" ["sign"] 1 sp_is_of_stretch) : FnOk P w K mg base CX0 2 f fd ["thing"] sp_is_name := by
  refine F.ok sc_is_name (fun vs H Q E h => ?_) (fun cdv A outer s H vs Q E hr h => ?_)
  · obtain ⟨c, rfl, _⟩ := h; rfl
  obtain ⟨l, rfl, hl, q⟩ := h
  refine ⟨_, (pss_cons (ps_if (PW.pt (pw_or (pt_not (pt_val (pe_callB call_isi rfl T.n_isinstance boot_isinstance (pa_cons (pv 0) (pa_cons (pe_bltn (v := .ty "str") rfl T.n_str boot_str rfl) pa_nil))))) (pw_or (pt_not (pt_chain op_le op_le pe_int (pe_callB call_len_str rfl T.n_len boot_len (pa_cons (pv 0) pa_nil)) (pe_glob (v := .int 20) rfl T.mMOST_SIGNS ⟨_, rfl⟩))) (pw_or1 (pt_cmpR op_in_seq (pv 0) (pe_glob (v := .ref T.aKEYS) rfl T.mKEYS rfl) rfl))))) (pss_one (ps_ret pe_bl)) pss_nil)
    (pss_one (ps_ret (pe_and (pe_cmpR op_in_sign (pe_ix ix_str (pv 0) pe_int (fun _ _ => rfl)) (pe_glob (v := .str (S lettersL)) rfl T.mLETTERS ⟨_, rfl⟩) rfl) (pe_one (pe_callB (cr_all rfl) rfl T.n_all boot_all (pa_cons (pe_lc (own := [("sign", 1)]) (g := gName 1) (tt := tYes) rfl sc_is_name.nd (pi_str (pv 0)) (blkOk_by (N := ["thing", "sign"]) (sc := defScope s_is_name) (by decide +kernel)) (fun _ _ _ _ _ => pg_name (i := 1) sc_is_name.nd rfl (Or.inl rfl)) (fun _ _ _ _ _ => pts_nil) (fun _ _ _ _ _ => (pe_call D_is_of_stretch.ok (hr.mono (by omega)) rfl D_is_of_stretch.g D_is_of_stretch.k D_is_of_stretch.b .nil pass0 (pa_cons (pv 1) pa_nil)))) pa_nil))))))), ?_⟩
  have hz := line_eq
  have hlen := S_len l
  refine ⟨_, rfl, _, _, _, _, true, rfl, .ty "str", .base (.str _), kit_ty (by decide +kernel), true, rfl, ?_⟩
  refine iteF ?_
  -- 1 <= len(thing) <= 20
  refine ⟨_, rfl, _, rfl, (by rw [hlen]; omega), _, _, rfl, rfl, _, rfl, ?_⟩
  rw [hlen]
  refine ited (fun h1 => ?_) (fun h1 => ?_)
  · refine ⟨_, _, rfl, rfl, _, rfl, ?_⟩
    refine itedn (fun h2 => ?_) (fun h2 => ?_)
    · exact bl_to (q H (Same.refl H)) (isName_len (by omega)).symm
    refine ⟨_, rfl, _, _, rfl, .inr (T.kKEYS H), rfl, flat_keys _, _, rfl, ?_⟩
    rw [inV_keys]
    refine iteb (fun h3 => ?_) (fun h3 => ?_)
    · refine bl_to (q H (Same.refl H)) ?_
      have h3 : decide (l ∈ keysL) = true := h3
      unfold isName; rw [h3]; simp
    have h3 : decide (l ∈ keysL) = false := h3
    -- thing[0] in LETTERS
    obtain ⟨c, r, rfl⟩ : ∃ c r, l = c :: r := by
      cases l with
      | nil => simp at h1
      | cons c r => exact ⟨c, r, rfl⟩
    refine ⟨_, rfl, S (c :: r), 0, c, rfl, rfl, (by rw [hlen]; omega), (show atI (c :: r) ((0 : Nat) : Int) = some c from atI_nat rfl), c, _, rfl, rfl, _, rfl, ?_⟩
    have e1 : isName (c :: r) = (isL c && (c :: r).all isS) := by
      unfold isName
      rw [h3]
      have a : decide (1 ≤ (c :: r).length) = true := decide_eq_true (by omega)
      have b : decide ((c :: r).length ≤ 20) = true := decide_eq_true (by omega)
      rw [a, b]; simp
    refine iteb (fun h4 => ?_) (fun h4 => ?_)
    · have h4 : isL c = true := h4
      show tCB (rAll K) (tCons (tLc (iStr (tVar 0)) (gName 1) tYes _ [1]) tNil) [some (V.str (S (c :: r))), none] H _
      refine all_text (l := c :: r) (p := isS) (by omega) ?_ ?_ ?_ ?_
      · exact fun R r => ⟨_, rfl, r⟩
      · exact fun c => rfl
      · intro d hd H' R r'
        exact ⟨_, rfl, d, rfl, r'⟩
      · intro H' g
        exact bl_to (q H' g) (by rw [e1, h4]; rfl)
    · have h4 : isL c = false := h4
      exact bl_to (q H (Same.refl H)) (by rw [e1, h4]; rfl)
  · refine ⟨_, rfl, ?_⟩
    exact bl_to (q H (Same.refl H)) (isName_len (by omega)).symm
/-! ### is_number_word -/
abbrev s_is_number_word : Stmt := top 20
theorem sc_is_number_word : FnScope ["stretch", "sign"] ["stretch"] (defScope s_is_number_word) := ⟨rfl, rfl, rfl, by decide +kernel, rfl, by decide +kernel, by decide +kernel⟩
def sp_is_number_word : Sp := fun vs H Q _ => ∃ l, vs = [.str (S l)] ∧ l ≠ [] ∧ l.length ≤ 1000000 ∧ ∀ H', Same H H' → Q (.bl (isNum l)) H'
theorem val_digits (l : List Nat) : val l = NumText.digitsVal l := rfl
theorem figs_of {l : List Nat} (h : l.all isF = true) : l.all (fun c => decide (48 ≤ c) && decide (c ≤ 57)) = true := by
  rw [List.all_eq_true] at h ⊢
  intro c hc
  have := h c hc
  simp [isF, figsL] at this ⊢
  omega
theorem ok_is_number_word (T : Txt K mg) {f : Addr} {fd : FuncData} (F : Fun K "is_number_word" "is_number_word" s_is_number_word f fd) : FnOk P w K mg base CX0 1 f fd ["stretch"] sp_is_number_word := by
  refine F.ok sc_is_number_word (fun vs H Q E h => ?_) (fun cdv A outer s H vs Q E hr h => ?_)
  · obtain ⟨c, rfl, _⟩ := h; rfl
  obtain ⟨l, rfl, hne, hl, q⟩ := h
  refine ⟨_, (pss_cons (ps_if (PW.pt (pw_or (pt_cmpR op_gt (pe_callB call_len_str rfl T.n_len boot_len (pa_cons (pv 0) pa_nil)) (pe_glob (v := .int 18) rfl T.mMOST_FIGURES ⟨_, rfl⟩) (nomark _)) (pw_or1 (pt_not (pt_val (pe_callB (cr_all rfl) rfl T.n_all boot_all (pa_cons (pe_lc (own := [("sign", 1)]) (g := gName 1) (tt := tYes) rfl sc_is_number_word.nd (pi_str (pv 0)) (blkOk_by (N := ["stretch", "sign"]) (sc := defScope s_is_number_word) (by decide +kernel)) (fun _ _ _ _ _ => pg_name (i := 1) sc_is_number_word.nd rfl (Or.inl rfl)) (fun _ _ _ _ _ => pts_nil) (fun _ _ _ _ _ => (pe_cmpR op_in_sign (pv 1) (pe_glob (v := .str (S figsL)) rfl T.mFIGURES ⟨_, rfl⟩) rfl))) pa_nil))))))) (pss_one (ps_ret pe_bl)) pss_nil)
    (pss_cons (ps_if (pt_cmpR op_eq (pe_ix ix_str (pv 0) pe_int (fun _ _ => rfl)) pe_str (nomark _)) (pss_one (ps_ret (pe_cmpR op_eq (pv 0) pe_str (nomark _)))) pss_nil)
    (pss_one (ps_ret (pe_cmpR op_le (pe_callTy call_int_str rfl T.n_int boot_int (pa_cons (pv 0) pa_nil)) (pe_glob (v := .int (2 ^ 59 - 1)) rfl T.mGREATEST ⟨_, rfl⟩) (nomark _)))))), ?_⟩
  have hz := line_eq
  have hlen := S_len l
  -- len(stretch) > 18
  refine ⟨_, rfl, _, rfl, (by rw [hlen]; omega), _, _, rfl, rfl, _, rfl, ?_⟩
  rw [hlen]
  refine ited (fun h1 => ?_) (fun h1 => ?_)
  · refine iteT ?_
    refine bl_to (q H (Same.refl H)) ?_
    unfold isNum
    rw [decide_eq_false (show ¬ l.length ≤ 18 by omega)]; rfl
  -- all([..])
  show tCB (rAll K) (tCons (tLc (iStr (tVar 0)) (gName 1) tYes _ [1]) tNil) [some (V.str (S l)), none] H _
  refine all_text (l := l) (p := isF) (by omega) ?_ ?_ ?_ ?_
  · exact fun R r => ⟨_, rfl, r⟩
  · exact fun c => rfl
  · intro d hd H' R r'
    exact ⟨_, rfl, d, _, rfl, rfl, r'⟩
  intro H' g
  refine ⟨_, rfl, ?_⟩
  refine itebn (fun h2 => ?_) (fun h2 => ?_)
  · refine bl_to (q H' g) ?_
    unfold isNum; rw [h2]; simp
  obtain ⟨c, r, rfl⟩ : ∃ c r, l = c :: r := by
    cases l with
    | nil => exact absurd rfl hne
    | cons c r => exact ⟨c, r, rfl⟩
  have e1 : isNum (c :: r) = (if c = 48 then decide (c :: r = [48]) else decide (val (c :: r) ≤ 2 ^ 59 - 1)) := by
    unfold isNum
    rw [h2, decide_eq_true (show (c :: r).length ≤ 18 by omega)]; rfl
  -- stretch[0] == '0'
  refine ⟨_, rfl, S (c :: r), 0, c, rfl, rfl, (by rw [hlen]; omega), (show atI (c :: r) ((0 : Nat) : Int) = some c from atI_nat rfl), rfl, _, rfl, ?_⟩
  have e2 : (V.str ⟨#[c]⟩ = V.str "0") ↔ c = 48 := by
    constructor
    · intro h
      have h' : S [c] = S [48] := (V.str.inj h).trans (S_of "0")
      have := S_inj h'
      simpa using this
    · rintro rfl
      exact congrArg V.str (S_of "0").symm
  refine ited (fun h3 => ?_) (fun h3 => ?_)
  · have hc := e2.mp h3
    subst hc
    refine ⟨_, rfl, rfl, bl_to (q H' g) ?_⟩
    rw [e1, if_pos rfl, Bool.eq_iff_iff, decide_eq_true_eq, decide_eq_true_eq]
    constructor
    · intro h
      exact S_inj ((V.str.inj h).trans (S_of "0"))
    · intro h
      exact congrArg V.str ((congrArg S h).trans (S_of "0").symm)
  · have hc : ¬ c = 48 := fun h => h3 (e2.mpr h)
    refine ⟨_, rfl, S (c :: r), _, rfl, SX.int_S (figs_of h2) hne (by omega), (by rw [hlen]; omega), ?_⟩
    refine ⟨_, _, rfl, rfl, bl_to (q H' g) ?_⟩
    rw [e1, if_neg hc, ← val_digits, Bool.eq_iff_iff, decide_eq_true_eq, decide_eq_true_eq]
    omega
end
end Wk
set_option maxRecDepth 100000
set_option maxHeartbeats 4000000
namespace Wk
open PySem L2 TL PyProof.Rows
open SX (S S_len)
/-! ### the two errors -/
abbrev s_no_init : Stmt := inClass (top 2) 0
abbrev s_bad_init : Stmt := inClass (top 3) 0
theorem sc_no_init : FnScope ["self"] ["self"] (defScope s_no_init) := ⟨rfl, rfl, rfl, by decide +kernel, rfl, by decide +kernel, by decide +kernel⟩
theorem sc_bad_init : FnScope ["self", "line"] ["self", "line"] (defScope s_bad_init) := ⟨rfl, rfl, rfl, by decide +kernel, rfl, by decide +kernel, by decide +kernel⟩
def sp_no_init : Sp := fun vs H Q _ => ∃ a, vs = [.ref a] ∧ Q .non H
def sp_bad_init (K : PySem.W.Frag) (C : Addr) : Sp := fun vs H Q _ => ∃ a y, vs = [.ref a, y] ∧ H a = some (exo a C none) ∧ ∀ dx, H dx = none → dx ≠ a → Q .non (upd (upd H dx (exd dx [("line", y)])) a (exo a C (some dx)))
section
variable {P : Program} {w : World} {K : PySem.W.Frag} {mg : Str → Option Value} {base : Heap}
theorem ok_no_init {f : Addr} {fd : FuncData} (F : Fun K "__init__" "NoText.__init__" s_no_init f fd) : FnOk P w K mg base CX0 1 f fd ["self"] sp_no_init := by
  refine F.ok sc_no_init (fun vs H Q E h => ?_) (fun cdv A outer s H vs Q E hr h => ?_)
  · obtain ⟨c, rfl, _⟩ := h; rfl
  obtain ⟨a, rfl, q⟩ := h
  exact ⟨_, pss_one ps_pass, q⟩
theorem ok_bad_init {C : Addr} (T : OexC K C) (hno : PySem.W.findIn K (.ref C) "line" = some none) {f : Addr} {fd : FuncData} (F : Fun K "__init__" "BadText.__init__" s_bad_init f fd) : FnOk P w K mg base CX0 1 f fd ["self", "line"] (sp_bad_init K C) := by
  refine F.ok sc_bad_init (fun vs H Q E h => ?_) (fun cdv A outer s H vs Q E hr h => ?_)
  · obtain ⟨a, y, rfl, _⟩ := h; rfl
  obtain ⟨a, y, rfl, ha, q⟩ := h
  exact ⟨_, pss_one (ps_ost (pv 0) (pv 1)), _, rfl, _, rfl, a, C, rfl, T, hno, .inl ⟨ha, fun dx h1 h2 => q dx h1 h2⟩⟩
end
/-- what the written part tells of an own error class and its __init__ -/
structure ExcT (P : Program) (w : World) (K : PySem.W.Frag) (mg : Str → Option Value) (base : Heap) (x : Str) (ps : List Str) (sp : PySem.W.Frag → Addr → Sp) where
  C : Addr
  fI : Addr
  fd : FuncData
  gC : mg x = some (.ref C)
  T : OexC K C
  iC : PySem.W.findIn K (.ref C) "__init__" = some (some (.ref fI))
  tI : PySem.W.typeIn K (.ref fI) = some (.type "function")
  ok : FnOk P w K mg base CX0 1 fI fd ps (sp K C)
  b : Binds K fd ps []
theorem heap_bad {H : Hp} {a d C : Addr} {fs : List (Str × V)} (hd : H d = none) (ha : H a = none) (hne : d ≠ a) : upd (del (upd (upd (upd H a (exo a C none)) d (exd d fs)) a (exo a C (some d))) a) d (.xd fs) = upd H d (.xd fs) := by
  funext b
  by_cases h1 : b = d
  · subst h1; rw [upd_same, upd_same]
  · rw [upd_ne h1, upd_ne h1]
    by_cases h2 : b = a
    · subst h2; rw [del_same, ha]
    · rw [del_ne h2, upd_ne h2, upd_ne h1, upd_ne h2]
/-- behind BadText(v) -/
theorem bad_ok {K : PySem.W.Frag} {C : Addr} {H : Hp} {v : V} {Q : XK} (q : ∀ d, H d = none → Q (.ref C) (some d) (upd H d (.xd [("line", v)]))) :
    [v].length ≤ 1000 ∧ ∀ a, H a = none → sp_bad_init K C (.ref a :: ([v] ++ [])) (upd H a (exo a C none))
      (fun u H2 => u = .non ∧ ∃ (d : Addr) (fs : List (Str × V)), H2 a = some (exo a C (some d)) ∧ H2 d = some (exd d fs) ∧ H d = none ∧ Q (.ref C) (some d) (upd (del H2 a) d (.xd fs))) (fun _ _ _ => False) := by
  refine ⟨by simp, fun a ha => ⟨a, v, rfl, upd_same, fun dx h1 h2 => ⟨rfl, dx, [("line", v)], upd_same, ?_, ?_, ?_⟩⟩⟩
  · rw [upd_ne h2, upd_same]
  · rw [upd_ne h2] at h1; exact h1
  · rw [upd_ne h2] at h1
    rw [heap_bad h1 ha h2]
    exact q dx h1
section
variable {X : Cx} {e : Expr} {te : TE} {p pos : Pos}
theorem pmk_bad (B : ExcT X.prog X.w X.K X.mg X.base "BadText" ["self", "line"] sp_bad_init) (hr : Room 2 X.A) (hg : Gl X "BadText") (he : PE X e te)
    (hs : starEach (e :: []) X.env = (false, eval e X.env) :: starEach [] X.env := by rfl) (hpl : (backTo pos (starEach [] X.env)).any (·.1) = false := by rfl) :
    PMk X (.Call (.Name "BadText" p) [e] [] pos) (tMkO B.C (sp_bad_init X.K B.C) [] (tCons te tNil)) :=
  pmk_oex (p := p) (pos := pos) (CX := CX0) B.T B.iC B.tI B.ok hr B.b .nil (fun _ _ _ _ _ _ _ h => h.elim) hg B.gC (pa_cons he pa_nil hs) (by decide) hs hpl
/-- an error whose __init__ takes nothing and stores nothing -/
theorem pmk_none {x : Str} (B : ExcT X.prog X.w X.K X.mg X.base x ["self"] (fun _ _ => sp_no_init)) (hr : Room 2 X.A) (hg : Gl X x) (hdb : (x == ("__debug__" : Str)) = false := by decide) :
    PMk X (.Call (.Name x p) [] [] pos) (fun _ H Q => Q (.ref B.C) none H) := by
  intro pins s σ H Q I h
  obtain ⟨nm, q, N, bs, bm, sn, sub, ab, col, dd, k0, k1, k2, k3, k5, hC, hbm⟩ := B.T.cls
  refine wpAny_Call_Name_kw (ld_glob I hg B.gC ?_ hdb)
  refine PySem.W.callWith_K0 I.kIn B.T.kC ?_
  show wpAny _ _ (call (.ref B.C) []) _ _ _
  obtain ⟨hp, g, dr, tk, os⟩ := s
  have hsz : hp.objs.size ≤ hp.objs.size + 1 := Nat.le_succ _
  have hn : H (hp.objs.size + 1) = none := I.hok.fresh hsz
  have kk : ∀ b o, hp.get? b = some o → ((hp.push (PySem.W.kdv_tup [])).push (PySem.HandSPX.excO B.C hp.objs.size)).get? b = some o := fun b o e => Heap.get?_push_of_some _ (Heap.get?_push_of_some _ e)
  have hget : ((hp.push (PySem.W.kdv_tup [])).push (PySem.HandSPX.excO B.C hp.objs.size)).get? (hp.objs.size + 1) = some (PySem.HandSPX.excO B.C hp.objs.size) := by heap_get
  have I2 : L2.Inv X pins σ (upd H (hp.objs.size + 1) (exo (hp.objs.size + 1) B.C none)) ⟨(hp.push (PySem.W.kdv_tup [])).push (PySem.HandSPX.excO B.C hp.objs.size), g, dr, tk, os⟩ :=
    I.laid (t' := tk) (a := hp.objs.size + 1) (o := exo (hp.objs.size + 1) B.C none) (h' := (hp.push (PySem.W.kdv_tup [])).push (PySem.HandSPX.excO B.C hp.objs.size)) kk hsz (exo_ok hget)
  have r2 : L2.Vals [V.ref (hp.objs.size + 1)] [Value.ref (hp.objs.size + 1)] := .cons rfl .nil
  have hb := B.b ⟨(hp.push (PySem.W.kdv_tup [])).push (PySem.HandSPX.excO B.C hp.objs.size), g, dr, tk, os⟩ [Value.ref (hp.objs.size + 1)] I2.kIn rfl
  refine wpAny_call (PySem.HandSPX.call_own F.excBase_ValueError (fun Y => PySem.HandSPX.refsVE_contains Y bm hbm) (I.kIn _ _ hC) (PySem.W.looks_findIn I.kIn B.iC) (fun self => PySem.W.bind_fn I.kIn self B.tI) (Nat.zero_le _)
    (codeAny_mono (B.ok.run _ X.stack _ _ ⟨[Value.ref (hp.objs.size + 1)], []⟩ _ _ (fun v H2 => v = .non ∧ H2 = upd H (hp.objs.size + 1) (exo (hp.objs.size + 1) B.C none)) (fun _ _ _ => False) ((hr : Room (1 + 1) X.A).make B.C [] []) (I2.env0.make B.C [] []) hb r2 ⟨_, rfl, rfl, rfl⟩) fun r s' hq' => ?_))
  cases r with
  | error er => exact False.elim hq'
  | ok fl =>
    cases fl with
    | ret u =>
      obtain ⟨v, H2, os2, bare2, un2, hok2, rv, ev, eH⟩ := hq'
      subst ev; subst eH
      obtain ⟨h2, g2, d2, t2, os'⟩ := s'
      refine ⟨rv, ?_⟩
      generalize hp.objs.size + 1 = a at *
      obtain ⟨t0, hoe⟩ := exo_at hok2 upd_same
      have nha : ∀ {b : Addr} {o : Obj}, hp.get? b = some o → b ≠ a := fun {b o} z e => by
        rw [e] at z
        exact absurd (Nat.lt_of_lt_of_le (Heap.lt_size z) hsz) (Nat.lt_irrefl _)
      obtain ⟨G, g1', g2'⟩ := restrict h2 fun b => decide (b ≠ a)
      have gk : ∀ b, b ≠ a → G.get? b = h2.get? b := fun b hb => g1' b (decide_eq_true hb)
      have ge : G.get? a = none := g2' a (by simp)
      have up : ∀ {b : Addr}, b ≠ a → H b = none → upd H a (exo a B.C none) b = none := fun {b} hb n => by rw [upd_ne hb]; exact n
      have U : Un (frs X.stack) [] H H hp G := {
        keep := fun b o z n hf hx => by rw [gk b (nha z)]; exact un2.keep b o (kk b o z) (up (nha z) n) hf hx
        slot := fun b o z n hf hx => by rw [gk b (nha z)]; exact un2.slot b o (kk b o z) (up (nha z) n) hf hx
        free := fun b o z n hx => n
        there := fun b o z hx => by rw [gk b (nha z)]; exact un2.there b o (kk b o z) hx
        tups := fun b xs z => z
        frzs := fun b o v z => z
        tbls := fun b ps z => ⟨#[], by rw [z]; simp⟩ }
      have hok3 : HOk X.prog X.w H G := fun b o z => by
        have hba : b ≠ a := fun e => by rw [e, hn] at z; cases z
        have z2 : upd H a (exo a B.C none) b = some o := by rw [upd_ne hba]; exact z
        have noa : ∀ {c : Addr} {u : HO}, u ≠ exo a B.C none → upd H a (exo a B.C none) c = some u → c ≠ a := fun {c u} hu hc e => by
          rw [e, upd_same] at hc
          exact hu (Option.some.inj hc).symm
        refine (hok2 b o z2).stay (fun c v hc y => ?_) (fun c hc => ?_) (fun c xs hc => ?_)
        · have hca : c ≠ a := by
            rcases hc with hc | hc
            · rw [hc]; exact hba
            · exact noa (fun e => exo_own e.symm) hc
          rw [gk c hca]; exact y
        · have hca := noa (fun e => exo_own e.symm) hc
          rw [upd_ne hca] at hc; exact hc
        · have hca := noa (fun e => exo_tup e.symm) hc
          rw [upd_ne hca] at hc; exact hc
      have J : L2.Inv X pins σ H ⟨G, g2, d2, t2, os'⟩ := I.call' (ch := []) os2 U hok3 bare2 (fun b z => absurd z (by simp))
      refine ⟨a, _, _, ⟨G, g2, d2, t2, os'⟩, H, .ref B.C, none, rfl, J, fun b o z => ?_, ge, hoe, ⟨rfl, rfl⟩, rfl, rfl, hn, rfl, bare2, raises_own B.T.exC B.T.tyC, h⟩
      by_cases hba : b = a
      · rw [hba, ge] at z; cases z
      · exact (gk b hba).symm.trans z
    | next => exact False.elim hq'
    | brk => exact False.elim hq'
    | cont => exact False.elim hq'
end
end Wk
set_option maxRecDepth 100000
set_option maxHeartbeats 4000000
namespace Wk
open PySem L2 TL PyProof.Rows
open SX (S S_len)
/-! ### lists -/
theorem take_tw (p : Nat → Bool) : ∀ l : List Nat, l.take (l.takeWhile p).length = l.takeWhile p
  | [] => rfl
  | a :: l => by
    rw [List.takeWhile_cons]
    split
    · rw [List.length_cons, List.take_succ_cons, take_tw p l]
    · rfl
theorem drop_tw (p : Nat → Bool) : ∀ l : List Nat, l.drop (l.takeWhile p).length = l.dropWhile p
  | [] => rfl
  | a :: l => by
    rw [List.takeWhile_cons, List.dropWhile_cons]
    split
    · rw [List.length_cons, List.drop_succ_cons, drop_tw p l]
    · rfl
theorem tw_of {p : Nat → Bool} : ∀ {l : List Nat} {k : Nat}, (l.take k).all p = true → (∀ c, l[k]? = some c → p c = false) → k ≤ l.length → l.takeWhile p = l.take k
  | [], k, _, _, _ => by simp
  | a :: l, 0, _, h, _ => by
    rw [List.takeWhile_cons, if_neg (by rw [h a rfl]; exact Bool.false_ne_true)]; rfl
  | a :: l, k + 1, h1, h2, h3 => by
    rw [List.take_succ_cons, List.all_cons, Bool.and_eq_true] at h1
    rw [List.takeWhile_cons, if_pos h1.1, List.take_succ_cons, tw_of h1.2 (fun c hc => h2 c hc) (Nat.le_of_succ_le_succ h3)]
theorem tw_all {p : Nat → Bool} : ∀ {l : List Nat}, l.all p = true → l.takeWhile p = l
  | [], _ => rfl
  | a :: l, h => by
    rw [List.all_cons, Bool.and_eq_true] at h
    rw [List.takeWhile_cons, if_pos h.1, tw_all h.2]
theorem cut_nat {l : List Nat} {i j : Nat} (hi : i ≤ l.length) : cutS (S l) (some (i : Int)) (some (j : Int)) = S ((l.drop i).take (j - i)) := by
  refine ext_tl ?_
  show (l.drop (HT.sIx (S l).length 0 (some (i : Int)))).take (HT.sIx (S l).length (S l).length (some (j : Int)) - HT.sIx (S l).length 0 (some (i : Int))) = (l.drop i).take (j - i)
  rw [HT.sIx_nat, HT.sIx_nat, S_len, Nat.min_eq_left hi]
  by_cases hj : j ≤ l.length
  · rw [Nat.min_eq_left hj]
  · rw [Nat.min_eq_right (by omega), List.take_of_length_le (by rw [List.length_drop]; omega), List.take_of_length_le (by rw [List.length_drop]; omega)]
theorem cut_from {l : List Nat} {i : Nat} (hi : i ≤ l.length) : cutS (S l) (some (i : Int)) none = S (l.drop i) := by
  refine ext_tl ?_
  show (l.drop (HT.sIx (S l).length 0 (some (i : Int)))).take (HT.sIx (S l).length (S l).length none - HT.sIx (S l).length 0 (some (i : Int))) = l.drop i
  rw [HT.sIx_nat, HT.sIx_none, S_len, Nat.min_eq_left hi, List.take_of_length_le (by rw [List.length_drop]; omega)]
/-! ### words as values -/
def soS : So → Str
  | .name => "name" | .key => "key" | .number => "number" | .text => "text" | .mark => "mark"
def wdV : Wd → V
  | .s l => .str (S l)
  | .n k => .int (k : Int)
/-- what is raised: BadText(line) -/
def BadE (C : Addr) (line : Nat) (H : Hp) (E : XK) : Prop := ∀ H' d, Same H H' → H' d = some (.xd [("line", .int (line : Int))]) → E (.ref C) (some d) H'
theorem BadE.go {C : Addr} {line : Nat} {H H' : Hp} {E : XK} (b : BadE C line H E) (g : Same H H') {d : Addr} (hd : H' d = none) : E (.ref C) (some d) (upd H' d (.xd [("line", .int (line : Int))])) :=
  b _ d (same_to g hd _) upd_same
theorem BadE.mono {C : Addr} {line : Nat} {H H' : Hp} {E : XK} (b : BadE C line H E) (g : Same H H') : BadE C line H' E := fun H2 d g2 h => b H2 d (g.trans g2) h
/-- what is told: a triple -/
def TupQ (x y z : V) (H : Hp) (Q : VK) : Prop := ∀ H' p, Same H H' → H' p = some (.tup [x, y, z]) → Q (.ref p) H'
theorem TupQ.mono {x y z : V} {H H' : Hp} {Q : VK} (t : TupQ x y z H Q) (g : Same H H') : TupQ x y z H' Q := fun H2 p g2 h => t H2 p (g.trans g2) h
theorem TupQ.go {x y z : V} {H H' : Hp} {Q : VK} (t : TupQ x y z H Q) (g : Same H H') {p : Addr} (hp : H' p = none) : Q (.ref p) (upd H' p (.tup [x, y, z])) := t _ p (same_to g hp _) upd_same
theorem three_ok : (3 : Nat) ≤ sizeLine := by rw [line_eq]; decide
/-- a loop with one way out that is told once -/
theorem while_of {c : TT} {tb : TS} {D : Ends} {σ : L2.St} {H : Hp} (R : L2.St → Hp → Prop) (W : Nat → L2.St → Hp → Prop) (m0 : Nat) (h0 : W m0 σ H) (after : ∀ σ H, R σ H → D.nx σ H)
    (turn : ∀ NX : L2.St → Hp → Prop, (∀ σ H, R σ H → NX σ H) → ∀ m σ H, W m σ H → c σ H fun b H1 => if b = true then ∃ N : L2.St → Hp → Prop, (∀ σ' H', N σ' H' → ∃ m', m' < m ∧ W m' σ' H') ∧ tb { D with nx := N, ct := N, bk := NX } σ H1 else NX σ H1) :
    tWhile c tb D σ H := ⟨W, ⟨m0, h0⟩, turn D.nx after⟩
theorem go_next {D : Ends} {σ : L2.St} {H : Hp} (h : D.nx σ H) : tNext D σ H := h
theorem seq_set {te : TE} {u : TS} {i : Nat} {D : Ends} {σ : L2.St} {H : Hp} (h : te σ H fun x H1 => u D (σ.set i (some x)) H1) : tSeq (tAsg te (gName i)) u D σ H := h
theorem seq_setC {v : V} {u : TS} {i : Nat} {D : Ends} {σ : L2.St} {H : Hp} (h : u D (σ.set i (some v)) H) : tSeq (tAsg (tC v) (gName i)) u D σ H := h
/-- what stands behind a statement, told once -/
theorem seq_join {t u : TS} {D : Ends} {σ : L2.St} {H : Hp} (R : L2.St → Hp → Prop) (after : ∀ σ H, R σ H → u D σ H) (h : ∀ NX : L2.St → Hp → Prop, (∀ σ H, R σ H → NX σ H) → t { D with nx := NX } σ H) : tSeq t u D σ H := h _ after
section
variable {P : Program} {w : World} {K : PySem.W.Frag} {mg : Str → Option Value} {base : Heap}
/-! ### stretch_at -/
abbrev s_stretch_at : Stmt := top 17
theorem sc_stretch_at : FnScope ["row", "at", "line", "end", "stretch"] ["row", "at", "line"] (defScope s_stretch_at) := ⟨rfl, rfl, rfl, by decide +kernel, rfl, by decide +kernel, by decide +kernel⟩
def sp_stretch_at (C : Addr) : Sp := fun vs H Q E => ∃ (row : List Nat) (i line : Nat), vs = [.str (S row), .int (i : Int), .int (line : Int)] ∧ row.length ≤ 1000000 ∧ i < row.length ∧ (∀ c, row[i]? = some c → isS c = true) ∧
  (match classify ((row.drop i).takeWhile isS) with
    | none => BadE C line H E
    | some (so, wd) => TupQ (.str (soS so)) (wdV wd) (.int ((i + ((row.drop i).takeWhile isS).length : Nat) : Int)) H Q)
theorem ok_stretch_at (T : Txt K mg) (B : ExcT P w K mg base "BadText" ["self", "line"] sp_bad_init) {f : Addr} {fd : FuncData} (F : Fun K "stretch_at" "stretch_at" s_stretch_at f fd)
    (D_is_of_stretch : Def P w K mg base CX0 "is_of_stretch" ["sign"] 1 sp_is_of_stretch)
    (D_is_name : Def P w K mg base CX0 "is_name" ["thing"] 2 sp_is_name)
    (D_is_number_word : Def P w K mg base CX0 "is_number_word" ["stretch"] 1 sp_is_number_word) :
    FnOk P w K mg base (L2.CX P w) 3 f fd ["row", "at", "line"] (sp_stretch_at B.C) := by
  refine F.okX sc_stretch_at (fun vs H Q E h => ?_) (fun cdv A outer s H vs Q E hr h => ?_)
  · obtain ⟨a, y, z, rfl, _⟩ := h; rfl
  obtain ⟨row, i, line, rfl, hl, hi, hS, q⟩ := h
  refine ⟨_, (pss_cons (ps_set (i := 3) sc_stretch_at.nd rfl (Or.inl rfl) (pv 1))
    (pss_cons (ps_while (passes_of rfl) (PW.pt (pw_and (pt_cmpR op_lt (pv 3) (pe_callB call_len_str rfl T.n_len boot_len (pa_cons (pv 0) pa_nil)) (nomark _)) (pw_and1 (pt_val (pe_call D_is_of_stretch.ok (hr.mono (by omega)) rfl D_is_of_stretch.g D_is_of_stretch.k D_is_of_stretch.b .nil pass0 (pa_cons (pe_ix ix_str (pv 0) (pv 3) (fun _ _ => rfl)) pa_nil)))))) (pss_one (ps_aug (i := 3) sc_stretch_at.nd rfl (Or.inl rfl) pe_int ip_add)))
    (pss_cons (ps_set (i := 4) sc_stretch_at.nd rfl (Or.inl rfl) (pe_slice sl_str (pv 0) (po_some (pv 1)) (po_some (pv 3))))
    (pss_cons (ps_if (pt_cmpR op_in_seq (pv 4) (pe_glob (v := .ref T.aKEYS) rfl T.mKEYS rfl) rfl) (pss_one (ps_ret (pe_tup (pa_cons pe_str (pa_cons (pv 4) (pa_cons (pv 3) pa_nil)))))) pss_nil)
    (pss_cons (ps_if (pt_val (pe_call D_is_name.ok (hr.mono (by omega)) rfl D_is_name.g D_is_name.k D_is_name.b .nil pass0 (pa_cons (pv 4) pa_nil))) (pss_one (ps_ret (pe_tup (pa_cons pe_str (pa_cons (pv 4) (pa_cons (pv 3) pa_nil)))))) pss_nil)
    (pss_cons (ps_if (pt_val (pe_call D_is_number_word.ok (hr.mono (by omega)) rfl D_is_number_word.g D_is_number_word.k D_is_number_word.b .nil pass0 (pa_cons (pv 4) pa_nil))) (pss_one (ps_ret (pe_tup (pa_cons pe_str (pa_cons (pe_callTy call_int_str rfl T.n_int boot_int (pa_cons (pv 4) pa_nil)) (pa_cons (pv 3) pa_nil)))))) pss_nil)
    (pss_one (ps_raise rfl (takes_of rfl rfl rfl rfl) (pmk_bad B (hr.mono (by decide)) rfl (pv 2)))))))))), ?_⟩
  have hz := line_eq
  have hlen := S_len row
  -- end = at
  refine ⟨_, rfl, ?_⟩
  -- the loop
  refine while_of (fun σ H' => H' = H ∧ ∃ k : Nat, i < k ∧ k ≤ row.length ∧ ((row.drop i).take (k - i)).all isS = true ∧ (∀ c, row[k]? = some c → isS c = false) ∧ σ = [some (.str (S row)), some (.int (i : Int)), some (.int (line : Int)), some (.int (k : Int)), none])
    (fun m σ H' => H' = H ∧ ∃ k : Nat, m = row.length - k ∧ i ≤ k ∧ k ≤ row.length ∧ ((row.drop i).take (k - i)).all isS = true ∧ σ = [some (.str (S row)), some (.int (i : Int)), some (.int (line : Int)), some (.int (k : Int)), none])
    _ ⟨rfl, i, rfl, Nat.le_refl _, Nat.le_of_lt hi, by simp, rfl⟩ ?_ ?_
  rotate_left
  · rintro NX nx m σ H' ⟨rfl, k, rfl, h1, h2, h3, rfl⟩
    refine ⟨_, rfl, _, rfl, _, rfl, (by rw [hlen]; omega), _, _, rfl, rfl, _, rfl, ?_⟩
    rw [hlen]
    have next : ∀ c, row[k]? = some c → isS c = true → ((row.drop i).take (k + 1 - i)).all isS = true := fun c hc hs => by
      have e : k + 1 - i = (k - i) + 1 := by omega
      have hc' : (row.drop i)[k - i]? = some c := by rw [List.getElem?_drop, ← hc]; congr 1; omega
      rw [e, take_next hc', List.all_append, h3]
      simp [hs]
    refine ited (fun h4 => ?_) (fun h4 => ?_)
    · have hk : k < row.length := by omega
      have hc : row[k]? = some row[k] := List.getElem?_eq_getElem hk
      refine ⟨_, rfl, _, rfl, S row, _, row[k], rfl, rfl, (by rw [hlen]; omega), atI_nat hc, row[k], rfl, _, rfl, ?_⟩
      refine iteb (fun h5 => ?_) (fun h5 => ?_)
      · refine ⟨_, fun _ _ h => h, ?_⟩
        refine ⟨_, rfl, _, _, rfl, rfl, ?_⟩
        exact ⟨_, by omega, rfl, k + 1, rfl, by omega, by omega, next _ hc h5, rfl⟩
      · refine nx _ _ ⟨rfl, k, ?_, h2, h3, fun c e => ?_, rfl⟩
        · rcases Nat.lt_or_ge i k with h | h
          · exact h
          · have : i = k := by omega
            subst this
            rw [hS _ hc] at h5; cases h5
        · rw [hc] at e; cases e; exact h5
    · refine nx _ _ ⟨rfl, k, by omega, h2, h3, fun c e => ?_, rfl⟩
      rw [List.getElem?_eq_none (by omega)] at e; cases e
  rintro σ H' ⟨rfl, k, h1, h2, h3, h4, rfl⟩
  have hs : (row.drop i).takeWhile isS = (row.drop i).take (k - i) := tw_of h3 (fun c e => h4 c (by rw [List.getElem?_drop] at e; rw [← e]; congr 1; omega)) (by rw [List.length_drop]; omega)
  have hsl : ((row.drop i).take (k - i)).length = k - i := by rw [List.length_take, List.length_drop]; omega
  have hne : (row.drop i).take (k - i) ≠ [] := fun e => by rw [e] at hsl; simp at hsl; omega
  rw [hs, hsl] at q
  have ek : ((i + (k - i) : Nat) : Int) = (k : Int) := by omega
  rw [ek] at q
  have hs0 : (row.drop i).take (k - i) = (row.drop i).take (k - i) := rfl
  -- stretch = row[at:end]
  refine ⟨_, rfl, _, rfl, _, rfl, _, rfl, _, rfl, S row, rfl, (by rw [hlen]; omega), ?_⟩
  rw [cut_nat (by omega)]
  generalize (row.drop i).take (k - i) = l at *
  -- stretch in KEYS
  refine ⟨_, rfl, _, _, rfl, .inr (T.kKEYS _), rfl, flat_keys _, _, rfl, ?_⟩
  rw [inV_keys]
  refine iteb (fun h5 => ?_) (fun h5 => ?_)
  · have h5 : l ∈ keysL := of_decide_eq_true h5
    unfold classify at q
    rw [if_pos h5] at q
    refine ⟨_, rfl, _, rfl, three_ok, fun p hp => ?_⟩
    exact q.go (Same.refl _) hp
  have h5 : ¬ l ∈ keysL := fun h => by
    have h5 : decide (l ∈ keysL) = false := h5
    rw [decide_eq_true h] at h5; cases h5
  unfold classify at q
  rw [if_neg h5] at q
  -- is_name(stretch)
  refine ⟨_, rfl, l, rfl, by omega, fun H1 g1 => ⟨_, rfl, ?_⟩⟩
  refine iteb (fun h6 => ?_) (fun h6 => ?_)
  · rw [if_pos h6] at q
    exact ⟨_, rfl, _, rfl, three_ok, fun p hp => q.go g1 hp⟩
  rw [if_neg (by rw [h6]; exact Bool.false_ne_true)] at q
  -- is_number_word(stretch)
  refine ⟨_, rfl, l, rfl, hne, by omega, fun H2 g2 => ⟨_, rfl, ?_⟩⟩
  have g3 := g1.trans g2
  refine iteb (fun h7 => ?_) (fun h7 => ?_)
  · rw [if_pos h7] at q
    have hf : l.all isF = true ∧ l.length ≤ 18 := by
      unfold isNum at h7
      simp only [Bool.and_eq_true, decide_eq_true_eq] at h7
      exact ⟨h7.1.2, h7.1.1⟩
    refine ⟨_, rfl, S l, _, rfl, SX.int_S (figs_of hf.1) hne (by omega), (by rw [S_len]; omega), ?_⟩
    exact ⟨_, rfl, three_ok, fun p hp => q.go g3 hp⟩
  rw [if_neg (by rw [h7]; exact Bool.false_ne_true)] at q
  exact ⟨_, rfl, bad_ok fun d hd => q.go g3 hd⟩
end
end Wk
set_option maxRecDepth 100000
set_option maxHeartbeats 4000000
namespace Wk
open PySem L2 TL PyProof.Rows
open SX (S S_len)
theorem textP_plain {acc r : List Nat} {c : Nat} (h : c ≠ 34) (hp : plain c = true) : textP acc (c :: r) = textP (acc ++ [c]) r := by
  cases r with
  | nil => simp [textP, h]
  | cons d r => simp only [textP, if_neg h, if_pos hp]
theorem textP_bad {acc r : List Nat} {c : Nat} (h : c ≠ 34) (hp : plain c = false) : textP acc (c :: r) = none := by
  cases r with
  | nil => simp [textP, h]
  | cons d r => simp [textP, if_neg h, hp]
theorem textP_end {acc r : List Nat} (h : r.head? ≠ some 34) : textP acc (34 :: r) = some (acc, r) := by
  cases r with
  | nil => simp [textP]
  | cons d r => simp only [textP, if_pos, if_neg (show ¬ d = 34 from fun e => h (by rw [e]; rfl))]
theorem textP_dbl {acc r : List Nat} : textP acc (34 :: 34 :: r) = textP (acc ++ [34]) r := by simp [textP]
theorem join_ones (acc : List Nat) : Txt.join ("" : Str) (acc.map fun c => S [c]) = S acc := by
  refine ext_tl ?_
  rw [join_eq, tl_join]
  have h1 : tl ("" : Str) = [] := rfl
  rw [h1, List.map_map]
  have h2 : ∀ l : List Nat, joinL [] (l.map (tl ∘ fun c => S [c])) = l := by
    intro l
    induction l with
    | nil => rfl
    | cons a l ih =>
      cases l with
      | nil => rfl
      | cons b l =>
        show [a] ++ [] ++ joinL [] ((b :: l).map (tl ∘ fun c => S [c])) = _
        rw [ih]; rfl
  exact h2 acc
theorem sum_ones : ∀ l : List Nat, ((l.map fun c => S [c]).map fun x => x.length).sum = l.length
  | [] => rfl
  | a :: l => by rw [List.map_cons, List.map_cons, List.sum_cons, sum_ones l]; show 1 + l.length = l.length + 1; omega
theorem str_one {c d : Nat} : (V.str ⟨#[c]⟩ = V.str ⟨#[d]⟩) ↔ c = d := by
  constructor
  · intro h
    have h' : S [c] = S [d] := V.str.inj h
    simpa using S_inj h'
  · rintro rfl; rfl
theorem q_lit : ("\"" : Str) = S [34] := S_of "\""
section
variable {P : Program} {w : World} {K : PySem.W.Frag} {mg : Str → Option Value} {base : Heap}
/-! ### text_at -/
abbrev s_text_at : Stmt := top 18
theorem sc_text_at : FnScope ["row", "at", "line", "signs"] ["row", "at", "line"] (defScope s_text_at) := ⟨rfl, rfl, rfl, by decide +kernel, rfl, by decide +kernel, by decide +kernel⟩
def sp_text_at (C : Addr) : Sp := fun vs H Q E => ∃ (row : List Nat) (i line : Nat), vs = [.str (S row), .int (i : Int), .int (line : Int)] ∧ row.length ≤ 1000000 ∧ i < row.length ∧
  (match textP [] (row.drop (i + 1)) with
    | none => BadE C line H E
    | some (wd, r) => TupQ (.str "text") (.str (S wd)) (.int ((row.length - r.length : Nat) : Int)) H Q)
theorem ok_text_at (T : Txt K mg) (B : ExcT P w K mg base "BadText" ["self", "line"] sp_bad_init) {f : Addr} {fd : FuncData} (F : Fun K "text_at" "text_at" s_text_at f fd)
    (D_is_plain : Def P w K mg base CX0 "is_plain" ["thing"] 1 sp_is_plain) :
    FnOk P w K mg base (L2.CX P w) 3 f fd ["row", "at", "line"] (sp_text_at B.C) := by
  refine F.okX sc_text_at (fun vs H Q E h => ?_) (fun cdv A outer s H vs Q E hr h => ?_)
  · obtain ⟨a, y, z, rfl, _⟩ := h; rfl
  obtain ⟨row, i, line, rfl, hl, hi, q⟩ := h
  refine ⟨_, (pss_cons (ps_set (i := 3) sc_text_at.nd rfl (Or.inl rfl) (pe_lst pa_nil))
    (pss_cons (ps_aug (i := 1) sc_text_at.nd rfl (Or.inl rfl) pe_int ip_add)
    (pss_cons (ps_while (passes_of rfl) (pt_cmpR op_lt (pv 1) (pe_callB call_len_str rfl T.n_len boot_len (pa_cons (pv 0) pa_nil)) (nomark _)) (pss_cons (ps_if (pt_cmpR op_eq (pe_ix ix_str (pv 0) (pv 1) (fun _ _ => rfl)) pe_str (nomark _)) (pss_cons (ps_if (pt_cmpR op_ne (pe_slice sl_str (pv 0) (po_some (pe_op op_add (pv 1) pe_int)) (po_some (pe_op op_add (pv 1) pe_int))) pe_str (nomark _)) (pss_one (ps_ret (pe_tup (pa_cons pe_str (pa_cons (pe_bm PySem.F.plainAttrs_str PySem.F.slot_str_join PySem.F.type_str_join mt_join pe_str (pa_cons (pv 3) pa_nil)) (pa_cons (pe_op op_add (pv 1) pe_int) pa_nil)))))) pss_nil)
        (pss_one (ps_aug (i := 1) sc_text_at.nd rfl (Or.inl rfl) pe_int ip_add))) pss_nil)
      (pss_cons (ps_if (pt_not (pt_val (pe_call D_is_plain.ok (hr.mono (by omega)) rfl D_is_plain.g D_is_plain.k D_is_plain.b .nil pass0 (pa_cons (pe_ix ix_str (pv 0) (pv 1) (fun _ _ => rfl)) pa_nil)))) (pss_one (ps_raise rfl (takes_of rfl rfl rfl rfl) (pmk_bad B (hr.mono (by decide)) rfl (pv 2)))) pss_nil)
      (pss_cons (ps_expr (pe_bm PySem.F.plainAttrs_list PySem.F.slot_list_append PySem.F.type_list_append mt_append (pv 3) (pa_cons (pe_ix ix_str (pv 0) (pv 1) (fun _ _ => rfl)) pa_nil)))
      (pss_one (ps_aug (i := 1) sc_text_at.nd rfl (Or.inl rfl) pe_int ip_add))))))
    (pss_one (ps_raise rfl (takes_of rfl rfl rfl rfl) (pmk_bad B (hr.mono (by decide)) rfl (pv 2))))))), ?_⟩
  have hz := line_eq
  have hlen := S_len row
  -- signs = []; at += 1
  refine ⟨(by show 0 ≤ sizeLine; omega), fun p np => ?_⟩
  refine ⟨_, rfl, _, _, rfl, rfl, ?_⟩
  -- the loop
  refine while_of (fun σ H' => Same H H' ∧ textP [] (row.drop (i + 1)) = none ∧ ∃ k : Nat, σ = [some (.str (S row)), some (.int (k : Int)), some (.int (line : Int)), some (.ref p)])
    (fun m σ H' => Same H H' ∧ ∃ (k : Nat) (acc : List Nat), m = row.length - k ∧ k ≤ row.length ∧ acc.length ≤ k ∧ textP [] (row.drop (i + 1)) = textP acc (row.drop k) ∧ H' p = some (.lst (acc.map fun c => V.str (S [c]))) ∧
      σ = [some (.str (S row)), some (.int (k : Int)), some (.int (line : Int)), some (.ref p)])
    _ ⟨same_new np _, i + 1, [], rfl, by omega, by simp, rfl, upd_same, rfl⟩ ?_ ?_
  · rintro σ H' ⟨g, hn, k, rfl⟩
    rw [hn] at q
    exact ⟨_, rfl, bad_ok fun d hd => q.go g hd⟩
  rintro NX nx m σ H' ⟨g, k, acc, rfl, h1, h0, h2, h3, rfl⟩
  refine ⟨_, rfl, _, rfl, _, rfl, (by rw [hlen]; omega), _, _, rfl, rfl, _, rfl, ?_⟩
  rw [hlen]
  refine ited (fun h4 => ?_) (fun h4 => ?_)
  rotate_left
  · refine nx _ _ ⟨g, ?_, k, rfl⟩
    rw [h2, List.drop_eq_nil_of_le (by omega)]; rfl
  have hk : k < row.length := by omega
  refine ⟨_, fun _ _ h => h, ?_⟩
  obtain ⟨c, hc⟩ : ∃ c, row[k]? = some c := ⟨_, List.getElem?_eq_getElem hk⟩
  have hd : row.drop k = c :: row.drop (k + 1) := by
    rw [List.drop_eq_getElem_cons hk]
    rw [List.getElem?_eq_getElem hk] at hc
    rw [Option.some.inj hc]
  -- if row[at] == '"'
  refine seq_join (fun σ H2 => H2 = H' ∧ ∃ (k' c' : Nat), row[k']? = some c' ∧ k ≤ k' ∧ k' ≤ k + 1 ∧ textP acc (row.drop k) = (if plain c' = true then textP (acc ++ [c']) (row.drop (k' + 1)) else none) ∧
      σ = [some (.str (S row)), some (.int (k' : Int)), some (.int (line : Int)), some (.ref p)]) ?_ ?_
  · rintro σ H2 ⟨rfl, k', c', hc', h5, h6, h7, rfl⟩
    have hk' : k' < row.length := by
      rcases Nat.lt_or_ge k' row.length with h | h
      · exact h
      · rw [List.getElem?_eq_none h] at hc'; cases hc'
    -- not is_plain(row[at])
    refine ⟨_, rfl, _, rfl, S row, _, c', rfl, rfl, (by rw [hlen]; omega), atI_nat hc', [c'], rfl, by simp, fun H3 g3 => ⟨_, rfl, ?_⟩⟩
    have g4 := g.trans g3
    have e1 : [c'].all plain = plain c' := by simp
    rw [e1]
    refine itebn (fun h8 => ?_) (fun h8 => ?_)
    · rw [h2, h7, h8] at q
      exact ⟨_, rfl, bad_ok fun d hd => q.go g4 hd⟩
    rw [if_pos h8] at h7
    -- signs.append(row[at]); at += 1
    refine ⟨_, rfl, .inl ⟨rfl, _, SqL.of (g3 _ _ h3)⟩, _, rfl, _, rfl, S row, _, c', rfl, rfl, (by rw [hlen]; omega), atI_nat hc', _, _, _, rfl, rfl, g3 _ _ h3, (by rw [List.length_map]; omega), ?_⟩
    refine ⟨_, rfl, _, _, rfl, rfl, ?_⟩
    refine ⟨row.length - (k' + 1), by omega, same_mut g4 np _, k' + 1, acc ++ [c'], rfl, by omega, by rw [List.length_append, List.length_singleton]; omega, by rw [h2, h7], ?_, rfl⟩
    rw [upd_same, List.map_append]; rfl
  · intro NX2 nx2
    refine ⟨_, rfl, _, rfl, S row, _, c, rfl, rfl, (by rw [hlen]; omega), atI_nat hc, rfl, _, rfl, ?_⟩
    have e1 : (V.str ⟨#[c]⟩ = V.str "\"") ↔ c = 34 := by rw [q_lit]; exact str_one
    refine ited (fun h5 => ?_) (fun h5 => ?_)
    · have h5 := e1.mp h5
      subst h5
      refine ⟨_, rfl, _, rfl, _, _, rfl, rfl, _, rfl, _, rfl, _, _, rfl, rfl, _, rfl, S row, rfl, (by rw [hlen]; omega), rfl, _, rfl, ?_⟩
      have e2 : cutS (S row) (some ((k : Int) + 1)) (some ((k : Int) + 2)) = S ((row.drop (k + 1)).take 1) := by
        have := cut_nat (l := row) (i := k + 1) (j := k + 2) (by omega)
        rw [show k + 2 - (k + 1) = 1 by omega] at this
        exact this
      rw [e2]
      have e3 : (V.str (S ((row.drop (k + 1)).take 1)) = V.str "\"") ↔ (row.drop (k + 1)).head? = some 34 := by
        rw [q_lit]
        cases row.drop (k + 1) with
        | nil =>
          constructor
          · intro h
            have := S_inj (V.str.inj h)
            simp at this
          · intro h; cases h
        | cons d r =>
          show (V.str (S [d]) = V.str (S [34])) ↔ some d = some 34
          constructor
          · intro h
            have := S_inj (V.str.inj h)
            simpa using this
          · intro h
            rw [Option.some.inj h]
      refine itedn (fun h6 => ?_) (fun h6 => ?_)
      · have h6 : (row.drop (k + 1)).head? ≠ some 34 := fun h => h6 (e3.mpr h)
        rw [h2, hd, textP_end h6] at q
        have e4 : ((row.length - (row.drop (k + 1)).length : Nat) : Int) = (k : Int) + 1 := by rw [List.length_drop]; omega
        have q : TupQ (.str "text") (.str (S acc)) (.int ((row.length - (row.drop (k + 1)).length : Nat) : Int)) H Q := q
        rw [e4] at q
        refine ⟨rfl, _, rfl, _, p, acc.map (fun c => S [c]), rfl, rfl, .inl (SqL.of (by rw [List.map_map]; exact h3)), ?_, ?_⟩
        · rw [List.map_map]
          have e6 : ("" : Str).length = 0 := rfl
          rw [e6, Nat.mul_zero, ← List.map_map, sum_ones]
          omega
        rw [join_ones]
        exact ⟨_, rfl, _, _, rfl, rfl, three_ok, fun p2 hp2 => q.go g hp2⟩
      · have h6 := e3.mp h6
        have hlt : k + 1 < row.length := by
          rcases Nat.lt_or_ge (k + 1) row.length with h | h
          · exact h
          · rw [List.drop_eq_nil_of_le h] at h6; cases h6
        have hd2 : row.drop (k + 1) = 34 :: row.drop (k + 2) := by
          rw [List.drop_eq_getElem_cons hlt] at h6 ⊢
          rw [Option.some.inj h6]
        refine ⟨_, rfl, _, _, rfl, rfl, ?_⟩
        refine nx2 _ _ ⟨rfl, k + 1, 34, ?_, Nat.le_succ _, Nat.le_refl _, ?_, rfl⟩
        · have : (row.drop (k + 1))[0]? = some 34 := by rw [hd2]; rfl
          rw [List.getElem?_drop] at this; exact this
        · rw [hd, hd2, textP_dbl]; rfl
    · have h5 : c ≠ 34 := fun h => h5 (e1.mpr h)
      refine nx2 _ _ ⟨rfl, k, c, hc, Nat.le_refl _, Nat.le_succ _, ?_, rfl⟩
      rw [hd]
      cases hp : plain c with
      | true => rw [textP_plain h5 hp]; rfl
      | false => rw [textP_bad h5 hp]; rfl
end
end Wk
set_option maxRecDepth 100000
set_option maxHeartbeats 4000000
namespace Wk
open PySem L2 TL PyProof.Rows
open SX (S S_len)
theorem drop_cons {l : List Nat} {k c : Nat} (h : l[k]? = some c) : l.drop k = c :: l.drop (k + 1) := by
  obtain ⟨hk, e⟩ := List.getElem?_eq_some_iff.mp h
  rw [List.drop_eq_getElem_cons hk, e]
theorem lt_of_get {l : List Nat} {k c : Nat} (h : l[k]? = some c) : k < l.length := (List.getElem?_eq_some_iff.mp h).1
theorem two_in {c : Nat} {r : List Nat} : inV (.str (S (c :: r.take 1))) ([[61, 61], [33, 61], [60, 61], [62, 61]].map fun l => V.str (S l)) = two c r := by
  rw [inV_keys, Bool.eq_iff_iff, decide_eq_true_eq]
  cases r with
  | nil => simp [two]
  | cons d r => simp [two]; omega
theorem tok_cons (c : Nat) (r : List Nat) : tok (c :: r) = if isS c = true then (classify (c :: r.takeWhile isS)).map fun p => (p.1, p.2, r.dropWhile isS)
    else if c = 34 then (textP [] r).map fun p => (.text, .s p.1, p.2)
    else if two c r = true then some (.mark, .s [c, 61], r.tail)
    else if c ∈ marksL then some (.mark, .s [c], r) else none := rfl
section
variable {P : Program} {w : World} {K : PySem.W.Frag} {mg : Str → Option Value} {base : Heap}
/-! ### word_at -/
abbrev s_word_at : Stmt := top 16
theorem sc_word_at : FnScope ["row", "at", "line", "sign"] ["row", "at", "line"] (defScope s_word_at) := ⟨rfl, rfl, rfl, by decide +kernel, rfl, by decide +kernel, by decide +kernel⟩
def sp_word_at (C : Addr) : Sp := fun vs H Q E => ∃ (row : List Nat) (i line : Nat), vs = [.str (S row), .int (i : Int), .int (line : Int)] ∧ row.length ≤ 1000000 ∧ i < row.length ∧
  (match tok (row.drop i) with
    | none => BadE C line H E
    | some (so, wd, r) => TupQ (.str (soS so)) (wdV wd) (.int ((row.length - r.length : Nat) : Int)) H Q)
theorem ok_word_at (T : Txt K mg) (B : ExcT P w K mg base "BadText" ["self", "line"] sp_bad_init) {f : Addr} {fd : FuncData} (F : Fun K "word_at" "word_at" s_word_at f fd)
    (D_is_of_stretch : Def P w K mg base CX0 "is_of_stretch" ["sign"] 1 sp_is_of_stretch) (D_stretch_at : Def P w K mg base (L2.CX P w) "stretch_at" ["row", "at", "line"] 3 (sp_stretch_at B.C))
    (D_text_at : Def P w K mg base (L2.CX P w) "text_at" ["row", "at", "line"] 3 (sp_text_at B.C)) :
    FnOk P w K mg base (L2.CX P w) 4 f fd ["row", "at", "line"] (sp_word_at B.C) := by
  refine F.okX sc_word_at (fun vs H Q E h => ?_) (fun cdv A outer s H vs Q E hr h => ?_)
  · obtain ⟨a, y, z, rfl, _⟩ := h; rfl
  obtain ⟨row, i, line, rfl, hl, hi, q⟩ := h
  refine ⟨_, (pss_cons (ps_set (i := 3) sc_word_at.nd rfl (Or.inl rfl) (pe_ix ix_str (pv 0) (pv 1) (fun _ _ => rfl)))
    (pss_cons (ps_if (pt_val (pe_call D_is_of_stretch.ok (hr.mono (by omega)) rfl D_is_of_stretch.g D_is_of_stretch.k D_is_of_stretch.b .nil pass0 (pa_cons (pv 3) pa_nil))) (pss_one (ps_ret (pe_callS D_stretch_at.ok (hr.mono (by omega)) rfl D_stretch_at.g D_stretch_at.k D_stretch_at.b (fun σ => passAt (takes_of rfl rfl rfl rfl) σ) (pa_cons (pv 0) (pa_cons (pv 1) (pa_cons (pv 2) pa_nil)))))) pss_nil)
    (pss_cons (ps_if (pt_cmpR op_eq (pv 3) pe_str (nomark _)) (pss_one (ps_ret (pe_callS D_text_at.ok (hr.mono (by omega)) rfl D_text_at.g D_text_at.k D_text_at.b (fun σ => passAt (takes_of rfl rfl rfl rfl) σ) (pa_cons (pv 0) (pa_cons (pv 1) (pa_cons (pv 2) pa_nil)))))) pss_nil)
    (pss_cons (ps_if (pt_cmpR op_in_seq (pe_slice sl_str (pv 0) (po_some (pv 1)) (po_some (pe_op op_add (pv 1) pe_int))) (pe_glob (v := .ref T.aDOUBLE) rfl T.mDOUBLE_MARKS rfl) rfl) (pss_one (ps_ret (pe_tup (pa_cons pe_str (pa_cons (pe_slice sl_str (pv 0) (po_some (pv 1)) (po_some (pe_op op_add (pv 1) pe_int))) (pa_cons (pe_op op_add (pv 1) pe_int) pa_nil)))))) pss_nil)
    (pss_cons (ps_if (pt_cmpR op_in_sign (pv 3) (pe_glob (v := .str (S marksL)) rfl T.mMARKS ⟨_, rfl⟩) rfl) (pss_one (ps_ret (pe_tup (pa_cons pe_str (pa_cons (pv 3) (pa_cons (pe_op op_add (pv 1) pe_int) pa_nil)))))) pss_nil)
    (pss_one (ps_raise rfl (takes_of rfl rfl rfl rfl) (pmk_bad B (hr.mono (by decide)) rfl (pv 2))))))))), ?_⟩
  have hz := line_eq
  have hlen := S_len row
  obtain ⟨c, hc⟩ : ∃ c, row[i]? = some c := ⟨_, List.getElem?_eq_getElem hi⟩
  have hd := drop_cons hc
  rw [hd] at q
  -- sign = row[at]; is_of_stretch(sign)
  refine ⟨_, rfl, _, rfl, S row, _, c, rfl, rfl, (by rw [hlen]; omega), atI_nat hc, ?_⟩
  refine ⟨_, rfl, c, rfl, _, rfl, ?_⟩
  refine iteb (fun h1 => ?_) (fun h1 => ?_)
  · rw [tok_cons, if_pos h1] at q
    have tw : (c :: row.drop (i + 1)).takeWhile isS = c :: (row.drop (i + 1)).takeWhile isS := by rw [List.takeWhile_cons, if_pos h1]
    refine ⟨_, rfl, _, rfl, _, rfl, row, i, line, rfl, hl, hi, fun d e => by rw [hc] at e; cases e; exact h1, ?_⟩
    rw [hd, tw]
    cases e : classify (c :: (row.drop (i + 1)).takeWhile isS) with
    | none => rw [e] at q; exact q
    | some p =>
      rw [e] at q
      have q : TupQ (.str (soS p.1)) (wdV p.2) (.int ((row.length - ((row.drop (i + 1)).dropWhile isS).length : Nat) : Int)) H Q := q
      have e2 : i + (c :: (row.drop (i + 1)).takeWhile isS).length = row.length - ((row.drop (i + 1)).dropWhile isS).length := by
        have h2 : ((row.drop (i + 1)).takeWhile isS).length + ((row.drop (i + 1)).dropWhile isS).length = (row.drop (i + 1)).length := by
          rw [← List.length_append, List.takeWhile_append_dropWhile]
        rw [List.length_drop] at h2
        rw [List.length_cons]
        omega
      show TupQ (.str (soS p.1)) (wdV p.2) (.int ((i + (c :: (row.drop (i + 1)).takeWhile isS).length : Nat) : Int)) H Q
      rw [e2]; exact q
  rw [tok_cons, if_neg (by rw [h1]; exact Bool.false_ne_true)] at q
  -- sign == '"'
  refine ⟨_, rfl, rfl, _, rfl, ?_⟩
  have e1 : (V.str ⟨#[c]⟩ = V.str "\"") ↔ c = 34 := by rw [q_lit]; exact str_one
  refine ited (fun h2 => ?_) (fun h2 => ?_)
  · have h2 := e1.mp h2
    rw [if_pos h2] at q
    refine ⟨_, rfl, _, rfl, _, rfl, row, i, line, rfl, hl, hi, ?_⟩
    cases e : textP [] (row.drop (i + 1)) with
    | none => rw [e] at q; exact q
    | some p => rw [e] at q; exact q
  have h2 : ¬ c = 34 := fun h => h2 (e1.mpr h)
  rw [if_neg h2] at q
  -- row[at:at + 2] in DOUBLE_MARKS
  have e3 : cutS (S row) (some (i : Int)) (some ((i : Int) + 2)) = S (c :: (row.drop (i + 1)).take 1) := by
    have := cut_nat (l := row) (i := i) (j := i + 2) (by omega)
    rw [show i + 2 - i = 2 by omega, hd] at this
    exact this
  refine ⟨_, rfl, _, rfl, _, rfl, _, rfl, _, _, rfl, rfl, _, rfl, S row, rfl, (by rw [hlen]; omega), ?_⟩
  rw [e3]
  refine ⟨_, _, rfl, .inr (T.kDOUBLE _), rfl, flat_keys _, _, rfl, ?_⟩
  rw [two_in]
  refine iteb (fun h3 => ?_) (fun h3 => ?_)
  · have h3 : two c (row.drop (i + 1)) = true := h3
    rw [if_pos h3] at q
    have q : TupQ (.str "mark") (.str (S [c, 61])) (.int ((row.length - (row.drop (i + 1)).tail.length : Nat) : Int)) H Q := q
    have hd1 : ∃ r, row.drop (i + 1) = 61 :: r := by
      unfold two at h3
      simp only [Bool.and_eq_true, decide_eq_true_eq] at h3
      cases e : row.drop (i + 1) with
      | nil => rw [e] at h3; simp at h3
      | cons d r => rw [e] at h3; exact ⟨r, by rw [show d = 61 from h3.2]⟩
    obtain ⟨r, hr1⟩ := hd1
    have hl1 : (row.drop (i + 1)).length = r.length + 1 := by rw [hr1]; rfl
    rw [List.length_drop] at hl1
    have e4 : ((row.length - (row.drop (i + 1)).tail.length : Nat) : Int) = (i : Int) + 2 := by rw [hr1]; show ((row.length - r.length : Nat) : Int) = _; omega
    rw [e4] at q
    refine ⟨_, rfl, _, rfl, _, rfl, _, rfl, _, _, rfl, rfl, _, rfl, S row, rfl, (by rw [hlen]; omega), ?_⟩
    rw [e3, hr1]
    exact ⟨_, rfl, _, _, rfl, rfl, three_ok, fun p hp => q.go (Same.refl _) hp⟩
  have h3 : two c (row.drop (i + 1)) = false := h3
  rw [if_neg (by rw [h3]; exact Bool.false_ne_true)] at q
  -- sign in MARKS
  refine ⟨_, rfl, c, _, rfl, rfl, _, rfl, ?_⟩
  refine ited (fun h4 => ?_) (fun h4 => ?_)
  · rw [if_pos h4] at q
    have q : TupQ (.str "mark") (.str (S [c])) (.int ((row.length - (row.drop (i + 1)).length : Nat) : Int)) H Q := q
    have e4 : ((row.length - (row.drop (i + 1)).length : Nat) : Int) = (i : Int) + 1 := by rw [List.length_drop]; omega
    rw [e4] at q
    exact ⟨_, rfl, _, rfl, _, _, rfl, rfl, three_ok, fun p hp => q.go (Same.refl _) hp⟩
  rw [if_neg h4] at q
  exact ⟨_, rfl, bad_ok fun d hd => q.go (Same.refl _) hd⟩
/-! ### words_of_line -/
/-- a word as the triple that is told -/
def tkV (t : Tk) : List V := [.str (soS t.so), wdV t.wd, .int (t.ln : Int)]
def Toks (H : Hp) : List V → List Tk → Prop
  | [], [] => True
  | v :: vs, t :: ts => (∃ p, v = .ref p ∧ H p = some (.tup (tkV t))) ∧ Toks H vs ts
  | _, _ => False
theorem Toks.mono {H H' : Hp} (g : Same H H') : ∀ {vs : List V} {ts : List Tk}, Toks H vs ts → Toks H' vs ts
  | [], [], _ => trivial
  | _ :: _, _ :: _, ⟨⟨p, e, h⟩, r⟩ => ⟨⟨p, e, g _ _ h⟩, Toks.mono g r⟩
  | [], _ :: _, h => h.elim
  | _ :: _, [], h => h.elim
theorem Toks.app {H : Hp} : ∀ {vs ws : List V} {ts us : List Tk}, Toks H vs ts → Toks H ws us → Toks H (vs ++ ws) (ts ++ us)
  | [], _, [], _, _, h => h
  | _ :: _, _, _ :: _, _, ⟨a, r⟩, h => ⟨a, Toks.app r h⟩
  | [], _, _ :: _, _, h, _ => h.elim
  | _ :: _, _, [], _, h, _ => h.elim
theorem Toks.len {H : Hp} : ∀ {vs : List V} {ts : List Tk}, Toks H vs ts → vs.length = ts.length
  | [], [], _ => rfl
  | _ :: _, _ :: _, ⟨_, r⟩ => by rw [List.length_cons, List.length_cons, Toks.len r]
  | [], _ :: _, h => h.elim
  | _ :: _, [], h => h.elim
/-- a list that is new, of the words -/
def LstQ (ts : List Tk) (H : Hp) (Q : VK) : Prop := ∀ H' p vs, H p = none → Same H H' → H' p = some (.lst vs) → Toks H' vs ts → Q (.ref p) H'
abbrev s_words_of_line : Stmt := top 15
theorem sc_words_of_line : FnScope ["row", "line", "found", "at", "sort", "word"] ["row", "line"] (defScope s_words_of_line) := ⟨rfl, rfl, rfl, by decide +kernel, rfl, by decide +kernel, by decide +kernel⟩
def sp_words_of_line (C : Addr) : Sp := fun vs H Q E => ∃ (row : List Nat) (line : Nat), vs = [.str (S row), .int (line : Int)] ∧ row.length ≤ 1000000 ∧ 10 ∉ row ∧
  (match cutF line row with
    | .bad l => BadE C l H E
    | .ok ts => LstQ ts H Q)
theorem tok_drop {l : List Nat} {so : So} {wd : Wd} {r : List Nat} (h : tok l = some (so, wd, r)) : r = l.drop (l.length - r.length) := by
  have suf : ∀ {a b : List Nat}, a <:+ b → a = b.drop (b.length - a.length) := fun {a b} ⟨t, e⟩ => by rw [← e]; simp
  refine suf ?_
  cases l with
  | nil => simp [tok] at h
  | cons c r0 =>
    have hdw : r0.dropWhile isS <:+ c :: r0 := (List.dropWhile_suffix _).trans (List.suffix_cons c r0)
    have htp : ∀ (n : Nat) (l acc : List Nat) {w r' : List Nat}, l.length ≤ n → textP acc l = some (w, r') → r' <:+ l := by
      intro n
      induction n with
      | zero =>
        intro l acc w r' hl h
        cases l with
        | nil => simp [textP] at h
        | cons _ _ => simp at hl
      | succ n ih =>
        intro l acc w r' hl h
        cases l with
        | nil => simp [textP] at h
        | cons a l =>
          cases l with
          | nil =>
            simp only [textP] at h
            split at h
            · cases h; exact List.suffix_cons _ _
            · cases h
          | cons b l =>
            simp only [textP] at h
            split at h
            · split at h
              · exact (ih l _ (by simp at hl; omega) h).trans ((List.suffix_cons b l).trans (List.suffix_cons a _))
              · cases h; exact List.suffix_cons a _
            · split at h
              · exact (ih (b :: l) _ (by simp at hl ⊢; omega) h).trans (List.suffix_cons a _)
              · cases h
    simp only [tok] at h
    split at h
    · cases e : classify (c :: r0.takeWhile isS) with
      | none => rw [e] at h; cases h
      | some p => rw [e] at h; cases h; exact hdw
    · split at h
      · cases e : textP [] r0 with
        | none => rw [e] at h; cases h
        | some p =>
          rw [e] at h; cases h
          exact (htp _ r0 [] (Nat.le_refl _) e).trans (List.suffix_cons c r0)
      · split at h
        · cases h; exact (List.tail_suffix r0).trans (List.suffix_cons c r0)
        · split at h
          · cases h; exact List.suffix_cons c _
          · cases h
theorem tw_notNl {l : List Nat} (h : 10 ∉ l) : l.takeWhile notNl = l ∧ l.dropWhile notNl = [] := by
  have : ∀ c ∈ l, notNl c = true := fun c hc => by
    unfold notNl
    rw [decide_eq_false (fun e => h (by rw [← e]; exact hc))]; rfl
  induction l with
  | nil => exact ⟨rfl, rfl⟩
  | cons a l ih =>
    have i := ih (fun hm => h (List.mem_cons_of_mem _ hm)) (fun c hc => this c (List.mem_cons_of_mem _ hc))
    rw [List.takeWhile_cons, List.dropWhile_cons, if_pos (this a List.mem_cons_self), if_pos (this a List.mem_cons_self), i.1]
    exact ⟨rfl, i.2⟩
theorem sp_lit : (" " : Str) = S [32] := S_of " "
theorem no_lit : ("#" : Str) = S [35] := S_of "#"
theorem ok_words_of_line (T : Txt K mg) (B : ExcT P w K mg base "BadText" ["self", "line"] sp_bad_init) {f : Addr} {fd : FuncData} (F : Fun K "words_of_line" "words_of_line" s_words_of_line f fd)
    (D_is_plain : Def P w K mg base CX0 "is_plain" ["thing"] 1 sp_is_plain) (D_word_at : Def P w K mg base (L2.CX P w) "word_at" ["row", "at", "line"] 4 (sp_word_at B.C)) :
    FnOk P w K mg base (L2.CX P w) 5 f fd ["row", "line"] (sp_words_of_line B.C) := by
  refine F.okX sc_words_of_line (fun vs H Q E h => ?_) (fun cdv A outer s H vs Q E hr h => ?_)
  · obtain ⟨a, y, rfl, _⟩ := h; rfl
  obtain ⟨row, line, rfl, hl, h10, q⟩ := h
  refine ⟨_, (pss_cons (ps_set (i := 2) sc_words_of_line.nd rfl (Or.inl rfl) (pe_lst pa_nil))
    (pss_cons (ps_set (i := 3) sc_words_of_line.nd rfl (Or.inl rfl) pe_int)
    (pss_cons (ps_while (passes_of rfl) (pt_cmpR op_lt (pv 3) (pe_callB call_len_str rfl T.n_len boot_len (pa_cons (pv 0) pa_nil)) (nomark _)) (pss_one (ps_if (pt_cmpR op_eq (pe_ix ix_str (pv 0) (pv 3) (fun _ _ => rfl)) pe_str (nomark _)) (pss_one (ps_aug (i := 3) sc_words_of_line.nd rfl (Or.inl rfl) pe_int ip_add)) (pss_one (ps_if (pt_cmpR op_eq (pe_ix ix_str (pv 0) (pv 3) (fun _ _ => rfl)) pe_str (nomark _)) (pss_cons (ps_if (pt_not (pt_val (pe_call D_is_plain.ok (hr.mono (by omega)) rfl D_is_plain.g D_is_plain.k D_is_plain.b .nil pass0 (pa_cons (pe_slice sl_str (pv 0) (po_some (pv 3)) po_none) pa_nil)))) (pss_one (ps_raise rfl (takes_of rfl rfl rfl rfl) (pmk_bad B (hr.mono (by decide)) rfl (pv 1)))) pss_nil)
          (pss_one (ps_set (i := 3) sc_words_of_line.nd rfl (Or.inl rfl) (pe_callB call_len_str rfl T.n_len boot_len (pa_cons (pv 0) pa_nil))))) (pss_cons (ps_asg (pe_callS D_word_at.ok (hr.mono (by omega)) rfl D_word_at.g D_word_at.k D_word_at.b (fun σ => passAt (takes_of rfl rfl rfl rfl) σ) (pa_cons (pv 0) (pa_cons (pv 3) (pa_cons (pv 1) pa_nil)))) (pg_tup rfl (pgs_cons (pg_name (i := 4) sc_words_of_line.nd rfl (Or.inl rfl)) (pgs_cons (pg_name (i := 5) sc_words_of_line.nd rfl (Or.inl rfl)) (pgs_cons (pg_name (i := 3) sc_words_of_line.nd rfl (Or.inl rfl)) pgs_nil)))))
          (pss_one (ps_expr (pe_bm PySem.F.plainAttrs_list PySem.F.slot_list_append PySem.F.type_list_append mt_append (pv 2) (pa_cons (pe_tup (pa_cons (pv 4) (pa_cons (pv 5) (pa_cons (pv 1) pa_nil)))) pa_nil))))))))))
    (pss_one (ps_ret (pv 2)))))), ?_⟩
  have hz := line_eq
  have hlen := S_len row
  refine ⟨(by show 0 ≤ sizeLine; omega), fun p np => ?_⟩
  refine while_of (fun σ H' => ∃ (ts : List Tk) (vs : List V), Same H H' ∧ cutF line row = .ok ts ∧ H' p = some (.lst vs) ∧ Toks H' vs ts ∧ ∃ a b c d e : Option V, σ = [a, b, some (.ref p), c, d, e])
    (fun m σ H' => Same H H' ∧ ∃ (k : Nat) (ts : List Tk) (vs : List V), m = row.length - k ∧ k ≤ row.length ∧ vs.length ≤ k ∧ cutF line row = Res.app ts (cutF line (row.drop k)) ∧ H' p = some (.lst vs) ∧ Toks H' vs ts ∧
      ∃ a b : Option V, σ = [some (.str (S row)), some (.int (line : Int)), some (.ref p), some (.int (k : Int)), a, b])
    _ ⟨same_new np _, 0, [], [], rfl, Nat.zero_le _, Nat.le_refl _, (Res.app_nil _).symm, upd_same, trivial, none, none, rfl⟩ ?_ ?_
  · rintro σ H' ⟨ts, vs, g, hc, hp, ht, a, b, c, d, e, rfl⟩
    rw [hc] at q
    exact ⟨_, rfl, q H' p vs np g hp ht⟩
  rintro NX nx m σ H' ⟨g, k, ts, vs, rfl, h1, h0, h2, hp, ht, a, b, rfl⟩
  refine ⟨_, rfl, _, rfl, _, rfl, (by rw [hlen]; omega), _, _, rfl, rfl, _, rfl, ?_⟩
  rw [hlen]
  refine ited (fun h4 => ?_) (fun h4 => ?_)
  rotate_left
  · refine nx _ _ ⟨ts, vs, g, ?_, hp, ht, _, _, _, _, _, rfl⟩
    rw [h2, List.drop_eq_nil_of_le (by omega), cutF_nil]
    show Res.ok (ts ++ []) = _
    rw [List.append_nil]
  have hk : k < row.length := by omega
  refine ⟨_, fun _ _ h => h, ?_⟩
  obtain ⟨c, hc⟩ : ∃ c, row[k]? = some c := ⟨_, List.getElem?_eq_getElem hk⟩
  have hd := drop_cons hc
  have n10 : c ≠ 10 := fun e => h10 (by rw [← e]; exact List.mem_of_getElem? hc)
  have atk := atI_nat hc
  -- row[at] == ' '
  refine ⟨_, rfl, _, rfl, S row, _, c, rfl, rfl, (by rw [hlen]; omega), atk, rfl, _, rfl, ?_⟩
  refine ited (fun h5 => ?_) (fun h5 => ?_)
  · have h5 : c = 32 := str_one.mp (by rw [sp_lit] at h5; exact h5)
    subst h5
    refine ⟨_, rfl, _, _, rfl, rfl, ?_⟩
    refine ⟨row.length - (k + 1), by omega, g, k + 1, ts, vs, rfl, by omega, by omega, ?_, hp, ht, a, b, rfl⟩
    rw [h2, hd, cutF_sp]
  have n32 : c ≠ 32 := fun e => h5 (by rw [sp_lit, e])
  -- row[at] == '#'
  refine ⟨_, rfl, _, rfl, S row, _, c, rfl, rfl, (by rw [hlen]; omega), atk, rfl, _, rfl, ?_⟩
  refine ited (fun h6 => ?_) (fun h6 => ?_)
  · have h6 : c = 35 := str_one.mp (by rw [no_lit] at h6; exact h6)
    subst h6
    have n10' : 10 ∉ row.drop (k + 1) := fun hm => h10 (List.mem_of_mem_drop hm)
    have e1 : cutF line (row.drop k) = if (row.drop (k + 1)).all plain = true then .ok [] else .bad line := by
      rw [hd, cutF_note, (tw_notNl n10').1, (tw_notNl n10').2, cutF_nil]
    refine ⟨_, rfl, _, rfl, _, rfl, S row, rfl, (by rw [hlen]; omega), row.drop k, ?_, by rw [List.length_drop]; omega, fun H3 g3 => ⟨_, rfl, ?_⟩⟩
    · rw [cut_from (by omega)]; rfl
    have g4 := g.trans g3
    have e2 : (row.drop k).all plain = (row.drop (k + 1)).all plain := by rw [hd, List.all_cons]; rfl
    rw [e2]
    refine itebn (fun h8 => ?_) (fun h8 => ?_)
    · rw [h2, e1, h8] at q
      exact ⟨_, rfl, bad_ok fun d hd => BadE.go q g4 hd⟩
    rw [e1, if_pos h8] at h2
    refine ⟨_, rfl, _, rfl, (by rw [hlen]; omega), ?_⟩
    refine ⟨0, by omega, g4, row.length, ts, vs, by omega, Nat.le_refl _, by omega, ?_, g3 _ _ hp, ht.mono g3, a, b, by rw [hlen]; rfl⟩
    rw [h2, List.drop_eq_nil_of_le (Nat.le_refl _), cutF_nil]
  have n35 : c ≠ 35 := fun e => h6 (by rw [no_lit, e])
  -- sort, word, at = word_at(row, at, line)
  refine ⟨_, rfl, _, rfl, _, rfl, row, k, line, rfl, hl, hk, ?_⟩
  rw [hd] at h2
  cases e : tok (row.drop k) with
  | none =>
    rw [h2, cutF_none n10 n32 n35 (by rw [← hd]; exact e)] at q
    exact BadE.mono q g
  | some p3 =>
    obtain ⟨so, wd, r⟩ := p3
    have hr := tok_drop e
    have hlt := tok_len e
    rw [List.length_drop] at hlt hr
    rw [List.drop_drop] at hr
    have ek : k + (row.length - k - r.length) = row.length - r.length := by omega
    rw [ek] at hr
    intro H3 p3 g3 hp3
    refine ⟨p3, _, rfl, SqT.of hp3, rfl, ?_⟩
    refine ⟨_, _, rfl, _, _, rfl, _, _, rfl, rfl, ?_⟩
    -- found.append((sort, word, line))
    have hp' := g3 _ _ hp
    refine ⟨_, rfl, .inl ⟨rfl, _, SqL.of hp'⟩, _, rfl, _, rfl, _, rfl, three_ok, fun p4 hp4 => ?_⟩
    have hp'' : (upd H3 p4 (.tup (tkV ⟨so, wd, line⟩))) p = some (.lst vs) := (same_new hp4 _) _ _ hp'
    refine ⟨p, vs, _, rfl, rfl, hp'', by omega, ?_⟩
    have gall : Same H (upd (upd H3 p4 (.tup (tkV ⟨so, wd, line⟩))) p (.lst (vs ++ [.ref p4]))) := same_mut ((g.trans g3).trans (same_new hp4 _)) np _
    refine ⟨r.length, by omega, gall, row.length - r.length, ts ++ [⟨so, wd, line⟩], vs ++ [.ref p4], by omega, by omega, by rw [List.length_append, List.length_singleton]; omega, ?_, upd_same, ?_, _, _, rfl⟩
    · rw [h2, cutF_some n10 n32 n35 (by rw [← hd]; exact e), Res.app_app, ← hr]
    · have hne : ∀ {b : Addr} {xs : List V}, (upd H3 p4 (.tup (tkV ⟨so, wd, line⟩))) b = some (.tup xs) → (upd (upd H3 p4 (.tup (tkV ⟨so, wd, line⟩))) p (.lst (vs ++ [.ref p4]))) b = some (.tup xs) := fun {b xs} z => by
        rw [upd_ne (ne_of z hp'' (by intro z; cases z))]; exact z
      have keep : ∀ {ws : List V} {us : List Tk}, Toks (upd H3 p4 (.tup (tkV ⟨so, wd, line⟩))) ws us → Toks (upd (upd H3 p4 (.tup (tkV ⟨so, wd, line⟩))) p (.lst (vs ++ [.ref p4]))) ws us := by
        intro ws
        induction ws with
        | nil => intro us h; cases us with
          | nil => trivial
          | cons _ _ => exact h.elim
        | cons x ws ih => intro us h; cases us with
          | nil => exact h.elim
          | cons t us => obtain ⟨⟨b, e1, e2⟩, r⟩ := h; exact ⟨⟨b, e1, hne e2⟩, ih r⟩
      refine keep (Toks.app ((ht.mono g3).mono (same_new hp4 _)) ⟨⟨p4, rfl, upd_same⟩, trivial⟩)
end
end Wk
set_option maxRecDepth 100000
set_option maxHeartbeats 4000000
namespace Wk
open PySem L2 TL PyProof.Rows
open SX (S S_len)
/-! ### for line, row in enumerate(list, start=1) -/
def It1 (K : PySem.W.Frag) (a : Addr) : L2.It :=
  ⟨fun i H => ∃ (xs : List V) (x : V), SqL K H a xs ∧ xs[i]? = some x,
   fun i H v H' => ∃ T x, v = .ref T ∧ H T = none ∧ H' = upd H T (.tup [.int (1 + (i : Int)), x]) ∧ ∀ xs, SqL K H a xs → xs[i]? = some x,
   fun i H => ∃ xs : List V, SqL K H a xs ∧ xs.length = i⟩
theorem turn1 {P : Program} {w : World} {K : PySem.W.Frag} {elts : List Expr} {kk : Nat} {tpos : Pos} (a e it : Addr) :
    L2.Turn P w K (.Tuple elts kk tpos) (It1 K a) [e, it] e (fun i h => (∃ old, IsEnum h e it (1 + (i : Int)) old) ∧ h.IsListIter it a i ∧ e ≠ it ∧ e ≠ a ∧ a ≠ it) where
  mem := by simp
  obj := fun i h st b hb => by
    obtain ⟨⟨old, he⟩, ⟨o, ho, hc, hd⟩, _⟩ := st
    rcases (show b = e ∨ b = it by simpa using hb) with z | z
    · rw [z]; exact ⟨_, he, fun v q => nomatch q⟩
    · rw [z]; exact ⟨o, ho, fun v q => by rw [hd] at q; cases q⟩
  keep := fun i h h' st k => by
    obtain ⟨⟨old, he⟩, hi, hr⟩ := st
    exact ⟨⟨old, k e (by simp) _ he⟩, hi.at fun o q => k it (by simp) o q, hr⟩
  item := by
    intro X hP hw hK hc i pins s σ H E I hf st hg
    subst hP hw hK
    obtain ⟨⟨old, he⟩, hit, hne, hea, hai⟩ := st
    obtain ⟨xs, x, hq, hx⟩ := hg
    obtain ⟨its, rv, p, hz⟩ := I.list hq
    obtain ⟨u, hu, ru⟩ := rv.get hx
    have hel : e < s.heap.objs.size := Heap.lt_size he
    have hil : it < s.heap.objs.size := by obtain ⟨_, q, _⟩ := hit; exact Heap.lt_size q
    have hu' : its.toArray[i]? = some u := by simpa using hu
    have hlt : i < its.toArray.size := (Array.getElem?_eq_some_iff.mp hu').1
    refine wpAny_pyNext_enum_itemC (Draws.list (prog := X.prog) (w := X.w) (A := X.A.in1) (I.ok.hd hc) it a hai its.toArray) he ⟨hit, p.isList⟩ hlt hne (by simp [hne, hea]) fun y h' tk hy ho hs hT hsz hk => ?_
    have ey : y = u := by rw [hu'] at hy; exact (Option.some.inj hy).symm
    subst ey
    refine ⟨_, rfl, wpAny_letOwnedTupleGo_enum (s := { s with heap := h', toks := tk + 1 }) ho fun h2 he2 sb => ?_⟩
    have hT2 : h2.get? s.heap.objs.size = some { cls := .type "tuple", data := .seq #[.int (1 + (i : Int)) tk, y] } := (sb.2 _ (Nat.ne_of_gt hel)).trans hT
    have new : ObjOk X.prog X.w (upd H s.heap.objs.size (.tup [.int (1 + (i : Int)), x])) h2 s.heap.objs.size (.tup [.int (1 + (i : Int)), x]) :=
      ⟨by show 2 ≤ sizeLine; decide, [.int (1 + (i : Int)) tk, y], .cons ⟨_, rfl⟩ (.cons ru .nil), ⟨_, hT2, rfl, _, rfl⟩⟩
    have I1 : L2.Inv X pins σ (upd H s.heap.objs.size (.tup [.int (1 + (i : Int)), x])) { s with heap := h2, toks := tk + 1 } :=
      I.turnedNew (ch := [e, it]) (fun b ob hb q => (sb.2 b (fun z => hb (by simp [z]))).trans (hk b ob (fun z => hb (by simp [z])) (fun z => hb (by simp [z])) q)) hf (Nat.le_refl _) new
    refine ⟨.ref s.heap.objs.size, _, I1, rfl, ⟨_, x, rfl, I.hok.fresh (Nat.le_refl _), rfl, fun ys hy => by rw [I.list_inj hy hq]; exact hx⟩, ⟨⟨y, ?_⟩, hs.1.at fun o q => (sb.2 it (Ne.symm hne)).trans q, hne, hea, hai⟩, fun b hb => ?_⟩
    · rw [show (1 : Int) + ((i + 1 : Nat) : Int) = 1 + (i : Int) + 1 by omega]; exact he2
    · have hb' : b < s.heap.objs.size := by
        rcases (show b = e ∨ b = it by simpa using hb) with z | z
        · rw [z]; exact hel
        · rw [z]; exact hil
      rw [upd_ne (Nat.ne_of_lt hb')]
      exact (hf b hb).1
  done := by
    intro X hP hw hK hc i pins s σ H E I hf st hg
    subst hP hw hK
    obtain ⟨⟨old, he⟩, hit, hne, hea, hai⟩ := st
    obtain ⟨xs, hq, hx⟩ := hg
    obtain ⟨its, rv, p, hz⟩ := I.list hq
    obtain ⟨f0, f1, f2, f3, f4, f5⟩ := hf it (by simp)
    have hl := rv.length
    have hsz : its.toArray.size = i := by simp; omega
    refine wpAny_pyNext_enum_endD (Draws.list (prog := X.prog) (w := X.w) (A := X.A.in1) (I.ok.hd hc) it a hai its.toArray) he (by rw [hsz]; exact ⟨hit, p.isList⟩) fun h' eb => ⟨rfl, I.turned (t' := s.toks) (fun b o hb q => eb b o hb q) f0 f1 f3 f4 f5⟩
  self := fun A i s Q E st h => by
    obtain ⟨⟨_, he⟩, _⟩ := st
    exact wpAny_pyIter_enum he h
def iEnum1 (K : PySem.W.Frag) (ta : TA) : TI := fun σ H R => ta σ H fun vs H1 => ∃ a xs, vs = [.ref a] ∧ SqL K H1 a xs ∧ R (It1 K a) H1
theorem pi_enum1 {X : Cx} {e : Expr} {ta : TA} {p pos tpos cp kp : Pos} {j : Nat} {elts : List Expr} {kk : Nat} (hg : Gl X "enumerate") (hm : X.mg "enumerate" = none) (ha : PA X [e] ta)
    (hs : starEach [e] X.env = (false, eval e X.env) :: starEach [] X.env := by rfl) (hall : (backToKw pos (keywordEach [⟨some "start", .Constant (.int 1) j cp, kp⟩] X.env)).all (·.1.isSome) = true := by rfl)
    (hks : (backToKw pos (keywordEach [⟨some "start", .Constant (.int 1) j cp, kp⟩] X.env)).filterMap (·.1) = [Str.ofString "start"] := by rfl)
    (hpl : ((backTo pos (starEach [e] X.env)).any (·.1) || (backToKw pos (keywordEach [⟨some "start", .Constant (.int 1) j cp, kp⟩] X.env)).any (·.1.isNone)) = false := by rfl) :
    PI X (.Tuple elts kk tpos) (.Call (.Name "enumerate" p) [e] [⟨some "start", .Constant (.int 1) j cp, kp⟩] pos) (iEnum1 X.K ta) := by
  refine ⟨fun pins s σ H R I h => ?_⟩
  have hk : PK X [⟨some "start", .Constant (.int 1) j cp, kp⟩] (tCons (tC (.int 1)) tNil) := pk_cons pe_int pk_nil
  refine wpAny_Call_Name_kw (ld_blt I hg hm boot_enumerate ?_)
  refine PySem.W.callWith_of (P := fun _ => True) hpl (fun h _ => ⟨_, .inr (.inl rfl), .now⟩) (evalArgs_kw2 hall (thn (ha.run pos pins s σ H _ I h) fun us s1 ⟨vs, H1, I1, r1, a, xs, ev, hq, q⟩ => ?_) hs)
  refine thn (hk.run pos pins s1 σ H1 (fun ws H2 => ws = [.int 1] ∧ H2 = H1) I1 ⟨rfl, rfl⟩) fun ws s2 ⟨zs, H2, I2, rz, ez, eH⟩ => ⟨trivial, ?_⟩
  subst ev; subst ez; subst eH
  rw [hks]
  cases r1 with
  | cons r rr =>
    cases rr
    cases r
    cases rz with
    | cons rk rr2 =>
      cases rr2
      obtain ⟨t, rfl⟩ := rk
      obtain ⟨its, rv, p', hz⟩ := I2.list hq
      have hlt : a < s2.heap.objs.size := by
        obtain ⟨o, ho, _⟩ := p'.isList
        exact Heap.lt_size ho
      refine enum_begins_start (begins_list a its.toArray) p'.isList (by decide) (by decide) fun h' he hit hsz hkk => wpAny_pyIter_enum he ?_
      have I3 : L2.Inv X pins σ H2 { s2 with heap := h' } := I2.kept (t' := s2.toks) hkk
      refine ⟨s2.heap.objs.size + 1, [s2.heap.objs.size + 1, s2.heap.objs.size], _, _, H2, rfl, I3, turn1 a (s2.heap.objs.size + 1) s2.heap.objs.size, ⟨⟨.none, he⟩, ⟨_, hit, rfl, rfl⟩, Nat.succ_ne_self _, Nat.ne_of_gt (Nat.lt_succ_of_lt hlt), Nat.ne_of_lt hlt⟩, fun b hb => ?_, q⟩
      have hle : s2.heap.objs.size ≤ b := by
        rcases (show b = s2.heap.objs.size + 1 ∨ b = s2.heap.objs.size by simpa using hb) with z | z
        · rw [z]; exact Nat.le_add_right _ _
        · rw [z]; exact Nat.le_refl _
      exact I2.fpOk hle (I2.hok.fresh hle)
end Wk
set_option maxRecDepth 100000
set_option maxHeartbeats 4000000
namespace Wk
open PySem L2 TL PyProof.Rows
open SX (S S_len)
/-! ### a text by its lines -/
theorem tw_nl {p : Nat → Bool} (h : p 10 = false) (r : List Nat) : ∀ l : List Nat, (l ++ 10 :: r).takeWhile p = l.takeWhile p ∧ (l ++ 10 :: r).dropWhile p = l.dropWhile p ++ 10 :: r
  | [] => by
    rw [List.nil_append, List.takeWhile_cons, List.dropWhile_cons, if_neg (by rw [h]; exact Bool.false_ne_true), if_neg (by rw [h]; exact Bool.false_ne_true)]
    exact ⟨rfl, rfl⟩
  | a :: l => by
    have ih := tw_nl h r l
    rw [List.cons_append, List.takeWhile_cons, List.dropWhile_cons, List.takeWhile_cons, List.dropWhile_cons]
    cases e : p a with
    | true => simp only [if_pos]; exact ⟨by rw [ih.1], ih.2⟩
    | false => exact ⟨rfl, rfl⟩
theorem textP_nl (r : List Nat) : ∀ (n : Nat) (l acc : List Nat), l.length ≤ n → 10 ∉ l → textP acc (l ++ 10 :: r) = (textP acc l).map fun q => (q.1, q.2 ++ 10 :: r)
  | 0, l, acc, hl, _ => by
    cases l with
    | nil => exact textP_bad (by decide) (by decide)
    | cons _ _ => simp at hl
  | n + 1, l, acc, hl, h => by
    cases l with
    | nil => exact textP_bad (by decide) (by decide)
    | cons c l =>
      have hn : 10 ∉ l := fun hm => h (List.mem_cons_of_mem _ hm)
      have hl' : l.length ≤ n := by simp at hl; exact hl
      by_cases hc : c = 34
      · subst hc
        cases l with
        | nil =>
          rw [List.cons_append, textP_end (by simp), textP_end (by simp)]; rfl
        | cons d l =>
          by_cases hd : d = 34
          · subst hd
            rw [List.cons_append, List.cons_append, textP_dbl, textP_dbl]
            exact textP_nl r n l _ (by simp at hl'; omega) (fun hm => hn (List.mem_cons_of_mem _ hm))
          · rw [List.cons_append, textP_end (by simpa using hd), textP_end (by simpa using hd)]; rfl
      · rw [List.cons_append]
        cases hp : plain c with
        | true => rw [textP_plain hc hp, textP_plain hc hp]; exact textP_nl r n l _ hl' hn
        | false => rw [textP_bad hc hp, textP_bad hc hp]; rfl
theorem two_nl (c : Nat) (l r : List Nat) : two c (l ++ 10 :: r) = two c l := by
  cases l with
  | nil => simp [two]
  | cons d l => rfl
theorem tok_nl {c : Nat} {l : List Nat} (r : List Nat) (h : 10 ∉ l) : tok (c :: (l ++ 10 :: r)) = (tok (c :: l)).map fun q => (q.1, q.2.1, q.2.2 ++ 10 :: r) := by
  rw [tok_cons, tok_cons, (tw_nl (by decide) r l).1, (tw_nl (by decide) r l).2, textP_nl r l.length l [] (Nat.le_refl _) h, two_nl]
  by_cases h1 : isS c = true
  · rw [if_pos h1, if_pos h1]
    cases classify (c :: l.takeWhile isS) <;> rfl
  rw [if_neg h1, if_neg h1]
  by_cases h2 : c = 34
  · rw [if_pos h2, if_pos h2]
    cases textP [] l <;> rfl
  rw [if_neg h2, if_neg h2]
  by_cases h3 : two c l = true
  · rw [if_pos h3, if_pos h3]
    cases l with
    | nil => simp [two] at h3
    | cons d l => rfl
  rw [if_neg h3, if_neg h3]
  by_cases h4 : c ∈ marksL
  · rw [if_pos h4, if_pos h4]; rfl
  · rw [if_neg h4, if_neg h4]; rfl
/-- one more line behind -/
def Res.then (a b : Res) : Res := match a with
  | .bad l => .bad l
  | .ok us => Res.app us b
theorem Res.app_then (us : List Tk) (a b : Res) : Res.then (Res.app us a) b = Res.app us (Res.then a b) := by
  cases a with
  | bad l => rfl
  | ok ts => exact (Res.app_app us ts b).symm
theorem cutF_line (r : List Nat) : ∀ (k : Nat) (l : List Nat), l.length ≤ k → 10 ∉ l → ∀ n, cutF n (l ++ 10 :: r) = Res.then (cutF n l) (cutF (n + 1) r)
  | k, [], _, _, n => by
    rw [List.nil_append, cutF_nl, cutF_nil]
    exact (Res.app_nil _).symm
  | 0, _ :: _, hl, _, _ => by simp at hl
  | k + 1, c :: l, hl, h, n => by
    have hn : 10 ∉ l := fun hm => h (List.mem_cons_of_mem _ hm)
    have hl' : l.length ≤ k := by simp at hl; exact hl
    have n10 : c ≠ 10 := fun e => h (by rw [e]; exact List.mem_cons_self)
    rw [List.cons_append]
    by_cases h1 : c = 32
    · subst h1
      rw [cutF_sp, cutF_sp]
      exact cutF_line r k l hl' hn n
    by_cases h2 : c = 35
    · subst h2
      rw [cutF_note, cutF_note, (tw_nl (p := notNl) (by decide) r l).1, (tw_nl (p := notNl) (by decide) r l).2, (tw_notNl hn).1, (tw_notNl hn).2, List.nil_append, cutF_nl, cutF_nil]
      by_cases h3 : l.all plain = true
      · rw [if_pos h3, if_pos h3]; exact (Res.app_nil _).symm
      · rw [if_neg h3, if_neg h3]; rfl
    · have e := tok_nl (c := c) r hn
      cases e1 : tok (c :: l) with
      | none =>
        rw [e1] at e
        rw [cutF_none n10 h1 h2 e, cutF_none n10 h1 h2 e1]; rfl
      | some q =>
        obtain ⟨so, wd, q⟩ := q
        rw [e1] at e
        have hq := tok_drop e1
        have hlt := tok_len e1
        have hq10 : 10 ∉ q := fun hm => h (List.mem_of_mem_drop (hq ▸ hm))
        rw [cutF_some n10 h1 h2 e, cutF_some n10 h1 h2 e1, Res.app_then, cutF_line r k q (by simp at hlt; omega) hq10 n]
/-- lines, one behind the other -/
def rowsF : Nat → List (List Nat) → Res
  | _, [] => .ok []
  | n, row :: rs => Res.then (cutF n row) (rowsF (n + 1) rs)
theorem app_ok_nil (a : Res) : Res.then a (.ok []) = a := by
  cases a with
  | bad l => rfl
  | ok ts => show Res.ok (ts ++ []) = _; rw [List.append_nil]
theorem split_at : ∀ (t : List Nat), 10 ∉ t ∨ ∃ p r, t = p ++ 10 :: r ∧ 10 ∉ p
  | [] => .inl (by simp)
  | c :: t => by
    by_cases hc : c = 10
    · exact .inr ⟨[], t, by rw [hc]; rfl, by simp⟩
    · rcases split_at t with h | ⟨p, r, e, h⟩
      · exact .inl (by simp; exact ⟨fun e => hc e.symm, h⟩)
      · exact .inr ⟨c :: p, r, by rw [e]; rfl, by simp; exact ⟨fun e => hc e.symm, h⟩⟩
theorem cut_rows : ∀ (k : Nat) (t : List Nat), t.length ≤ k → ∀ n, cutF n t = rowsF n (spl [10] 0 [] t) := by
  intro k
  induction k with
  | zero =>
    intro t hl n
    cases t with
    | nil => rw [spl_nil, cutF_nil]; show _ = Res.then (cutF n []) _; rw [cutF_nil]; rfl
    | cons _ _ => simp at hl
  | succ k ih =>
    intro t hl n
    rcases split_at t with h | ⟨p, r, rfl, h⟩
    · rw [spl_last1 h, List.nil_append]
      exact (app_ok_nil _).symm
    · have e : spl [10] 0 [] (p ++ 10 :: r) = p :: spl [10] 0 [] r := spl_part1 (acc := []) h
      rw [e, cutF_line r _ p (Nat.le_refl _) h n]
      show Res.then (cutF n p) (cutF (n + 1) r) = Res.then (cutF n p) (rowsF (n + 1) _)
      rw [ih r (by simp at hl; omega) (n + 1)]
theorem rows_no : ∀ (k : Nat) (t : List Nat), t.length ≤ k → (∀ row ∈ spl [10] 0 [] t, 10 ∉ row) ∧ ((spl [10] 0 [] t).map List.length).sum ≤ t.length ∧ (spl [10] 0 [] t).length ≤ t.length + 1 := by
  intro k
  induction k with
  | zero =>
    intro t hl
    cases t with
    | nil => rw [spl_nil]; simp
    | cons _ _ => simp at hl
  | succ k ih =>
    intro t hl
    rcases split_at t with h | ⟨p, r, rfl, h⟩
    · rw [spl_last1 h, List.nil_append]
      refine ⟨fun row hr => by rw [List.mem_singleton.mp hr]; exact h, by simp, by simp⟩
    · have e : spl [10] 0 [] (p ++ 10 :: r) = p :: spl [10] 0 [] r := spl_part1 (acc := []) h
      have i := ih r (by simp at hl; omega)
      rw [e]
      refine ⟨fun row hr => ?_, ?_, ?_⟩
      · rcases List.mem_cons.mp hr with rfl | hr
        · exact h
        · exact i.1 row hr
      · rw [List.map_cons, List.sum_cons, List.length_append, List.length_cons]; have := i.2.1; omega
      · rw [List.length_cons, List.length_append, List.length_cons]; have := i.2.2; omega
theorem cutF_len : ∀ (k : Nat) (l : List Nat), l.length ≤ k → ∀ n ts, cutF n l = .ok ts → ts.length ≤ l.length
  | k, [], _, n, ts, e => by rw [cutF_nil] at e; cases e; simp
  | 0, _ :: _, hl, _, _, _ => by simp at hl
  | k + 1, c :: l, hl, n, ts, e => by
    have hl' : l.length ≤ k := by simp at hl; exact hl
    by_cases h0 : c = 10
    · subst h0; rw [cutF_nl] at e; have := cutF_len k l hl' _ _ e; simp; omega
    by_cases h1 : c = 32
    · subst h1; rw [cutF_sp] at e; have := cutF_len k l hl' _ _ e; simp; omega
    by_cases h2 : c = 35
    · subst h2
      rw [cutF_note] at e
      split at e
      · have hd := drop_len notNl l
        have := cutF_len k _ (by omega) _ _ e; simp; omega
      · cases e
    cases e1 : tok (c :: l) with
    | none => rw [cutF_none h0 h1 h2 e1] at e; cases e
    | some q =>
      obtain ⟨so, wd, q⟩ := q
      have hlt := tok_len e1
      rw [cutF_some h0 h1 h2 e1] at e
      cases e2 : cutF n q with
      | bad l => rw [e2] at e; cases e
      | ok us =>
        rw [e2] at e
        have e : Res.ok ([⟨so, wd, n⟩] ++ us) = .ok ts := e
        cases e
        have := cutF_len k q (by simp at hlt; omega) n us e2
        simp at hlt ⊢; omega
theorem mem_sum : ∀ {l : List Nat} {x : Nat}, x ∈ l → x ≤ l.sum
  | a :: l, x, h => by
    rw [List.sum_cons]
    rcases List.mem_cons.mp h with rfl | h
    · omega
    · have := mem_sum h; omega
theorem split_S (t : List Nat) : Txt.split (S t) ("\n" : Str) = (spl [10] 0 [] t).map S := by
  refine map_tl_inj ?_
  rw [split_spl (S t) ("\n" : Str) (by decide) (kind_ok (by decide +kernel)), List.map_map]
  have : (spl (tl ("\n" : Str)) 0 [] (tl (S t))) = spl [10] 0 [] t := rfl
  rw [this]
  have e2 : (tl ∘ S) = id := funext fun l => rfl
  rw [e2, List.map_id]
section
variable {P : Program} {w : World} {K : PySem.W.Frag} {mg : Str → Option Value} {base : Heap}
/-! ### words -/
abbrev s_words : Stmt := top 14
theorem sc_words : FnScope ["text", "found", "line", "row"] ["text"] (defScope s_words) := ⟨rfl, rfl, rfl, by decide +kernel, rfl, by decide +kernel, by decide +kernel⟩
def sp_words (K : PySem.W.Frag) (C N : Addr) : Sp := fun vs H Q E =>
  (∃ t : List Nat, vs = [.str (S t)] ∧ t.length ≤ 1000000 ∧ (match cutF 1 t with
    | .bad l => BadE C l H E
    | .ok ts => LstQ ts H Q)) ∨
  ∃ v ty, vs = [v] ∧ TyX K H v ty ∧ PySem.W.kitOne K ty (.type "str") = some false ∧ E (.ref N) none H
theorem ok_words (T : Txt K mg) (B : ExcT P w K mg base "BadText" ["self", "line"] sp_bad_init) (BNoText : ExcT P w K mg base "NoText" ["self"] (fun _ _ => sp_no_init)) {f : Addr} {fd : FuncData} (F : Fun K "words" "words" s_words f fd)
    (D_words_of_line : Def P w K mg base (L2.CX P w) "words_of_line" ["row", "line"] 5 (sp_words_of_line B.C)) :
    FnOk P w K mg base (L2.CX P w) 6 f fd ["text"] (sp_words K B.C BNoText.C) := by
  refine F.okX sc_words (fun vs H Q E h => ?_) (fun cdv A outer s H vs Q E hr h => ?_)
  · rcases h with ⟨a, rfl, _⟩ | ⟨v, ty, rfl, _⟩ <;> rfl
  refine ⟨_, (pss_cons (ps_if (pt_not (pt_val (pe_callB call_isi rfl T.n_isinstance boot_isinstance (pa_cons (pv 0) (pa_cons (pe_bltn (v := .ty "str") rfl T.n_str boot_str rfl) pa_nil))))) (pss_one (ps_raise rfl (takes_of rfl rfl rfl rfl) (pmk_none BNoText (hr.mono (by decide)) rfl))) pss_nil)
    (pss_cons (ps_set (i := 1) sc_words.nd rfl (Or.inl rfl) (pe_lst pa_nil))
    (pss_cons (ps_for (passes_of rfl) rfl (pi_enum1 rfl T.n_enumerate (pa_cons (pe_split (pv 0) pe_str) pa_nil)) (pg_tup rfl (pgs_cons (pg_name (i := 2) sc_words.nd rfl (Or.inl rfl)) (pgs_cons (pg_name (i := 3) sc_words.nd rfl (Or.inl rfl)) pgs_nil))) (pss_one (ps_expr (pe_bm PySem.F.plainAttrs_list PySem.F.slot_list_extend PySem.F.type_list_extend mt_extend (pv 1) (pa_cons (pe_callS D_words_of_line.ok (hr.mono (by omega)) rfl D_words_of_line.g D_words_of_line.k D_words_of_line.b (fun σ => passAt (takes_of rfl rfl rfl rfl) σ) (pa_cons (pv 3) (pa_cons (pv 2) pa_nil))) pa_nil)))))
    (pss_one (ps_ret (pv 1)))))), ?_⟩
  have hz := line_eq
  rcases h with ⟨t, rfl, hl, q⟩ | ⟨v, ty, rfl, ht, hk, q⟩
  rotate_left
  · refine ⟨_, rfl, _, _, _, _, false, rfl, .ty "str", ht, hk, false, rfl, ?_⟩
    exact iteT q
  have hlen := S_len t
  refine ⟨_, rfl, _, _, _, _, true, rfl, .ty "str", .base (.str _), kit_ty (by decide +kernel), true, rfl, ?_⟩
  refine iteF ?_
  refine ⟨(by show 0 ≤ sizeLine; omega), fun p np => ?_⟩
  -- the lines
  refine ⟨_, rfl, ⟨_, rfl⟩, S t, _, rfl, rfl, by decide, (by rw [hlen]; omega), fun a na => ?_⟩
  rw [split_S, List.map_map]
  have hp0 : (upd H p (.lst [])) p = some (.lst []) := upd_same
  have npa : p ≠ a := ne_of_none hp0 na
  rw [cut_rows _ t (Nat.le_refl _)] at q
  obtain ⟨hr1, hr2, hr3⟩ := rows_no _ t (Nat.le_refl _)
  generalize spl [10] 0 [] t = rows at q hr1 hr2 hr3 ⊢
  refine ⟨a, rows.map (V.str ∘ S), rfl, SqL.of upd_same, ?_⟩
  refine ⟨fun i m σ H' => i + m = rows.length ∧ Same H H' ∧ H' a = some (.lst (rows.map (V.str ∘ S))) ∧ ∃ (ts : List Tk) (vs : List V), rowsF 1 rows = Res.app ts (rowsF (1 + i) (rows.drop i)) ∧ vs.length ≤ ((rows.take i).map List.length).sum ∧
      H' p = some (.lst vs) ∧ Toks H' vs ts ∧ ∃ x y : Option V, σ = [some (.str (S t)), some (.ref p), x, y],
    ⟨rows.length, by omega, (same_new np _).trans (same_new na _), upd_same, [], [], (Res.app_nil _).symm, by simp, by rw [upd_ne npa]; exact hp0, trivial, none, none, rfl⟩, ?_⟩
  rintro i m σ H' ⟨him, g, ha, ts, vs, e1, hv, hp, hts, x, y, rfl⟩
  have hal : (rows.map (V.str ∘ S)).length = rows.length := List.length_map _
  rcases Nat.lt_or_ge i rows.length with hi | hi
  · right
    obtain ⟨row, hrow⟩ : ∃ row, rows[i]? = some row := ⟨_, List.getElem?_eq_getElem hi⟩
    have hrv : (rows.map (V.str ∘ S))[i]? = some (.str (S row)) := by rw [List.getElem?_map, hrow]; rfl
    have hmem : row ∈ rows := List.mem_of_getElem? hrow
    have hdr : rows.drop i = row :: rows.drop (i + 1) := by
      obtain ⟨hk, e⟩ := List.getElem?_eq_some_iff.mp hrow
      rw [List.drop_eq_getElem_cons hk, e]
    have hrl : row.length ≤ 1000000 := by
      have : row.length ≤ (rows.map List.length).sum := mem_sum (List.mem_map.mpr ⟨row, hmem, rfl⟩)
      omega
    have htk : ((rows.take (i + 1)).map List.length).sum = ((rows.take i).map List.length).sum + row.length := by
      rw [take_next hrow, List.map_append, List.sum_append]; simp
    have hle : ((rows.take (i + 1)).map List.length).sum ≤ t.length := by
      have h1 : ((rows.take (i + 1)).map List.length).sum + ((rows.drop (i + 1)).map List.length).sum = (rows.map List.length).sum := by
        rw [← List.sum_append, ← List.map_append, List.take_append_drop]
      omega
    refine ⟨⟨_, _, SqL.of ha, hrv⟩, fun σ2 H2 => i + 1 + (m - 1) = rows.length ∧ Same H H2 ∧ H2 a = some (.lst (rows.map (V.str ∘ S))) ∧ ∃ (ts : List Tk) (vs : List V), rowsF 1 rows = Res.app ts (rowsF (1 + (i + 1)) (rows.drop (i + 1))) ∧ vs.length ≤ ((rows.take (i + 1)).map List.length).sum ∧
        H2 p = some (.lst vs) ∧ Toks H2 vs ts ∧ ∃ x y : Option V, σ2 = [some (.str (S t)), some (.ref p), x, y], fun σ2 H2 h2 => ⟨m - 1, by omega, h2⟩, fun z H1 yl => ?_⟩
    obtain ⟨Tp, x0, rfl, nT, rfl, hx⟩ := yl
    have ex : x0 = .str (S row) := by
      have := hx _ (SqL.of ha)
      rw [hrv] at this; exact (Option.some.inj this).symm
    subst ex
    refine ⟨Tp, _, rfl, SqT.of upd_same, rfl, ?_⟩
    refine ⟨_, _, rfl, _, _, rfl, rfl, ?_⟩
    have gT := same_new nT (.tup [.int (1 + (i : Int)), .str (S row)])
    have hp1 := gT _ _ hp
    have ei : (V.int (1 + (i : Int))) = V.int ((1 + i : Nat) : Int) := congrArg V.int (by omega)
    rw [ei] at gT hp1 ⊢
    refine ⟨_, rfl, .inl ⟨rfl, _, SqL.of hp1⟩, _, rfl, _, rfl, row, 1 + i, rfl, hrl, hr1 row hmem, ?_⟩
    have e2 : rowsF 1 rows = Res.app ts (Res.then (cutF (1 + i) row) (rowsF (1 + i + 1) (rows.drop (i + 1)))) := by rw [e1, hdr]; rfl
    cases ec : cutF (1 + i) row with
    | bad l =>
      rw [e2, ec] at q
      exact BadE.mono q (g.trans gT)
    | ok us =>
      rw [ec] at e2
      intro H3 p3 vs3 np3 g3 hp3 ht3
      have hne : p ≠ p3 := ne_of_none hp1 np3
      have hl3 : vs3.length ≤ row.length := by rw [ht3.len]; exact cutF_len _ row (Nat.le_refl _) _ _ ec
      refine ⟨p, p3, vs, vs3, rfl, rfl, g3 _ _ hp1, hp3, by omega, ?_⟩
      have gall : Same H (upd H3 p (.lst (vs ++ vs3))) := same_mut ((g.trans gT).trans g3) np _
      have keep : ∀ {ws : List V} {zs : List Tk}, Toks H3 ws zs → Toks (upd H3 p (.lst (vs ++ vs3))) ws zs := by
        intro ws
        induction ws with
        | nil => intro zs h; cases zs with
          | nil => trivial
          | cons _ _ => exact h.elim
        | cons x ws ih => intro zs h; cases zs with
          | nil => exact h.elim
          | cons z zs =>
            obtain ⟨⟨b, e3, e4⟩, r⟩ := h
            exact ⟨⟨b, e3, by rw [upd_ne (ne_of e4 (g3 _ _ hp1) (by intro z; cases z))]; exact e4⟩, ih r⟩
      refine ⟨by omega, gall, by rw [upd_ne npa.symm]; exact g3 _ _ (gT _ _ ha), ts ++ us, vs ++ vs3, ?_, by rw [List.length_append]; omega, upd_same, keep (Toks.app ((hts.mono gT).mono g3) ht3), _, _, rfl⟩
      rw [e2, show 1 + (i + 1) = 1 + i + 1 by omega, ← Res.app_app]; rfl
  · left
    have hi' : i = rows.length := by omega
    refine ⟨⟨_, SqL.of ha, by rw [hal, hi']⟩, ?_⟩
    rw [List.drop_eq_nil_of_le hi] at e1
    have e1 : rowsF 1 rows = .ok (ts ++ []) := e1
    rw [List.append_nil] at e1
    rw [e1] at q
    exact ⟨_, rfl, q H' p vs np g hp hts⟩
end
end Wk
set_option maxRecDepth 100000
set_option maxHeartbeats 4000000
namespace Wk
open PySem L2 TL PyProof.Rows
open SX (S S_len)
/-! ### the flow of drawn numbers -/
def Flow (H : Hp) (a : Addr) : Prop := ∃ (s : Addr) (ns : List Int) (i : Nat) (c z : Int), H a = some (.lst [.ref s, .int (i : Int), .int c, .int z]) ∧ H s = some (.lst (ns.map V.int)) ∧ s ≠ a
/-- all that was tracked is as it was, but at a, whose list keeps its first item -/
structure But (a : Addr) (H H' : Hp) : Prop where
  o : ∀ b o, b ≠ a → H b = some o → H' b = some o
  h : ∀ s r, H a = some (.lst (s :: r)) → ∃ r', H' a = some (.lst (s :: r'))
theorem But.refl (a : Addr) (H : Hp) : But a H H := ⟨fun _ _ _ h => h, fun _ r h => ⟨r, h⟩⟩
theorem But.trans {a : Addr} {H H1 H2 : Hp} (x : But a H H1) (y : But a H1 H2) : But a H H2 := ⟨fun b o n h => y.o b o n (x.o b o n h), fun s r h => by obtain ⟨r', h'⟩ := x.h s r h; exact y.h s r' h'⟩
theorem But.same {a : Addr} {H H1 : Hp} (g : Same H H1) : But a H H1 := ⟨fun b o _ h => g b o h, fun _ r h => ⟨r, g _ _ h⟩⟩
theorem But.upd {a : Addr} {H : Hp} {s : V} {r r' : List V} (h : H a = some (.lst (s :: r))) : But a H (upd H a (.lst (s :: r'))) := ⟨fun b u n h => by rw [upd_ne n]; exact h, fun s2 r2 h2 => by rw [h] at h2; cases h2; exact ⟨r', upd_same⟩⟩
theorem Flow.mono {H H' : Hp} {a : Addr} (f : Flow H a) (g : Same H H') : Flow H' a := by
  obtain ⟨s, ns, i, c, z, h1, h2, h3⟩ := f
  exact ⟨s, ns, i, c, z, g _ _ h1, g _ _ h2, h3⟩
section
variable {P : Program} {w : World} {K : PySem.W.Frag} {mg : Str → Option Value} {base : Heap}
abbrev s__law_flow : Stmt := top 24
theorem sc__law_flow : FnScope ["script"] ["script"] (defScope s__law_flow) := ⟨rfl, rfl, rfl, by decide +kernel, rfl, by decide +kernel, by decide +kernel⟩
def sp_flow (K : PySem.W.Frag) : Sp := fun vs H Q _ => ∃ (a : Addr) (ns : List Int), vs = [.ref a] ∧ SqL K H a (ns.map V.int) ∧ ns.length ≤ 1000 ∧ ∀ H' p, H p = none → Same H H' → Flow H' p → Q (.ref p) H'
theorem ok_flow (T : Txt K mg) {f : Addr} {fd : FuncData} (F : Fun K "_law_flow" "_law_flow" s__law_flow f fd) : FnOk P w K mg base CX0 1 f fd ["script"] (sp_flow K) := by
  refine F.ok sc__law_flow (fun vs H Q E h => ?_) (fun cdv A outer s H vs Q E hr h => ?_)
  · obtain ⟨a, _, rfl, _⟩ := h; rfl
  obtain ⟨a, ns, rfl, hS, hl, q⟩ := h
  refine ⟨_, (pss_one (ps_ret (pe_lst (pa_cons (pe_callTy call_list_of rfl T.n_list boot_list (pa_cons (pv 0) pa_nil)) (pa_cons pe_int (pa_cons pe_int (pa_cons pe_int pa_nil))))))), ?_⟩
  have hz := line_eq
  refine ⟨_, rfl, a, _, rfl, .inl hS, fun l nl => ?_⟩
  refine ⟨by show 4 ≤ sizeLine; omega, fun p np => ?_⟩
  have hlp : l ≠ p := ne_of_none upd_same np
  have npH : H p = none := by
    have h : (upd H l (.lst (ns.map V.int))) p = none := np
    rw [upd_ne hlp.symm] at h; exact h
  exact q _ p npH ((same_new nl _).trans (same_new np _)) ⟨l, ns, 0, 0, 17, upd_same, by rw [upd_ne hlp, upd_same], hlp⟩
/-! ### _law_more -/
abbrev s__law_more : Stmt := top 25
theorem sc__law_more : FnScope ["flow", "cell", "one", "two", "three"] ["flow"] (defScope s__law_more) := ⟨rfl, rfl, rfl, by decide +kernel, rfl, by decide +kernel, by decide +kernel⟩
def sp_more : Sp := fun vs H Q _ => ∃ (a : Addr), vs = [.ref a] ∧ Flow H a ∧ ∀ H', But a H H' → Flow H' a → Q .non H'
theorem four (a : Addr) (i : Nat) (c z : Int) : ([V.ref a, V.int (i : Int), V.int c, V.int z] : List V).length = 4 := rfl
theorem mod_in {x m : Int} (hm : 0 < m) (h : m ≤ 2 ^ 63) : -(2 ^ 64) < x % m ∧ x % m < 2 ^ 64 := by
  have h1 := Int.emod_nonneg x (Int.ne_of_gt hm)
  have h2 := Int.emod_lt_of_pos x hm
  constructor <;> omega
theorem ok_more (T : Txt K mg) {f : Addr} {fd : FuncData} (F : Fun K "_law_more" "_law_more" s__law_more f fd) : FnOk P w K mg base CX0 1 f fd ["flow"] sp_more := by
  refine F.ok sc__law_more (fun vs H Q E h => ?_) (fun cdv A outer s H vs Q E hr h => ?_)
  · obtain ⟨a, rfl, _⟩ := h; rfl
  obtain ⟨a, rfl, ⟨l, ns, i, c, z, ha, hl, hne⟩, q⟩ := h
  refine ⟨_, (pss_cons (ps_set (i := 1) sc__law_more.nd rfl (Or.inl rfl) pe_int)
    (pss_cons (ps_if (pt_cmpR op_lt (pe_ix ix_list (pv 0) pe_int (fun _ _ => rfl)) (pe_callB call_len_seq rfl T.n_len boot_len (pa_cons (pe_ix ix_list (pv 0) pe_int (fun _ _ => rfl)) pa_nil)) (nomark _)) (pss_one (ps_set (i := 1) sc__law_more.nd rfl (Or.inl rfl) (pe_ix ix_list (pe_ix ix_list (pv 0) pe_int (fun _ _ => rfl)) (pe_ix ix_list (pv 0) pe_int (fun _ _ => rfl)) (fun _ _ => rfl)))) pss_nil)
    (pss_cons (ps_augS (pv 0) pe_int pget_list pe_int ip_add set_list)
    (pss_cons (ps_if (pt_cmpR op_ge (pv 1) (pe_op op_pow pe_int pe_int) (nomark _)) (pss_cons (ps_asg (pv 1) (pg_sub (pv 0) pe_int set_list))
      (pss_one ps_retN)) pss_nil)
    (pss_cons (ps_set (i := 2) sc__law_more.nd rfl (Or.inl rfl) (pe_op op_mod (pe_callTy call_int1 rfl T.n_int boot_int (pa_cons (pe_op op_add (pe_op op_add (pe_op op_add (pe_op op_mul (pe_ix ix_list (pv 0) pe_int (fun _ _ => rfl)) pe_int) (pe_op op_mul (pe_callB call_abs rfl T.n_abs boot_abs (pa_cons (pv 1) pa_nil)) pe_int)) (pe_callTy call_int1 rfl T.n_int boot_int (pa_cons (pe_cmpR op_lt (pv 1) pe_int (nomark _)) pa_nil))) (pe_op op_mul pe_int (pe_ix ix_list (pv 0) pe_int (fun _ _ => rfl)))) pa_nil)) pe_int))
    (pss_cons (ps_set (i := 2) sc__law_more.nd rfl (Or.inl rfl) (pe_op op_mod (pe_callTy call_int1 rfl T.n_int boot_int (pa_cons (pe_op op_add (pe_op op_mul (pv 2) pe_int) pe_int) pa_nil)) pe_int))
    (pss_cons (ps_set (i := 3) sc__law_more.nd rfl (Or.inl rfl) (pe_op op_mod (pe_callTy call_int1 rfl T.n_int boot_int (pa_cons (pe_op op_add (pe_op op_mul (pv 2) (pe_op op_add (pe_op op_fdivW (pv 2) pe_int) pe_int)) pe_int) pa_nil)) pe_int))
    (pss_cons (ps_set (i := 4) sc__law_more.nd rfl (Or.inl rfl) (pe_op op_mod (pe_callTy call_int1 rfl T.n_int boot_int (pa_cons (pe_op op_add (pe_op op_mul (pv 3) (pe_op op_add (pe_op op_fdivW (pv 3) pe_int) pe_int)) (pv 2)) pa_nil)) pe_int))
    (pss_cons (ps_asg (pv 4) (pg_sub (pv 0) pe_int set_list))
    (pss_one (ps_asg (pe_op op_add (pe_op op_mul (pe_op op_add (pe_op op_mul (pv 2) pe_int) (pv 3)) pe_int) (pv 4)) (pg_sub (pv 0) pe_int set_list)))))))))))), ?_⟩
  have hz := line_eq
  have e0 : atI [V.ref l, V.int (i : Int), V.int c, V.int z] 0 = some (.ref l) := atI_nat (j := 0) rfl
  have e1 : atI [V.ref l, V.int (i : Int), V.int c, V.int z] 1 = some (.int (i : Int)) := atI_nat (j := 1) rfl
  have x1 : ixN [V.ref l, V.int (i : Int), V.int c, V.int z].length 1 = some 1 := rfl
  have hsl := SqL.of (K := K) ha
  -- cell
  refine seq_setC ?_
  refine seq_join (fun σ H' => H' = H ∧ ∃ cell : Int, σ = [some (.ref a), some (.int cell), none, none, none]) ?_ ?_
  rotate_left
  · intro NX nx
    refine ⟨_, rfl, a, _, _, _, rfl, rfl, hsl, e1, _, rfl, a, _, _, _, rfl, rfl, hsl, e0, l, _, rfl, .inl (SqL.of hl), _, _, rfl, rfl, _, rfl, ?_⟩
    refine ited (fun h1 => ?_) (fun h1 => ?_)
    · rw [List.length_map] at h1
      have h2 : i < ns.length := by omega
      have e2 : atI (ns.map V.int) (i : Int) = some (.int ns[i]) := atI_nat (by rw [List.getElem?_map, List.getElem?_eq_getElem h2]; rfl)
      refine ⟨_, rfl, a, _, _, _, rfl, rfl, hsl, e0, _, rfl, a, _, _, _, rfl, rfl, hsl, e1, l, _, _, _, rfl, rfl, SqL.of hl, e2, ?_⟩
      exact nx _ _ ⟨rfl, _, rfl⟩
    · exact nx _ _ ⟨rfl, _, rfl⟩
  rintro σ H' ⟨rfl, cell, rfl⟩
  -- flow[1] += 1
  refine ⟨_, rfl, a, _, _, _, rfl, rfl, hsl, e1, _, _, rfl, rfl, ?_⟩
  refine ⟨a, _, _, 1, rfl, rfl, ha, x1, ?_⟩
  have ei : V.int ((i : Int) + 1) = V.int ((i + 1 : Nat) : Int) := congrArg V.int (by omega)
  rw [ei]
  have hb1 : But a H' (upd H' a (.lst [V.ref l, V.int ((i + 1 : Nat) : Int), V.int c, V.int z])) := But.upd ha
  have ha1 : (upd H' a (.lst [V.ref l, V.int ((i + 1 : Nat) : Int), V.int c, V.int z])) a = some (.lst [V.ref l, V.int ((i + 1 : Nat) : Int), V.int c, V.int z]) := upd_same
  show tSeq _ _ _ _ (upd H' a (.lst [V.ref l, V.int ((i + 1 : Nat) : Int), V.int c, V.int z]))
  generalize upd H' a (.lst [V.ref l, V.int ((i + 1 : Nat) : Int), V.int c, V.int z]) = H1 at *
  have hl1 := hb1.o _ _ hne hl
  generalize i + 1 = i1 at *
  have hs1 := SqL.of (K := K) ha1
  have f0 : atI [V.ref l, V.int (i1 : Int), V.int c, V.int z] 3 = some (.int z) := atI_nat (j := 3) rfl
  have f1 : atI [V.ref l, V.int (i1 : Int), V.int c, V.int z] 1 = some (.int (i1 : Int)) := atI_nat (j := 1) rfl
  have y2 : ixN [V.ref l, V.int (i1 : Int), V.int c, V.int z].length 2 = some 2 := rfl
  have y3 : ixN [V.ref l, V.int (i1 : Int), V.int c, V.int z].length 3 = some 3 := rfl
  -- cell >= 10 ** 18
  refine ⟨_, rfl, _, _, rfl, rfl, ⟨by decide, by decide, by decide⟩, _, _, rfl, rfl, _, rfl, ?_⟩
  refine ited (fun h1 => ?_) (fun h1 => ?_)
  · refine ⟨_, rfl, _, rfl, a, _, _, 2, rfl, rfl, ha1, y2, ?_⟩
    exact q _ (hb1.trans (But.upd ha1)) ⟨l, ns, i1, cell, z, upd_same, by rw [upd_ne hne]; exact hl1, hne⟩
  -- one
  refine ⟨_, rfl, a, _, _, _, rfl, rfl, hs1, f0, _, _, rfl, rfl, .inr ⟨by decide, by decide⟩, ?_⟩
  refine ⟨_, rfl, _, rfl, _, _, rfl, rfl, .inr ⟨by decide, by decide⟩, _, _, rfl, rfl, ?_⟩
  refine ⟨_, rfl, _, _, rfl, rfl, .inr ⟨_, rfl, ?_⟩⟩
  refine ⟨_, _, rfl, rfl, ?_⟩
  refine ⟨_, rfl, a, _, _, _, rfl, rfl, hs1, f1, _, _, rfl, rfl, .inl ⟨by decide, by decide⟩, _, _, rfl, rfl, ?_⟩
  refine .inl ⟨_, rfl, _, _, rfl, rfl, (show (0 : Int) < 2147483629 by decide), ?_⟩
  refine ⟨_, rfl, _, _, rfl, rfl, .inr ⟨by decide, by decide⟩, _, _, rfl, rfl, .inl ⟨_, rfl, _, _, rfl, rfl, (show (0 : Int) < 2147483647 by decide), ?_⟩⟩
  -- two
  refine ⟨_, rfl, _, rfl, _, _, rfl, rfl, ⟨by decide, by decide⟩, _, _, rfl, rfl, _, _, rfl, rfl, .inl (mod_in (by decide) (by decide)), _, _, rfl, rfl, .inl ⟨_, rfl, _, _, rfl, rfl, (show (0 : Int) < 2147483399 by decide), ?_⟩⟩
  -- three
  refine ⟨_, rfl, _, rfl, _, _, rfl, rfl, ⟨by decide, by decide⟩, _, _, rfl, rfl, _, _, rfl, rfl, .inl (mod_in (by decide) (by decide)), _, rfl, _, _, rfl, rfl, .inl ⟨_, rfl, _, _, rfl, rfl, (show (0 : Int) < 2147483563 by decide), ?_⟩⟩
  -- flow[3] = three; flow[2] = ..
  refine ⟨_, rfl, _, rfl, a, _, _, 3, rfl, rfl, ha1, y3, ?_⟩
  refine ⟨_, rfl, _, _, rfl, rfl, .inr ⟨by decide, by decide⟩, _, rfl, _, _, rfl, rfl, _, _, rfl, rfl, .inr ⟨by decide, by decide⟩, _, rfl, _, _, rfl, rfl, ?_⟩
  refine ⟨_, rfl, a, _, _, 2, rfl, rfl, upd_same, y2, ?_⟩
  refine q _ ((hb1.trans (But.upd ha1)).trans (But.upd upd_same)) ⟨l, ns, i1, _, _, upd_same, ?_, hne⟩
  rw [upd_ne hne, upd_ne hne]; exact hl1
end
end Wk
set_option maxRecDepth 100000
set_option maxHeartbeats 4000000
namespace Wk
open PySem L2 TL PyProof.Rows
open SX (S S_len)
section
variable {P : Program} {w : World} {K : PySem.W.Frag} {mg : Str → Option Value} {base : Heap}
abbrev s__law_draw : Stmt := top 26
theorem sc__law_draw : FnScope ["flow", "many", "digit"] ["flow", "many"] (defScope s__law_draw) := ⟨rfl, rfl, rfl, by decide +kernel, rfl, by decide +kernel, by decide +kernel⟩
/-- a drawn number below n -/
def sp_draw : Sp := fun vs H Q _ => ∃ (a : Addr) (n : Nat), vs = [.ref a, .int (n : Int)] ∧ 0 < n ∧ n < 2 ^ 100 ∧ Flow H a ∧ ∀ H' (d : Nat), d < n → But a H H' → Flow H' a → Q (.int (d : Int)) H'
theorem ok_draw (T : Txt K mg) {f : Addr} {fd : FuncData} (F : Fun K "_law_draw" "_law_draw" s__law_draw f fd) (D__law_more : Def P w K mg base CX0 "_law_more" ["flow"] 1 sp_more) : FnOk P w K mg base CX0 2 f fd ["flow", "many"] sp_draw := by
  refine F.ok sc__law_draw (fun vs H Q E h => ?_) (fun cdv A outer s H vs Q E hr h => ?_)
  · obtain ⟨a, n, rfl, _⟩ := h; rfl
  obtain ⟨a, n, rfl, hn, hn2, fl, q⟩ := h
  refine ⟨_, (pss_cons (ps_if (pt_cmpR op_lt (pe_ix ix_list (pv 0) pe_int (fun _ _ => rfl)) (pv 1) (nomark _)) (pss_one (ps_expr (pe_call D__law_more.ok (hr.mono (by omega)) rfl D__law_more.g D__law_more.k D__law_more.b .nil pass0 (pa_cons (pv 0) pa_nil)))) pss_nil)
    (pss_cons (ps_set (i := 2) sc__law_draw.nd rfl (Or.inl rfl) (pe_op op_mod (pe_callTy call_int1 rfl T.n_int boot_int (pa_cons (pe_ix ix_list (pv 0) pe_int (fun _ _ => rfl)) pa_nil)) (pv 1)))
    (pss_cons (ps_asg (pe_op op_fdivW (pe_ix ix_list (pv 0) pe_int (fun _ _ => rfl)) (pv 1)) (pg_sub (pv 0) pe_int set_list))
    (pss_one (ps_ret (pv 2)))))), ?_⟩
  have hz := line_eq
  refine seq_join (fun σ H' => But a H H' ∧ Flow H' a ∧ σ = [some (.ref a), some (.int (n : Int)), none]) ?_ ?_
  rotate_left
  · intro NX nx
    obtain ⟨l, ns, i, c, z, ha, hl, hne⟩ := id fl
    refine ⟨_, rfl, a, _, _, _, rfl, rfl, SqL.of ha, atI_nat (j := 2) rfl, _, rfl, _, _, rfl, rfl, _, rfl, ?_⟩
    refine ited (fun h1 => ?_) (fun h1 => ?_)
    · exact ⟨_, rfl, a, rfl, fl, fun H' b f' => nx _ _ ⟨b, f', rfl⟩⟩
    · exact nx _ _ ⟨But.refl a H, fl, rfl⟩
  rintro σ H' ⟨b, ⟨l, ns, i, c, z, ha, hl, hne⟩, rfl⟩
  have hpos : (0 : Int) < (n : Int) := by omega
  refine ⟨_, rfl, a, _, _, _, rfl, rfl, SqL.of ha, atI_nat (j := 2) rfl, .inl ⟨_, rfl, _, rfl, _, _, rfl, rfl, hpos, ?_⟩⟩
  have hlog : ((n : Int)).natAbs.log2 < 9000 := by
    have : ((n : Int)).natAbs = n := Int.natAbs_natCast n
    rw [this]
    have := (Nat.log2_lt (Nat.ne_of_gt hn)).mpr hn2
    omega
  refine ⟨_, rfl, a, _, _, _, rfl, rfl, SqL.of ha, atI_nat (j := 2) rfl, _, rfl, _, _, rfl, rfl, ⟨hpos, hlog⟩, ?_⟩
  refine ⟨_, rfl, a, _, _, 2, rfl, rfl, ha, rfl, ?_⟩
  refine ⟨_, rfl, ?_⟩
  have h0 := Int.emod_nonneg c (Int.ne_of_gt hpos)
  have h1 := Int.emod_lt_of_pos c hpos
  have e : V.int (c % (n : Int)) = V.int (((c % (n : Int)).toNat : Nat) : Int) := congrArg V.int (by omega)
  show Q (V.int (c % (n : Int))) _
  rw [e]
  refine q _ _ (by omega) (b.trans (But.upd ha)) ⟨l, ns, i, _, z, upd_same, by rw [upd_ne hne]; exact hl, hne⟩
abbrev s__law_signs : Stmt := top 28
theorem sc__law_signs : FnScope [] [] (defScope s__law_signs) := ⟨rfl, rfl, rfl, by decide +kernel, rfl, by decide +kernel, by decide +kernel⟩
def signsL : List Nat := lettersL ++ figsL
def sp_signs : Sp := fun vs H Q _ => vs = [] ∧ Q (.str (S signsL)) H
theorem ok_signs {f : Addr} {fd : FuncData} (F : Fun K "_law_signs" "_law_signs" s__law_signs f fd) : FnOk P w K mg base CX0 1 f fd [] sp_signs := by
  refine F.ok sc__law_signs (fun vs H Q E h => ?_) (fun cdv A outer s H vs Q E hr h => ?_)
  · rw [h.1]; rfl
  obtain ⟨rfl, q⟩ := h
  refine ⟨_, (pss_one (ps_ret pe_str)), ?_⟩
  have e : Str.ofString "abcdefghijklmnopqrstuvwxyzABCDEFGHIJKLMNOPQRSTUVWXYZ_0123456789" = S signsL := S_of _
  rw [← e] at q
  exact q
abbrev s__law_keys : Stmt := top 29
theorem sc__law_keys : FnScope ["keys"] [] (defScope s__law_keys) := ⟨rfl, rfl, rfl, by decide +kernel, rfl, by decide +kernel, by decide +kernel⟩
def sp_keys : Sp := fun vs H Q _ => vs = [] ∧ ∀ H' p, H p = none → Same H H' → H' p = some (.lst (keysL.map fun l => V.str (S l))) → Q (.ref p) H'
theorem ok_keys {f : Addr} {fd : FuncData} (F : Fun K "_law_keys" "_law_keys" s__law_keys f fd) : FnOk P w K mg base CX0 1 f fd [] sp_keys := by
  refine F.ok sc__law_keys (fun vs H Q E h => ?_) (fun cdv A outer s H vs Q E hr h => ?_)
  · rw [h.1]; rfl
  obtain ⟨rfl, q⟩ := h
  refine ⟨_, (pss_cons (ps_set (i := 0) sc__law_keys.nd rfl (Or.inl rfl) (pe_lst (pa_cons pe_str (pa_cons pe_str (pa_cons pe_str (pa_cons pe_str (pa_cons pe_str (pa_cons pe_str (pa_cons pe_str (pa_cons pe_str (pa_cons pe_str (pa_cons pe_str (pa_cons pe_str (pa_cons pe_str (pa_cons pe_str (pa_cons pe_str pa_nil))))))))))))))))
    (pss_cons (ps_set (i := 0) sc__law_keys.nd rfl (Or.inl rfl) (pe_op op_cat (pv 0) (pe_lst (pa_cons pe_str (pa_cons pe_str (pa_cons pe_str (pa_cons pe_str (pa_cons pe_str (pa_cons pe_str (pa_cons pe_str (pa_cons pe_str (pa_cons pe_str (pa_cons pe_str (pa_cons pe_str (pa_cons pe_str (pa_cons pe_str pa_nil))))))))))))))))
    (pss_one (ps_ret (pe_op op_cat (pv 0) (pe_lst (pa_cons pe_str (pa_cons pe_str (pa_cons pe_str (pa_cons pe_str pa_nil)))))))))), ?_⟩
  have hz := line_eq
  refine ⟨(by show 14 ≤ sizeLine; omega), fun p1 n1 => ?_⟩
  refine ⟨_, rfl, (by show 13 ≤ sizeLine; omega), fun p2 n2 => ?_⟩
  refine ⟨p1, p2, _, _, rfl, rfl, same_new n2 _ _ _ upd_same, upd_same, (by show 14 + 13 ≤ sizeLine; omega), fun p3 n3 => ?_⟩
  refine ⟨_, rfl, (by show 4 ≤ sizeLine; omega), fun p4 n4 => ?_⟩
  refine ⟨p3, p4, _, _, rfl, rfl, same_new n4 _ _ _ upd_same, upd_same, (by show 27 + 4 ≤ sizeLine; omega), fun p5 n5 => ?_⟩
  refine q _ p5 ?_ ((((same_new n1 _).trans (same_new n2 _)).trans ((same_new n3 _).trans (same_new n4 _))).trans (same_new n5 _)) ?_
  · exact Same.free (((same_new n1 _).trans (same_new n2 _)).trans ((same_new n3 _).trans (same_new n4 _))) n5
  rw [upd_same]
  refine congrArg (fun xs => some (HO.lst xs)) ?_
  have e : keysL.map (fun l => V.str (S l)) = keyStrings.map fun s => V.str (Str.ofString s) := by
    show (keyStrings.map codes).map _ = _
    rw [List.map_map]
    exact List.map_congr_left fun s _ => congrArg V.str (S_of s).symm
  rw [e]
  rfl
end
end Wk
set_option maxRecDepth 100000
set_option maxHeartbeats 4000000
namespace Wk
open PySem L2 TL PyProof.Rows
open SX (S S_len)
theorem isS_mem (c : Nat) : isS c = decide (c ∈ signsL) := by
  unfold isS isL isF signsL
  rw [Bool.eq_iff_iff, Bool.or_eq_true, decide_eq_true_eq, decide_eq_true_eq, decide_eq_true_eq, List.mem_append]
/-! ### the law's own cutter -/
def qEnd : List Nat → Option Nat
  | [] => none
  | [c] => if c = 34 then some 0 else none
  | c :: d :: r => if c = 10 then none else if c = 34 then (if d = 34 then (qEnd r).map (· + 2) else some 0) else (qEnd (d :: r)).map (· + 1)
theorem qEnd_nl (r : List Nat) : qEnd (10 :: r) = none := by cases r <;> simp [qEnd]
theorem qEnd_dbl (r : List Nat) : qEnd (34 :: 34 :: r) = (qEnd r).map (· + 2) := by simp [qEnd]
theorem qEnd_end {r : List Nat} (h : r.head? ≠ some 34) : qEnd (34 :: r) = some 0 := by
  cases r with
  | nil => simp [qEnd]
  | cons d r => simp [qEnd, show ¬ d = 34 from fun e => h (by rw [e]; rfl)]
theorem qEnd_on {c : Nat} {r : List Nat} (h1 : c ≠ 10) (h2 : c ≠ 34) : qEnd (c :: r) = (qEnd r).map (· + 1) := by
  cases r with
  | nil => simp [qEnd, h2]
  | cons d r => simp [qEnd, h1, h2]
/-- two quotes as one -/
def undbl (l : List Nat) : List Nat := StrLaws.replL [34, 34] [34] l
theorem undbl_nil : undbl [] = [] := StrLaws.replL_nil
theorem undbl_dbl (r : List Nat) : undbl (34 :: 34 :: r) = 34 :: undbl r := by
  unfold undbl
  rw [StrLaws.replL_hit (by decide) rfl]; rfl
theorem undbl_on {c : Nat} (h : c ≠ 34) (r : List Nat) : undbl (c :: r) = c :: undbl r := by
  unfold undbl
  rw [StrLaws.replL_miss]
  intro e
  cases r with
  | nil => simp at e
  | cons d r => simp at e; exact h e.1
/-- signs of a text of the law's: plain ones and line feeds -/
def Fine (l : List Nat) : Prop := ∀ c ∈ l, c = 10 ∨ plain c = true
theorem Fine.tail {c : Nat} {l : List Nat} (h : Fine (c :: l)) : Fine l := fun d hd => h d (List.mem_cons_of_mem _ hd)
theorem Fine.drop {l : List Nat} (h : Fine l) (k : Nat) : Fine (l.drop k) := fun d hd => h d (List.mem_of_mem_drop hd)
theorem textP_qEnd : ∀ (n : Nat) (r acc : List Nat), r.length ≤ n → Fine r → textP acc r = (qEnd r).map fun k => (acc ++ undbl (r.take k), r.drop (k + 1)) := by
  intro n
  induction n with
  | zero =>
    intro r acc hl _
    cases r with
    | nil => rfl
    | cons _ _ => simp at hl
  | succ n ih =>
    intro r acc hl hf
    cases r with
    | nil => rfl
    | cons c r =>
      have hl' : r.length ≤ n := by simp at hl; exact hl
      by_cases h10 : c = 10
      · subst h10; rw [textP_bad (by decide) (by decide), qEnd_nl]; rfl
      have hp : plain c = true := (hf c List.mem_cons_self).resolve_left h10
      by_cases h34 : c = 34
      · subst h34
        by_cases hh : r.head? = some 34
        · cases r with
          | nil => cases hh
          | cons d r =>
            obtain rfl : d = 34 := Option.some.inj hh
            rw [textP_dbl, qEnd_dbl, ih r _ (by simp at hl'; omega) hf.tail.tail]
            cases qEnd r with
            | none => rfl
            | some k =>
              show some (acc ++ [34] ++ undbl (r.take k), r.drop (k + 1)) = some (acc ++ undbl (34 :: 34 :: r.take k), r.drop (k + 1))
              rw [undbl_dbl, List.append_assoc]; rfl
        · rw [textP_end hh, qEnd_end hh]
          show some (acc, r) = some (acc ++ undbl [], r)
          rw [undbl_nil, List.append_nil]
      · rw [textP_plain h34 hp, qEnd_on h10 h34, ih r _ hl' hf.tail]
        cases qEnd r with
        | none => rfl
        | some k =>
          show some (acc ++ [c] ++ undbl (r.take k), r.drop (k + 1)) = some (acc ++ undbl (c :: r.take k), r.drop (k + 1))
          rw [undbl_on h34, List.append_assoc]; rfl
theorem qEnd_lt : ∀ (n : Nat) (r : List Nat) (k : Nat), r.length ≤ n → qEnd r = some k → k < r.length := by
  intro n
  induction n with
  | zero => intro r k hl h; cases r with
    | nil => cases h
    | cons _ _ => simp at hl
  | succ n ih =>
    intro r k hl h
    cases r with
    | nil => cases h
    | cons c r =>
      have hl' : r.length ≤ n := by simp at hl; exact hl
      by_cases h10 : c = 10
      · subst h10; rw [qEnd_nl] at h; cases h
      by_cases h34 : c = 34
      · subst h34
        by_cases hh : r.head? = some 34
        · cases r with
          | nil => cases hh
          | cons d r =>
            obtain rfl : d = 34 := Option.some.inj hh
            rw [qEnd_dbl] at h
            cases e : qEnd r with
            | none => rw [e] at h; cases h
            | some j => rw [e] at h; have := ih r j (by simp at hl'; omega) e; cases h; simp; omega
        · rw [qEnd_end hh] at h; cases h; simp
      · rw [qEnd_on h10 h34] at h
        cases e : qEnd r with
        | none => rw [e] at h; cases h
        | some j => rw [e] at h; have := ih r j hl' e; cases h; simp; omega
/-- a for loop over a range, its way out told once -/
theorem for_rangeR {lo : Int} {n : Nat} {g : TG} {tb : TS} {D : Ends} {σ : L2.St} {H : Hp} (R : L2.St → Hp → Prop) (Pv : Nat → L2.St → Hp → Prop) (h0 : Pv 0 σ H) (after : ∀ σ H, R σ H → D.nx σ H) (hd : ∀ σ H, Pv n σ H → R σ H)
    (turn : ∀ NX : L2.St → Hp → Prop, (∀ σ H, R σ H → NX σ H) → ∀ i σ H, i < n → Pv i σ H → g (.int (lo + i)) σ H fun σ2 H2 => tb { D with nx := Pv (i + 1), ct := Pv (i + 1), bk := NX } σ2 H2) :
    ∃ W : Nat → Nat → L2.St → Hp → Prop, (∃ m, W 0 m σ H) ∧ ∀ i m σ H, W i m σ H →
      ((Itr lo n).stop i H ∧ D.nx σ H) ∨ ((Itr lo n).go i H ∧ ∃ N : L2.St → Hp → Prop, (∀ σ' H', N σ' H' → ∃ m', m' < m ∧ W (i + 1) m' σ' H') ∧ ∀ x H', (Itr lo n).yld i H x H' → g x σ H' fun σ2 H2 => tb { D with nx := N, ct := N, bk := D.nx } σ2 H2) :=
  L2.for_range Pv h0 (fun i σ H hi hp => turn D.nx after i σ H hi hp) (fun σ H hp => after σ H (hd σ H hp))
section
variable {P : Program} {w : World} {K : PySem.W.Frag} {mg : Str → Option Value} {base : Heap}
abbrev s__law_end : Stmt := top 32
theorem sc__law_end : FnScope ["text", "at", "k"] ["text", "at"] (defScope s__law_end) := ⟨rfl, rfl, rfl, by decide +kernel, rfl, by decide +kernel, by decide +kernel⟩
def sp_end : Sp := fun vs H Q _ => ∃ (t : List Nat) (i : Nat), vs = [.str (S t), .int (i : Int)] ∧ t.length ≤ 1000000 ∧ i < t.length ∧ Q (.int ((i + 1 + ((t.drop (i + 1)).takeWhile isS).length : Nat) : Int)) H
theorem ok_end (T : Txt K mg) {f : Addr} {fd : FuncData} (F : Fun K "_law_end" "_law_end" s__law_end f fd) (D__law_signs : Def P w K mg base CX0 "_law_signs" [] 1 sp_signs) : FnOk P w K mg base CX0 2 f fd ["text", "at"] sp_end := by
  refine F.ok sc__law_end (fun vs H Q E h => ?_) (fun cdv A outer s H vs Q E hr h => ?_)
  · obtain ⟨a, n, rfl, _⟩ := h; rfl
  obtain ⟨t, i, rfl, hl, hi, q⟩ := h
  refine ⟨_, (pss_cons (ps_for PassesOwn.never rfl (pi_range2 rfl T.n_range (pa_cons (pe_op op_add (pv 1) pe_int) (pa_cons (pe_callB call_len_str rfl T.n_len boot_len (pa_cons (pv 0) pa_nil)) pa_nil))) (pg_name (i := 2) sc__law_end.nd rfl (Or.inl rfl)) (pss_one (ps_if (pt_cmpR op_notIn_sign (pe_ix ix_str (pv 0) (pv 2) (fun _ _ => rfl)) (pe_call0 D__law_signs.ok (hr.mono (by omega)) rfl D__law_signs.g D__law_signs.k D__law_signs.b .nil pass0) rfl) (pss_one (ps_ret (pv 2))) pss_nil)))
    (pss_one (ps_ret (pe_callB call_len_str rfl T.n_len boot_len (pa_cons (pv 0) pa_nil))))), ?_⟩
  have hz := line_eq
  have hlen := S_len t
  refine ⟨_, rfl, _, _, rfl, rfl, _, rfl, _, rfl, (by rw [hlen]; omega), _, _, rfl, ⟨by omega, by omega, by rw [hlen]; omega, by rw [hlen]; omega⟩, ?_⟩
  rw [hlen]
  have en : ((t.length : Int) - ((i : Int) + 1)).toNat = t.length - (i + 1) := by omega
  rw [en]
  refine for_range (fun j σ H' => H' = H ∧ ((t.drop (i + 1)).take j).all isS = true ∧ ∃ x : Option V, σ = [some (.str (S t)), some (.int (i : Int)), x]) ⟨rfl, by simp, none, rfl⟩ ?_ ?_
  · rintro j σ H' hj ⟨rfl, ha, x, rfl⟩
    have hk : i + 1 + j < t.length := by omega
    have hc : t[i + 1 + j]? = some t[i + 1 + j] := List.getElem?_eq_getElem hk
    have hcd : (t.drop (i + 1))[j]? = some t[i + 1 + j] := by rw [List.getElem?_drop]; exact hc
    have ek : V.int ((i : Int) + 1 + (j : Int)) = V.int ((i + 1 + j : Nat) : Int) := congrArg V.int (by omega)
    rw [ek]
    refine ⟨_, rfl, _, rfl, S t, _, _, rfl, rfl, (by rw [hlen]; omega), atI_nat hc, rfl, _, _, rfl, rfl, _, rfl, ?_⟩
    have em := isS_mem t[i + 1 + j]
    refine itedn (fun h1 => ?_) (fun h1 => ?_)
    · have hs : isS t[i + 1 + j] = false := by rw [em]; exact decide_eq_false h1
      have tw : (t.drop (i + 1)).takeWhile isS = (t.drop (i + 1)).take j := tw_of ha (fun c e => by rw [hcd] at e; cases e; exact hs) (by rw [List.length_drop]; omega)
      rw [tw, List.length_take, List.length_drop, Nat.min_eq_left (by omega)] at q
      exact ⟨_, rfl, q⟩
    · have hs : isS t[i + 1 + j] = true := by rw [em]; exact decide_eq_true h1
      refine ⟨rfl, ?_, _, rfl⟩
      rw [take_next hcd, List.all_append, ha]; simp [hs]
  · rintro σ H' ⟨rfl, ha, x, rfl⟩
    rw [List.take_of_length_le (by rw [List.length_drop]; omega)] at ha
    have tw := tw_all ha
    rw [tw, List.length_drop, show i + 1 + (t.length - (i + 1)) = t.length by omega] at q
    exact ⟨_, rfl, _, rfl, (by rw [hlen]; omega), by rw [hlen]; exact q⟩
abbrev s__law_quote : Stmt := top 33
theorem sc__law_quote : FnScope ["text", "at", "here", "k"] ["text", "at"] (defScope s__law_quote) := ⟨rfl, rfl, rfl, by decide +kernel, rfl, by decide +kernel, by decide +kernel⟩
def sp_quote : Sp := fun vs H Q _ => ∃ (t : List Nat) (i : Nat), vs = [.str (S t), .int (i : Int)] ∧ t.length ≤ 1000000 ∧ i < t.length ∧ (match qEnd (t.drop (i + 1)) with
  | none => Q .non H
  | some k => Q (.int ((i + 1 + k : Nat) : Int)) H)
theorem nl_lit : ("\n" : Str) = S [10] := S_of "\n"
theorem ok_quote (T : Txt K mg) {f : Addr} {fd : FuncData} (F : Fun K "_law_quote" "_law_quote" s__law_quote f fd) : FnOk P w K mg base CX0 1 f fd ["text", "at"] sp_quote := by
  refine F.ok sc__law_quote (fun vs H Q E h => ?_) (fun cdv A outer s H vs Q E hr h => ?_)
  · obtain ⟨a, n, rfl, _⟩ := h; rfl
  obtain ⟨t, i, rfl, hl, hi, q⟩ := h
  refine ⟨_, (pss_cons (ps_set (i := 2) sc__law_quote.nd rfl (Or.inl rfl) (pe_op op_add (pv 1) pe_int))
    (pss_cons (ps_for PassesOwn.never rfl (pi_range1 rfl T.n_range (pa_cons (pe_callB call_len_str rfl T.n_len boot_len (pa_cons (pv 0) pa_nil)) pa_nil)) (pg_name (i := 3) sc__law_quote.nd rfl (Or.inl rfl)) (pss_cons (ps_if (PW.pt (pw_or (pt_cmpR op_ge (pv 2) (pe_callB call_len_str rfl T.n_len boot_len (pa_cons (pv 0) pa_nil)) (nomark _)) (pw_or1 (pt_cmpR op_eq (pe_ix ix_str (pv 0) (pv 2) (fun _ _ => rfl)) pe_str (nomark _))))) (pss_one (ps_ret pe_non)) pss_nil)
      (pss_cons (ps_if (pt_cmpR op_eq (pe_ix ix_str (pv 0) (pv 2) (fun _ _ => rfl)) pe_str (nomark _)) (pss_cons (ps_if (pt_cmpR op_ne (pe_slice sl_str (pv 0) (po_some (pe_op op_add (pv 2) pe_int)) (po_some (pe_op op_add (pv 2) pe_int))) pe_str (nomark _)) (pss_one (ps_ret (pv 2))) pss_nil)
        (pss_one (ps_aug (i := 2) sc__law_quote.nd rfl (Or.inl rfl) pe_int ip_add))) pss_nil)
      (pss_one (ps_aug (i := 2) sc__law_quote.nd rfl (Or.inl rfl) pe_int ip_add)))))
    (pss_one (ps_ret pe_non)))), ?_⟩
  have hz := line_eq
  have hlen := S_len t
  refine ⟨_, rfl, _, _, rfl, rfl, ?_⟩
  refine ⟨_, rfl, _, rfl, (by rw [hlen]; omega), _, rfl, by rw [hlen]; omega, by rw [hlen]; omega, ?_⟩
  rw [hlen, Int.toNat_natCast]
  refine for_range (fun j σ H' => H' = H ∧ ∃ (h : Nat) (x : Option V), i + 1 + j ≤ h ∧ qEnd (t.drop (i + 1)) = (qEnd (t.drop h)).map (· + (h - (i + 1))) ∧ σ = [some (.str (S t)), some (.int (i : Int)), some (.int (h : Int)), x])
    ⟨rfl, i + 1, none, by omega, by simp, rfl⟩ ?_ ?_
  rotate_left
  · rintro σ H' ⟨rfl, h, x, h1, h2, rfl⟩
    rw [h2, List.drop_eq_nil_of_le (by omega)] at q
    exact q
  rintro j σ H' hj ⟨rfl, h, x, h1, h2, rfl⟩
  refine ⟨_, rfl, _, rfl, _, rfl, (by rw [hlen]; omega), _, _, rfl, rfl, _, rfl, ?_⟩
  rw [hlen]
  refine ited (fun h3 => ?_) (fun h3 => ?_)
  · rw [h2, List.drop_eq_nil_of_le (by omega)] at q
    exact iteT q
  have hk : h < t.length := by omega
  obtain ⟨c, hc⟩ : ∃ c, t[h]? = some c := ⟨_, List.getElem?_eq_getElem hk⟩
  have hd := drop_cons hc
  have at1 := atI_nat hc
  -- text[here] == '\n'
  refine ⟨_, rfl, _, rfl, S t, _, c, rfl, rfl, (by rw [hlen]; omega), at1, rfl, _, rfl, ?_⟩
  refine ited (fun h4 => ?_) (fun h4 => ?_)
  · have h4 : c = 10 := str_one.mp (by rw [nl_lit] at h4; exact h4)
    rw [h2, hd, h4, qEnd_nl] at q
    exact q
  have n10 : c ≠ 10 := fun e => h4 (by rw [nl_lit, e])
  -- text[here] == '"'
  refine go_next ?_
  dsimp only
  refine seq_join (fun σ H2 => H2 = H' ∧ ∃ (h' : Nat), h ≤ h' ∧ qEnd (t.drop (i + 1)) = (qEnd (t.drop (h' + 1))).map (· + (h' + 1 - (i + 1))) ∧ σ = [some (.str (S t)), some (.int (i : Int)), some (.int (h' : Int)), some (.int (0 + (j : Int)))]) ?_ ?_
  · rintro σ H2 ⟨rfl, h', h5, h6, rfl⟩
    exact ⟨_, rfl, _, _, rfl, rfl, rfl, h' + 1, _, by omega, h6, rfl⟩
  intro NX nx
  refine ⟨_, rfl, _, rfl, S t, _, c, rfl, rfl, (by rw [hlen]; omega), at1, rfl, _, rfl, ?_⟩
  have e1 : (V.str ⟨#[c]⟩ = V.str "\"") ↔ c = 34 := by rw [q_lit]; exact str_one
  refine ited (fun h5 => ?_) (fun h5 => ?_)
  rotate_left
  · have h5 : c ≠ 34 := fun e => h5 (e1.mpr e)
    refine nx _ _ ⟨rfl, h, Nat.le_refl _, ?_, rfl⟩
    rw [h2, hd, qEnd_on n10 h5, Option.map_map]
    congr 1; funext k; show k + 1 + (h - (i + 1)) = k + (h + 1 - (i + 1)); omega
  have h5 := e1.mp h5
  subst h5
  refine ⟨_, rfl, _, rfl, _, _, rfl, rfl, _, rfl, _, rfl, _, _, rfl, rfl, _, rfl, S t, rfl, (by rw [hlen]; omega), rfl, _, rfl, ?_⟩
  have e2 : cutS (S t) (some ((h : Int) + 1)) (some ((h : Int) + 2)) = S ((t.drop (h + 1)).take 1) := by
    have := cut_nat (l := t) (i := h + 1) (j := h + 2) (by omega)
    rw [show h + 2 - (h + 1) = 1 by omega] at this
    exact this
  rw [e2]
  have e3 : (V.str (S ((t.drop (h + 1)).take 1)) = V.str "\"") ↔ (t.drop (h + 1)).head? = some 34 := by
    rw [q_lit]
    cases t.drop (h + 1) with
    | nil =>
      constructor
      · intro h
        have := S_inj (V.str.inj h)
        simp at this
      · intro h; cases h
    | cons d r =>
      show (V.str (S [d]) = V.str (S [34])) ↔ some d = some 34
      constructor
      · intro h
        have := S_inj (V.str.inj h)
        simpa using this
      · intro h
        rw [Option.some.inj h]
  refine itedn (fun h6 => ?_) (fun h6 => ?_)
  · have h6 : (t.drop (h + 1)).head? ≠ some 34 := fun h => h6 (e3.mpr h)
    rw [h2, hd, qEnd_end h6] at q
    have q : Q (.int ((i + 1 + (0 + (h - (i + 1))) : Nat) : Int)) H' := q
    rw [show i + 1 + (0 + (h - (i + 1))) = h by omega] at q
    exact ⟨_, rfl, q⟩
  · have h6 := e3.mp h6
    have hd2 : t.drop (h + 1) = 34 :: t.drop (h + 2) := by
      cases e : t.drop (h + 1) with
      | nil => rw [e] at h6; cases h6
      | cons d r =>
        rw [e] at h6
        have ed : d = 34 := Option.some.inj h6
        have : t.drop (h + 2) = (t.drop (h + 1)).drop 1 := by rw [List.drop_drop]
        rw [this, e, ed]; rfl
    refine ⟨_, rfl, _, _, rfl, rfl, ?_⟩
    refine nx _ _ ⟨rfl, h + 1, Nat.le_succ _, ?_, rfl⟩
    rw [h2, hd, hd2, qEnd_dbl, Option.map_map]
    congr 1; funext k; show k + 2 + (h - (i + 1)) = k + (h + 1 + 1 - (i + 1)); omega
end
end Wk
set_option maxRecDepth 100000
set_option maxHeartbeats 4000000
namespace Wk
open PySem L2 TL PyProof.Rows
open SX (S S_len)
theorem fig_lit : ("0123456789" : Str) = S figsL := S_of _
theorem marks_lit : ("()[]{},;.=<>+-*/" : Str) = S marksL := S_of _
theorem z_lit : ("0" : Str) = S [48] := S_of _
theorem dm_lit : [V.str "==", V.str "!=", V.str "<=", V.str ">="] = [[61, 61], [33, 61], [60, 61], [62, 61]].map fun l => V.str (S l) := by
  rw [show ("==" : Str) = S [61, 61] from S_of _, show ("!=" : Str) = S [33, 61] from S_of _, show ("<=" : Str) = S [60, 61] from S_of _, show (">=" : Str) = S [62, 61] from S_of _]; rfl
theorem digit_sign : ∀ c ∈ signsL, Unicode.isDigit c = isF c := by decide +kernel
theorem key_head : ∀ k ∈ keysL, isL (k.headD 0) = true := by decide +kernel
theorem let_fig : ∀ c ∈ signsL, isL c = !isF c := by decide +kernel
theorem str_S {a b : List Nat} : (V.str (S a) = V.str (S b)) ↔ a = b := by
  constructor
  · intro h; exact S_inj (V.str.inj h)
  · rintro rfl; rfl
section
variable {P : Program} {w : World} {K : PySem.W.Frag} {mg : Str → Option Value} {base : Heap}
abbrev s__law_mark : Stmt := top 34
theorem sc__law_mark : FnScope ["text", "at", "line"] ["text", "at", "line"] (defScope s__law_mark) := ⟨rfl, rfl, rfl, by decide +kernel, rfl, by decide +kernel, by decide +kernel⟩
def sp_mark : Sp := fun vs H Q _ => ∃ (t : List Nat) (i line c : Nat), vs = [.str (S t), .int (i : Int), .int (line : Int)] ∧ t.length ≤ 1000000 ∧ t[i]? = some c ∧
  (if two c (t.drop (i + 1)) = true then TupQ (.str "mark") (.str (S [c, 61])) (.int (line : Int)) H Q else if c ∈ marksL then TupQ (.str "mark") (.str (S [c])) (.int (line : Int)) H Q else ∀ H', Same H H' → Q .non H')
theorem ok_mark {f : Addr} {fd : FuncData} (F : Fun K "_law_mark" "_law_mark" s__law_mark f fd) : FnOk P w K mg base CX0 1 f fd ["text", "at", "line"] sp_mark := by
  refine F.ok sc__law_mark (fun vs H Q E h => ?_) (fun cdv A outer s H vs Q E hr h => ?_)
  · obtain ⟨a, n, l, c, rfl, _⟩ := h; rfl
  obtain ⟨t, i, line, c, rfl, hl, hc, q⟩ := h
  refine ⟨_, (pss_cons (ps_if (pt_cmpR op_in_seq (pe_slice sl_str (pv 0) (po_some (pv 1)) (po_some (pe_op op_add (pv 1) pe_int))) (pe_tup (pa_cons pe_str (pa_cons pe_str (pa_cons pe_str (pa_cons pe_str pa_nil))))) rfl) (pss_one (ps_ret (pe_tup (pa_cons pe_str (pa_cons (pe_slice sl_str (pv 0) (po_some (pv 1)) (po_some (pe_op op_add (pv 1) pe_int))) (pa_cons (pv 2) pa_nil)))))) pss_nil)
    (pss_one (ps_ret (pe_ifExp (pt_cmpR op_in_sign (pe_ix ix_str (pv 0) (pv 1) (fun _ _ => rfl)) pe_str rfl) (pe_tup (pa_cons pe_str (pa_cons (pe_ix ix_str (pv 0) (pv 1) (fun _ _ => rfl)) (pa_cons (pv 2) pa_nil)))) pe_non)))), ?_⟩
  have hz := line_eq
  have hlen := S_len t
  have hi := lt_of_get hc
  have hd := drop_cons hc
  have e3 : cutS (S t) (some (i : Int)) (some ((i : Int) + 2)) = S (c :: (t.drop (i + 1)).take 1) := by
    have := cut_nat (l := t) (i := i) (j := i + 2) (by omega)
    rw [show i + 2 - i = 2 by omega, hd] at this
    exact this
  refine ⟨_, rfl, _, rfl, _, rfl, _, rfl, _, _, rfl, rfl, _, rfl, S t, rfl, (by rw [hlen]; omega), (by show 4 ≤ sizeLine; omega), fun p np => ?_⟩
  rw [e3]
  refine ⟨p, _, rfl, .inr (SqT.of upd_same), rfl, rfl, _, rfl, ?_⟩
  rw [dm_lit, two_in]
  refine iteb (fun h3 => ?_) (fun h3 => ?_)
  · have h3 : two c (t.drop (i + 1)) = true := h3
    rw [if_pos h3] at q
    refine ⟨_, rfl, _, rfl, _, rfl, _, rfl, _, _, rfl, rfl, _, rfl, S t, rfl, (by rw [hlen]; omega), ?_⟩
    have hd1 : (t.drop (i + 1)).take 1 = [61] := by
      unfold two at h3
      simp only [Bool.and_eq_true, decide_eq_true_eq] at h3
      cases e : t.drop (i + 1) with
      | nil => rw [e] at h3; simp at h3
      | cons d r => rw [e] at h3; rw [show d = 61 from h3.2]; rfl
    rw [e3, hd1]
    exact ⟨_, rfl, three_ok, fun p2 np2 => q.go (same_new np _) np2⟩
  have h3 : two c (t.drop (i + 1)) = false := h3
  rw [if_neg (by rw [h3]; exact Bool.false_ne_true)] at q
  refine ⟨_, rfl, _, rfl, S t, _, c, rfl, rfl, (by rw [hlen]; omega), atI_nat hc, c, _, rfl, rfl, _, rfl, ?_⟩
  rw [marks_lit]
  refine ited (fun h4 => ?_) (fun h4 => ?_)
  · have h4 : c ∈ marksL := h4
    rw [if_pos h4] at q
    exact ⟨_, rfl, _, rfl, S t, _, c, rfl, rfl, (by rw [hlen]; omega), atI_nat hc, _, rfl, three_ok, fun p2 np2 => q.go (same_new np _) np2⟩
  · have h4 : ¬ c ∈ marksL := h4
    rw [if_neg h4] at q
    exact q _ (same_new np _)
abbrev s__law_stretch : Stmt := top 31
theorem sc__law_stretch : FnScope ["word", "line"] ["word", "line"] (defScope s__law_stretch) := ⟨rfl, rfl, rfl, by decide +kernel, rfl, by decide +kernel, by decide +kernel⟩
def sp_stretch : Sp := fun vs H Q _ => ∃ (l : List Nat) (line : Nat), vs = [.str (S l), .int (line : Int)] ∧ l ≠ [] ∧ l.all isS = true ∧ l.length ≤ 1000000 ∧
  (match classify l with
    | none => ∀ H', Same H H' → Q .non H'
    | some (so, wd) => TupQ (.str (soS so)) (wdV wd) (.int (line : Int)) H Q)
theorem ok_stretch (T : Txt K mg) {f : Addr} {fd : FuncData} (F : Fun K "_law_stretch" "_law_stretch" s__law_stretch f fd) (D__law_keys : Def P w K mg base CX0 "_law_keys" [] 1 sp_keys) : FnOk P w K mg base CX0 2 f fd ["word", "line"] sp_stretch := by
  refine F.ok sc__law_stretch (fun vs H Q E h => ?_) (fun cdv A outer s H vs Q E hr h => ?_)
  · obtain ⟨a, n, rfl, _⟩ := h; rfl
  obtain ⟨l, line, rfl, hne, hall, hl, q⟩ := h
  refine ⟨_, (pss_cons (ps_if (pt_cmpR op_in_sign (pe_ix ix_str (pv 0) pe_int (fun _ _ => rfl)) pe_str rfl) (pss_cons (ps_if (PW.pt (pw_or (pt_not (pt_val (pe_bm0 PySem.F.plainAttrs_str PySem.F.slot_str_isdigit PySem.F.type_str_isdigit mt_isdigit (pv 0)))) (pw_or (pt_cmpR op_gt (pe_callB call_len_str rfl T.n_len boot_len (pa_cons (pv 0) pa_nil)) pe_int (nomark _)) (pw_or (PW.pt (pw_and (pt_cmpR op_eq (pe_ix ix_str (pv 0) pe_int (fun _ _ => rfl)) pe_str (nomark _)) (pw_and1 (pt_cmpR op_ne (pv 0) pe_str (nomark _))))) (pw_or1 (pt_cmpR op_ge (pe_callTy call_int_str rfl T.n_int boot_int (pa_cons (pv 0) pa_nil)) (pe_op op_pow pe_int pe_int) (nomark _))))))) (pss_one (ps_ret pe_non)) pss_nil)
      (pss_one (ps_ret (pe_tup (pa_cons pe_str (pa_cons (pe_callTy call_int_str rfl T.n_int boot_int (pa_cons (pv 0) pa_nil)) (pa_cons (pv 1) pa_nil))))))) pss_nil)
    (pss_cons (ps_if (pt_cmpR op_in_seq (pv 0) (pe_call0 D__law_keys.ok (hr.mono (by omega)) rfl D__law_keys.g D__law_keys.k D__law_keys.b .nil pass0) rfl) (pss_one (ps_ret (pe_tup (pa_cons pe_str (pa_cons (pv 0) (pa_cons (pv 1) pa_nil)))))) pss_nil)
    (pss_one (ps_ret (pe_ifExp (pt_cmpR op_le (pe_callB call_len_str rfl T.n_len boot_len (pa_cons (pv 0) pa_nil)) pe_int (nomark _)) (pe_tup (pa_cons pe_str (pa_cons (pv 0) (pa_cons (pv 1) pa_nil)))) pe_non))))), ?_⟩
  have hz := line_eq
  have hlen := S_len l
  obtain ⟨c, r, rfl⟩ : ∃ c r, l = c :: r := by
    cases l with
    | nil => exact absurd rfl hne
    | cons c r => exact ⟨c, r, rfl⟩
  have hsig : ∀ d ∈ c :: r, d ∈ signsL := fun d hd => by
    have := List.all_eq_true.mp hall d hd
    rw [isS_mem] at this; exact of_decide_eq_true this
  have hcs := hsig c List.mem_cons_self
  have a0 : atI (c :: r) 0 = some c := atI_nat (j := 0) rfl
  -- word[0] in '0123456789'
  refine ⟨_, rfl, S (c :: r), 0, c, rfl, rfl, (by rw [hlen]; omega), a0, c, _, rfl, rfl, _, rfl, ?_⟩
  rw [fig_lit]
  refine ited (fun h1 => ?_) (fun h1 => ?_)
  · have hcF : isF c = true := decide_eq_true h1
    have hcL : isL c = false := by rw [let_fig c hcs, hcF]; rfl
    have nk : ¬ (c :: r) ∈ keysL := fun h => by have := key_head _ h; rw [show (c :: r).headD 0 = c from rfl, hcL] at this; cases this
    have nn : isName (c :: r) = false := by
      unfold isName; rw [show (c :: r).headD 0 = c from rfl, hcL]; simp
    have ec : classify (c :: r) = if isNum (c :: r) = true then some (.number, .n (val (c :: r))) else none := by
      unfold classify
      rw [if_neg nk, if_neg (by rw [nn]; exact Bool.false_ne_true)]
    rw [ec] at q
    have bad : isNum (c :: r) = false → ∀ H', Same H H' → Q .non H' := fun e => by
      rw [e, if_neg Bool.false_ne_true] at q; exact q
    -- not word.isdigit()
    refine ⟨_, rfl, rfl, S (c :: r), rfl, rfl, trivial, _, rfl, ?_⟩
    have ed : Txt.isdigit (S (c :: r)) = (c :: r).all isF := by
      show (decide ((S (c :: r)).length > 0) && (S (c :: r)).cps.all Unicode.isDigit) = _
      rw [hlen, decide_eq_true (show (c :: r).length > 0 by simp)]
      have : (S (c :: r)).cps.all Unicode.isDigit = (c :: r).all Unicode.isDigit := by
        rw [← Array.all_toList]
      rw [this, Bool.true_and, Bool.eq_iff_iff, List.all_eq_true, List.all_eq_true]
      constructor
      · intro h d hd; rw [← digit_sign d (hsig d hd)]; exact h d hd
      · intro h d hd; rw [digit_sign d (hsig d hd)]; exact h d hd
    rw [ed]
    refine itebn (fun h2 => ?_) (fun h2 => ?_)
    · refine iteT ?_
      exact bad (by unfold isNum; rw [h2]; simp) H (Same.refl H)
    -- len(word) > 18
    refine ⟨_, rfl, _, rfl, (by rw [hlen]; omega), _, _, rfl, rfl, _, rfl, ?_⟩
    rw [hlen]
    refine ited (fun h3 => ?_) (fun h3 => ?_)
    · refine iteT ?_
      exact bad (by unfold isNum; rw [decide_eq_false (show ¬ (c :: r).length ≤ 18 by omega)]; rfl) H (Same.refl H)
    have en : isNum (c :: r) = (if c = 48 then decide (c :: r = [48]) else decide (val (c :: r) ≤ 2 ^ 59 - 1)) := by
      unfold isNum
      rw [h2, decide_eq_true (show (c :: r).length ≤ 18 by omega)]; rfl
    have hit : intText? (S (c :: r)) = some ((NumText.digitsVal (c :: r) : Nat) : Int) := SX.int_S (figs_of h2) hne (by omega)
    -- (word[0] == '0' and word != '0')
    have step4 : ∀ (_ : c = 48 → c :: r = [48]) {NT : L2.St → Hp → Prop} (_ : isNum (c :: r) = true → NT [some (V.str (S (c :: r))), some (V.int (line : Int))] H) (_ : isNum (c :: r) = false → Q .non H),
        if decide ((2 : Int) ^ (59 : Int).toNat ≤ ((NumText.digitsVal (c :: r) : Nat) : Int)) = true then Q .non H else NT [some (V.str (S (c :: r))), some (V.int (line : Int))] H := fun hz48 NT hy hn => by
      refine ited (fun h6 => ?_) (fun h6 => ?_)
      · refine hn ?_
        rw [en]
        have e59 : (2 : Int) ^ (59 : Int).toNat = 576460752303423488 := by decide
        rw [e59] at h6
        by_cases h48 : c = 48
        · have := hz48 h48
          rw [this] at h6
          have : NumText.digitsVal [48] = 0 := by decide
          rw [this] at h6; omega
        · rw [if_neg h48]
          refine decide_eq_false ?_
          rw [val_digits]; omega
      · refine hy ?_
        rw [en]
        have e59 : (2 : Int) ^ (59 : Int).toNat = 576460752303423488 := by decide
        rw [e59] at h6
        by_cases h48 : c = 48
        · rw [if_pos h48]; first | done | exact decide_eq_true (hz48 h48)
        · rw [if_neg h48]
          refine decide_eq_true ?_
          rw [val_digits]; omega
    have fin : isNum (c :: r) = true → ∃ v, ([some (V.str (S (c :: r))), some (V.int (line : Int))] : L2.St)[0]? = some (some v) ∧ ∃ a n, [v] = [V.str a] ∧ intText? a = some n ∧ a.length ≤ 640 ∧
        ∃ v2, ([some (V.str (S (c :: r))), some (V.int (line : Int))] : L2.St)[1]? = some (some v2) ∧ [V.str (Str.ofString "number"), V.int n, v2].length ≤ sizeLine ∧ ∀ p, H p = none → Q (.ref p) (upd H p (.tup [V.str (Str.ofString "number"), V.int n, v2])) := fun e => by
      rw [e, if_pos rfl] at q
      have q : TupQ (.str "number") (.int ((val (c :: r) : Nat) : Int)) (.int (line : Int)) H Q := q
      exact ⟨_, rfl, S (c :: r), _, rfl, hit, (by rw [hlen]; omega), _, rfl, three_ok, fun p np => q.go (Same.refl _) np⟩
    refine ⟨_, rfl, S (c :: r), 0, c, rfl, rfl, (by rw [hlen]; omega), a0, rfl, _, rfl, ?_⟩
    refine ited (fun h4 => ?_) (fun h4 => ?_)
    · have h4 : c = 48 := str_one.mp (by rw [z_lit] at h4; exact h4)
      refine ⟨_, rfl, rfl, _, rfl, ?_⟩
      refine itedn (fun h5 => ?_) (fun h5 => ?_)
      · refine iteT ?_
        refine bad ?_ H (Same.refl H)
        rw [en, if_pos h4]
        refine decide_eq_false fun e => h5 ?_
        rw [z_lit]; exact str_S.mpr e
      · have h5 : c :: r = [48] := str_S.mp (by rw [z_lit] at h5; exact h5)
        refine ⟨_, rfl, S (c :: r), _, rfl, hit, (by rw [hlen]; omega), _, _, rfl, rfl, ⟨by decide, by decide, by decide⟩, _, _, rfl, rfl, _, rfl, ?_⟩
        exact step4 (fun _ => h5) (fun e => fin e) (fun e => bad e H (Same.refl H))
    · refine ⟨_, rfl, S (c :: r), _, rfl, hit, (by rw [hlen]; omega), _, _, rfl, rfl, ⟨by decide, by decide, by decide⟩, _, _, rfl, rfl, _, rfl, ?_⟩
      exact step4 (fun e => absurd (by rw [z_lit, e]) h4) (fun e => fin e) (fun e => bad e H (Same.refl H))
  · have hcF : isF c = false := decide_eq_false h1
    have hcL : isL c = true := by rw [let_fig c hcs, hcF]; rfl
    -- word in _law_keys()
    refine ⟨_, rfl, rfl, fun H1 p np g hp => ?_⟩
    refine ⟨p, _, rfl, .inl (SqL.of hp), rfl, flat_keys _, _, rfl, ?_⟩
    rw [inV_keys]
    refine ited (fun h2 => ?_) (fun h2 => ?_)
    · unfold classify at q
      rw [if_pos h2] at q
      exact ⟨_, rfl, _, rfl, three_ok, fun p2 np2 => q.go g np2⟩
    unfold classify at q
    rw [if_neg h2] at q
    refine ⟨_, rfl, _, rfl, (by rw [hlen]; omega), _, _, rfl, rfl, _, rfl, ?_⟩
    rw [hlen]
    have en : isName (c :: r) = decide ((c :: r).length ≤ 20) := by
      unfold isName
      rw [hall, show (c :: r).headD 0 = c from rfl, hcL, decide_eq_false h2, decide_eq_true (show 1 ≤ (c :: r).length by simp)]; simp
    rw [en] at q
    refine ited (fun h3 => ?_) (fun h3 => ?_)
    · rw [if_pos (decide_eq_true (show (c :: r).length ≤ 20 by omega))] at q
      exact ⟨_, rfl, _, rfl, three_ok, fun p2 np2 => q.go g np2⟩
    · have : isNum (c :: r) = false := by
        unfold isNum; rw [List.all_cons, hcF]; simp
      rw [if_neg (by rw [decide_eq_false (show ¬ (c :: r).length ≤ 20 by omega)]; exact Bool.false_ne_true), this, if_neg Bool.false_ne_true] at q
      exact q _ g
end
end Wk
set_option maxRecDepth 100000
set_option maxHeartbeats 8000000
namespace Wk
open PySem L2 TL PyProof.Rows
open SX (S S_len)
/-- what is told of a text: a pair of a word and the words, or the line -/
def Tell (H : Hp) (v : V) (r : Res) : Prop := ∃ p, v = .ref p ∧ (match r with
  | .bad l => H p = some (.tup [.str "bad", .int (l : Int)])
  | .ok ts => ∃ q vs, H p = some (.tup [.str "told", .ref q]) ∧ H q = some (.lst vs) ∧ Toks H vs ts)
theorem dq_lit : ("\"\"" : Str) = S [34, 34] := S_of _
theorem replace_S (l : List Nat) : Txt.replace (S l) ("\"\"" : Str) ("\"" : Str) = S (undbl l) := by
  refine ext_tl ?_
  have h := StrLaws.replace_list (x := S l) (y := ("\"\"" : Str)) (z := ("\"" : Str)) (by decide +kernel)
  rw [dq_lit, q_lit] at h
  rw [dq_lit, q_lit]
  exact h
theorem find_nl {t : List Nat} {i : Nat} (hi : i ≤ t.length) :
    Txt.find3 (S t) ("\n" : Str) (i : Int) = (if i + ((t.drop i).takeWhile notNl).length < t.length then ((i + ((t.drop i).takeWhile notNl).length : Nat) : Int) else -1) := by
  have hf : PySem.fromIndex (S t).length (i : Int) = i := by
    rw [S_len]
    show (max 0 (if (i : Int) < 0 then (i : Int) + t.length else (i : Int))).toNat = i
    rw [if_neg (by omega)]; omega
  have gd : ∀ v, v < t.length → (S t).cps.getD v 0 = t.getD v 0 := fun v hv => by
    simp [S, SX.S, Array.getD, List.getD, hv]
  have h := StrLaws.find3_spec (S t) 10 (i : Int)
  rw [hf, S_len] at h
  have e0 : (⟨#[10]⟩ : Str) = ("\n" : Str) := nl_lit.symm
  rw [e0] at h
  rcases h with ⟨h1, h2⟩ | ⟨k, h1, h2, h3, h4, h5⟩
  · have : (t.drop i).takeWhile notNl = t.drop i := tw_all (List.all_eq_true.mpr fun c hc => by
      obtain ⟨j, hj, e⟩ := List.getElem_of_mem hc
      rw [List.length_drop] at hj
      have hv : i + j < t.length := by omega
      have := h2 (i + j) (by omega) hv
      rw [gd _ hv, List.getD_eq_getElem?_getD, List.getElem?_eq_getElem hv] at this
      rw [List.getElem_drop] at e
      have this : t[i + j] ≠ 10 := this
      unfold notNl
      rw [← e, decide_eq_false this]; rfl)
    rw [h1, this, List.length_drop, if_neg (by omega)]
  · have hk : (t.drop i)[k - i]? = some 10 := by
      rw [List.getElem?_drop, show i + (k - i) = k by omega, List.getElem?_eq_getElem h3]
      rw [gd _ h3, List.getD_eq_getElem?_getD, List.getElem?_eq_getElem h3] at h4
      exact congrArg some h4
    have ha : ((t.drop i).take (k - i)).all notNl = true := List.all_eq_true.mpr fun c hc => by
      obtain ⟨j, hj, e⟩ := List.getElem_of_mem hc
      rw [List.length_take, List.length_drop] at hj
      have hv : i + j < t.length := by omega
      have := h5 (i + j) (by omega) (by omega)
      rw [gd _ hv, List.getD_eq_getElem?_getD, List.getElem?_eq_getElem hv] at this
      rw [List.getElem_take, List.getElem_drop] at e
      have this : t[i + j] ≠ 10 := this
      unfold notNl
      rw [← e, decide_eq_false this]; rfl
    have tw := tw_of ha (fun c e => by rw [hk] at e; cases e; rfl) (by rw [List.length_drop]; omega)
    rw [tw, List.length_take, List.length_drop, Nat.min_eq_left (by omega), show i + (k - i) = k by omega, if_pos h3, h1]
section
variable {P : Program} {w : World} {K : PySem.W.Frag} {mg : Str → Option Value} {base : Heap}
abbrev s__law_cut : Stmt := top 35
theorem sc__law_cut : FnScope ["text", "found", "at", "line", "k", "sign", "end", "word", "close"] ["text"] (defScope s__law_cut) := ⟨rfl, rfl, rfl, by decide +kernel, rfl, by decide +kernel, by decide +kernel⟩
def sp_cut : Sp := fun vs H Q _ => ∃ (t : List Nat), vs = [.str (S t)] ∧ t.length ≤ 1000000 ∧ Fine t ∧ ∀ H' v, Same H H' → Tell H' v (cutF 1 t) → Q v H'
theorem ok_cut (T : Txt K mg) {f : Addr} {fd : FuncData} (F : Fun K "_law_cut" "_law_cut" s__law_cut f fd) (D__law_signs : Def P w K mg base CX0 "_law_signs" [] 1 sp_signs)
    (D__law_quote : Def P w K mg base CX0 "_law_quote" ["text", "at"] 1 sp_quote) (D__law_end : Def P w K mg base CX0 "_law_end" ["text", "at"] 2 sp_end)
    (D__law_stretch : Def P w K mg base CX0 "_law_stretch" ["word", "line"] 2 sp_stretch) (D__law_mark : Def P w K mg base CX0 "_law_mark" ["text", "at", "line"] 1 sp_mark) : FnOk P w K mg base CX0 3 f fd ["text"] sp_cut := by
  refine F.ok sc__law_cut (fun vs H Q E h => ?_) (fun cdv A outer s H vs Q E hr h => ?_)
  · obtain ⟨a, rfl, _⟩ := h; rfl
  obtain ⟨t, rfl, hl, hfine, q⟩ := h
  refine ⟨_, (pss_cons (ps_set (i := 1) sc__law_cut.nd rfl (Or.inl rfl) (pe_lst pa_nil))
    (pss_cons (ps_set (i := 2) sc__law_cut.nd rfl (Or.inl rfl) pe_int)
    (pss_cons (ps_set (i := 3) sc__law_cut.nd rfl (Or.inl rfl) pe_int)
    (pss_cons (ps_for PassesOwn.never rfl (pi_range1 rfl T.n_range (pa_cons (pe_callB call_len_str rfl T.n_len boot_len (pa_cons (pv 0) pa_nil)) pa_nil)) (pg_name (i := 4) sc__law_cut.nd rfl (Or.inl rfl)) (pss_cons (ps_if (pt_cmpR op_ge (pv 2) (pe_callB call_len_str rfl T.n_len boot_len (pa_cons (pv 0) pa_nil)) (nomark _)) (pss_one ps_break) pss_nil)
      (pss_cons (ps_set (i := 5) sc__law_cut.nd rfl (Or.inl rfl) (pe_ix ix_str (pv 0) (pv 2) (fun _ _ => rfl)))
      (pss_cons (ps_set (i := 6) sc__law_cut.nd rfl (Or.inl rfl) (pe_op op_add (pv 2) pe_int))
      (pss_cons (ps_set (i := 7) sc__law_cut.nd rfl (Or.inl rfl) pe_non)
      (pss_cons (ps_if (pt_cmpR op_eq (pv 5) pe_str (nomark _)) (pss_one (ps_aug (i := 3) sc__law_cut.nd rfl (Or.inl rfl) pe_int ip_add)) (pss_one (ps_if (pt_cmpR op_eq (pv 5) pe_str (nomark _)) (pss_cons (ps_set (i := 6) sc__law_cut.nd rfl (Or.inl rfl) (pe_bm PySem.F.plainAttrs_str PySem.F.slot_str_find PySem.F.type_str_find mt_find3 (pv 0) (pa_cons pe_str (pa_cons (pv 2) pa_nil))))
          (pss_one (ps_set (i := 6) sc__law_cut.nd rfl (Or.inl rfl) (pe_ifExp (pt_cmpR op_lt (pv 6) pe_int (nomark _)) (pe_callB call_len_str rfl T.n_len boot_len (pa_cons (pv 0) pa_nil)) (pv 6))))) (pss_one (ps_if (pt_cmpR op_ne (pv 5) pe_str (nomark _)) (pss_cons (ps_if (pt_cmpR op_eq (pv 5) pe_str (nomark _)) (pss_cons (ps_set (i := 8) sc__law_cut.nd rfl (Or.inl rfl) (pe_call D__law_quote.ok (hr.mono (by omega)) rfl D__law_quote.g D__law_quote.k D__law_quote.b .nil pass0 (pa_cons (pv 0) (pa_cons (pv 2) pa_nil))))
              (pss_one (ps_if (pt_cmpR op_notN (pv 8) pe_non (nomark _)) (pss_cons (ps_set (i := 6) sc__law_cut.nd rfl (Or.inl rfl) (pe_op op_add (pv 8) pe_int))
                (pss_one (ps_set (i := 7) sc__law_cut.nd rfl (Or.inl rfl) (pe_tup (pa_consT (pat_cons (CwR.pet_replC (pe_slice sl_str (pv 0) (po_some (pe_op op_add (pv 2) pe_int)) (po_some (pv 8)))) (pat_cons (CwR.PET.of (pv 3)) pat_nil))))))) pss_nil))) (pss_one (ps_if (pt_cmpR op_in_sign (pv 5) (pe_call0 D__law_signs.ok (hr.mono (by omega)) rfl D__law_signs.g D__law_signs.k D__law_signs.b .nil pass0) rfl) (pss_cons (ps_set (i := 6) sc__law_cut.nd rfl (Or.inl rfl) (pe_call D__law_end.ok (hr.mono (by omega)) rfl D__law_end.g D__law_end.k D__law_end.b .nil pass0 (pa_cons (pv 0) (pa_cons (pv 2) pa_nil))))
                (pss_one (ps_set (i := 7) sc__law_cut.nd rfl (Or.inl rfl) (pe_call D__law_stretch.ok (hr.mono (by omega)) rfl D__law_stretch.g D__law_stretch.k D__law_stretch.b .nil pass0 (pa_cons (pe_slice sl_str (pv 0) (po_some (pv 2)) (po_some (pv 6))) (pa_cons (pv 3) pa_nil)))))) (pss_cons (ps_set (i := 7) sc__law_cut.nd rfl (Or.inl rfl) (pe_call D__law_mark.ok (hr.mono (by omega)) rfl D__law_mark.g D__law_mark.k D__law_mark.b .nil pass0 (pa_cons (pv 0) (pa_cons (pv 2) (pa_cons (pv 3) pa_nil)))))
                (pss_one (ps_set (i := 6) sc__law_cut.nd rfl (Or.inl rfl) (pe_ifExp (pt_cmpR op_notN (pv 7) pe_non (nomark _)) (pe_op op_add (pv 2) (pe_callB call_len_str rfl T.n_len boot_len (pa_cons (pe_ix ix_tup (pv 7) pe_int (fun _ _ => rfl)) pa_nil))) (pv 6))))))))
            (pss_cons (ps_if (pt_cmpR op_isN (pv 7) pe_non (nomark _)) (pss_one (ps_ret (pe_tup (pa_cons pe_str (pa_cons (pv 3) pa_nil))))) pss_nil)
            (pss_one (ps_expr (pe_bm PySem.F.plainAttrs_list PySem.F.slot_list_append PySem.F.type_list_append mt_append (pv 1) (pa_cons (pv 7) pa_nil)))))) pss_nil)))))
      (pss_one (ps_set (i := 2) sc__law_cut.nd rfl (Or.inl rfl) (pv 6)))))))))
    (pss_one (ps_ret (pe_tup (pa_cons pe_str (pa_cons (pv 1) pa_nil))))))))), ?_⟩
  have hz := line_eq
  have hlen := S_len t
  refine ⟨(by show 0 ≤ sizeLine; omega), fun p np => ?_⟩
  refine ⟨_, rfl, _, rfl, (by rw [hlen]; omega), _, rfl, by rw [hlen]; omega, by rw [hlen]; omega, ?_⟩
  rw [hlen, Int.toNat_natCast]
  refine for_rangeR (fun σ H' => Same H H' ∧ ∃ (ts : List Tk) (vs : List V), cutF 1 t = .ok ts ∧ H' p = some (.lst vs) ∧ Toks H' vs ts ∧ ∃ x2 x3 x4 x5 x6 x7 x8 : Option V, σ = [some (.str (S t)), some (.ref p), x2, x3, x4, x5, x6, x7, x8])
    (fun k σ H' => Same H H' ∧ ∃ (i line : Nat) (ts : List Tk) (vs : List V), k ≤ i ∧ i ≤ t.length ∧ vs.length ≤ i ∧ cutF 1 t = Res.app ts (cutF line (t.drop i)) ∧ H' p = some (.lst vs) ∧ Toks H' vs ts ∧
      ∃ x4 x5 x6 x7 x8 : Option V, σ = [some (.str (S t)), some (.ref p), some (.int (i : Int)), some (.int (line : Int)), x4, x5, x6, x7, x8])
    ⟨same_new np _, 0, 1, [], [], Nat.le_refl _, Nat.zero_le _, Nat.le_refl _, (Res.app_nil _).symm, upd_same, trivial, none, none, none, none, none, rfl⟩ ?_ ?_ ?_
  · rintro σ H' ⟨g, ts, vs, hc, hp, ht, x2, x3, x4, x5, x6, x7, x8, rfl⟩
    refine ⟨_, rfl, (by show 2 ≤ sizeLine; omega), fun p2 np2 => ?_⟩
    refine q _ _ (same_to g np2 _) ⟨p2, rfl, ?_⟩
    rw [hc]
    exact ⟨p, vs, upd_same, same_new np2 _ _ _ hp, ht.mono (same_new np2 _)⟩
  · rintro σ H' ⟨g, i, line, ts, vs, h1, h2, h3, h4, hp, ht, x4, x5, x6, x7, x8, rfl⟩
    refine ⟨g, ts, vs, ?_, hp, ht, _, _, _, _, _, _, _, rfl⟩
    rw [h4, List.drop_eq_nil_of_le h1, cutF_nil]
    show Res.ok (ts ++ []) = _
    rw [List.append_nil]
  rintro NX nx k σ H' hk ⟨g, i, line, ts, vs, h1, h2, h3, h4, hp, ht, x4, x5, x6, x7, x8, rfl⟩
  -- if at >= len(text): break
  refine ⟨_, rfl, _, rfl, _, rfl, (by rw [hlen]; omega), _, _, rfl, rfl, _, rfl, ?_⟩
  rw [hlen]
  refine ited (fun h5 => ?_) (fun h5 => ?_)
  · refine nx _ _ ⟨g, ts, vs, ?_, hp, ht, _, _, _, _, _, _, _, rfl⟩
    rw [h4, List.drop_eq_nil_of_le (by omega), cutF_nil]
    show Res.ok (ts ++ []) = _
    rw [List.append_nil]
  have hi : i < t.length := by omega
  obtain ⟨c, hc⟩ : ∃ c, t[i]? = some c := ⟨_, List.getElem?_eq_getElem hi⟩
  have hd := drop_cons hc
  have at1 := atI_nat hc
  refine go_next ?_
  dsimp only
  refine seq_set ?_
  refine ⟨_, rfl, _, rfl, S t, _, c, rfl, rfl, (by rw [hlen]; omega), at1, ?_⟩
  refine seq_set ?_
  refine ⟨_, rfl, _, _, rfl, rfl, ?_⟩
  refine seq_setC ?_
  -- the sign's ways
  refine seq_join (fun σ H2 => Same H H2 ∧ ∃ (e line2 : Nat) (ts2 : List Tk) (vs2 : List V), i < e ∧ e ≤ t.length ∧ vs2.length ≤ e ∧ cutF 1 t = Res.app ts2 (cutF line2 (t.drop e)) ∧ H2 p = some (.lst vs2) ∧ Toks H2 vs2 ts2 ∧
      ∃ y2 y4 y5 y7 y8 : Option V, σ = [some (.str (S t)), some (.ref p), y2, some (.int (line2 : Int)), y4, y5, some (.int (e : Int)), y7, y8]) ?_ ?_
  · rintro σ H2 ⟨g2, e, line2, ts2, vs2, e1, e2, e3, e4, hp2, ht2, y2, y4, y5, y7, y8, rfl⟩
    exact ⟨_, rfl, g2, e, line2, ts2, vs2, by omega, e2, e3, e4, hp2, ht2, _, _, _, _, _, rfl⟩
  intro NX2 nx2
  -- sign == '\n'
  refine ⟨_, rfl, rfl, _, rfl, ?_⟩
  refine ited (fun h6 => ?_) (fun h6 => ?_)
  · have h6 : c = 10 := str_one.mp (by rw [nl_lit] at h6; exact h6)
    subst h6
    refine ⟨_, rfl, _, _, rfl, rfl, ?_⟩
    refine nx2 _ _ ⟨g, i + 1, line + 1, ts, vs, by omega, by omega, by omega, ?_, hp, ht, _, _, _, _, _, rfl⟩
    rw [h4, hd, cutF_nl]
  have n10 : c ≠ 10 := fun e => h6 (by rw [nl_lit, e])
  -- sign == '#'
  refine ⟨_, rfl, rfl, _, rfl, ?_⟩
  refine ited (fun h7 => ?_) (fun h7 => ?_)
  · have h7 : c = 35 := str_one.mp (by rw [no_lit] at h7; exact h7)
    subst h7
    refine ⟨_, rfl, rfl, _, rfl, S t, "\n", (i : Int), rfl, rfl, ?_⟩
    rw [find_nl (by omega)]
    have hplain : ((t.drop (i + 1)).takeWhile notNl).all plain = true := List.all_eq_true.mpr fun d hd2 => by
      have hm := List.mem_of_mem_drop ((List.takeWhile_sublist _).subset hd2)
      rcases hfine d hm with e | e
      · have := List.all_eq_true.mp (List.all_takeWhile (p := notNl) (l := t.drop (i + 1))) d hd2
        rw [e] at this; cases this
      · exact e
    have htw : (t.drop i).takeWhile notNl = 35 :: (t.drop (i + 1)).takeWhile notNl := by rw [hd, List.takeWhile_cons]; rfl
    have hcut : ∀ n, cutF n (t.drop i) = cutF n (t.drop (i + ((t.drop i).takeWhile notNl).length)) := fun n => by
      rw [hd, cutF_note, if_pos hplain, ← hd, htw, ← drop_tw, List.drop_drop, List.length_cons]
      congr 2; omega
    have hle : i + ((t.drop i).takeWhile notNl).length ≤ t.length := by
      have : ((t.drop i).takeWhile notNl).length ≤ (t.drop i).length := (List.takeWhile_sublist _).length_le
      rw [List.length_drop] at this; omega
    have hgt : i < i + ((t.drop i).takeWhile notNl).length := by rw [htw, List.length_cons]; omega
    generalize i + ((t.drop i).takeWhile notNl).length = e at hcut hle hgt ⊢
    by_cases he : e < t.length
    · rw [if_pos he]
      refine ⟨_, rfl, _, _, rfl, rfl, _, rfl, ?_⟩
      refine ited (fun hx => ?_) (fun hx => ?_)
      · omega
      · refine ⟨_, rfl, ?_⟩
        exact nx2 _ _ ⟨g, e, line, ts, vs, hgt, hle, by omega, by rw [h4, hcut], hp, ht, _, _, _, _, _, rfl⟩
    · rw [if_neg he]
      refine ⟨_, rfl, _, _, rfl, rfl, _, rfl, ?_⟩
      refine ited (fun hx => ?_) (fun hx => ?_)
      · refine ⟨_, rfl, _, rfl, (by rw [hlen]; omega), ?_⟩
        rw [hlen]
        exact nx2 _ _ ⟨g, t.length, line, ts, vs, hi, Nat.le_refl _, by omega, by rw [h4, hcut, show e = t.length by omega], hp, ht, _, _, _, _, _, rfl⟩
      · omega
  have n35 : c ≠ 35 := fun e => h7 (by rw [no_lit, e])
  -- sign != ' '
  refine ⟨_, rfl, rfl, _, rfl, ?_⟩
  refine itedn (fun h8 => ?_) (fun h8 => ?_)
  rotate_left
  · have h8 : c = 32 := str_one.mp (by rw [sp_lit] at h8; exact h8)
    subst h8
    exact nx2 _ _ ⟨g, i + 1, line, ts, vs, by omega, by omega, by omega, by rw [h4, hd, cutF_sp], hp, ht, _, _, _, _, _, rfl⟩
  have n32 : c ≠ 32 := fun e => h8 (by rw [sp_lit, e])
  refine seq_join (fun σ H2 => Same H H2 ∧ H2 p = some (.lst vs) ∧ Toks H2 vs ts ∧
      ((tok (t.drop i) = none ∧ ∃ y4 y5 y6 y8 : Option V, σ = [some (.str (S t)), some (.ref p), some (.int (i : Int)), some (.int (line : Int)), y4, y5, y6, some .non, y8]) ∨
       ∃ (so : So) (wd : Wd) (e : Nat) (pw : Addr), tok (t.drop i) = some (so, wd, t.drop e) ∧ i < e ∧ e ≤ t.length ∧ H2 pw = some (.tup (tkV ⟨so, wd, line⟩)) ∧
        ∃ y4 y5 y8 : Option V, σ = [some (.str (S t)), some (.ref p), some (.int (i : Int)), some (.int (line : Int)), y4, y5, some (.int (e : Int)), some (.ref pw), y8])) ?_ ?_
  · rintro σ H2 ⟨g2, hp2, ht2, ⟨hn, y4, y5, y6, y8, rfl⟩ | ⟨so, wd, e, pw, hs, e1, e2, hpw, y4, y5, y8, rfl⟩⟩
    · refine ⟨_, rfl, rfl, _, rfl, ?_⟩
      refine ited (fun _ => ?_) (fun hx => absurd rfl hx)
      refine ⟨_, rfl, (by show 2 ≤ sizeLine; omega), fun p2 np2 => ?_⟩
      refine q _ _ (same_to g2 np2 _) ⟨p2, rfl, ?_⟩
      rw [hd] at hn
      rw [h4, hd, cutF_none n10 n32 n35 hn]
      exact upd_same
    · refine ⟨_, rfl, rfl, _, rfl, ?_⟩
      refine ited (fun hx => by cases hx) (fun _ => ?_)
      refine ⟨_, rfl, .inl ⟨rfl, _, SqL.of hp2⟩, _, rfl, p, vs, _, rfl, rfl, hp2, by omega, ?_⟩
      refine nx2 _ _ ⟨same_mut g2 np _, e, line, ts ++ [⟨so, wd, line⟩], vs ++ [.ref pw], e1, e2, by rw [List.length_append, List.length_singleton]; omega, ?_, upd_same, ?_, _, _, _, _, _, rfl⟩
      · rw [hd] at hs
        rw [h4, hd, cutF_some n10 n32 n35 hs, Res.app_app]
      · have keep : ∀ {ws : List V} {us : List Tk}, Toks H2 ws us → Toks (upd H2 p (.lst (vs ++ [.ref pw]))) ws us := by
          intro ws
          induction ws with
          | nil => intro us h; cases us with
            | nil => trivial
            | cons _ _ => exact h.elim
          | cons x ws ih => intro us h; cases us with
            | nil => exact h.elim
            | cons z us =>
              obtain ⟨⟨b, e3, e4⟩, r⟩ := h
              exact ⟨⟨b, e3, by rw [upd_ne (ne_of e4 hp2 (by intro z; cases z))]; exact e4⟩, ih r⟩
        exact keep (Toks.app ht2 ⟨⟨pw, rfl, hpw⟩, trivial⟩)
  intro NX3 nx3
  -- sign == '"'
  refine ⟨_, rfl, rfl, _, rfl, ?_⟩
  have e1 : (V.str ⟨#[c]⟩ = V.str "\"") ↔ c = 34 := by rw [q_lit]; exact str_one
  refine ited (fun h9 => ?_) (fun h9 => ?_)
  · have h9 := e1.mp h9
    subst h9
    have htq := textP_qEnd _ (t.drop (i + 1)) [] (Nat.le_refl _) (hfine.drop _)
    have htk : tok (t.drop i) = (textP [] (t.drop (i + 1))).map fun p => (.text, .s p.1, p.2) := by rw [hd, tok_cons]; rfl
    refine ⟨_, rfl, _, rfl, t, i, rfl, hl, hi, ?_⟩
    cases eq : qEnd (t.drop (i + 1)) with
    | none =>
      rw [eq] at htq
      refine ⟨_, rfl, rfl, _, rfl, ?_⟩
      refine itedn (fun hx => absurd rfl hx) (fun _ => ?_)
      exact nx3 _ _ ⟨g, hp, ht, .inl ⟨by rw [htk, htq]; rfl, _, _, _, _, rfl⟩⟩
    | some kq =>
      rw [eq] at htq
      have hkq := qEnd_lt _ _ _ (Nat.le_refl _) eq
      rw [List.length_drop] at hkq
      refine ⟨_, rfl, rfl, _, rfl, ?_⟩
      refine itedn (fun _ => ?_) (fun hx => by cases hx)
      refine ⟨_, rfl, _, _, rfl, rfl, ?_⟩
      have hc2 : cutS (S t) (some ((i : Int) + 1)) (some ((i + 1 + kq : Nat) : Int)) = S ((t.drop (i + 1)).take kq) := by
        have := cut_nat (l := t) (i := i + 1) (j := i + 1 + kq) (by omega)
        rw [show i + 1 + kq - (i + 1) = kq by omega] at this
        exact this
      refine ⟨_, rfl, _, rfl, _, _, rfl, rfl, _, rfl, _, rfl, _, rfl, S t, rfl, (by rw [hlen]; omega), ?_⟩
      rw [hc2]
      refine ⟨_, rfl, ?_, ?_⟩
      · rw [S_len, List.length_take, show ("\"" : Str).length = 1 from by rw [q_lit, S_len]; rfl]; omega
      rw [replace_S]
      refine ⟨_, rfl, three_ok, fun p2 np2 => ?_⟩
      refine nx3 _ _ ⟨same_to g np2 _, same_new np2 _ _ _ hp, ht.mono (same_new np2 _), .inr ⟨.text, .s (undbl ((t.drop (i + 1)).take kq)), i + 1 + kq + 1, p2, ?_, by omega, by omega, upd_same, _, _, _, rfl⟩⟩
      rw [htk, htq]
      show some (So.text, Wd.s ([] ++ undbl ((t.drop (i + 1)).take kq)), (t.drop (i + 1)).drop (kq + 1)) = _
      rw [List.drop_drop]; rfl
  have n34 : c ≠ 34 := fun e => h9 (e1.mpr e)
  -- sign in _law_signs()
  refine ⟨_, rfl, rfl, c, _, rfl, rfl, _, rfl, ?_⟩
  have em := isS_mem c
  refine ited (fun h10 => ?_) (fun h10 => ?_)
  · have hs : isS c = true := by rw [em]; exact decide_eq_true h10
    refine ⟨_, rfl, _, rfl, t, i, rfl, hl, hi, ?_⟩
    have htw : (t.drop i).takeWhile isS = c :: (t.drop (i + 1)).takeWhile isS := by rw [hd, List.takeWhile_cons, if_pos hs]
    have hle : ((t.drop (i + 1)).takeWhile isS).length ≤ t.length - (i + 1) := by
      have : ((t.drop (i + 1)).takeWhile isS).length ≤ (t.drop (i + 1)).length := (List.takeWhile_sublist _).length_le
      rw [List.length_drop] at this; omega
    have hc2 : cutS (S t) (some (i : Int)) (some ((i + 1 + ((t.drop (i + 1)).takeWhile isS).length : Nat) : Int)) = S (c :: (t.drop (i + 1)).takeWhile isS) := by
      rw [cut_nat (by omega), show i + 1 + ((t.drop (i + 1)).takeWhile isS).length - i = ((t.drop (i + 1)).takeWhile isS).length + 1 by omega, hd, List.take_succ_cons, take_tw]
    refine ⟨_, rfl, _, rfl, _, rfl, _, rfl, _, rfl, S t, rfl, (by rw [hlen]; omega), ?_⟩
    rw [hc2]
    have hall : (c :: (t.drop (i + 1)).takeWhile isS).all isS = true := by rw [List.all_cons, hs, List.all_takeWhile]; rfl
    refine ⟨_, rfl, _, line, rfl, by simp, hall, by rw [List.length_cons]; omega, ?_⟩
    have htk : tok (t.drop i) = (classify (c :: (t.drop (i + 1)).takeWhile isS)).map fun p => (p.1, p.2, (t.drop (i + 1)).dropWhile isS) := by rw [hd, tok_cons, if_pos hs]
    cases ec : classify (c :: (t.drop (i + 1)).takeWhile isS) with
    | none =>
      rw [ec] at htk
      intro H2 g2
      exact nx3 _ _ ⟨g.trans g2, g2 _ _ hp, ht.mono g2, .inl ⟨htk, _, _, _, _, rfl⟩⟩
    | some sw =>
      rw [ec] at htk
      intro H2 p2 g2 hp2
      refine nx3 _ _ ⟨g.trans g2, g2 _ _ hp, ht.mono g2, .inr ⟨sw.1, sw.2, i + 1 + ((t.drop (i + 1)).takeWhile isS).length, p2, ?_, by omega, by omega, hp2, _, _, _, rfl⟩⟩
      rw [htk, ← drop_tw, List.drop_drop]; rfl
  · have hs : isS c = false := by rw [em]; exact decide_eq_false h10
    have htk : tok (t.drop i) = if two c (t.drop (i + 1)) = true then some (.mark, .s [c, 61], (t.drop (i + 1)).tail) else if c ∈ marksL then some (.mark, .s [c], t.drop (i + 1)) else none := by
      rw [hd, tok_cons, if_neg (by rw [hs]; exact Bool.false_ne_true), if_neg n34]
    refine ⟨_, rfl, _, rfl, _, rfl, t, i, line, c, rfl, hl, hc, ?_⟩
    -- the two ends of the mark
    have end_ : ∀ (m : List Nat) (e : Nat), m.length = e - i → i < e → e ≤ t.length → tok (t.drop i) = some (.mark, .s m, t.drop e) → ∀ H2 p2, Same H' H2 → H2 p2 = some (.tup [.str "mark", .str (S m), .int (line : Int)]) →
        (tIf (tTest (tOp (fun x y H Q => y = V.non ∧ Q (V.bl (!decide (x = V.non))) H) (tVar 7) (tC V.non)))
          (tOp (rI0 fun i j => V.int (i + j)) (tVar 2) (tCB (fun xs H Q => ∃ z, xs = [V.str z] ∧ z.length ≤ sizeLine ∧ Q (V.int z.length) H) (tCons (tOp (rIxT K) (tVar 7) (tC (V.int 1))) tNil))) (tVar 6))
          [some (.str (S t)), some (.ref p), some (.int (i : Int)), some (.int (line : Int)), some (.int (0 + (k : Int))), some (.str ⟨#[c]⟩), some (.int ((i + 1 : Nat) : Int)), some (.ref p2), x8] H2
          (fun x H1 => NX3 ([some (.str (S t)), some (.ref p), some (.int (i : Int)), some (.int (line : Int)), some (.int (0 + (k : Int))), some (.str ⟨#[c]⟩), some x, some (.ref p2), x8]) H1) := fun m e hm e1 e2 htok H2 p2 g2 hp2 => by
      refine ⟨_, rfl, rfl, _, rfl, ?_⟩
      refine itedn (fun _ => ?_) (fun hx => by cases hx)
      refine ⟨_, rfl, _, rfl, p2, _, _, _, rfl, rfl, SqT.of hp2, atI_nat (j := 1) rfl, _, rfl, (by rw [S_len]; omega), _, _, rfl, rfl, ?_⟩
      rw [S_len]
      have ee : V.int ((i : Int) + (m.length : Int)) = V.int (e : Int) := congrArg V.int (by omega)
      dsimp only
      rw [ee]
      exact nx3 _ _ ⟨g.trans g2, g2 _ _ hp, ht.mono g2, .inr ⟨.mark, .s m, e, p2, htok, e1, e2, hp2, _, _, _, rfl⟩⟩
    by_cases h11 : two c (t.drop (i + 1)) = true
    · rw [if_pos h11] at htk ⊢
      have hlt2 : i + 1 < t.length := by
        unfold two at h11
        simp only [Bool.and_eq_true, decide_eq_true_eq] at h11
        rcases Nat.lt_or_ge (i + 1) t.length with h | h
        · exact h
        · rw [List.drop_eq_nil_of_le h] at h11; simp at h11
      intro H2 p2 g2 hp2
      refine end_ [c, 61] (i + 2) (by simp) (by omega) (by omega) ?_ H2 p2 g2 hp2
      rw [htk, ← List.drop_one, List.drop_drop]
    · rw [if_neg h11] at htk ⊢
      by_cases h12 : c ∈ marksL
      · rw [if_pos h12] at htk ⊢
        intro H2 p2 g2 hp2
        exact end_ [c] (i + 1) (by simp) (by omega) (by omega) htk H2 p2 g2 hp2
      · rw [if_neg h12] at htk ⊢
        intro H2 g2
        refine ⟨_, rfl, rfl, _, rfl, ?_⟩
        refine itedn (fun hx => absurd rfl hx) (fun _ => ?_)
        refine ⟨_, rfl, ?_⟩
        exact nx3 _ _ ⟨g.trans g2, g2 _ _ hp, ht.mono g2, .inl ⟨htk, _, _, _, _, rfl⟩⟩
end
end Wk
set_option maxRecDepth 100000
set_option maxHeartbeats 4000000
namespace Wk
open PySem L2 TL PyProof.Rows
open SX (S S_len)
/-! ### what pieces, faults and spaces are -/
/-- what may stand behind a word -/
def okB (so : So) (r : List Nat) : Prop := match so with
  | .mark => r.head? ≠ some 61
  | .text => r.head? ≠ some 34
  | _ => ∀ c, r.head? = some c → isS c = false
structure PieceOk (w : List Nat) (so : So) (wd : Wd) : Prop where
  tk : ∀ r, okB so r → tok (w ++ r) = some (so, wd, r)
  head : ∃ c q, w = c :: q ∧ c ≠ 10 ∧ c ≠ 32 ∧ c ≠ 35 ∧ (so = .mark → isS c = false ∧ c ≠ 34) ∧ (so ≠ .mark → c ≠ 61)
  nn : 10 ∉ w
  fine : Fine w
def SpH (r : List Nat) : Prop := ∃ c q, r = c :: q ∧ (c = 32 ∨ c = 10 ∨ c = 35)
structure FaultOk (f : List Nat) : Prop where
  bad : ∀ n r, SpH r → cutF n (f ++ r) = .bad n
  fine : Fine f
def nls (l : List Nat) : Nat := l.count 10
structure SpaceOk (s : List Nat) : Prop where
  cut : ∀ n r, cutF n (s ++ r) = cutF (n + nls s) r
  head : ∃ c q, s = c :: q ∧ (c = 32 ∨ c = 10 ∨ c = 35)
  fine : Fine s
theorem SpH.ok {r : List Nat} (h : SpH r) (so : So) : okB so r := by
  obtain ⟨c, q, rfl, hc⟩ := h
  cases so with
  | mark => intro e; rcases hc with rfl | rfl | rfl <;> cases e
  | text => intro e; rcases hc with rfl | rfl | rfl <;> cases e
  | name => intro d e; obtain rfl : c = d := Option.some.inj e; rcases hc with rfl | rfl | rfl <;> decide
  | key => intro d e; obtain rfl : c = d := Option.some.inj e; rcases hc with rfl | rfl | rfl <;> decide
  | number => intro d e; obtain rfl : c = d := Option.some.inj e; rcases hc with rfl | rfl | rfl <;> decide
theorem nil_ok (so : So) : okB so [] := by
  cases so with
  | mark => intro e; cases e
  | text => intro e; cases e
  | name => intro d e; cases e
  | key => intro d e; cases e
  | number => intro d e; cases e
theorem tw_app {p : Nat → Bool} {r : List Nat} (hr : ∀ c, r.head? = some c → p c = false) : ∀ {w : List Nat}, w.all p = true → (w ++ r).takeWhile p = w ∧ (w ++ r).dropWhile p = r
  | [], _ => by
    rw [List.nil_append]
    cases r with
    | nil => exact ⟨rfl, rfl⟩
    | cons c r =>
      have h := hr c rfl
      rw [List.takeWhile_cons, List.dropWhile_cons, if_neg (by rw [h]; exact Bool.false_ne_true), if_neg (by rw [h]; exact Bool.false_ne_true)]
      exact ⟨rfl, rfl⟩
  | a :: w, h => by
    rw [List.all_cons, Bool.and_eq_true] at h
    have ih := tw_app hr h.2
    rw [List.cons_append, List.takeWhile_cons, List.dropWhile_cons, if_pos h.1, if_pos h.1, ih.1]
    exact ⟨rfl, ih.2⟩
theorem stretch_tok {w r : List Nat} (hne : w ≠ []) (h : w.all isS = true) (hr : ∀ c, r.head? = some c → isS c = false) : tok (w ++ r) = (classify w).map fun p => (p.1, p.2, r) := by
  cases w with
  | nil => exact absurd rfl hne
  | cons c w =>
    have hc : isS c = true := by rw [List.all_cons, Bool.and_eq_true] at h; exact h.1
    have hw : w.all isS = true := by rw [List.all_cons, Bool.and_eq_true] at h; exact h.2
    rw [List.cons_append, tok_cons, if_pos hc, (tw_app hr hw).1, (tw_app hr hw).2]
theorem sign_plain : ∀ c ∈ signsL, plain c = true ∧ c ≠ 10 ∧ c ≠ 32 ∧ c ≠ 35 ∧ c ≠ 61 ∧ c ≠ 34 := by decide +kernel
theorem sign_of {c : Nat} (h : isS c = true) : c ∈ signsL := by rw [isS_mem] at h; exact of_decide_eq_true h
theorem fine_of_S {w : List Nat} (h : w.all isS = true) : Fine w ∧ 10 ∉ w := by
  have : ∀ c ∈ w, c ∈ signsL := fun c hc => sign_of (List.all_eq_true.mp h c hc)
  exact ⟨fun c hc => .inr (sign_plain c (this c hc)).1, fun hm => (sign_plain 10 (this 10 hm)).2.1 rfl⟩
theorem stretch_piece {w : List Nat} {so : So} {wd : Wd} (hne : w ≠ []) (h : w.all isS = true) (hs : so = .name ∨ so = .key ∨ so = .number) (hc : classify w = some (so, wd)) : PieceOk w so wd := by
  have f := fine_of_S h
  refine ⟨fun r hr => ?_, ?_, f.2, f.1⟩
  · have hr' : ∀ c, r.head? = some c → isS c = false := by rcases hs with rfl | rfl | rfl <;> exact hr
    rw [stretch_tok hne h hr', hc]; rfl
  · cases w with
    | nil => exact absurd rfl hne
    | cons c q =>
      have hcS : isS c = true := by rw [List.all_cons, Bool.and_eq_true] at h; exact h.1
      have z := sign_plain c (sign_of hcS)
      exact ⟨c, q, rfl, z.2.1, z.2.2.1, z.2.2.2.1, (fun e => by subst e; rcases hs with h | h | h <;> cases h), fun _ => z.2.2.2.2.1⟩
theorem stretch_fault {w : List Nat} (hne : w ≠ []) (h : w.all isS = true) (hc : classify w = none) : FaultOk w := by
  have f := fine_of_S h
  refine ⟨fun n r hr => ?_, f.1⟩
  have ht := stretch_tok hne h (hr.ok .name)
  rw [hc] at ht
  cases w with
  | nil => exact absurd rfl hne
  | cons c q =>
    have hcS : isS c = true := by rw [List.all_cons, Bool.and_eq_true] at h; exact h.1
    have z := sign_plain c (sign_of hcS)
    rw [List.cons_append] at ht ⊢
    exact cutF_none z.2.1 z.2.2.1 z.2.2.2.1 ht
/-! numbers -/
theorem fig_head {c : Nat} {r : List Nat} (h : isF c = true) : classify (c :: r) = if isNum (c :: r) = true then some (.number, .n (val (c :: r))) else none := by
  have hs : c ∈ signsL := by
    unfold isF at h
    exact List.mem_append_right _ (of_decide_eq_true h)
  have hcL : isL c = false := by rw [let_fig c hs, h]; rfl
  have nk : ¬ (c :: r) ∈ keysL := fun hk => by have := key_head _ hk; rw [show (c :: r).headD 0 = c from rfl, hcL] at this; cases this
  have nn : isName (c :: r) = false := by unfold isName; rw [show (c :: r).headD 0 = c from rfl, hcL]; simp
  unfold classify
  rw [if_neg nk, if_neg (by rw [nn]; exact Bool.false_ne_true)]
theorem fig_of {d : Nat} (h : 48 ≤ d ∧ d ≤ 57) : isF d = true := by
  unfold isF figsL
  refine decide_eq_true ?_
  simp; omega
theorem numL_figs (n : Nat) : (numL n).all isF = true := List.all_eq_true.mpr fun c hc => fig_of (numL_digits n c hc)
theorem figs_S {w : List Nat} (h : w.all isF = true) : w.all isS = true := List.all_eq_true.mpr fun c hc => by
  unfold isS; rw [List.all_eq_true.mp h c hc]; simp
theorem numL_head : ∀ n : Nat, 0 < n → (numL n).headD 0 ≠ 48 := by
  intro n
  induction n using Nat.strongRecOn with
  | ind n ih =>
    intro h
    by_cases h10 : n < 10
    · rw [numL_lt h10]; show 48 + n ≠ 48; omega
    · rw [numL_step (by omega)]
      have := ih (n / 10) (by omega) (by omega)
      cases e : numL (n / 10) with
      | nil => exact absurd e (numL_ne _)
      | cons a l => rw [e] at this; exact this
theorem numL_zero : numL 0 = [48] := numL_lt (by decide)
theorem number_piece {n : Nat} (h : n < 2 ^ 59) : PieceOk (numL n) .number (.n n) := by
  refine stretch_piece (numL_ne n) (figs_S (numL_figs n)) (.inr (.inr rfl)) ?_
  have hv : val (numL n) = n := numL_val n
  have hl : (numL n).length ≤ 18 := numL_len (by decide) (Nat.lt_trans h (by decide))
  have hall := numL_figs n
  have hh := numL_head n
  have hnum : isNum (numL n) = true := by
    unfold isNum
    rw [hall, decide_eq_true hl]
    by_cases h0 : 0 < n
    · rw [if_neg (hh h0), hv]; simp; omega
    · have : n = 0 := by omega
      subst this
      rw [numL_zero]; rfl
  cases e : numL n with
  | nil => exact absurd e (numL_ne _)
  | cons c r =>
    rw [e] at hall hnum hv
    rw [List.all_cons, Bool.and_eq_true] at hall
    rw [fig_head hall.1, if_pos hnum, hv]
theorem figs_fault {c : Nat} {r : List Nat} (hc : isF c = true) (hr : r.all isS = true) (hn : isNum (c :: r) = false) : FaultOk (c :: r) := by
  refine stretch_fault (List.cons_ne_nil _ _) ?_ ?_
  · rw [List.all_cons, hr]; unfold isS; rw [hc]; simp
  · rw [fig_head hc, hn]; rfl
theorem big_fault {n : Nat} (h : 2 ^ 59 ≤ n) : FaultOk (numL n) := by
  have hall := numL_figs n
  have hv : val (numL n) = n := numL_val n
  have hh := numL_head n (by omega)
  cases e : numL n with
  | nil => exact absurd e (numL_ne _)
  | cons c r =>
    rw [e] at hall hv hh
    have ha := hall
    rw [List.all_cons, Bool.and_eq_true] at hall
    refine figs_fault hall.1 (figs_S hall.2) ?_
    unfold isNum
    rw [ha, if_neg hh, hv, decide_eq_false (show ¬ n ≤ 2 ^ 59 - 1 by omega)]; simp
/-! texts -/
theorem textP_dblL (r : List Nat) (hr : r.head? ≠ some 34) : ∀ (l acc : List Nat), l.all plain = true → textP acc (StrLaws.dbl 34 l ++ 34 :: r) = some (acc ++ l, r)
  | [], acc, _ => by
    show textP acc (34 :: r) = _
    rw [textP_end hr, List.append_nil]
  | c :: l, acc, h => by
    rw [List.all_cons, Bool.and_eq_true] at h
    by_cases hc : c = 34
    · subst hc
      have e : StrLaws.dbl 34 (34 :: l) = 34 :: 34 :: StrLaws.dbl 34 l := by simp [StrLaws.dbl]
      rw [e, List.cons_append, List.cons_append, textP_dbl, textP_dblL r hr l _ h.2, List.append_assoc]; rfl
    · have e : StrLaws.dbl 34 (c :: l) = c :: StrLaws.dbl 34 l := by simp [StrLaws.dbl, hc]
      rw [e, List.cons_append, textP_plain hc h.1, textP_dblL r hr l _ h.2, List.append_assoc]; rfl
theorem textP_dblN (r : List Nat) : ∀ (l acc : List Nat), l.all plain = true → textP acc (StrLaws.dbl 34 l ++ 10 :: r) = none
  | [], acc, _ => textP_bad (by decide) (by decide)
  | c :: l, acc, h => by
    rw [List.all_cons, Bool.and_eq_true] at h
    by_cases hc : c = 34
    · subst hc
      have e : StrLaws.dbl 34 (34 :: l) = 34 :: 34 :: StrLaws.dbl 34 l := by simp [StrLaws.dbl]
      rw [e, List.cons_append, List.cons_append, textP_dbl]; exact textP_dblN r l _ h.2
    · have e : StrLaws.dbl 34 (c :: l) = c :: StrLaws.dbl 34 l := by simp [StrLaws.dbl, hc]
      rw [e, List.cons_append, textP_plain hc h.1]; exact textP_dblN r l _ h.2
theorem dbl_plain : ∀ l : List Nat, l.all plain = true → (StrLaws.dbl 34 l).all plain = true ∧ (StrLaws.dbl 34 l).length ≤ 2 * l.length
  | [], _ => ⟨rfl, by simp [StrLaws.dbl]⟩
  | c :: l, h => by
    rw [List.all_cons, Bool.and_eq_true] at h
    have ih := dbl_plain l h.2
    by_cases hc : c = 34
    · subst hc
      have e : StrLaws.dbl 34 (34 :: l) = 34 :: 34 :: StrLaws.dbl 34 l := by simp [StrLaws.dbl]
      rw [e, List.all_cons, List.all_cons, ih.1, h.1]
      exact ⟨rfl, by simp only [List.length_cons]; omega⟩
    · have e : StrLaws.dbl 34 (c :: l) = c :: StrLaws.dbl 34 l := by simp [StrLaws.dbl, hc]
      rw [e, List.all_cons, ih.1, h.1]
      exact ⟨rfl, by simp only [List.length_cons]; omega⟩
theorem plain_no {l : List Nat} (h : l.all plain = true) : 10 ∉ l ∧ Fine l := ⟨fun hm => (by have := List.all_eq_true.mp h 10 hm; cases this), fun c hc => .inr (List.all_eq_true.mp h c hc)⟩
theorem text_piece {l : List Nat} (h : l.all plain = true) : PieceOk (34 :: (StrLaws.dbl 34 l ++ [34])) .text (.s l) := by
  have hp : (34 :: (StrLaws.dbl 34 l ++ [34])).all plain = true := by rw [List.all_cons, List.all_append, (dbl_plain l h).1]; rfl
  refine ⟨fun r hr => ?_, ⟨34, _, rfl, by decide, by decide, by decide, (by intro e; cases e), fun _ => (by decide)⟩, (plain_no hp).1, (plain_no hp).2⟩
  rw [List.cons_append, tok_cons, if_neg (by decide), if_pos rfl, List.append_assoc, List.singleton_append, textP_dblL r hr l [] h]; rfl
theorem text_fault {l : List Nat} (h : l.all plain = true) : FaultOk (34 :: (StrLaws.dbl 34 l ++ [10])) := by
  refine ⟨fun n r _ => ?_, fun c hc => ?_⟩
  · rw [List.cons_append]
    refine cutF_none (by decide) (by decide) (by decide) ?_
    rw [tok_cons, if_neg (by decide), if_pos rfl, List.append_assoc, List.singleton_append, textP_dblN r l [] h]; rfl
  · rcases List.mem_cons.mp hc with rfl | hc
    · exact .inr (by decide)
    · rcases List.mem_append.mp hc with hc | hc
      · exact .inr (List.all_eq_true.mp (dbl_plain l h).1 c hc)
      · exact .inl (List.mem_singleton.mp hc)
theorem quotes_fault : FaultOk [34, 34, 34, 10] := by
  refine ⟨fun n r _ => cutF_none (by decide) (by decide) (by decide) ?_, by unfold Fine; decide +kernel⟩
  show tok (34 :: 34 :: 34 :: 10 :: r) = none
  rw [tok_cons, if_neg (by decide), if_pos rfl, textP_dbl, textP_bad (by decide) (by decide)]; rfl
/-! marks -/
theorem mark_one {c : Nat} (h : c ∈ marksL) : PieceOk [c] .mark (.s [c]) := by
  have hm : ∀ c ∈ marksL, isS c = false ∧ c ≠ 34 ∧ c ≠ 10 ∧ c ≠ 32 ∧ c ≠ 35 ∧ plain c = true := by decide +kernel
  have z := hm c h
  refine ⟨fun r hr => ?_, ⟨c, [], rfl, z.2.2.1, z.2.2.2.1, z.2.2.2.2.1, fun _ => ⟨z.1, z.2.1⟩, fun e => absurd rfl e⟩, (by simp; exact fun e => z.2.2.1 e.symm), fun d hd => .inr (by rw [List.mem_singleton.mp hd]; exact z.2.2.2.2.2)⟩
  have h2 : two c r = false := by
    unfold two
    cases r with
    | nil => simp
    | cons d r => simp; intro _ e; exact hr (by rw [e]; rfl)
  show tok (c :: r) = _
  rw [tok_cons, if_neg (by rw [z.1]; exact Bool.false_ne_true), if_neg z.2.1, if_neg (by rw [h2]; exact Bool.false_ne_true), if_pos h]
theorem mark_two {c : Nat} (h : c ∈ [61, 33, 60, 62]) : PieceOk [c, 61] .mark (.s [c, 61]) := by
  have hm : ∀ c ∈ [61, 33, 60, 62], isS c = false ∧ c ≠ 34 ∧ c ≠ 10 ∧ c ≠ 32 ∧ c ≠ 35 ∧ plain c = true := by decide +kernel
  have z := hm c h
  refine ⟨fun r hr => ?_, ⟨c, [61], rfl, z.2.2.1, z.2.2.2.1, z.2.2.2.2.1, fun _ => ⟨z.1, z.2.1⟩, fun e => absurd rfl e⟩, (by simp; exact fun e => z.2.2.1 e.symm), fun d hd => .inr ?_⟩
  · have h2 : two c (61 :: r) = true := by
      unfold two; rw [decide_eq_true h]; rfl
    show tok (c :: 61 :: r) = _
    rw [tok_cons, if_neg (by rw [z.1]; exact Bool.false_ne_true), if_neg z.2.1, if_pos h2]; rfl
  · rcases List.mem_cons.mp hd with rfl | hd
    · exact z.2.2.2.2.2
    · rw [List.mem_singleton.mp hd]; decide
theorem odd_fault : ∀ c ∈ codes ":$&'?\x40\\^`|~!", FaultOk [c] := by
  have hm : ∀ c ∈ codes ":$&'?\x40\\^`|~!", isS c = false ∧ c ≠ 34 ∧ c ≠ 10 ∧ c ≠ 32 ∧ c ≠ 35 ∧ plain c = true ∧ c ∉ marksL := by decide +kernel
  intro c h
  have z := hm c h
  refine ⟨fun n r hr => cutF_none z.2.2.1 z.2.2.2.1 z.2.2.2.2.1 ?_, fun d hd => .inr (by rw [List.mem_singleton.mp hd]; exact z.2.2.2.2.2.1)⟩
  obtain ⟨d, q, rfl, hd⟩ := hr
  have h2 : two c (d :: q) = false := by
    unfold two
    simp; intro _ e; rcases hd with rfl | rfl | rfl <;> cases e
  show tok (c :: d :: q) = _
  rw [tok_cons, if_neg (by rw [z.1]; exact Bool.false_ne_true), if_neg z.2.1, if_neg (by rw [h2]; exact Bool.false_ne_true), if_neg z.2.2.2.2.2.2]
/-! spaces -/
theorem cut_note {b : List Nat} (hb : b.all plain = true) (n : Nat) (r : List Nat) : cutF n (35 :: (b ++ 10 :: r)) = cutF (n + 1) r := by
  have h10 := (plain_no hb).1
  rw [cutF_note, (tw_nl (p := notNl) (by decide) r b).1, (tw_nl (p := notNl) (by decide) r b).2, (tw_notNl h10).1, (tw_notNl h10).2, if_pos hb, List.nil_append, cutF_nl]
def spaceS : List String := [" ", "\n", "  ", " \n ", "# a \" note ) '\n", "#\n\n", " ##01\n"]
theorem space_ok : ∀ s ∈ spaceS, SpaceOk (codes s) := by
  have h1 : ∀ s ∈ spaceS, (∃ c q, codes s = c :: q ∧ (c = 32 ∨ c = 10 ∨ c = 35)) := by
    intro s hs
    simp only [spaceS, List.mem_cons, List.not_mem_nil, or_false] at hs
    rcases hs with rfl | rfl | rfl | rfl | rfl | rfl | rfl <;> exact ⟨_, _, rfl, by decide⟩
  have h2 : ∀ s ∈ spaceS, Fine (codes s) := by unfold Fine; decide +kernel
  intro s hs
  refine ⟨?_, h1 s hs, h2 s hs⟩
  simp only [spaceS, List.mem_cons, List.not_mem_nil, or_false] at hs
  intro n r
  rcases hs with rfl | rfl | rfl | rfl | rfl | rfl | rfl
  · exact cutF_sp n r
  · exact cutF_nl n r
  · show cutF n (32 :: 32 :: r) = _; rw [cutF_sp, cutF_sp]; rfl
  · show cutF n (32 :: 10 :: 32 :: r) = _; rw [cutF_sp, cutF_nl, cutF_sp]; rfl
  · exact cut_note (b := codes " a \" note ) '") (by decide +kernel) n r
  · show cutF n (35 :: ([] ++ 10 :: 10 :: r)) = _; rw [cut_note rfl, cutF_nl]; rfl
  · show cutF n (32 :: 35 :: (codes "#01" ++ 10 :: r)) = _; rw [cutF_sp, cut_note (by decide +kernel)]; rfl
end Wk
set_option maxRecDepth 100000
set_option maxHeartbeats 4000000
namespace Wk
open PySem L2 TL PyProof.Rows
open SX (S S_len)
section
variable {P : Program} {w : World} {K : PySem.W.Frag} {mg : Str → Option Value} {base : Heap}
theorem get_lit {s : String} {d n : Nat} (h : d < n) (hn : (codes s).length = n) : ∃ c ∈ codes s, (codes s)[d]? = some c := by
  subst hn
  exact ⟨(codes s)[d], List.getElem_mem h, List.getElem?_eq_getElem h⟩
theorem sign_lit1 : ∀ c ∈ codes "(=!\"\"# \n<05a\n\" ", c = 10 ∨ plain c = true := by decide +kernel
def everyL : List Nat := signsL ++ codes " !\"#$&'()*+,-./:;<=>?\x40[\\]^`{|}~\n"
theorem every_ok : ∀ c ∈ everyL, c = 10 ∨ plain c = true := by decide +kernel
theorem every_len : everyL.length = 95 := by decide +kernel
theorem inner_lit : ∀ c ∈ codes "\"# ('}~a ,", plain c = true := by decide +kernel
abbrev s__law_sign : Stmt := top 30
theorem sc__law_sign : FnScope ["flow", "every"] ["flow"] (defScope s__law_sign) := ⟨rfl, rfl, rfl, by decide +kernel, rfl, by decide +kernel, by decide +kernel⟩
def sp_sign : Sp := fun vs H Q _ => ∃ (a : Addr), vs = [.ref a] ∧ Flow H a ∧ ∀ H' (c : Nat), (c = 10 ∨ plain c = true) → But a H H' → Flow H' a → Q (.str (S [c])) H'
theorem ok_sign (T : Txt K mg) {f : Addr} {fd : FuncData} (F : Fun K "_law_sign" "_law_sign" s__law_sign f fd) (D__law_draw : Def P w K mg base CX0 "_law_draw" ["flow", "many"] 2 sp_draw) (D__law_signs : Def P w K mg base CX0 "_law_signs" [] 1 sp_signs) : FnOk P w K mg base CX0 3 f fd ["flow"] sp_sign := by
  refine F.ok sc__law_sign (fun vs H Q E h => ?_) (fun cdv A outer s H vs Q E hr h => ?_)
  · obtain ⟨a, rfl, _⟩ := h; rfl
  obtain ⟨a, rfl, fl, q⟩ := h
  refine ⟨_, (pss_cons (ps_if (pt_cmpR op_gt (pe_call D__law_draw.ok (hr.mono (by omega)) rfl D__law_draw.g D__law_draw.k D__law_draw.b .nil pass0 (pa_cons (pv 0) (pa_cons pe_int pa_nil))) pe_int (nomark _)) (pss_one (ps_ret (pe_ix ix_str pe_str (pe_call D__law_draw.ok (hr.mono (by omega)) rfl D__law_draw.g D__law_draw.k D__law_draw.b .nil pass0 (pa_cons (pv 0) (pa_cons pe_int pa_nil))) (fun _ _ => rfl)))) pss_nil)
    (pss_cons (ps_set (i := 1) sc__law_sign.nd rfl (Or.inl rfl) (pe_op op_add_str (pe_call0 D__law_signs.ok (hr.mono (by omega)) rfl D__law_signs.g D__law_signs.k D__law_signs.b .nil pass0) pe_str))
    (pss_one (ps_ret (pe_ix ix_str (pv 1) (pe_call D__law_draw.ok (hr.mono (by omega)) rfl D__law_draw.g D__law_draw.k D__law_draw.b .nil pass0 (pa_cons (pv 0) (pa_cons (pe_callB call_len_str rfl T.n_len boot_len (pa_cons (pv 1) pa_nil)) pa_nil))) (fun _ _ => rfl)))))), ?_⟩
  have hz := line_eq
  refine ⟨_, rfl, a, 3, rfl, by decide, by decide, fl, fun H1 d1 _ b1 f1 => ?_⟩
  refine ⟨_, _, rfl, rfl, _, rfl, ?_⟩
  refine ited (fun h1 => ?_) (fun h1 => ?_)
  · refine ⟨_, rfl, a, 15, rfl, by decide, by decide, f1, fun H2 d2 l2 b2 f2 => ?_⟩
    obtain ⟨c, hm, hc⟩ := get_lit (s := "(=!\"\"# \n<05a\n\" ") l2 rfl
    refine ⟨S (codes "(=!\"\"# \n<05a\n\" "), _, c, congrArg V.str (S_of _), rfl, (by rw [S_len]; show 15 ≤ _; omega), atI_nat hc, ?_⟩
    exact q _ c (sign_lit1 c hm) (b1.trans b2) f2
  refine go_next ?_
  dsimp only
  refine ⟨rfl, S signsL, _, rfl, rfl, ?_, ?_⟩
  · rw [S_len, S_of, S_len]; show 63 + 32 ≤ _; omega
  have e : (S signsL ++ Str.ofString " !\"#$&'()*+,-./:;<=>?\x40[\\]^`{|}~\n" : Str) = S everyL := by rw [S_of]; exact S_app _ _
  rw [e]
  refine ⟨_, rfl, _, rfl, _, rfl, S everyL, rfl, (by rw [S_len, every_len]; omega), a, 95, (by rw [S_len, every_len]; rfl), by decide, by decide, f1, fun H2 d2 l2 b2 f2 => ?_⟩
  have hk : d2 < everyL.length := by rw [every_len]; exact l2
  exact ⟨S everyL, _, everyL[d2], rfl, rfl, (by rw [S_len, every_len]; omega), atI_nat (List.getElem?_eq_getElem hk), q _ _ (every_ok _ (List.getElem_mem hk)) (b1.trans b2) f2⟩
abbrev s__law_inner : Stmt := top 36
theorem sc__law_inner : FnScope ["flow", "inner", "k"] ["flow"] (defScope s__law_inner) := ⟨rfl, rfl, rfl, by decide +kernel, rfl, by decide +kernel, by decide +kernel⟩
def sp_inner : Sp := fun vs H Q _ => ∃ (a : Addr), vs = [.ref a] ∧ Flow H a ∧ ∀ H' (l : List Nat), l.all plain = true → l.length ≤ 8 → But a H H' → Flow H' a → Q (.str (S l)) H'
theorem ok_inner (T : Txt K mg) {f : Addr} {fd : FuncData} (F : Fun K "_law_inner" "_law_inner" s__law_inner f fd) (D__law_draw : Def P w K mg base CX0 "_law_draw" ["flow", "many"] 2 sp_draw) : FnOk P w K mg base CX0 3 f fd ["flow"] sp_inner := by
  refine F.ok sc__law_inner (fun vs H Q E h => ?_) (fun cdv A outer s H vs Q E hr h => ?_)
  · obtain ⟨a, rfl, _⟩ := h; rfl
  obtain ⟨a, rfl, fl, q⟩ := h
  refine ⟨_, (pss_cons (ps_set (i := 1) sc__law_inner.nd rfl (Or.inl rfl) pe_str)
    (pss_cons (ps_for PassesOwn.never rfl (pi_range1 rfl T.n_range (pa_cons (pe_call D__law_draw.ok (hr.mono (by omega)) rfl D__law_draw.g D__law_draw.k D__law_draw.b .nil pass0 (pa_cons (pv 0) (pa_cons pe_int pa_nil))) pa_nil)) (pg_name (i := 2) sc__law_inner.nd rfl (Or.inl rfl)) (pss_one (ps_set (i := 1) sc__law_inner.nd rfl (Or.inl rfl) (pe_op op_add_str (pv 1) (pe_ix ix_str pe_str (pe_call D__law_draw.ok (hr.mono (by omega)) rfl D__law_draw.g D__law_draw.k D__law_draw.b .nil pass0 (pa_cons (pv 0) (pa_cons pe_int pa_nil))) (fun _ _ => rfl))))))
    (pss_one (ps_ret (pv 1))))), ?_⟩
  have hz := line_eq
  refine ⟨_, rfl, a, 9, rfl, by decide, by decide, fl, fun H1 d1 l1 b1 f1 => ?_⟩
  refine ⟨_, rfl, by omega, by omega, ?_⟩
  rw [Int.toNat_natCast]
  refine for_range (fun j σ H' => But a H H' ∧ Flow H' a ∧ ∃ (l : List Nat) (x : Option V), l.all plain = true ∧ l.length = j ∧ σ = [some (.ref a), some (.str (S l)), x]) ⟨b1, f1, [], none, rfl, rfl, rfl⟩ ?_ ?_
  · rintro j σ H' hj ⟨b, f', l, x, hl, hj2, rfl⟩
    refine ⟨_, rfl, _, rfl, a, 10, rfl, by decide, by decide, f', fun H2 d2 l2 b2 f2 => ?_⟩
    obtain ⟨c, hm, hc⟩ := get_lit (s := "\"# ('}~a ,") l2 rfl
    refine ⟨S (codes "\"# ('}~a ,"), _, c, congrArg V.str (S_of _), rfl, (by rw [S_len]; show 10 ≤ _; omega), atI_nat hc, _, _, rfl, rfl, ?_, ?_⟩
    · rw [S_len]; show _ + 1 ≤ _; omega
    have e : (S l ++ ⟨#[c]⟩ : Str) = S (l ++ [c]) := S_app _ _
    dsimp only
    rw [e]
    exact ⟨b.trans b2, f2, l ++ [c], _, by rw [List.all_append, hl, List.all_cons, inner_lit c hm]; rfl, by rw [List.length_append, hj2]; rfl, rfl⟩
  · rintro σ H' ⟨b, f', l, x, hl, hj2, rfl⟩
    exact ⟨_, rfl, q _ l hl (by omega) b f'⟩
end
end Wk
set_option maxRecDepth 100000
set_option maxHeartbeats 4000000
namespace Wk
open PySem L2 TL PyProof.Rows
open SX (S S_len)
section
variable {P : Program} {w : World} {K : PySem.W.Frag} {mg : Str → Option Value} {base : Heap}
theorem key_more : ∀ k ∈ keysL, isName (k ++ [95]) = true := by decide +kernel
theorem sign_isS : ∀ c ∈ signsL, isS c = true := by decide +kernel
theorem sign_isL : ∀ c ∈ lettersL, isL c = true := by decide +kernel
theorem signs_len : signsL.length = 63 := rfl
theorem letters_len : lettersL.length = 53 := rfl
theorem six {d : Nat} (h : d < 6) : ∃ n : Nat, n ≤ 19 ∧ ([V.int 0, V.int 1, V.int 2, V.int 5, V.int 19, V.int 18] : List V)[d]? = some (.int (n : Int)) := by
  rcases d with _ | _ | _ | _ | _ | _ | d
  · exact ⟨0, by decide, rfl⟩
  · exact ⟨1, by decide, rfl⟩
  · exact ⟨2, by decide, rfl⟩
  · exact ⟨5, by decide, rfl⟩
  · exact ⟨19, by decide, rfl⟩
  · exact ⟨18, by decide, rfl⟩
  · omega
abbrev s__law_name : Stmt := top 37
theorem sc__law_name : FnScope ["flow", "word", "k"] ["flow"] (defScope s__law_name) := ⟨rfl, rfl, rfl, by decide +kernel, rfl, by decide +kernel, by decide +kernel⟩
def sp_name : Sp := fun vs H Q _ => ∃ (a : Addr), vs = [.ref a] ∧ Flow H a ∧ ∀ H' (l : List Nat), isName l = true → But a H H' → Flow H' a → Q (.str (S l)) H'
theorem ok_lname (T : Txt K mg) {f : Addr} {fd : FuncData} (F : Fun K "_law_name" "_law_name" s__law_name f fd) (D__law_draw : Def P w K mg base CX0 "_law_draw" ["flow", "many"] 2 sp_draw) (D__law_signs : Def P w K mg base CX0 "_law_signs" [] 1 sp_signs) (D__law_keys : Def P w K mg base CX0 "_law_keys" [] 1 sp_keys) : FnOk P w K mg base CX0 3 f fd ["flow"] sp_name := by
  refine F.ok sc__law_name (fun vs H Q E h => ?_) (fun cdv A outer s H vs Q E hr h => ?_)
  · obtain ⟨a, rfl, _⟩ := h; rfl
  obtain ⟨a, rfl, fl, q⟩ := h
  refine ⟨_, (pss_cons (ps_set (i := 1) sc__law_name.nd rfl (Or.inl rfl) (pe_ix ix_str (pe_call0 D__law_signs.ok (hr.mono (by omega)) rfl D__law_signs.g D__law_signs.k D__law_signs.b .nil pass0) (pe_call D__law_draw.ok (hr.mono (by omega)) rfl D__law_draw.g D__law_draw.k D__law_draw.b .nil pass0 (pa_cons (pv 0) (pa_cons pe_int pa_nil))) (fun _ _ => rfl)))
    (pss_cons (ps_for PassesOwn.never rfl (pi_range1 rfl T.n_range (pa_cons (pe_ix ix_list (pe_lst (pa_cons pe_int (pa_cons pe_int (pa_cons pe_int (pa_cons pe_int (pa_cons pe_int (pa_cons pe_int pa_nil))))))) (pe_call D__law_draw.ok (hr.mono (by omega)) rfl D__law_draw.g D__law_draw.k D__law_draw.b .nil pass0 (pa_cons (pv 0) (pa_cons pe_int pa_nil))) (fun _ _ => rfl)) pa_nil)) (pg_name (i := 2) sc__law_name.nd rfl (Or.inl rfl)) (pss_one (ps_set (i := 1) sc__law_name.nd rfl (Or.inl rfl) (pe_op op_add_str (pv 1) (pe_ix ix_str (pe_call0 D__law_signs.ok (hr.mono (by omega)) rfl D__law_signs.g D__law_signs.k D__law_signs.b .nil pass0) (pe_call D__law_draw.ok (hr.mono (by omega)) rfl D__law_draw.g D__law_draw.k D__law_draw.b .nil pass0 (pa_cons (pv 0) (pa_cons pe_int pa_nil))) (fun _ _ => rfl))))))
    (pss_one (ps_ret (pe_ifExp (pt_cmpR op_notIn_seq (pv 1) (pe_call0 D__law_keys.ok (hr.mono (by omega)) rfl D__law_keys.g D__law_keys.k D__law_keys.b .nil pass0) rfl) (pv 1) (pe_op op_add_str (pv 1) pe_str)))))), ?_⟩
  have hz := line_eq
  refine ⟨rfl, _, rfl, a, 53, rfl, by decide, by decide, fl, fun H1 d1 l1 b1 f1 => ?_⟩
  have hk1 : d1 < lettersL.length := by rw [letters_len]; exact l1
  have hk1' : d1 < signsL.length := by rw [signs_len]; omega
  have eg : signsL[d1]? = some lettersL[d1] := by
    unfold signsL
    rw [List.getElem?_append_left hk1, List.getElem?_eq_getElem hk1]
  have hL := sign_isL _ (List.getElem_mem hk1)
  generalize lettersL[d1] = c0 at eg hL
  refine ⟨S signsL, _, c0, rfl, rfl, (by rw [S_len, signs_len]; omega), atI_nat eg, ?_⟩
  refine ⟨by show 6 ≤ _; omega, fun p1 n1 => ?_⟩
  have f1' : Flow (upd H1 p1 (.lst [V.int 0, V.int 1, V.int 2, V.int 5, V.int 19, V.int 18])) a := f1.mono (same_new n1 _)
  refine ⟨_, rfl, a, 6, rfl, by decide, by decide, f1', fun H2 d2 l2 b2 f2 => ?_⟩
  obtain ⟨n, hn, e6⟩ := six l2
  have hap : p1 ≠ a := by
    obtain ⟨_, _, _, _, _, h, _⟩ := f1
    exact (ne_of_none h n1).symm
  refine ⟨p1, _, _, _, rfl, rfl, SqL.of (b2.o _ _ hap upd_same), atI_nat e6, ?_⟩
  refine ⟨_, rfl, by omega, by omega, ?_⟩
  rw [Int.toNat_natCast]
  have bb : But a H H2 := (b1.trans (But.same (same_new n1 _))).trans b2
  refine for_range (fun j σ H' => But a H H' ∧ Flow H' a ∧ ∃ (l : List Nat) (x : Option V), l.all isS = true ∧ l.length = j ∧ σ = [some (.ref a), some (.str (S (c0 :: l))), x]) ⟨bb, f2, [], none, rfl, rfl, rfl⟩ ?_ ?_
  · rintro j σ H' hj ⟨b, f', l, x, hl, hj2, rfl⟩
    refine ⟨_, rfl, rfl, _, rfl, a, 63, rfl, by decide, by decide, f', fun H2 d2 l2 b2 f2 => ?_⟩
    have hk : d2 < signsL.length := by rw [signs_len]; exact l2
    refine ⟨S signsL, _, signsL[d2], rfl, rfl, (by rw [S_len, signs_len]; omega), atI_nat (List.getElem?_eq_getElem hk), S (c0 :: l), S [signsL[d2]], rfl, rfl, ?_, ?_⟩
    · rw [S_len, S_len]; show l.length + 1 + 1 ≤ _; omega
    rw [show (S (c0 :: l) ++ S [signsL[d2]] : Str) = S (c0 :: l ++ [signsL[d2]]) from S_app _ _]
    exact ⟨b.trans b2, f2, l ++ [signsL[d2]], _, by rw [List.all_append, hl, List.all_cons, sign_isS _ (List.getElem_mem hk)]; rfl, by rw [List.length_append, hj2]; rfl, rfl⟩
  · rintro σ H' ⟨b, f', l, x, hl, hj2, rfl⟩
    refine ⟨_, rfl, rfl, fun H3 p3 n3 g3 hp3 => ?_⟩
    refine ⟨p3, _, rfl, .inl (SqL.of hp3), rfl, flat_keys _, _, rfl, ?_⟩
    rw [inV_keys]
    refine itedn (fun h2 => ?_) (fun h2 => ?_)
    · refine ⟨_, rfl, q _ _ ?_ (b.trans (But.same g3)) (f'.mono g3)⟩
      have hall : (c0 :: l).all isS = true := by rw [List.all_cons, hl]; unfold isS; rw [hL]; rfl
      unfold isName
      rw [hall, show (c0 :: l).headD 0 = c0 from rfl, hL, decide_eq_false h2, decide_eq_true (show 1 ≤ (c0 :: l).length by simp), decide_eq_true (show (c0 :: l).length ≤ 20 by rw [List.length_cons]; omega)]; rfl
    · refine ⟨_, rfl, S (c0 :: l), S [95], rfl, congrArg V.str (S_of "_"), ?_, ?_⟩
      · rw [S_len, S_len]; show l.length + 1 + 1 ≤ _; omega
      rw [show (S (c0 :: l) ++ S [95] : Str) = S (c0 :: l ++ [95]) from S_app _ _]
      exact q _ _ (key_more _ h2) (b.trans (But.same g3)) (f'.mono g3)
abbrev s__law_space : Stmt := top 40
theorem sc__law_space : FnScope ["flow"] ["flow"] (defScope s__law_space) := ⟨rfl, rfl, rfl, by decide +kernel, rfl, by decide +kernel, by decide +kernel⟩
def sp_space : Sp := fun vs H Q _ => ∃ (a : Addr), vs = [.ref a] ∧ Flow H a ∧ ∀ H' (l : List Nat), SpaceOk l → l.length ≤ 30 → But a H H' → Flow H' a → Q (.str (S l)) H'
theorem space_at {d : Nat} (h : d < 7) : ∃ s ∈ spaceS, (codes s).length ≤ 30 ∧ (spaceS.map fun s => V.str (Str.ofString s))[d]? = some (.str (S (codes s))) := by
  have hl : ∀ s ∈ spaceS, (codes s).length ≤ 30 := by decide +kernel
  have h : d < spaceS.length := h
  refine ⟨spaceS[d], List.getElem_mem h, hl _ (List.getElem_mem h), ?_⟩
  rw [List.getElem?_map, List.getElem?_eq_getElem h, ← S_of]; rfl
theorem ok_space (T : Txt K mg) {f : Addr} {fd : FuncData} (F : Fun K "_law_space" "_law_space" s__law_space f fd) (D__law_draw : Def P w K mg base CX0 "_law_draw" ["flow", "many"] 2 sp_draw) : FnOk P w K mg base CX0 3 f fd ["flow"] sp_space := by
  refine F.ok sc__law_space (fun vs H Q E h => ?_) (fun cdv A outer s H vs Q E hr h => ?_)
  · obtain ⟨a, rfl, _⟩ := h; rfl
  obtain ⟨a, rfl, fl, q⟩ := h
  refine ⟨_, (pss_one (ps_ret (pe_ix ix_list (pe_lst (pa_cons pe_str (pa_cons pe_str (pa_cons pe_str (pa_cons pe_str (pa_cons pe_str (pa_cons pe_str (pa_cons pe_str pa_nil)))))))) (pe_call D__law_draw.ok (hr.mono (by omega)) rfl D__law_draw.g D__law_draw.k D__law_draw.b .nil pass0 (pa_cons (pv 0) (pa_cons pe_int pa_nil))) (fun _ _ => rfl)))), ?_⟩
  have hz := line_eq
  refine ⟨by show 7 ≤ _; omega, fun p1 n1 => ?_⟩
  have f1' : Flow (upd H p1 (.lst (spaceS.map fun s => V.str (Str.ofString s)))) a := fl.mono (same_new n1 _)
  refine ⟨_, rfl, a, 7, rfl, by decide, by decide, f1', fun H2 d2 l2 b2 f2 => ?_⟩
  have hap : p1 ≠ a := by
    obtain ⟨_, _, _, _, _, h, _⟩ := fl
    exact (ne_of_none h n1).symm
  obtain ⟨s, hs, hl, e⟩ := space_at l2
  exact ⟨p1, _, _, _, rfl, rfl, SqL.of (b2.o _ _ hap upd_same), atI_nat e, q _ _ (space_ok s hs) hl ((But.same (same_new n1 _)).trans b2) f2⟩
end
end Wk
set_option maxRecDepth 100000
set_option maxHeartbeats 4000000
namespace Wk
open PySem L2 TL PyProof.Rows
open SX (S S_len)
section
variable {P : Program} {w : World} {K : PySem.W.Frag} {mg : Str → Option Value} {base : Heap}
theorem Flow.ne {H : Hp} {a p : Addr} (f : Flow H a) (n : H p = none) : p ≠ a := by
  obtain ⟨_, _, _, _, _, h, _⟩ := f
  exact (ne_of_none h n).symm
theorem replD (l : List Nat) : Txt.replace (S l) ("\"" : Str) ("\"\"" : Str) = S (StrLaws.dbl 34 l) := replace_dbl (S l) _ _ 34 q_lit dq_lit
def markS : List String := ["(", ")", "[", "]", "{", "}", ",", ";", ".", "=", "==", "!=", "<", "<=", ">", ">=", "+", "-", "*", "/"]
theorem mark_kinds : ∀ s ∈ markS, (∃ c ∈ marksL, codes s = [c]) ∨ (∃ c ∈ [61, 33, 60, 62], codes s = [c, 61]) := by decide +kernel
theorem mark_at {d : Nat} (h : d < 20) : ∃ l : List Nat, PieceOk l .mark (.s l) ∧ l.length ≤ 2 ∧ (markS.map fun s => V.str (Str.ofString s))[d]? = some (.str (S l)) := by
  have h : d < markS.length := h
  have hm := List.getElem_mem h
  refine ⟨codes markS[d], ?_, ?_, ?_⟩
  · rcases mark_kinds _ hm with ⟨c, hc, e⟩ | ⟨c, hc, e⟩
    · rw [e]; exact mark_one hc
    · rw [e]; exact mark_two hc
  · rcases mark_kinds _ hm with ⟨c, hc, e⟩ | ⟨c, hc, e⟩ <;> rw [e] <;> simp
  · rw [List.getElem?_map, List.getElem?_eq_getElem h, ← S_of]; rfl
theorem key_props : ∀ k ∈ keysL, k.all isS = true ∧ k ≠ [] ∧ k.length ≤ 8 := by decide +kernel
theorem key_piece {k : List Nat} (h : k ∈ keysL) : PieceOk k .key (.s k) := by
  have z := key_props k h
  refine stretch_piece z.2.1 z.1 (.inr (.inl rfl)) ?_
  unfold classify
  rw [if_pos h]
theorem name_props {l : List Nat} (h : isName l = true) : l ≠ [] ∧ l.length ≤ 20 ∧ l ∉ keysL ∧ isL (l.headD 0) = true ∧ l.all isS = true := by
  have h' := h
  unfold isName at h'
  simp only [Bool.and_eq_true, decide_eq_true_eq, Bool.not_eq_true', decide_eq_false_iff_not] at h'
  refine ⟨?_, h'.1.1.1.2, h'.1.1.2, h'.1.2, h'.2⟩
  intro e; rw [e] at h'; exact absurd h'.1.1.1.1 (by decide)
theorem name_piece {l : List Nat} (h : isName l = true) : PieceOk l .name (.s l) := by
  have z := name_props h
  refine stretch_piece z.1 z.2.2.2.2 (.inl rfl) ?_
  unfold classify
  rw [if_neg z.2.2.1, if_pos h]
theorem three_n {d : Nat} (h : d < 3) : ∃ n : Nat, 0 < n ∧ n ≤ 2 ^ 59 ∧ ([V.int 2, V.int 300, V.int (2 ^ (59 : Int).toNat)] : List V)[d]? = some (.int (n : Int)) := by
  rcases d with _ | _ | _ | d
  · exact ⟨2, by decide, by decide, rfl⟩
  · exact ⟨300, by decide, by decide, rfl⟩
  · exact ⟨2 ^ 59, by decide, by decide, rfl⟩
  · omega
theorem two_n {d n : Nat} (h : d < 2) (hn : n < 2 ^ 59) : ∃ m : Nat, m < 2 ^ 59 ∧ ([V.int (n : Int), V.int (2 ^ (59 : Int).toNat - 1 - (n : Int))] : List V)[d]? = some (.int (m : Int)) := by
  rcases d with _ | _ | d
  · exact ⟨n, hn, rfl⟩
  · refine ⟨2 ^ 59 - 1 - n, by omega, ?_⟩
    show some (V.int _) = _
    refine congrArg (fun z => some (V.int z)) ?_
    have e59 : (2 : Int) ^ (59 : Int).toNat = 576460752303423488 := by decide
    rw [e59]; omega
  · omega
theorem nat_log {n : Nat} (h : n < 2 ^ 300) : ((n : Int)).natAbs.log2 < 1920 := by
  rw [Int.natAbs_natCast]
  by_cases h0 : n = 0
  · subst h0; decide
  · have := (Nat.log2_lt h0).mpr h
    omega
abbrev s__law_piece : Stmt := top 38
theorem sc__law_piece : FnScope ["flow", "kind", "marks", "sign", "inner", "number", "word"] ["flow"] (defScope s__law_piece) := ⟨rfl, rfl, rfl, by decide +kernel, rfl, by decide +kernel, by decide +kernel⟩
def sp_piece (K : PySem.W.Frag) : Sp := fun vs H Q _ => ∃ (a : Addr), vs = [.ref a] ∧ Flow H a ∧ ∀ H' p (l : List Nat) (so : So) (wd : Wd), PieceOk l so wd → l.length ≤ 100 → But a H H' → Flow H' a → H' p = some (.tup [.str (S l), .str (soS so), wdV wd]) → Q (.ref p) H'
theorem ok_piece (T : Txt K mg) {f : Addr} {fd : FuncData} (F : Fun K "_law_piece" "_law_piece" s__law_piece f fd) (D__law_draw : Def P w K mg base CX0 "_law_draw" ["flow", "many"] 2 sp_draw) (D__law_keys : Def P w K mg base CX0 "_law_keys" [] 1 sp_keys) (D__law_inner : Def P w K mg base CX0 "_law_inner" ["flow"] 3 sp_inner) (D__law_name : Def P w K mg base CX0 "_law_name" ["flow"] 3 sp_name) : FnOk P w K mg base CX0 4 f fd ["flow"] (sp_piece K) := by
  refine F.ok sc__law_piece (fun vs H Q E h => ?_) (fun cdv A outer s H vs Q E hr h => ?_)
  · obtain ⟨a, rfl, _⟩ := h; rfl
  obtain ⟨a, rfl, fl, q⟩ := h
  refine ⟨_, (pss_cons (ps_set (i := 1) sc__law_piece.nd rfl (Or.inl rfl) (pe_call D__law_draw.ok (hr.mono (by omega)) rfl D__law_draw.g D__law_draw.k D__law_draw.b .nil pass0 (pa_cons (pv 0) (pa_cons pe_int pa_nil))))
    (pss_cons (ps_if (pt_cmpR op_eq (pv 1) pe_int (nomark _)) (pss_cons (ps_set (i := 2) sc__law_piece.nd rfl (Or.inl rfl) (pe_lst (pa_cons pe_str (pa_cons pe_str (pa_cons pe_str (pa_cons pe_str (pa_cons pe_str (pa_cons pe_str (pa_cons pe_str (pa_cons pe_str (pa_cons pe_str (pa_cons pe_str (pa_cons pe_str (pa_cons pe_str (pa_cons pe_str (pa_cons pe_str (pa_cons pe_str (pa_cons pe_str (pa_cons pe_str (pa_cons pe_str (pa_cons pe_str (pa_cons pe_str pa_nil))))))))))))))))))))))
      (pss_cons (ps_set (i := 3) sc__law_piece.nd rfl (Or.inl rfl) (pe_ix ix_list (pv 2) (pe_call D__law_draw.ok (hr.mono (by omega)) rfl D__law_draw.g D__law_draw.k D__law_draw.b .nil pass0 (pa_cons (pv 0) (pa_cons pe_int pa_nil))) (fun _ _ => rfl)))
      (pss_one (ps_ret (pe_tup (pa_cons (pv 3) (pa_cons pe_str (pa_cons (pv 3) pa_nil)))))))) pss_nil)
    (pss_cons (ps_if (pt_cmpR op_eq (pv 1) pe_int (nomark _)) (pss_cons (ps_set (i := 4) sc__law_piece.nd rfl (Or.inl rfl) (pe_call D__law_inner.ok (hr.mono (by omega)) rfl D__law_inner.g D__law_inner.k D__law_inner.b .nil pass0 (pa_cons (pv 0) pa_nil)))
      (pss_one (ps_ret (pe_tup (pa_cons (pe_op op_add_str (pe_addT op_add_str (CwR.pet_replC (pv 4))) pe_str) (pa_cons pe_str (pa_cons (pv 4) pa_nil))))))) pss_nil)
    (pss_cons (ps_if (pt_cmpR op_eq (pv 1) pe_int (nomark _)) (pss_cons (ps_set (i := 5) sc__law_piece.nd rfl (Or.inl rfl) (pe_call D__law_draw.ok (hr.mono (by omega)) rfl D__law_draw.g D__law_draw.k D__law_draw.b .nil pass0 (pa_cons (pv 0) (pa_cons (pe_ix ix_list (pe_lst (pa_cons pe_int (pa_cons pe_int (pa_cons (pe_op op_pow pe_int pe_int) pa_nil)))) (pe_call D__law_draw.ok (hr.mono (by omega)) rfl D__law_draw.g D__law_draw.k D__law_draw.b .nil pass0 (pa_cons (pv 0) (pa_cons pe_int pa_nil))) (fun _ _ => rfl)) pa_nil))))
      (pss_cons (ps_set (i := 5) sc__law_piece.nd rfl (Or.inl rfl) (pe_ix ix_list (pe_lst (pa_cons (pv 5) (pa_cons (pe_op op_sub (pe_op op_sub (pe_op op_pow pe_int pe_int) pe_int) (pv 5)) pa_nil))) (pe_call D__law_draw.ok (hr.mono (by omega)) rfl D__law_draw.g D__law_draw.k D__law_draw.b .nil pass0 (pa_cons (pv 0) (pa_cons pe_int pa_nil))) (fun _ _ => rfl)))
      (pss_one (ps_ret (pe_tup (pa_cons (pe_callTy call_str_int rfl T.n_str boot_str (pa_cons (pv 5) pa_nil)) (pa_cons pe_str (pa_cons (pv 5) pa_nil)))))))) pss_nil)
    (pss_cons (ps_if (pt_cmpR op_eq (pv 1) pe_int (nomark _)) (pss_cons (ps_set (i := 6) sc__law_piece.nd rfl (Or.inl rfl) (pe_ix ix_list (pe_call0 D__law_keys.ok (hr.mono (by omega)) rfl D__law_keys.g D__law_keys.k D__law_keys.b .nil pass0) (pe_call D__law_draw.ok (hr.mono (by omega)) rfl D__law_draw.g D__law_draw.k D__law_draw.b .nil pass0 (pa_cons (pv 0) (pa_cons pe_int pa_nil))) (fun _ _ => rfl)))
      (pss_one (ps_ret (pe_tup (pa_cons (pv 6) (pa_cons pe_str (pa_cons (pv 6) pa_nil))))))) pss_nil)
    (pss_cons (ps_set (i := 6) sc__law_piece.nd rfl (Or.inl rfl) (pe_call D__law_name.ok (hr.mono (by omega)) rfl D__law_name.g D__law_name.k D__law_name.b .nil pass0 (pa_cons (pv 0) pa_nil)))
    (pss_one (ps_ret (pe_tup (pa_cons (pv 6) (pa_cons pe_str (pa_cons (pv 6) pa_nil)))))))))))), ?_⟩
  have hz := line_eq
  refine ⟨_, rfl, a, 6, rfl, by decide, by decide, fl, fun H1 d1 l1 b1 f1 => ?_⟩
  have kind0 := b1
  -- 0
  refine ⟨_, rfl, rfl, _, rfl, ?_⟩
  refine ited (fun h1 => ?_) (fun h1 => ?_)
  · refine ⟨(by show 20 ≤ _; omega), fun p1 n1 => ?_⟩
    have f1' := f1.mono (same_new n1 (.lst (markS.map fun s => V.str (Str.ofString s))))
    refine ⟨_, rfl, _, rfl, a, 20, rfl, by decide, by decide, f1', fun H2 d2 l2 b2 f2 => ?_⟩
    obtain ⟨l, hl, hl2, e⟩ := mark_at l2
    refine ⟨p1, _, _, _, rfl, rfl, SqL.of (b2.o _ _ (f1.ne n1) upd_same), atI_nat e, ?_⟩
    refine ⟨_, rfl, _, rfl, three_ok, fun p np => ?_⟩
    exact q _ _ l .mark (.s l) hl (by omega) ((b1.trans (But.same (same_new n1 _))).trans (b2.trans (But.same (same_new np _)))) (f2.mono (same_new np _)) upd_same
  refine go_next ?_
  dsimp only
  -- 1
  refine ⟨_, rfl, rfl, _, rfl, ?_⟩
  refine ited (fun h1 => ?_) (fun h1 => ?_)
  · refine ⟨_, rfl, a, rfl, f1, fun H2 l hl hl2 b2 f2 => ?_⟩
    have hdl := (dbl_plain l hl).2
    refine ⟨_, rfl, S l, rfl, ?_, ?_⟩
    · rw [S_len, dq_lit, S_len]; show l.length + (l.length + 1) * 2 ≤ _; omega
    rw [replD]
    refine ⟨_, _, rfl, rfl, ?_, ?_⟩
    · rw [q_lit, S_len, S_len]; show 1 + _ ≤ _; omega
    refine ⟨_, _, rfl, rfl, ?_, ?_⟩
    · rw [q_lit, S_app, S_len, S_len]; show ([34] ++ StrLaws.dbl 34 l).length + 1 ≤ _; rw [List.length_append]; show 1 + _ + 1 ≤ _; omega
    have e : (Str.ofString "\"" ++ S (StrLaws.dbl 34 l) ++ Str.ofString "\"" : Str) = S (34 :: (StrLaws.dbl 34 l ++ [34])) := by
      rw [q_lit, S_app, S_app]; rfl
    rw [e]
    refine ⟨_, rfl, three_ok, fun p np => ?_⟩
    exact q _ _ _ .text (.s l) (text_piece hl) (by rw [List.length_cons, List.length_append, List.length_singleton]; omega) (b1.trans (b2.trans (But.same (same_new np _)))) (f2.mono (same_new np _)) upd_same
  refine go_next ?_
  dsimp only
  -- 2
  refine ⟨_, rfl, rfl, _, rfl, ?_⟩
  refine ited (fun h1 => ?_) (fun h1 => ?_)
  · refine ⟨_, rfl, _, _, rfl, rfl, ⟨by decide, by decide, by decide⟩, (by show 3 ≤ _; omega), fun p1 n1 => ?_⟩
    refine ⟨_, rfl, a, 3, rfl, by decide, by decide, f1.mono (same_new n1 _), fun H2 d2 l2 b2 f2 => ?_⟩
    obtain ⟨n, hn0, hn, e⟩ := three_n l2
    refine ⟨p1, _, _, _, rfl, rfl, SqL.of (b2.o _ _ (f1.ne n1) upd_same), atI_nat e, ?_⟩
    refine ⟨a, n, rfl, hn0, Nat.lt_of_le_of_lt hn (by decide), f2, fun H3 d3 l3 b3 f3 => ?_⟩
    refine ⟨_, rfl, _, _, rfl, rfl, ⟨by decide, by decide, by decide⟩, _, _, rfl, rfl, _, rfl, _, _, rfl, rfl, (by show 2 ≤ _; omega), fun p4 n4 => ?_⟩
    refine ⟨_, rfl, a, 2, rfl, by decide, by decide, f3.mono (same_new n4 _), fun H5 d5 l5 b5 f5 => ?_⟩
    obtain ⟨m, hm, e⟩ := two_n l5 (show d3 < 2 ^ 59 by omega)
    refine ⟨p4, _, _, _, rfl, rfl, SqL.of (b5.o _ _ (f3.ne n4) upd_same), atI_nat e, ?_⟩
    refine ⟨_, rfl, _, rfl, nat_log (Nat.lt_trans hm (by decide)), ?_⟩
    rw [SX.num_S]
    refine ⟨_, rfl, three_ok, fun p np => ?_⟩
    have bb : But a H H5 := ((b1.trans (But.same (same_new n1 _))).trans b2).trans ((b3.trans (But.same (same_new n4 _))).trans b5)
    exact q _ _ _ .number (.n m) (number_piece hm) (Nat.le_trans (numL_len (k := 18) (by decide) (Nat.lt_trans hm (by decide))) (by decide)) (bb.trans (But.same (same_new np _))) (f5.mono (same_new np _)) upd_same
  refine go_next ?_
  dsimp only
  -- 3
  refine ⟨_, rfl, rfl, _, rfl, ?_⟩
  refine ited (fun h1 => ?_) (fun h1 => ?_)
  · refine ⟨rfl, fun H2 p1 n1 g1 hp1 => ?_⟩
    refine ⟨_, rfl, a, 31, rfl, by decide, by decide, f1.mono g1, fun H3 d3 l3 b3 f3 => ?_⟩
    have hk : d3 < keysL.length := l3
    have hm := List.getElem_mem hk
    refine ⟨p1, _, _, V.str (S keysL[d3]), rfl, rfl, SqL.of (b3.o _ _ (f1.ne n1) hp1), atI_nat (by rw [List.getElem?_map, List.getElem?_eq_getElem hk]; rfl), ?_⟩
    refine ⟨_, rfl, _, rfl, three_ok, fun p np => ?_⟩
    exact q _ _ _ .key (.s keysL[d3]) (key_piece hm) (Nat.le_trans (key_props _ hm).2.2 (by decide)) ((b1.trans (But.same g1)).trans (b3.trans (But.same (same_new np _)))) (f3.mono (same_new np _)) upd_same
  refine go_next ?_
  dsimp only
  refine ⟨_, rfl, a, rfl, f1, fun H2 l hl b2 f2 => ?_⟩
  refine ⟨_, rfl, _, rfl, three_ok, fun p np => ?_⟩
  exact q _ _ l .name (.s l) (name_piece hl) (Nat.le_trans (name_props hl).2.1 (by decide)) (b1.trans (b2.trans (But.same (same_new np _)))) (f2.mono (same_new np _)) upd_same
end
end Wk
set_option maxRecDepth 100000
set_option maxHeartbeats 4000000
namespace Wk
open PySem L2 TL PyProof.Rows
open SX (S S_len)
theorem odd_at {d : Nat} (h : d < 12) : ∃ c, FaultOk [c] ∧ (codes ":$&'?\x40\\^`|~!")[d]? = some c := by
  obtain ⟨c, hc, e⟩ := get_lit (s := ":$&'?\x40\\^`|~!") h rfl
  exact ⟨c, odd_fault c hc, e⟩
theorem zeros_at {d : Nat} (h : d < 4) : ∃ l : List Nat, FaultOk l ∧ l.length ≤ 3 ∧ ([V.str "00", V.str "01", V.str "007", V.str "000"] : List V)[d]? = some (.str (S l)) := by
  rcases d with _ | _ | _ | _ | d
  · exact ⟨[48, 48], figs_fault (by decide) (by decide) (by decide), by decide, congrArg (fun z => some (V.str z)) (S_of _)⟩
  · exact ⟨[48, 49], figs_fault (by decide) (by decide) (by decide), by decide, congrArg (fun z => some (V.str z)) (S_of _)⟩
  · exact ⟨[48, 48, 55], figs_fault (by decide) (by decide) (by decide), by decide, congrArg (fun z => some (V.str z)) (S_of _)⟩
  · exact ⟨[48, 48, 48], figs_fault (by decide) (by decide) (by decide), by decide, congrArg (fun z => some (V.str z)) (S_of _)⟩
  · omega
theorem rep_S (n c : Nat) : (List.replicate n [c]).flatten = List.replicate n c := by
  induction n with
  | zero => rfl
  | succ n ih => rw [List.replicate_succ, List.flatten_cons, ih, List.replicate_succ]; rfl
theorem rep_all {p : Nat → Bool} {c : Nat} (h : p c = true) (n : Nat) : (List.replicate n c).all p = true := List.all_eq_true.mpr fun x hx => by rw [(List.mem_replicate.mp hx).2]; exact h
theorem long_fault : FaultOk (49 :: List.replicate 4999 48) := by
  refine figs_fault (by decide) (rep_all (by decide) _) ?_
  unfold isNum
  rw [decide_eq_false (show ¬ (49 :: List.replicate 4999 48).length ≤ 18 by rw [List.length_cons, List.length_replicate]; decide)]; rfl
theorem big_at {d : Nat} (h : d < 4) : ∃ l : List Nat, FaultOk l ∧ l.length ≤ 5000 ∧ ([V.str (S (numL (2 ^ 59))), V.str (S (numL (10 ^ 18))), V.str (S (numL (10 ^ 39))), V.str (S (49 :: List.replicate 4999 48))] : List V)[d]? = some (.str (S l)) := by
  rcases d with _ | _ | _ | _ | d
  · exact ⟨_, big_fault (n := 2 ^ 59) (by decide), Nat.le_trans (numL_len (k := 18) (by decide) (by decide)) (by decide), rfl⟩
  · exact ⟨_, big_fault (n := 10 ^ 18) (by decide), Nat.le_trans (numL_len (k := 19) (by decide) (by decide)) (by decide), rfl⟩
  · exact ⟨_, big_fault (n := 10 ^ 39) (by decide), Nat.le_trans (numL_len (k := 40) (by decide) (by decide)) (by decide), rfl⟩
  · exact ⟨_, long_fault, by rw [List.length_cons, List.length_replicate]; decide, rfl⟩
  · omega
theorem mixed_fault (n : Nat) {c : Nat} (hc : c ∈ codes "a_Z") : FaultOk (numL n ++ [c]) := by
  have hz : ∀ c ∈ codes "a_Z", isS c = true ∧ isF c = false := by decide +kernel
  have hall := numL_figs n
  cases e : numL n with
  | nil => exact absurd e (numL_ne _)
  | cons a r =>
    rw [e, List.all_cons, Bool.and_eq_true] at hall
    rw [List.cons_append]
    refine figs_fault hall.1 (by rw [List.all_append, figs_S hall.2, List.all_cons, (hz c hc).1]; rfl) ?_
    unfold isNum
    rw [List.all_cons, List.all_append, List.all_cons, (hz c hc).2]; simp
theorem zero_fault (n : Nat) : FaultOk (48 :: numL n) := by
  refine figs_fault (by decide) (figs_S (numL_figs n)) ?_
  unfold isNum
  rw [show (48 :: numL n).headD 0 = 48 from rfl, if_pos rfl, decide_eq_false (show ¬ (48 :: numL n = [48]) from fun e => numL_ne n (List.cons.inj e).2)]; simp
theorem long_key : ∀ k ∈ keysL, k.length ≤ 8 := by decide +kernel
theorem letter_fig {c : Nat} (h : isL c = true) : isS c = true ∧ isF c = false := by
  have hs : isS c = true := by unfold isS; rw [h]; rfl
  refine ⟨hs, ?_⟩
  have := let_fig c (sign_of hs)
  rw [h] at this
  cases e : isF c with
  | false => rfl
  | true => rw [e] at this; cases this
theorem qs_fault {c n : Nat} (h : isL c = true) (hn : 20 ≤ n) : FaultOk (c :: List.replicate n 113) := by
  have z := letter_fig h
  have hlen : (c :: List.replicate n 113).length = n + 1 := by rw [List.length_cons, List.length_replicate]
  refine stretch_fault (List.cons_ne_nil _ _) (by rw [List.all_cons, z.1, rep_all (by decide)]; rfl) ?_
  unfold classify
  rw [if_neg (fun hk => by have := long_key _ hk; rw [hlen] at this; omega)]
  have e1 : isName (c :: List.replicate n 113) = false := by
    unfold isName
    rw [hlen, decide_eq_false (show ¬ n + 1 ≤ 20 by omega)]; simp
  have e2 : isNum (c :: List.replicate n 113) = false := by
    unfold isNum
    rw [List.all_cons, z.2]; simp
  rw [e1, e2]; rfl
section
variable {P : Program} {w : World} {K : PySem.W.Frag} {mg : Str → Option Value} {base : Heap}
abbrev s__law_fault : Stmt := top 39
theorem sc__law_fault : FnScope ["flow", "kind"] ["flow"] (defScope s__law_fault) := ⟨rfl, rfl, rfl, by decide +kernel, rfl, by decide +kernel, by decide +kernel⟩
def sp_fault : Sp := fun vs H Q _ => ∃ (a : Addr), vs = [.ref a] ∧ Flow H a ∧ ∀ H' (l : List Nat), FaultOk l → l.length ≤ 5100 → But a H H' → Flow H' a → Q (.str (S l)) H'
theorem ok_fault (T : Txt K mg) {f : Addr} {fd : FuncData} (F : Fun K "_law_fault" "_law_fault" s__law_fault f fd) (D__law_draw : Def P w K mg base CX0 "_law_draw" ["flow", "many"] 2 sp_draw) (D__law_inner : Def P w K mg base CX0 "_law_inner" ["flow"] 3 sp_inner) (D__law_name : Def P w K mg base CX0 "_law_name" ["flow"] 3 sp_name) : FnOk P w K mg base CX0 4 f fd ["flow"] sp_fault := by
  refine F.ok sc__law_fault (fun vs H Q E h => ?_) (fun cdv A outer s H vs Q E hr h => ?_)
  · obtain ⟨a, rfl, _⟩ := h; rfl
  obtain ⟨a, rfl, fl, q⟩ := h
  refine ⟨_, (pss_cons (ps_set (i := 1) sc__law_fault.nd rfl (Or.inl rfl) (pe_call D__law_draw.ok (hr.mono (by omega)) rfl D__law_draw.g D__law_draw.k D__law_draw.b .nil pass0 (pa_cons (pv 0) (pa_cons pe_int pa_nil))))
    (pss_cons (ps_if (pt_cmpR op_eq (pv 1) pe_int (nomark _)) (pss_one (ps_ret (pe_ix ix_str pe_str (pe_call D__law_draw.ok (hr.mono (by omega)) rfl D__law_draw.g D__law_draw.k D__law_draw.b .nil pass0 (pa_cons (pv 0) (pa_cons pe_int pa_nil))) (fun _ _ => rfl)))) pss_nil)
    (pss_cons (ps_if (pt_cmpR op_eq (pv 1) pe_int (nomark _)) (pss_one (ps_ret (pe_op op_add_str (pe_addT op_add_str (CwR.pet_replC (pe_call D__law_inner.ok (hr.mono (by decide)) rfl D__law_inner.g D__law_inner.k D__law_inner.b .nil pass0 (pa_cons (pv 0) pa_nil)))) pe_str))) pss_nil)
    (pss_cons (ps_if (pt_cmpR op_eq (pv 1) pe_int (nomark _)) (pss_one (ps_ret (pe_ix ix_list (pe_lst (pa_cons pe_str (pa_cons pe_str (pa_cons pe_str (pa_cons pe_str pa_nil))))) (pe_call D__law_draw.ok (hr.mono (by omega)) rfl D__law_draw.g D__law_draw.k D__law_draw.b .nil pass0 (pa_cons (pv 0) (pa_cons pe_int pa_nil))) (fun _ _ => rfl)))) pss_nil)
    (pss_cons (ps_if (pt_cmpR op_eq (pv 1) pe_int (nomark _)) (pss_one (ps_ret (pe_ix ix_list (pe_lst (pa_cons (pe_callTy call_str_int rfl T.n_str boot_str (pa_cons (pe_op op_pow pe_int pe_int) pa_nil)) (pa_cons (pe_callTy call_str_int rfl T.n_str boot_str (pa_cons (pe_op op_pow pe_int pe_int) pa_nil)) (pa_cons (pe_callTy call_str_int rfl T.n_str boot_str (pa_cons (pe_op op_pow pe_int pe_int) pa_nil)) (pa_cons (pe_op op_add_str pe_str (pe_op op_mul_str pe_str pe_int)) pa_nil))))) (pe_call D__law_draw.ok (hr.mono (by omega)) rfl D__law_draw.g D__law_draw.k D__law_draw.b .nil pass0 (pa_cons (pv 0) (pa_cons pe_int pa_nil))) (fun _ _ => rfl)))) pss_nil)
    (pss_cons (ps_if (pt_cmpR op_eq (pv 1) pe_int (nomark _)) (pss_one (ps_ret (pe_op op_add_str (pe_callTy call_str_int rfl T.n_str boot_str (pa_cons (pe_call D__law_draw.ok (hr.mono (by omega)) rfl D__law_draw.g D__law_draw.k D__law_draw.b .nil pass0 (pa_cons (pv 0) (pa_cons pe_int pa_nil))) pa_nil)) (pe_ix ix_str pe_str (pe_call D__law_draw.ok (hr.mono (by omega)) rfl D__law_draw.g D__law_draw.k D__law_draw.b .nil pass0 (pa_cons (pv 0) (pa_cons pe_int pa_nil))) (fun _ _ => rfl))))) pss_nil)
    (pss_cons (ps_if (pt_cmpR op_eq (pv 1) pe_int (nomark _)) (pss_one (ps_ret (pe_op op_add_str (pe_slice sl_str (pe_call D__law_name.ok (hr.mono (by omega)) rfl D__law_name.g D__law_name.k D__law_name.b .nil pass0 (pa_cons (pv 0) pa_nil)) po_none (po_some pe_int)) (pe_op op_mul_str pe_str (pe_op op_add pe_int (pe_call D__law_draw.ok (hr.mono (by omega)) rfl D__law_draw.g D__law_draw.k D__law_draw.b .nil pass0 (pa_cons (pv 0) (pa_cons pe_int pa_nil)))))))) pss_nil)
    (pss_cons (ps_if (pt_cmpR op_eq (pv 1) pe_int (nomark _)) (pss_one (ps_ret pe_str)) pss_nil)
    (pss_one (ps_ret (pe_op op_add_str pe_str (pe_callTy call_str_int rfl T.n_str boot_str (pa_cons (pe_call D__law_draw.ok (hr.mono (by omega)) rfl D__law_draw.g D__law_draw.k D__law_draw.b .nil pass0 (pa_cons (pv 0) (pa_cons pe_int pa_nil))) pa_nil))))))))))))), ?_⟩
  have hz := line_eq
  refine ⟨_, rfl, a, 8, rfl, by decide, by decide, fl, fun H1 d1 l1 b1 f1 => ?_⟩
  -- 0
  refine ⟨_, rfl, rfl, _, rfl, ?_⟩
  refine ited (fun h1 => ?_) (fun h1 => ?_)
  · refine ⟨_, rfl, a, 12, rfl, by decide, by decide, f1, fun H2 d2 l2 b2 f2 => ?_⟩
    obtain ⟨c, hf, e⟩ := odd_at l2
    exact ⟨S (codes ":$&'?\x40\\^`|~!"), _, c, congrArg V.str (S_of _), rfl, (by rw [S_len]; show 12 ≤ _; omega), atI_nat e, q _ [c] hf (by simp) (b1.trans b2) f2⟩
  refine go_next ?_
  dsimp only
  -- 1
  refine ⟨_, rfl, rfl, _, rfl, ?_⟩
  refine ited (fun h1 => ?_) (fun h1 => ?_)
  · refine ⟨_, rfl, a, rfl, f1, fun H2 l hl hl2 b2 f2 => ?_⟩
    have hdl := (dbl_plain l hl).2
    refine ⟨S l, rfl, ?_, ?_⟩
    · rw [S_len, dq_lit, S_len]; show l.length + (l.length + 1) * 2 ≤ _; omega
    rw [replD]
    refine ⟨_, _, rfl, rfl, ?_, ?_⟩
    · rw [q_lit, S_len, S_len]; show 1 + _ ≤ _; omega
    refine ⟨_, _, rfl, rfl, ?_, ?_⟩
    · rw [q_lit, nl_lit, S_app, S_len, S_len]; show ([34] ++ StrLaws.dbl 34 l).length + 1 ≤ _; rw [List.length_append]; show 1 + _ + 1 ≤ _; omega
    have e : (Str.ofString "\"" ++ S (StrLaws.dbl 34 l) ++ Str.ofString "\n" : Str) = S (34 :: (StrLaws.dbl 34 l ++ [10])) := by
      rw [q_lit, nl_lit, S_app, S_app]; rfl
    rw [e]
    exact q _ _ (text_fault hl) (by rw [List.length_cons, List.length_append, List.length_singleton]; omega) (b1.trans b2) f2
  refine go_next ?_
  dsimp only
  -- 2
  refine ⟨_, rfl, rfl, _, rfl, ?_⟩
  refine ited (fun h1 => ?_) (fun h1 => ?_)
  · refine ⟨(by show 4 ≤ _; omega), fun p1 n1 => ?_⟩
    refine ⟨_, rfl, a, 4, rfl, by decide, by decide, f1.mono (same_new n1 _), fun H2 d2 l2 b2 f2 => ?_⟩
    obtain ⟨l, hl, hl2, e⟩ := zeros_at l2
    exact ⟨p1, _, _, _, rfl, rfl, SqL.of (b2.o _ _ (f1.ne n1) upd_same), atI_nat e, q _ l hl (by omega) ((b1.trans (But.same (same_new n1 _))).trans b2) f2⟩
  refine go_next ?_
  dsimp only
  -- 3
  refine ⟨_, rfl, rfl, _, rfl, ?_⟩
  refine ited (fun h1 => ?_) (fun h1 => ?_)
  · refine ⟨_, _, rfl, rfl, ⟨by decide, by decide, by decide⟩, _, rfl, (by decide), ?_⟩
    refine ⟨_, _, rfl, rfl, ⟨by decide, by decide, by decide⟩, _, rfl, (by decide), ?_⟩
    refine ⟨_, _, rfl, rfl, ⟨by decide, by decide, by decide⟩, _, rfl, (by decide), ?_⟩
    refine ⟨[48], 4999, congrArg V.str (S_of "0"), rfl, by decide, by decide, by decide, by decide, _, _, rfl, rfl, ?_, ?_⟩
    · rw [S_of, S_len, S_len, rep_S, List.length_replicate]; show 1 + 4999 ≤ _; omega
    have e1 : Str.ofString (toString ((2 : Int) ^ (59 : Int).toNat)) = S (numL (2 ^ 59)) := SX.num_S (2 ^ 59)
    have e2 : Str.ofString (toString ((10 : Int) ^ (18 : Int).toNat)) = S (numL (10 ^ 18)) := SX.num_S (10 ^ 18)
    have e3 : Str.ofString (toString ((10 : Int) ^ (39 : Int).toNat)) = S (numL (10 ^ 39)) := SX.num_S (10 ^ 39)
    have e4 : (Str.ofString "1" ++ S (List.replicate (4999 : Int).toNat [48]).flatten : Str) = S (49 :: List.replicate 4999 48) := by
      rw [S_of, rep_S, S_app]; rfl
    rw [e1, e2, e3, e4]
    refine ⟨(by show 4 ≤ _; omega), fun p1 n1 => ?_⟩
    refine ⟨_, rfl, a, 4, rfl, by decide, by decide, f1.mono (same_new n1 _), fun H2 d2 l2 b2 f2 => ?_⟩
    obtain ⟨l, hl, hl2, e⟩ := big_at l2
    exact ⟨p1, _, _, _, rfl, rfl, SqL.of (b2.o _ _ (f1.ne n1) upd_same), atI_nat e, q _ l hl (by omega) ((b1.trans (But.same (same_new n1 _))).trans b2) f2⟩
  refine go_next ?_
  dsimp only
  -- 4
  refine ⟨_, rfl, rfl, _, rfl, ?_⟩
  refine ited (fun h1 => ?_) (fun h1 => ?_)
  · refine ⟨_, rfl, a, 900, rfl, by decide, by decide, f1, fun H2 d2 l2 b2 f2 => ?_⟩
    refine ⟨_, rfl, nat_log (Nat.lt_trans l2 (by decide)), ?_⟩
    rw [SX.num_S]
    refine ⟨_, rfl, a, 3, rfl, by decide, by decide, f2, fun H3 d3 l3 b3 f3 => ?_⟩
    obtain ⟨c, hm, hc⟩ := get_lit (s := "a_Z") l3 rfl
    have hnl : (numL d2).length ≤ 3 := numL_len (by decide) (Nat.lt_trans l2 (by decide))
    refine ⟨S (codes "a_Z"), _, c, congrArg V.str (S_of _), rfl, (by rw [S_len]; show 3 ≤ _; omega), atI_nat hc, _, _, rfl, rfl, ?_, ?_⟩
    · rw [S_len]; show _ + 1 ≤ _; omega
    rw [show (S (numL d2) ++ ⟨#[c]⟩ : Str) = S (numL d2 ++ [c]) from S_app _ _]
    exact q _ _ (mixed_fault d2 hm) (by rw [List.length_append, List.length_singleton]; omega) (b1.trans (b2.trans b3)) f3
  refine go_next ?_
  dsimp only
  -- 5
  refine ⟨_, rfl, rfl, _, rfl, ?_⟩
  refine ited (fun h1 => ?_) (fun h1 => ?_)
  · refine ⟨_, rfl, a, rfl, f1, fun H2 l hl b2 f2 => ?_⟩
    have hp := name_props hl
    obtain ⟨c, r, rfl⟩ : ∃ c r, l = c :: r := by
      cases l with
      | nil => exact absurd rfl hp.1
      | cons c r => exact ⟨c, r, rfl⟩
    refine ⟨_, rfl, S (c :: r), rfl, (by rw [S_len]; have := hp.2.1; omega), ?_⟩
    refine ⟨_, rfl, a, 3, rfl, by decide, by decide, f2, fun H3 d3 l3 b3 f3 => ?_⟩
    refine ⟨_, _, rfl, rfl, ?_⟩
    refine ⟨[113], _, congrArg V.str (S_of "q"), rfl, by omega, by omega, by decide, by decide, ?_⟩
    rw [show (cutS (S (c :: r)) none (some 1) : Str) = S [c] from cut_nat (l := c :: r) (i := 0) (j := 1) (by omega)]
    rw [rep_S, show ((20 : Int) + (d3 : Int)).toNat = 20 + d3 by omega]
    refine ⟨_, _, rfl, rfl, ?_, ?_⟩
    · rw [S_len, S_len, List.length_replicate]; show 1 + _ ≤ _; omega
    rw [show (S [c] ++ S (List.replicate (20 + d3) 113) : Str) = S (c :: List.replicate (20 + d3) 113) from S_app _ _]
    exact q _ _ (qs_fault hp.2.2.2.1 (by omega)) (by rw [List.length_cons, List.length_replicate]; omega) (b1.trans (b2.trans b3)) f3
  refine go_next ?_
  dsimp only
  -- 6
  refine ⟨_, rfl, rfl, _, rfl, ?_⟩
  refine ited (fun h1 => ?_) (fun h1 => ?_)
  · have e : Str.ofString "\"\"\"\n" = S [34, 34, 34, 10] := S_of _
    show Q (V.str (Str.ofString "\"\"\"\n")) H1
    rw [e]
    exact q _ _ quotes_fault (by decide) b1 f1
  refine go_next ?_
  dsimp only
  refine ⟨_, rfl, a, 30, rfl, by decide, by decide, f1, fun H2 d2 l2 b2 f2 => ?_⟩
  refine ⟨_, rfl, nat_log (Nat.lt_trans l2 (by decide)), ?_⟩
  rw [SX.num_S]
  have hnl : (numL d2).length ≤ 2 := numL_len (by decide) (Nat.lt_trans l2 (by decide))
  refine ⟨_, _, rfl, rfl, ?_, ?_⟩
  · rw [z_lit, S_len, S_len]; show 1 + _ ≤ _; omega
  rw [show (Str.ofString "0" ++ S (numL d2) : Str) = S (48 :: numL d2) by rw [z_lit, S_app]; rfl]
  exact q _ _ (zero_fault d2) (by rw [List.length_cons]; omega) (b1.trans b2) f2
end
end Wk
set_option maxRecDepth 100000
set_option maxHeartbeats 8000000
namespace Wk
open PySem L2 TL PyProof.Rows
open SX (S S_len)
/-! ### a text of pieces -/
theorem count_nl (l : List Nat) : Txt.count (S l) ("\n" : Str) = ((nls l : Nat) : Int) := by
  rw [nl_lit]
  have h : Txt.count (S l) ⟨#[10]⟩ = cnt 10 l := count_cnt (S l) 10
  refine Eq.trans h ?_
  induction l with
  | nil => rfl
  | cons a l ih =>
    have ih := ih (count_cnt (S l) 10)
    rw [cnt_cons, ih]
    unfold nls
    rw [List.count_cons]
    by_cases h : a = 10
    · rw [if_pos h, if_pos (by rw [h]; rfl)]; omega
    · rw [if_neg h, if_neg (by simpa using h)]; omega
theorem nls_app (a b : List Nat) : nls (a ++ b) = nls a + nls b := List.count_append
theorem nls_no {a : List Nat} (h : 10 ∉ a) : nls a = 0 := List.count_eq_zero.mpr h
theorem Fine.app {a b : List Nat} (x : Fine a) (y : Fine b) : Fine (a ++ b) := fun c hc => by
  rcases List.mem_append.mp hc with h | h
  · exact x c h
  · exact y c h
def okLast : Option So → List Nat → Prop
  | none, _ => True
  | some so, r => okB so r
structure Inv (t : List Nat) (ts : List Tk) (last : Option So) (bad : Option Nat) : Prop where
  fine : Fine t
  good : bad = none → ∀ r, okLast last r → cutF 1 (t ++ r) = Res.app ts (cutF (1 + nls t) r)
  bads : ∀ l, bad = some l → ∀ r, cutF 1 (t ++ r) = .bad l
theorem SpaceOk.sp {s : List Nat} (h : SpaceOk s) (r : List Nat) : SpH (s ++ r) := by
  obtain ⟨c, q, e, hc⟩ := h.head
  exact ⟨c, q ++ r, by rw [e]; rfl, hc⟩
theorem okLast_sp {last : Option So} {r : List Nat} (h : SpH r) : okLast last r := by
  cases last with
  | none => trivial
  | some so => exact h.ok so
theorem Inv.space {t : List Nat} {ts : List Tk} {last : Option So} {bad : Option Nat} {s : List Nat} (h : Inv t ts last bad) (hs : SpaceOk s) : Inv (t ++ s) ts none bad := by
  refine ⟨h.fine.app hs.fine, fun e r _ => ?_, fun l e r => ?_⟩
  · rw [List.append_assoc, h.good e _ (okLast_sp (hs.sp r)), hs.cut, nls_app, Nat.add_assoc]
  · rw [List.append_assoc, h.bads l e]
theorem Inv.fault {t : List Nat} {ts : List Tk} {bad : Option Nat} {f s : List Nat} (h : Inv t ts none bad) (hf : FaultOk f) (hs : SpaceOk s) : Inv (t ++ f ++ s) ts none (some (bad.getD (1 + nls t))) := by
  refine ⟨(h.fine.app hf.fine).app hs.fine, (fun e => by cases e), fun l e r => ?_⟩
  rw [List.append_assoc, List.append_assoc]
  cases bad with
  | none =>
    rw [h.good rfl _ trivial, hf.bad _ _ (hs.sp r)]
    cases e; rfl
  | some b => rw [h.bads b rfl]; cases e; rfl
theorem Inv.piece {t : List Nat} {ts : List Tk} {last : Option So} {bad : Option Nat} {w : List Nat} {so : So} {wd : Wd} (h : Inv t ts last bad) (hw : PieceOk w so wd)
    (tight : ∀ s, last = some s → (so = .mark ∧ s ≠ .mark) ∨ (so ≠ .mark ∧ s = .mark)) : Inv (t ++ w) (ts ++ [⟨so, wd, 1 + nls t⟩]) (some so) bad := by
  refine ⟨h.fine.app hw.fine, fun e r hr => ?_, fun l e r => ?_⟩
  · obtain ⟨c, q, hc, n10, n32, n35, hm, hn⟩ := hw.head
    have okl : okLast last (w ++ r) := by
      rw [hc]
      cases last with
      | none => trivial
      | some s =>
        rcases tight s rfl with ⟨h1, h2⟩ | ⟨h1, h2⟩
        · have z := hm h1
          cases s with
          | mark => exact absurd rfl h2
          | text => intro e; exact z.2 (Option.some.inj e)
          | name => intro d e; obtain rfl : c = d := Option.some.inj e; exact z.1
          | key => intro d e; obtain rfl : c = d := Option.some.inj e; exact z.1
          | number => intro d e; obtain rfl : c = d := Option.some.inj e; exact z.1
        · subst h2; intro e; exact hn h1 (Option.some.inj e)
    rw [List.append_assoc, h.good e _ okl, nls_app, nls_no hw.nn]
    have ht := hw.tk r hr
    rw [hc] at ht ⊢
    rw [List.cons_append] at ht ⊢
    rw [cutF_some n10 n32 n35 ht, Res.app_app]; rfl
  · rw [List.append_assoc, h.bads l e]
def lastV : Option So → V
  | none => .str ""
  | some so => .str (soS so)
def badV : Option Nat → V
  | none => .non
  | some l => .int (l : Int)
def noteL : List Nat := codes " # the last \" one"
theorem note_cut (n : Nat) : cutF n noteL = .ok [] := by
  have h : (codes " the last \" one").all plain = true := by decide +kernel
  have h10 := (plain_no h).1
  show cutF n (32 :: 35 :: codes " the last \" one") = _
  rw [cutF_sp, cutF_note, (tw_notNl h10).1, (tw_notNl h10).2, if_pos h, cutF_nil]
theorem Inv.done {t : List Nat} {ts : List Tk} {last : Option So} {bad : Option Nat} {r : List Nat} (h : Inv t ts last bad) (hr : r = [] ∨ r = noteL) : cutF 1 (t ++ r) = match bad with
    | none => .ok ts
    | some l => .bad l := by
  cases bad with
  | some l => exact h.bads l rfl r
  | none =>
    have e : cutF (1 + nls t) r = .ok [] := by
      rcases hr with rfl | rfl
      · exact cutF_nil _
      · exact note_cut _
    have ok : okLast last r := by
      rcases hr with rfl | rfl
      · cases last with
        | none => trivial
        | some so => exact nil_ok so
      · exact okLast_sp ⟨32, _, rfl, .inl rfl⟩
    rw [h.good rfl r ok, e]
    show Res.ok (ts ++ []) = _
    rw [List.append_nil]
theorem Toks.but {a : Addr} {H H' : Hp} (b : But a H H') (f : Flow H a) : ∀ {vs : List V} {ts : List Tk}, Toks H vs ts → Toks H' vs ts
  | [], [], _ => trivial
  | _ :: _, _ :: _, ⟨⟨p, e, h⟩, r⟩ => ⟨⟨p, e, b.o _ _ (by
      rintro rfl
      obtain ⟨_, _, _, _, _, h2, _⟩ := f
      rw [h] at h2; cases h2) h⟩, Toks.but b f r⟩
  | [], _ :: _, h => h.elim
  | _ :: _, [], h => h.elim
theorem Toks.set {H : Hp} {p : Addr} {xs ys : List V} (hp : H p = some (.lst xs)) : ∀ {vs : List V} {ts : List Tk}, Toks H vs ts → Toks (upd H p (.lst ys)) vs ts
  | [], [], _ => trivial
  | _ :: _, _ :: _, ⟨⟨b, e3, e4⟩, r⟩ => ⟨⟨b, e3, by rw [upd_ne (ne_of e4 hp (by intro z; cases z))]; exact e4⟩, Toks.set hp r⟩
  | [], _ :: _, h => h.elim
  | _ :: _, [], h => h.elim
theorem but_mut {a p : Addr} {H H' : Hp} (b : But a H H') (n : H p = none) (o : HO) : But a H (upd H' p o) :=
  ⟨fun x u nx h => by rw [upd_ne (ne_of_none h n)]; exact b.o x u nx h, fun s r h => by rw [upd_ne (ne_of_none h n)]; exact b.h s r h⟩
theorem But.free {a p : Addr} {H H' : Hp} (b : But a H H') (f : Flow H' a) (n : H' p = none) : H p = none := by
  cases e : H p with
  | none => rfl
  | some o => rw [b.o p o (f.ne n) e] at n; cases n
theorem Flow.mut {a p : Addr} {H H' : Hp} (f0 : Flow H a) (b : But a H H') (f : Flow H' a) (n : H p = none) (o : HO) : Flow (upd H' p o) a := by
  obtain ⟨s0, ns0, i0, c0, z0, h1, h2, _⟩ := f0
  obtain ⟨s, ns, i, c, z, k1, k2, k3⟩ := f
  obtain ⟨r', e⟩ := b.h _ _ h1
  rw [k1] at e
  have es : s = s0 := by cases e; rfl
  subst es
  exact ⟨s, ns, i, c, z, by rw [upd_ne (ne_of_none h1 n)]; exact k1, by rw [upd_ne (ne_of_none h2 n)]; exact k2, k3⟩
theorem note_fine : Fine noteL := by unfold Fine noteL; decide +kernel
theorem ne_p {a p : Addr} {H H' : Hp} {vs : List V} (f : Flow H' a) (hp : H' p = some (.lst vs)) (bb : But a H H') (n : H p = none) (f0 : Flow H a) : p ≠ a := f0.ne n
def initS : List String := ["", "\n", " ", "# so\n"]
theorem inv_init {s : List Nat} (hf : Fine s) (h : ∀ r, cutF 1 (s ++ r) = cutF (1 + nls s) r) : Inv s [] none none :=
  ⟨hf, fun _ r _ => by rw [h r, Res.app_nil], fun l e => by cases e⟩
theorem init_at {d : Nat} (h : d < 4) : ∃ t : List Nat, Inv t [] none none ∧ t.length ≤ 10 ∧ ([V.str "", V.str "\n", V.str " ", V.str "# so\n"] : List V)[d]? = some (.str (S t)) := by
  rcases d with _ | _ | _ | _ | d
  · exact ⟨[], inv_init (fun _ h => by cases h) (fun r => rfl), by decide, congrArg (fun z => some (V.str z)) (S_of _)⟩
  · exact ⟨[10], inv_init (by unfold Fine; decide) (fun r => cutF_nl 1 r), by decide, congrArg (fun z => some (V.str z)) (S_of _)⟩
  · exact ⟨[32], inv_init (by unfold Fine; decide) (fun r => cutF_sp 1 r), by decide, congrArg (fun z => some (V.str z)) (S_of _)⟩
  · exact ⟨codes "# so\n", inv_init (by unfold Fine; decide +kernel) (fun r => cut_note (b := codes " so") (by decide +kernel) 1 r), by decide, congrArg (fun z => some (V.str z)) (S_of _)⟩
  · omega
theorem so_ne (s : So) : ¬ V.str (soS s) = V.str "" := by cases s <;> decide
theorem tight_iff (so s : So) : ((!decide (V.bl (decide (V.str (soS so) = V.str "mark")) = V.bl (decide (V.str (soS s) = V.str "mark")))) = true ↔ ((so = .mark ∧ s ≠ .mark) ∨ (so ≠ .mark ∧ s = .mark))) := by
  cases so <;> cases s <;> decide
section
variable {P : Program} {w : World} {K : PySem.W.Frag} {mg : Str → Option Value} {base : Heap}
abbrev s__law_pieces : Stmt := top 41
theorem sc__law_pieces : FnScope ["flow", "many", "spoilt", "text", "due", "last", "bad", "k", "line", "word", "sort", "worth", "tight"] ["flow"] (defScope s__law_pieces) := ⟨rfl, rfl, rfl, by decide +kernel, rfl, by decide +kernel, by decide +kernel⟩
def sp_pieces (K : PySem.W.Frag) : Sp := fun vs H Q _ => ∃ (a : Addr), vs = [.ref a] ∧ Flow H a ∧ ∀ H' p (t : List Nat) v, t.length ≤ 1000000 → Fine t → H' p = some (.tup [.str (S t), v]) → Tell H' v (cutF 1 t) → But a H H' → Flow H' a → Q (.ref p) H'
theorem ok_pieces (T : Txt K mg) {f : Addr} {fd : FuncData} (F : Fun K "_law_pieces" "_law_pieces" s__law_pieces f fd) (D__law_draw : Def P w K mg base CX0 "_law_draw" ["flow", "many"] 2 sp_draw) (D__law_space : Def P w K mg base CX0 "_law_space" ["flow"] 3 sp_space) (D__law_fault : Def P w K mg base CX0 "_law_fault" ["flow"] 4 sp_fault) (D__law_piece : Def P w K mg base CX0 "_law_piece" ["flow"] 4 (sp_piece K)) : FnOk P w K mg base CX0 5 f fd ["flow"] (sp_pieces K) := by
  refine F.ok sc__law_pieces (fun vs H Q E h => ?_) (fun cdv A outer s H vs Q E hr h => ?_)
  · obtain ⟨a, rfl, _⟩ := h; rfl
  obtain ⟨a, rfl, fl, q⟩ := h
  refine ⟨_, (pss_cons (ps_set (i := 1) sc__law_pieces.nd rfl (Or.inl rfl) (pe_call D__law_draw.ok (hr.mono (by omega)) rfl D__law_draw.g D__law_draw.k D__law_draw.b .nil pass0 (pa_cons (pv 0) (pa_cons pe_int pa_nil))))
    (pss_cons (ps_set (i := 2) sc__law_pieces.nd rfl (Or.inl rfl) (pe_un un_neg pe_int))
    (pss_cons (ps_if (pt_cmpR op_eq (pe_call D__law_draw.ok (hr.mono (by omega)) rfl D__law_draw.g D__law_draw.k D__law_draw.b .nil pass0 (pa_cons (pv 0) (pa_cons pe_int pa_nil))) pe_int (nomark _)) (pss_one (ps_set (i := 2) sc__law_pieces.nd rfl (Or.inl rfl) (pe_call D__law_draw.ok (hr.mono (by omega)) rfl D__law_draw.g D__law_draw.k D__law_draw.b .nil pass0 (pa_cons (pv 0) (pa_cons (pe_op op_add (pv 1) pe_int) pa_nil))))) pss_nil)
    (pss_cons (ps_set (i := 3) sc__law_pieces.nd rfl (Or.inl rfl) (pe_ix ix_list (pe_lst (pa_cons pe_str (pa_cons pe_str (pa_cons pe_str (pa_cons pe_str pa_nil))))) (pe_call D__law_draw.ok (hr.mono (by omega)) rfl D__law_draw.g D__law_draw.k D__law_draw.b .nil pass0 (pa_cons (pv 0) (pa_cons pe_int pa_nil))) (fun _ _ => rfl)))
    (pss_cons (ps_set (i := 4) sc__law_pieces.nd rfl (Or.inl rfl) (pe_lst pa_nil))
    (pss_cons (ps_set (i := 5) sc__law_pieces.nd rfl (Or.inl rfl) pe_str)
    (pss_cons (ps_set (i := 6) sc__law_pieces.nd rfl (Or.inl rfl) pe_non)
    (pss_cons (ps_for PassesOwn.never rfl (pi_range1 rfl T.n_range (pa_cons (pe_op op_add (pv 1) pe_int) pa_nil)) (pg_name (i := 7) sc__law_pieces.nd rfl (Or.inl rfl)) (pss_cons (ps_set (i := 8) sc__law_pieces.nd rfl (Or.inl rfl) (pe_op op_add pe_int (pe_bm PySem.F.plainAttrs_str PySem.F.slot_str_count PySem.F.type_str_count mt_count (pv 3) (pa_cons pe_str pa_nil))))
      (pss_one (ps_if (pt_cmpR op_eq (pv 7) (pv 2) (nomark _)) (pss_cons (ps_set (i := 3) sc__law_pieces.nd rfl (Or.inl rfl) (pe_op op_add_str (pv 3) (pe_call D__law_space.ok (hr.mono (by omega)) rfl D__law_space.g D__law_space.k D__law_space.b .nil pass0 (pa_cons (pv 0) pa_nil))))
        (pss_cons (ps_set (i := 6) sc__law_pieces.nd rfl (Or.inl rfl) (pe_ifExp (pt_cmpR op_isN (pv 6) pe_non (nomark _)) (pe_op op_add pe_int (pe_bm PySem.F.plainAttrs_str PySem.F.slot_str_count PySem.F.type_str_count mt_count (pv 3) (pa_cons pe_str pa_nil))) (pv 6)))
        (pss_cons (ps_set (i := 3) sc__law_pieces.nd rfl (Or.inl rfl) (pe_op op_add_str (pe_op op_add_str (pv 3) (pe_call D__law_fault.ok (hr.mono (by omega)) rfl D__law_fault.g D__law_fault.k D__law_fault.b .nil pass0 (pa_cons (pv 0) pa_nil))) (pe_call D__law_space.ok (hr.mono (by omega)) rfl D__law_space.g D__law_space.k D__law_space.b .nil pass0 (pa_cons (pv 0) pa_nil))))
        (pss_one (ps_set (i := 5) sc__law_pieces.nd rfl (Or.inl rfl) pe_str))))) (pss_one (ps_if (pt_cmpR op_lt (pv 7) (pv 1) (nomark _)) (pss_cons (ps_asg (pe_call D__law_piece.ok (hr.mono (by omega)) rfl D__law_piece.g D__law_piece.k D__law_piece.b .nil pass0 (pa_cons (pv 0) pa_nil)) (pg_tup rfl (pgs_cons (pg_name (i := 9) sc__law_pieces.nd rfl (Or.inl rfl)) (pgs_cons (pg_name (i := 10) sc__law_pieces.nd rfl (Or.inl rfl)) (pgs_cons (pg_name (i := 11) sc__law_pieces.nd rfl (Or.inl rfl)) pgs_nil)))))
          (pss_cons (ps_set (i := 12) sc__law_pieces.nd rfl (Or.inl rfl) (pe_and (pe_cmpR op_ne (pv 5) pe_str (nomark _)) (pe_one (pe_cmpR op_ne (pe_cmpR op_eq (pv 10) pe_str (nomark _)) (pe_cmpR op_eq (pv 5) pe_str (nomark _)) (nomark _)))))
          (pss_cons (ps_if (PW.pt (pw_and (pt_cmpR op_ne (pv 5) pe_str (nomark _)) (pw_and1 (pt_not (PW.pt (pw_and (pt_val (pv 12)) (pw_and1 (pt_cmpR op_eq (pe_call D__law_draw.ok (hr.mono (by omega)) rfl D__law_draw.g D__law_draw.k D__law_draw.b .nil pass0 (pa_cons (pv 0) (pa_cons pe_int pa_nil))) pe_int (nomark _))))))))) (pss_cons (ps_set (i := 3) sc__law_pieces.nd rfl (Or.inl rfl) (pe_op op_add_str (pv 3) (pe_call D__law_space.ok (hr.mono (by omega)) rfl D__law_space.g D__law_space.k D__law_space.b .nil pass0 (pa_cons (pv 0) pa_nil))))
            (pss_one (ps_set (i := 8) sc__law_pieces.nd rfl (Or.inl rfl) (pe_op op_add pe_int (pe_bm PySem.F.plainAttrs_str PySem.F.slot_str_count PySem.F.type_str_count mt_count (pv 3) (pa_cons pe_str pa_nil)))))) pss_nil)
          (pss_cons (ps_set (i := 3) sc__law_pieces.nd rfl (Or.inl rfl) (pe_op op_add_str (pv 3) (pv 9)))
          (pss_cons (ps_expr (pe_bm PySem.F.plainAttrs_list PySem.F.slot_list_append PySem.F.type_list_append mt_append (pv 4) (pa_cons (pe_tup (pa_cons (pv 10) (pa_cons (pv 11) (pa_cons (pv 8) pa_nil)))) pa_nil)))
          (pss_one (ps_set (i := 5) sc__law_pieces.nd rfl (Or.inl rfl) (pv 10)))))))) pss_nil))))))
    (pss_cons (ps_if (pt_cmpR op_eq (pe_call D__law_draw.ok (hr.mono (by omega)) rfl D__law_draw.g D__law_draw.k D__law_draw.b .nil pass0 (pa_cons (pv 0) (pa_cons pe_int pa_nil))) pe_int (nomark _)) (pss_one (ps_set (i := 3) sc__law_pieces.nd rfl (Or.inl rfl) (pe_op op_add_str (pv 3) pe_str))) pss_nil)
    (pss_one (ps_ret (pe_tup (pa_cons (pv 3) (pa_cons (pe_ifExp (pt_cmpR op_isN (pv 6) pe_non (nomark _)) (pe_tup (pa_cons pe_str (pa_cons (pv 4) pa_nil))) (pe_tup (pa_cons pe_str (pa_cons (pv 6) pa_nil)))) pa_nil)))))))))))))), ?_⟩
  have hz := line_eq
  refine seq_set ?_
  refine ⟨_, rfl, a, 31, rfl, by decide, by decide, fl, fun H1 many l1 b1 f1 => ?_⟩
  refine seq_set ?_
  refine ⟨_, rfl, ?_⟩
  refine seq_join (fun σ H' => But a H H' ∧ Flow H' a ∧ ∃ sp : Int, σ = [some (.ref a), some (.int (many : Int)), some (.int sp), none, none, none, none, none, none, none, none, none, none]) ?_ ?_
  rotate_left
  · intro NX nx
    refine ⟨_, rfl, a, 3, rfl, by decide, by decide, f1, fun H2 d2 _ b2 f2 => ?_⟩
    refine ⟨rfl, _, rfl, ?_⟩
    refine ited (fun _ => ?_) (fun _ => ?_)
    · refine ⟨_, rfl, _, rfl, _, _, rfl, rfl, a, many + 1, rfl, by omega, by omega, f2, fun H3 d3 _ b3 f3 => ?_⟩
      exact nx _ _ ⟨b1.trans (b2.trans b3), f3, _, rfl⟩
    · exact nx _ _ ⟨b1.trans b2, f2, _, rfl⟩
  rintro σ H2 ⟨b2, f2, sp, rfl⟩
  refine seq_set ?_
  refine ⟨(by show 4 ≤ _; omega), fun p1 n1 => ?_⟩
  refine ⟨_, rfl, a, 4, rfl, by decide, by decide, f2.mono (same_new n1 _), fun H3 d3 l3 b3 f3 => ?_⟩
  obtain ⟨t0, i0, tl0, e0⟩ := init_at l3
  refine ⟨p1, _, _, _, rfl, rfl, SqL.of (b3.o _ _ (f2.ne n1) upd_same), atI_nat e0, ?_⟩
  refine seq_set ?_
  refine ⟨(by show 0 ≤ _; omega), fun p n4 => ?_⟩
  have bb : But a H H3 := (b2.trans (But.same (same_new n1 _))).trans b3
  have nH : H p = none := bb.free f3 n4
  have bb' := bb.trans (But.same (same_new n4 (.lst [])))
  have f4 := f3.mono (same_new n4 (.lst []))
  have hp4 : (upd H3 p (.lst [])) p = some (.lst []) := upd_same
  dsimp only
  generalize upd H3 p (.lst []) = H4 at *
  refine seq_setC ?_
  refine seq_setC ?_
  refine seq_join (fun σ H' => But a H H' ∧ Flow H' a ∧ ∃ (t : List Nat) (ts : List Tk) (vs : List V) (last : Option So) (bad : Option Nat) (x7 x8 x9 x10 x11 x12 : Option V), Inv t ts last bad ∧ t.length ≤ 200000 ∧ H' p = some (.lst vs) ∧ Toks H' vs ts ∧
      σ = [some (.ref a), some (.int (many : Int)), some (.int sp), some (.str (S t)), some (.ref p), some (lastV last), some (badV bad), x7, x8, x9, x10, x11, x12]) ?_ ?_
  · rintro σ H5 ⟨b5, f5, t, ts, vs, last, bad, x7, x8, x9, x10, x11, x12, inv, hl, hp, ht, rfl⟩
    refine seq_join (fun σ H' => But a H H' ∧ Flow H' a ∧ ∃ (r : List Nat) (x7 x8 x9 x10 x11 x12 : Option V), (r = [] ∨ r = noteL) ∧ H' p = some (.lst vs) ∧ Toks H' vs ts ∧
      σ = [some (.ref a), some (.int (many : Int)), some (.int sp), some (.str (S (t ++ r))), some (.ref p), some (lastV last), some (badV bad), x7, x8, x9, x10, x11, x12]) ?_ ?_
    · rintro σ H6 ⟨b6, f6, r, x7, x8, x9, x10, x11, x12, hr, hp, ht, rfl⟩
      have hcut := inv.done hr
      have hfine : Fine (t ++ r) := inv.fine.app (by rcases hr with rfl | rfl; (intro c hc; cases hc); exact note_fine)
      have hlen : (t ++ r).length ≤ 1000000 := by
        have : r.length ≤ 100 := by rcases hr with rfl | rfl; (exact Nat.zero_le _); (decide)
        rw [List.length_append]; omega
      refine ⟨_, rfl, _, rfl, rfl, _, rfl, ?_⟩
      cases bad with
      | none =>
        refine ited (fun _ => ?_) (fun hx => absurd rfl hx)
        refine ⟨_, rfl, (by show 2 ≤ _; omega), fun p2 n2 => ?_⟩
        refine ⟨(by show 2 ≤ _; omega), fun p3 n3 => ?_⟩
        have g2 := same_new n2 (.tup [V.str "told", V.ref p])
        have g3 := same_new n3 (.tup [V.str (S (t ++ r)), V.ref p2])
        refine q _ p3 (t ++ r) (.ref p2) hlen hfine upd_same ⟨p2, rfl, ?_⟩ (b6.trans (But.same (g2.trans g3))) (f6.mono (g2.trans g3))
        rw [hcut]
        exact ⟨p, vs, g3 _ _ upd_same, g3 _ _ (g2 _ _ hp), ht.mono (g2.trans g3)⟩
      | some l =>
        refine ited (fun hx => by cases hx) (fun _ => ?_)
        refine ⟨_, rfl, (by show 2 ≤ _; omega), fun p2 n2 => ?_⟩
        refine ⟨(by show 2 ≤ _; omega), fun p3 n3 => ?_⟩
        have g2 := same_new n2 (.tup [V.str "bad", V.int (l : Int)])
        have g3 := same_new n3 (.tup [V.str (S (t ++ r)), V.ref p2])
        refine q _ p3 (t ++ r) (.ref p2) hlen hfine upd_same ⟨p2, rfl, ?_⟩ (b6.trans (But.same (g2.trans g3))) (f6.mono (g2.trans g3))
        rw [hcut]
        exact g3 _ _ upd_same
    · intro NX nx
      refine ⟨_, rfl, a, 3, rfl, by decide, by decide, f5, fun H6 d6 _ b6 f6 => ?_⟩
      refine ⟨rfl, _, rfl, ?_⟩
      have ht6 := ht.but b6 f5
      have hp6 := b6.o _ _ (ne_p f5 hp (bb := b5) nH fl) hp
      refine ited (fun _ => ?_) (fun _ => ?_)
      · refine ⟨_, rfl, S t, S noteL, rfl, congrArg V.str (S_of _), ?_, ?_⟩
        · rw [S_len, S_len]; show _ + 17 ≤ _; omega
        rw [S_app]
        exact nx _ _ ⟨b5.trans b6, f6, noteL, _, _, _, _, _, _, .inr rfl, hp6, ht6, rfl⟩
      · refine go_next ?_
        exact nx _ _ ⟨b5.trans b6, f6, [], _, _, _, _, _, _, .inl rfl, hp6, ht6, by rw [List.append_nil]⟩
  intro NX nx
  refine ⟨_, rfl, _, _, rfl, rfl, _, rfl, by omega, by omega, ?_⟩
  rw [show ((many : Int) + 1).toNat = many + 1 by omega]
  refine for_range (fun i σ H' => But a H H' ∧ Flow H' a ∧ ∃ (t : List Nat) (ts : List Tk) (vs : List V) (last : Option So) (bad : Option Nat) (x7 x8 x9 x10 x11 x12 : Option V), Inv t ts last bad ∧ t.length ≤ 10 + 5200 * i ∧ H' p = some (.lst vs) ∧ vs.length ≤ i ∧ Toks H' vs ts ∧
      σ = [some (.ref a), some (.int (many : Int)), some (.int sp), some (.str (S t)), some (.ref p), some (lastV last), some (badV bad), x7, x8, x9, x10, x11, x12]) ⟨bb', f4, t0, [], [], none, none, none, none, none, none, none, none, i0, by omega, hp4, by simp, trivial, rfl⟩ ?_ ?_
  rotate_left
  · rintro σ H5 ⟨b5, f5, t, ts, vs, last, bad, x7, x8, x9, x10, x11, x12, inv, hl, hp, hv, ht, rfl⟩
    exact nx _ _ ⟨b5, f5, t, ts, vs, last, bad, x7, x8, x9, x10, x11, x12, inv, by omega, hp, ht, rfl⟩
  rintro i σ H5 hi ⟨b5, f5, t, ts, vs, last, bad, x7, x8, x9, x10, x11, x12, inv, hl, hp, hv, ht, rfl⟩
  have ec : V.int (1 + Txt.count (S t) ("\n" : Str)) = V.int ((1 + nls t : Nat) : Int) := by rw [count_nl]; rfl
  refine ⟨_, rfl, rfl, S t, _, rfl, rfl, _, _, rfl, rfl, ?_⟩
  dsimp only
  rw [ec]
  refine ⟨_, rfl, _, rfl, rfl, _, rfl, ?_⟩
  have hi2 : i ≤ 30 := by omega
  refine ited (fun h1 => ?_) (fun h1 => ?_)
  · refine seq_set ?_
    refine ⟨_, rfl, _, rfl, a, rfl, f5, fun H6 s1 hs1 ls1 b6 f6 => ?_⟩
    refine ⟨_, _, rfl, rfl, (by rw [S_len, S_len]; omega), ?_⟩
    rw [S_app]
    have inv1 := inv.space hs1
    have hp6 := b6.o _ _ (fl.ne nH) hp
    have ht6 := ht.but b6 f5
    have bb6 := b5.trans b6
    refine seq_join (fun σ H' => H' = H6 ∧ σ = [some (.ref a), some (.int (many : Int)), some (.int sp), some (.str (S (t ++ s1))), some (.ref p), some (lastV last), some (badV (some (bad.getD (1 + nls (t ++ s1))))), some (.int (0 + (i : Int))), some (.int ((1 + nls t : Nat) : Int)), x9, x10, x11, x12]) ?_ ?_
    · rintro σ H7 ⟨rfl, rfl⟩
      refine seq_set ?_
      refine ⟨_, rfl, _, rfl, a, rfl, f6, fun H8 l8 hl8 ll8 b8 f8 => ?_⟩
      refine ⟨_, _, rfl, rfl, (by rw [S_len, S_len, List.length_append]; omega), ?_⟩
      refine ⟨_, rfl, a, rfl, f8, fun H9 s9 hs9 ls9 b9 f9 => ?_⟩
      refine ⟨_, _, rfl, rfl, (by rw [S_app, S_len, S_len, List.length_append, List.length_append]; omega), ?_⟩
      rw [S_app, S_app]
      exact ⟨bb6.trans (b8.trans b9), f9, _, ts, vs, none, _, _, _, _, _, _, _, inv1.fault hl8 hs9, by rw [List.length_append, List.length_append, List.length_append]; omega, b9.o _ _ (fl.ne nH) (b8.o _ _ (fl.ne nH) hp6), by omega, (ht6.but b8 f6).but b9 f8, rfl⟩
    · intro NX nx
      refine ⟨_, rfl, rfl, _, rfl, ?_⟩
      cases bad with
      | none =>
        have ec : V.int (1 + Txt.count (S (t ++ s1)) ("\n" : Str)) = V.int ((1 + nls (t ++ s1) : Nat) : Int) := by rw [count_nl]; rfl
        refine ited (fun _ => ?_) (fun hx => absurd rfl hx)
        refine ⟨_, rfl, rfl, S (t ++ s1), _, rfl, rfl, _, _, rfl, rfl, ?_⟩
        dsimp only
        rw [ec]
        exact nx _ _ ⟨rfl, rfl⟩
      | some b =>
        refine ited (fun hx => by cases hx) (fun _ => ?_)
        exact ⟨_, rfl, nx _ _ ⟨rfl, rfl⟩⟩
  refine ⟨_, rfl, _, rfl, _, _, rfl, rfl, _, rfl, ?_⟩
  refine ited (fun h2 => ?_) (fun h2 => ?_)
  rotate_left
  · exact go_next ⟨b5, f5, t, ts, vs, last, bad, _, _, _, _, _, _, inv, by omega, hp, by omega, ht, rfl⟩
  refine ⟨_, rfl, a, rfl, f5, fun H6 p6 w so wd hw lw b6 f6 hp6 => ?_⟩
  refine ⟨p6, _, rfl, SqT.of hp6, rfl, _, _, rfl, _, _, rfl, _, _, rfl, rfl, ?_⟩
  dsimp only
  have hpp := b6.o _ _ (fl.ne nH) hp
  have ht6 := ht.but b6 f5
  have bb6 := b5.trans b6
  refine seq_join (fun σ H' => H' = H6 ∧ ∃ tb : Bool, (∀ s, last = some s → (tb = true ↔ ((so = .mark ∧ s ≠ .mark) ∨ (so ≠ .mark ∧ s = .mark)))) ∧ σ = [some (.ref a), some (.int (many : Int)), some (.int sp), some (.str (S t)), some (.ref p), some (lastV last), some (badV bad), some (.int (0 + (i : Int))), some (.int ((1 + nls t : Nat) : Int)), some (.str (S w)), some (.str (soS so)), some (wdV wd), some (.bl tb)]) ?_ ?_
  rotate_left
  · intro NX nx
    cases last with
    | none =>
      refine ⟨_, rfl, rfl, _, rfl, ?_⟩
      refine itedn (fun hx => absurd rfl hx) (fun _ => ?_)
      exact nx _ _ ⟨rfl, false, (fun s e => by cases e), rfl⟩
    | some s =>
      refine ⟨_, rfl, rfl, _, rfl, ?_⟩
      refine itedn (fun _ => ?_) (fun hx => absurd hx (so_ne s))
      refine ⟨_, rfl, rfl, _, rfl, rfl, rfl, ?_⟩
      exact nx _ _ ⟨rfl, _, (fun s' e => by cases e; exact tight_iff so s), rfl⟩
  rintro σ H7 ⟨rfl, tb, htb, rfl⟩
  refine seq_join (fun σ H' => But a H H' ∧ Flow H' a ∧ H' p = some (.lst vs) ∧ Toks H' vs ts ∧ ∃ (t' : List Nat) (last' : Option So), Inv t' ts last' bad ∧ t'.length ≤ t.length + 30 ∧ (∀ s, last' = some s → (so = .mark ∧ s ≠ .mark) ∨ (so ≠ .mark ∧ s = .mark)) ∧
    σ = [some (.ref a), some (.int (many : Int)), some (.int sp), some (.str (S t')), some (.ref p), some (lastV last), some (badV bad), some (.int (0 + (i : Int))), some (.int ((1 + nls t' : Nat) : Int)), some (.str (S w)), some (.str (soS so)), some (wdV wd), some (.bl tb)]) ?_ ?_
  · rintro σ H8 ⟨b8, f8, hp8, ht8, t', last', inv', hl', htight, rfl⟩
    refine ⟨_, rfl, _, rfl, _, _, rfl, rfl, (by rw [S_len, S_len]; omega), ?_⟩
    rw [S_app]
    refine ⟨_, rfl, .inl ⟨rfl, _, SqL.of hp8⟩, _, rfl, _, rfl, _, rfl, three_ok, fun p9 n9 => ?_⟩
    have hp9 := same_new n9 (.tup (tkV ⟨so, wd, 1 + nls t'⟩)) _ _ hp8
    refine ⟨p, vs, _, rfl, rfl, hp9, by omega, ?_⟩
    have b9 := b8.trans (But.same (same_new n9 (.tup (tkV ⟨so, wd, 1 + nls t'⟩))))
    have f9 := f8.mono (same_new n9 (.tup (tkV ⟨so, wd, 1 + nls t'⟩)))
    refine ⟨_, rfl, ?_⟩
    refine ⟨but_mut b9 nH _, Flow.mut fl b9 f9 nH _, t' ++ w, ts ++ [⟨so, wd, 1 + nls t'⟩], vs ++ [.ref p9], some so, bad, _, _, _, _, _, _, inv'.piece hw htight, by rw [List.length_append]; omega, upd_same, by rw [List.length_append]; show vs.length + 1 ≤ _; omega, ?_, rfl⟩
    refine Toks.set hp9 (Toks.app (ht8.mono (same_new n9 _)) ⟨⟨p9, rfl, upd_same⟩, trivial⟩)
  · intro NX nx
    have plainNx : ∀ H8, But a H7 H8 → Flow H8 a → (∀ s, last = some s → (so = .mark ∧ s ≠ .mark) ∨ (so ≠ .mark ∧ s = .mark)) → NX [some (.ref a), some (.int (many : Int)), some (.int sp), some (.str (S t)), some (.ref p), some (lastV last), some (badV bad), some (.int (0 + (i : Int))), some (.int ((1 + nls t : Nat) : Int)), some (.str (S w)), some (.str (soS so)), some (wdV wd), some (.bl tb)] H8 := fun H8 b8 f8 hh =>
      nx _ _ ⟨bb6.trans b8, f8, b8.o _ _ (fl.ne nH) hpp, ht6.but b8 f6, t, last, inv, by omega, hh, rfl⟩
    have spaceNx : ∀ H8 s1, SpaceOk s1 → s1.length ≤ 30 → But a H7 H8 → Flow H8 a → NX [some (.ref a), some (.int (many : Int)), some (.int sp), some (.str (S (t ++ s1))), some (.ref p), some (lastV last), some (badV bad), some (.int (0 + (i : Int))), some (.int ((1 + nls (t ++ s1) : Nat) : Int)), some (.str (S w)), some (.str (soS so)), some (wdV wd), some (.bl tb)] H8 := fun H8 s1 hs1 ls1 b8 f8 =>
      nx _ _ ⟨bb6.trans b8, f8, b8.o _ _ (fl.ne nH) hpp, ht6.but b8 f6, t ++ s1, none, inv.space hs1, by rw [List.length_append]; omega, (fun s e => by cases e), rfl⟩
    cases last with
    | none =>
      refine ⟨_, rfl, rfl, _, rfl, ?_⟩
      refine itedn (fun hx => absurd rfl hx) (fun _ => ?_)
      exact iteF (go_next (plainNx _ (But.refl _ _) f6 (fun s e => by cases e)))
    | some s =>
      refine ⟨_, rfl, rfl, _, rfl, ?_⟩
      refine itedn (fun _ => ?_) (fun hx => absurd hx (so_ne s))
      refine ⟨_, rfl, _, rfl, ?_⟩
      cases tb with
      | false =>
        refine iteF ?_
        refine itebn (fun _ => ?_) (fun h => by cases h)
        refine seq_set ?_
        refine ⟨_, rfl, _, rfl, a, rfl, f6, fun H9 s1 hs1 ls1 b9 f9 => ?_⟩
        refine ⟨_, _, rfl, rfl, (by rw [S_len, S_len]; omega), ?_⟩
        rw [S_app]
        have ec : V.int (1 + Txt.count (S (t ++ s1)) ("\n" : Str)) = V.int ((1 + nls (t ++ s1) : Nat) : Int) := by rw [count_nl]; rfl
        refine ⟨_, rfl, rfl, S (t ++ s1), _, rfl, rfl, _, _, rfl, rfl, ?_⟩
        dsimp only
        rw [ec]
        exact spaceNx H9 s1 hs1 ls1 (b9) f9
      | true =>
        refine iteT ?_
        refine ⟨_, rfl, a, 2, rfl, by decide, by decide, f6, fun H8 d8 _ b8 f8 => ⟨rfl, _, rfl, ?_⟩⟩
        refine itedn (fun _ => ?_) (fun _ => ?_)
        · refine seq_set ?_
          refine ⟨_, rfl, _, rfl, a, rfl, f8, fun H9 s1 hs1 ls1 b9 f9 => ?_⟩
          refine ⟨_, _, rfl, rfl, (by rw [S_len, S_len]; omega), ?_⟩
          rw [S_app]
          have ec : V.int (1 + Txt.count (S (t ++ s1)) ("\n" : Str)) = V.int ((1 + nls (t ++ s1) : Nat) : Int) := by rw [count_nl]; rfl
          refine ⟨_, rfl, rfl, S (t ++ s1), _, rfl, rfl, _, _, rfl, rfl, ?_⟩
          dsimp only
          rw [ec]
          exact spaceNx H9 s1 hs1 ls1 (b8.trans b9) f9
        · exact go_next (plainNx _ b8 f8 (fun s' e => by cases e; exact (htb s rfl).mp rfl))
end
end Wk
set_option maxRecDepth 100000
set_option maxHeartbeats 8000000
namespace Wk
open PySem L2 TL PyProof.Rows
open SX (S S_len)
/-- of the same form, to a depth -/
def Alike : Nat → Hp → V → V → Prop
  | 0, _, _, _ => False
  | d + 1, H, v, u => (∃ s, v = .str s ∧ u = .str s) ∨ (∃ n : Int, v = .int n ∧ u = .int n) ∨
    (∃ p q xs ys, v = .ref p ∧ u = .ref q ∧ ((H p = some (.tup xs) ∧ H q = some (.tup ys)) ∨ (H p = some (.lst xs) ∧ H q = some (.lst ys))) ∧ xs.length = ys.length ∧ xs.length ≤ 10000000 ∧
      ∀ (k : Nat) x y, xs[k]? = some x → ys[k]? = some y → Alike d H x y)
theorem Alike.mono {H H' : Hp} (g : Same H H') : ∀ {d : Nat} {v u : V}, Alike d H v u → Alike d H' v u
  | 0, _, _, h => h.elim
  | d + 1, v, u, h => by
    rcases h with h | h | ⟨p, q, xs, ys, e1, e2, h, hl, hb, hk⟩
    · exact .inl h
    · exact .inr (.inl h)
    · refine .inr (.inr ⟨p, q, xs, ys, e1, e2, ?_, hl, hb, fun k x y h1 h2 => (hk k x y h1 h2).mono g⟩)
      rcases h with ⟨h1, h2⟩ | ⟨h1, h2⟩
      · exact .inl ⟨g _ _ h1, g _ _ h2⟩
      · exact .inr ⟨g _ _ h1, g _ _ h2⟩
section
variable {P : Program} {w : World} {K : PySem.W.Frag} {mg : Str → Option Value} {base : Heap}
theorem ixK {X : Cx} {K : PySem.W.Frag} (h : X.K = K) : IxR X (rIx K) := by rw [← h]; exact ix_seq
theorem isi {v : V} {T t : String} {b : Bool} {σ : L2.St} {H : Hp} {Q : Bool → Hp → Prop} {i : Nat} (hv : σ[i]? = some (some v)) (ty : TyX K H v (.type T)) (k : kitB T t = some b) (q : Q b H) : tB (tCB (rIsi K) (tCons (tVar i) (tCons (tC (V.ty t)) tNil))) σ H Q :=
  ⟨v, hv, v, .ty t, .type T, .type t, b, rfl, .ty t, ty, kit_ty k, b, rfl, q⟩
theorem isiV {v : V} {T t : String} {b : Bool} {σ : L2.St} {H : Hp} {Q : VK} {i : Nat} (hv : σ[i]? = some (some v)) (ty : TyX K H v (.type T)) (k : kitB T t = some b) (q : Q (.bl b) H) : tCB (rIsi K) (tCons (tVar i) (tCons (tC (V.ty t)) tNil)) σ H Q :=
  ⟨v, hv, v, .ty t, .type T, .type t, b, rfl, .ty t, ty, kit_ty k, q⟩
abbrev s__law_same : Stmt := top 27
theorem sc__law_same : FnScope ["found", "due", "k"] ["found", "due"] (defScope s__law_same) := ⟨rfl, rfl, rfl, by decide +kernel, rfl, by decide +kernel, by decide +kernel⟩
def sp_same (d : Nat) : Sp := fun vs H Q _ => ∃ (v u : V), vs = [v, u] ∧ Alike d H v u ∧ ∀ H', Same H H' → Q (.bl true) H'
theorem ok_same {d lv : Nat} (T : Txt K mg) {f : Addr} {fd : FuncData} (F : Fun K "_law_same" "_law_same" s__law_same f fd) (D__law_same : Def P w K mg base CX0 "_law_same" ["found", "due"] lv (sp_same d)) : FnOk P w K mg base CX0 (lv + 1) f fd ["found", "due"] (sp_same (d + 1)) := by
  refine F.ok sc__law_same (fun vs H Q E h => ?_) (fun cdv A outer s H vs Q E hr h => ?_)
  · obtain ⟨a, b, rfl, _⟩ := h; rfl
  obtain ⟨v, u, rfl, ha, q⟩ := h
  refine ⟨_, (pss_cons (ps_if (PW.pt (pw_or (pt_val (pe_callB call_isi rfl T.n_isinstance boot_isinstance (pa_cons (pv 1) (pa_cons (pe_bltn (v := .ty "list") rfl T.n_list boot_list rfl) pa_nil)))) (pw_or1 (pt_val (pe_callB call_isi rfl T.n_isinstance boot_isinstance (pa_cons (pv 1) (pa_cons (pe_bltn (v := .ty "tuple") rfl T.n_tuple boot_tuple rfl) pa_nil))))))) (pss_cons (ps_if (PW.pt (pw_or (PW.pt (pw_and (pt_val (pe_callB call_isi rfl T.n_isinstance boot_isinstance (pa_cons (pv 1) (pa_cons (pe_bltn (v := .ty "list") rfl T.n_list boot_list rfl) pa_nil)))) (pw_and1 (pt_not (pt_val (pe_callB call_isi rfl T.n_isinstance boot_isinstance (pa_cons (pv 0) (pa_cons (pe_bltn (v := .ty "list") rfl T.n_list boot_list rfl) pa_nil)))))))) (pw_or1 (PW.pt (pw_and (pt_val (pe_callB call_isi rfl T.n_isinstance boot_isinstance (pa_cons (pv 1) (pa_cons (pe_bltn (v := .ty "tuple") rfl T.n_tuple boot_tuple rfl) pa_nil)))) (pw_and1 (pt_not (pt_val (pe_callB call_isi rfl T.n_isinstance boot_isinstance (pa_cons (pv 0) (pa_cons (pe_bltn (v := .ty "tuple") rfl T.n_tuple boot_tuple rfl) pa_nil))))))))))) (pss_one (ps_ret pe_bl)) pss_nil)
      (pss_one (ps_ret (pe_and (pe_cmpR op_eq (pe_callB call_len_seq rfl T.n_len boot_len (pa_cons (pv 0) pa_nil)) (pe_callB call_len_seq rfl T.n_len boot_len (pa_cons (pv 1) pa_nil)) (nomark _)) (pe_one (pe_callB (cr_all rfl) rfl T.n_all boot_all (pa_cons (pe_lc (own := [("k", 2)]) (g := gName 2) (tt := tYes) rfl sc__law_same.nd (pi_range1 rfl T.n_range (pa_cons (pe_callB call_len_seq rfl T.n_len boot_len (pa_cons (pv 1) pa_nil)) pa_nil)) (blkOk_by (N := ["found", "due", "k"]) (sc := defScope s__law_same) (by decide +kernel)) (fun _ _ _ _ _ => pg_name (i := 2) sc__law_same.nd rfl (Or.inl rfl)) (fun _ _ _ _ _ => pts_nil) (fun _ _ _ _ _ => (pe_call D__law_same.ok hr rfl D__law_same.g D__law_same.k D__law_same.b .nil pass0 (pa_cons (pe_ix (ixK (K := K) rfl) (pv 0) (pv 2) (fun _ _ => rfl)) (pa_cons (pe_ix (ixK (K := K) rfl) (pv 1) (pv 2) (fun _ _ => rfl)) pa_nil))))) pa_nil))))))) pss_nil)
    (pss_cons (ps_if (pt_cmpR op_isN (pv 1) pe_non (nomark _)) (pss_one (ps_ret (pe_cmpR op_isN (pv 0) pe_non (nomark _)))) pss_nil)
    (pss_cons (ps_if (pt_val (pe_callB call_isi rfl T.n_isinstance boot_isinstance (pa_cons (pv 1) (pa_cons (pe_bltn (v := .ty "bool") rfl T.n_bool boot_bool rfl) pa_nil)))) (pss_one (ps_ret (pe_and (pe_callB call_isi rfl T.n_isinstance boot_isinstance (pa_cons (pv 0) (pa_cons (pe_bltn (v := .ty "bool") rfl T.n_bool boot_bool rfl) pa_nil))) (pe_one (pe_cmpR op_eq (pv 0) (pv 1) (nomark _)))))) pss_nil)
    (pss_cons (ps_if (pt_val (pe_callB call_isi rfl T.n_isinstance boot_isinstance (pa_cons (pv 1) (pa_cons (pe_bltn (v := .ty "int") rfl T.n_int boot_int rfl) pa_nil)))) (pss_one (ps_ret (pe_and (pe_callB call_isi rfl T.n_isinstance boot_isinstance (pa_cons (pv 0) (pa_cons (pe_bltn (v := .ty "int") rfl T.n_int boot_int rfl) pa_nil))) (pe_and (pe_not (pe_callB call_isi rfl T.n_isinstance boot_isinstance (pa_cons (pv 0) (pa_cons (pe_bltn (v := .ty "bool") rfl T.n_bool boot_bool rfl) pa_nil)))) (pe_one (pe_cmpR op_eq (pv 0) (pv 1) (nomark _))))))) pss_nil)
    (pss_one (ps_ret (pe_and (pe_callB call_isi rfl T.n_isinstance boot_isinstance (pa_cons (pv 0) (pa_cons (pe_bltn (v := .ty "str") rfl T.n_str boot_str rfl) pa_nil))) (pe_one (pe_cmpR op_eq (pv 0) (pv 1) (nomark _)))))))))), ?_⟩
  have hz := line_eq
  have rest : ∀ {p q : Addr} {xs ys : List V}, v = .ref p → u = .ref q → ((H p = some (.tup xs) ∧ H q = some (.tup ys)) ∨ (H p = some (.lst xs) ∧ H q = some (.lst ys))) → xs.length = ys.length → xs.length ≤ 10000000 →
      (∀ (k : Nat) x y, xs[k]? = some x → ys[k]? = some y → Alike d H x y) →
      (tAndV (tOp rEq (tCB (fun xs H Q => ∃ p ys, xs = [V.ref p] ∧ (SqL K H p ys ∨ SqT K H p ys) ∧ Q (V.int ys.length) H) (tCons (tVar 0) tNil)) (tCB (fun xs H Q => ∃ p ys, xs = [V.ref p] ∧ (SqL K H p ys ∨ SqT K H p ys) ∧ Q (V.int ys.length) H) (tCons (tVar 1) tNil)))
        (tCB (rAll K) (tCons (tLc (iRng1 (tCons (tCB (fun xs H Q => ∃ p ys, xs = [V.ref p] ∧ (SqL K H p ys ∨ SqT K H p ys) ∧ Q (V.int ys.length) H) (tCons (tVar 1) tNil)) tNil)) (gName 2) tYes
          (tCall (sp_same d) [] E0 (tCons (tOp (rIx K) (tVar 0) (tVar 2)) (tCons (tOp (rIx K) (tVar 1) (tVar 2)) tNil))) [2]) tNil))) [some v, some u, none] H Q := by
    rintro p q' xs ys rfl rfl hh hl hb hk
    have hx : ∀ {H'}, Same H H' → (SqL K H' p xs ∨ SqT K H' p xs) := fun g => by
      rcases hh with ⟨h1, _⟩ | ⟨h1, _⟩
      · exact .inr (SqT.of (g _ _ h1))
      · exact .inl (SqL.of (g _ _ h1))
    have hy : ∀ {H'}, Same H H' → (SqL K H' q' ys ∨ SqT K H' q' ys) := fun g => by
      rcases hh with ⟨_, h1⟩ | ⟨_, h1⟩
      · exact .inr (SqT.of (g _ _ h1))
      · exact .inl (SqL.of (g _ _ h1))
    have ixx : ∀ {H' : Hp} {a : Addr} {zs : List V} {k : Nat} {z : V} {R : VK}, (SqL K H' a zs ∨ SqT K H' a zs) → zs[k]? = some z → R z H' → rIx K (.ref a) (.int (k : Int)) H' R := fun h e r => by
      rcases h with h | h
      · exact .inl ⟨_, _, _, _, rfl, rfl, h, atI_nat e, r⟩
      · exact .inr (.inl ⟨_, _, _, _, rfl, rfl, h, atI_nat e, r⟩)
    refine ⟨_, rfl, p, xs, rfl, hx (Same.refl H), _, rfl, q', ys, rfl, hy (Same.refl H), rfl, _, rfl, ?_⟩
    refine ited (fun _ => ?_) (fun hn => absurd (by rw [hl]) hn)
    refine ⟨_, rfl, q', ys, rfl, hy (Same.refl H), _, rfl, by omega, by omega, fun D hD => ?_⟩
    rw [Int.toNat_natCast]
    refine lc_range (fun i H' => Same H H' ∧ H' D = some (.lst (List.replicate i (V.bl true)))) ⟨same_new hD _, upd_same⟩ ?_ ?_
    · rintro i H' hi ⟨g, hd⟩
      refine ⟨rfl, ?_⟩
      unfold tYes
      dsimp only
      rw [if_pos rfl, Int.zero_add]
      have e1 : xs[i]? = some xs[i] := List.getElem?_eq_getElem (by omega)
      have e2 : ys[i]? = some ys[i] := List.getElem?_eq_getElem hi
      refine ⟨_, rfl, _, rfl, ixx (hx g) e1 ?_⟩
      refine ⟨_, rfl, _, rfl, ixx (hy g) e2 ?_⟩
      refine ⟨_, _, rfl, (hk i _ _ e1 e2).mono g, fun H2 g2 => ?_⟩
      refine ⟨_, g2 _ _ hd, by rw [List.length_replicate]; omega, same_mut (g.trans g2) hD _, ?_⟩
      rw [upd_same, ← List.replicate_succ']
    · rintro H' ⟨g, hd⟩
      refine ⟨D, List.replicate ys.length true, rfl, SqL.of (by rw [hd, List.map_replicate]), ?_⟩
      have e : (List.replicate ys.length true).all id = true := by simp
      rw [e]
      exact q _ g
  rcases ha with ⟨z, rfl, rfl⟩ | ⟨n, rfl, rfl⟩ | ⟨p, q', xs, ys, e1, e2, hh, hl, hb, hk⟩
  · have ty : TyX K H (.str z) (.type "str") := .base (.str z)
    refine isi (K := K) rfl ty (by decide +kernel) (iteF (isi (K := K) rfl ty (by decide +kernel) (iteF (go_next ?_))))
    refine ⟨_, rfl, rfl, _, rfl, ?_⟩
    refine ited (fun hx => by cases hx) (fun _ => go_next ?_)
    refine isi (K := K) rfl ty (by decide +kernel) (iteF (go_next ?_))
    refine isi (K := K) rfl ty (by decide +kernel) (iteF (go_next ?_))
    refine isiV (K := K) rfl ty (b := true) (by decide +kernel) ⟨_, rfl, iteT ?_⟩
    refine ⟨_, rfl, _, rfl, rfl, ?_⟩
    rw [decide_eq_true rfl]
    exact q _ (Same.refl H)
  · have ty : TyX K H (.int n) (.type "int") := .base (.int n)
    refine isi (K := K) rfl ty (by decide +kernel) (iteF (isi (K := K) rfl ty (by decide +kernel) (iteF (go_next ?_))))
    refine ⟨_, rfl, rfl, _, rfl, ?_⟩
    refine ited (fun hx => by cases hx) (fun _ => go_next ?_)
    refine isi (K := K) rfl ty (by decide +kernel) (iteF (go_next ?_))
    refine isi (K := K) rfl ty (by decide +kernel) (iteT ?_)
    refine isiV (K := K) rfl ty (b := true) (by decide +kernel) ⟨_, rfl, iteT ?_⟩
    refine isiV (K := K) rfl ty (b := false) (by decide +kernel) ⟨_, rfl, _, rfl, iteT ?_⟩
    refine ⟨_, rfl, _, rfl, rfl, ?_⟩
    rw [decide_eq_true rfl]
    exact q _ (Same.refl H)
  · have r := rest e1 e2 hh hl hb hk
    subst e1; subst e2
    rcases hh with ⟨h1, h2⟩ | ⟨h1, h2⟩
    · have t1 : TyX K H (.ref p) (.type "tuple") := .base (.tup h1)
      have t2 : TyX K H (.ref q') (.type "tuple") := .base (.tup h2)
      refine isi (K := K) rfl t2 (b := false) (by decide +kernel) (iteF (isi (K := K) rfl t2 (b := true) (by decide +kernel) (iteT ?_)))
      refine isi (K := K) rfl t2 (b := false) (by decide +kernel) (iteF (iteF (isi (K := K) rfl t2 (b := true) (by decide +kernel) (iteT (isi (K := K) rfl t1 (b := true) (by decide +kernel) (iteF (go_next ?_)))))))
      exact r
    · have t1 : TyX K H (.ref p) (.type "list") := .base (.lst h1)
      have t2 : TyX K H (.ref q') (.type "list") := .base (.lst h2)
      refine isi (K := K) rfl t2 (b := true) (by decide +kernel) (iteT (iteT ?_))
      refine isi (K := K) rfl t2 (b := true) (by decide +kernel) (iteT (isi (K := K) rfl t1 (b := true) (by decide +kernel) (iteF (isi (K := K) rfl t2 (b := false) (by decide +kernel) (iteF (iteF (go_next ?_)))))))
      exact r
theorem ok_same0 {f : Addr} {fd : FuncData} (F : Fun K "_law_same" "_law_same" s__law_same f fd) : FnOk P w K mg base CX0 1 f fd ["found", "due"] (sp_same 0) := by
  refine F.ok sc__law_same (fun vs H Q E h => ?_) (fun cdv A outer s H vs Q E hr h => ?_)
  · obtain ⟨a, b, _, h, _⟩ := h; exact h.elim
  · obtain ⟨a, b, _, h, _⟩ := h; exact h.elim
end
end Wk
set_option maxRecDepth 100000
set_option maxHeartbeats 8000000
namespace Wk
open PySem PySem.Spec L2 TL PyProof.Rows
/-! ### a try of two clauses, the second with a name -/
section
variable {X : Cx} {pins : List (Addr × Obj)} {σ : L2.St} {H : Hp} {cls : Value} {d : Option Addr} {a : Addr} {B : Heap} {sI s : Shared}
/-- an exception before the clauses of X -/
structure Down (X : Cx) (pins : List (Addr × Obj)) (σ : L2.St) (H : Hp) (cls : Value) (d : Option Addr) (a : Addr) (B : Heap) (sI s : Shared) : Prop where
  ground : L2.Inv X pins σ H sI
  kept : ∀ b o, sI.heap.get? b = some o → b ∉ frs X.stack → B.get? b = some o
  rise : sI.heap.UpToSlots s.heap
  same : s.os = sI.os
  gens : AllBare s.gens
  air : HandSPX.FlyingZ B (X.env :: X.outer) a (Zc cls d) s.heap
  new : H a = none
theorem Down.inv (D : Down X pins σ H cls d a B sI s) : L2.Inv X pins σ H s := D.ground.landed D.kept D.air.1 D.rise D.same D.gens
theorem Down.suite (D : Down X pins σ H cls d a B sI s) (hf : X.env.frame = some X.env.locals) :
    ∃ oe vs, s.heap.get? a = some oe ∧ Zc cls d oe ∧ oe.data = .fields vs ∧ L2.Inv (X.suite a ((a, oe) :: (X.pn ++ pins))) [] σ H s := by
  obtain ⟨oe, vs, there, kind, fields⟩ := D.air.there
  have noFrame : a ∉ frs (X.env :: X.outer) := by
    intro mem
    obtain ⟨_, o2, e2, k2⟩ := D.air.2.2.1.mem mem
    rw [there] at e2
    obtain rfl := Option.some.inj e2
    exact k2 _ fields
  refine ⟨oe, vs, there, kind, fields, D.inv.suite there fields D.new (fun e => noFrame ?_) fun mem => noFrame ?_⟩
  · exact List.mem_filterMap.mpr ⟨X.env, .head _, by rw [hf, e]⟩
  · obtain ⟨e2, m2, k2⟩ := List.mem_filterMap.mp mem
    exact List.mem_filterMap.mpr ⟨e2, .tail _ m2, k2⟩
theorem Down.again {M : Model} {A : Around} {Q : Unit → Shared → Prop} {E : Value → Shared → Prop} (D : Down X pins σ H cls d a B sI s)
    (q : ∀ h, Down X pins σ H cls d a B sI { s with heap := h } → Q () { s with heap := h }) : wpAny M A (setFlight (.ref a) none) Q E s :=
  HandSPX.lands_againZ D.air fun h f u => q h ⟨D.ground, D.kept, D.rise.trans u, D.same, D.gens, f, D.new⟩
/-- the class of a clause is looked up and asked -/
theorem Down.ask {R : Except Value PySem.Flow → Shared → Prop} {x : Str} {c : Value} {b : Bool} {np pos : Pos} (D : Down X pins σ H cls d a B sI s) (hf : X.env.frame = some X.env.locals) (hc : Names X x c) (hb : PySem.W.exmOne X.K cls c = some b)
    (q : R (.ok (if b then .brk else .next)) s) : codeAny (model X.prog X.w) (X.A.mark (some (.ref a))) (.handlers (.ref a) [.ExceptHandler (some (.Name x np)) none [] pos] X.env) R s := by
  obtain ⟨oe, vs, there, kind, fields, S⟩ := D.suite hf
  refine codeAny_handlers_test ?_
  have looks : PySem.W.Looks (model X.prog X.w) s.heap (typeOf (.ref a)) cls := fun A Q E s2 keep q2 => wpAny_typeOf_ref (keep a oe there) (kind.1.symm ▸ q2)
  have asked := PySem.W.exm_one (M := model X.prog X.w) D.inv.kIn looks hb
  obtain ⟨glob, nodbg, own | ⟨none_, boot, nn⟩⟩ := hc
  · exact ld_glob S glob own (asked.here q) nodbg
  · exact ld_blt S glob none_ boot (asked.here q) nn nodbg
/-- what the two clauses wish -/
def wTwo (K : PySem.W.Frag) (c1 c2 : Value) (i : Nat) (t1 t2 : Addr → Value → Option Addr → TS) (D : Ends) : WX := fun cls d σ H =>
  (PySem.W.exmOne K cls c1 = some true ∧ ∀ a, H a = none → t1 a cls d D σ H) ∨
  (PySem.W.exmOne K cls c1 = some false ∧ PySem.W.exmOne K cls c2 = some true ∧ ∀ a, H a = none →
    t2 a cls d { nx := fun σ' H' => D.nx (σ'.set i none) H', rt := D.rt, bk := fun σ' H' => D.bk (σ'.set i none) H', ct := fun σ' H' => D.ct (σ'.set i none) H' } (σ.set i (some (.ref a))) H)
theorem ps_try_two {x1 x2 n : Str} {c1 c2 : Value} {i : Nat} {body s1 s2 : List Stmt} {b1 b2 : Stmt} {n1 n2 p1 p2 pos : Pos} {tb : WX → TS} {t1 t2 : Addr → Value → Option Addr → TS}
    (hs : X.stack = X.env :: X.outer) (hf : X.env.frame = some X.env.locals) (hN : X.N.Nodup) (hi : X.N[i]? = some n) (hln : X.env.kindOf n = some .local) (hc1 : Names X x1 c1) (hc2 : Names X x2 c2)
    (hb : ∀ (W : WX) (pn : List (Addr × Obj)) (xe : Value → Shared → Prop), Takes (X.tr pn xe) W → PSs (X.tr pn xe) body (tb W))
    (h1 : ∀ (a : Addr) (oe : Obj) (cls : Value) (d : Option Addr) (pn : List (Addr × Obj)), Zc cls d oe → (∃ vs, oe.data = .fields vs) → PSs (X.suite a ((a, oe) :: pn)) (b1 :: s1) (t1 a cls d))
    (h2 : ∀ (a : Addr) (oe : Obj) (cls : Value) (d : Option Addr) (pn : List (Addr × Obj)), Zc cls d oe → (∃ vs, oe.data = .fields vs) → PSs (X.suite a ((a, oe) :: pn)) (b2 :: s2) (t2 a cls d)) :
    PS X (.Try body [.ExceptHandler (some (.Name x1 n1)) none (b1 :: s1) p1, .ExceptHandler (some (.Name x2 n2)) (some n) (b2 :: s2) p2] [] [] pos) (fun D σ H => tb (wTwo X.K c1 c2 i t1 t2 D) D σ H) := by
  refine ⟨fun pins s σ H D I h => wpAny_Try_except ?_⟩
  have okX := I.ok
  have hfr : X.A.frames = some (X.env :: X.outer) := by rw [okX.frames, hs]
  -- out of a suite
  have leave : ∀ {f : PySem.Flow} {a : Addr} {oe : Obj} {s5 : Shared}, SP (X.suite a ((a, oe) :: (X.pn ++ pins))) [] D f s5 → SP X pins D f s5 := by
    intro f a oe s5 sp
    cases f with
    | ret u => obtain ⟨v, σ5, H5, S5, r5, q5⟩ := sp; exact ⟨v, σ5, H5, S5.unsuite okX, r5, q5⟩
    | next => obtain ⟨σ5, H5, S5, q5⟩ := sp; exact ⟨σ5, H5, S5.unsuite okX, q5⟩
    | brk => obtain ⟨σ5, H5, S5, q5⟩ := sp; exact ⟨σ5, H5, S5.unsuite okX, q5⟩
    | cont => obtain ⟨σ5, H5, S5, q5⟩ := sp; exact ⟨σ5, H5, S5.unsuite okX, q5⟩
  have run := (hb (wTwo X.K c1 c2 i t1 t2 D) (X.pn ++ pins)
    (fun e sA => wpAny (model X.prog X.w) X.A (noteFrame e X.env) (fun _ sB => wpAny (model X.prog X.w) X.A (setFlight e none)
      (fun _ sC => wpAny (model X.prog X.w) X.A (handleBy e X.env [.ExceptHandler (some (.Name x1 n1)) none (b1 :: s1) p1, .ExceptHandler (some (.Name x2 n2)) (some n) (b2 :: s2) p2]) (SP X pins D) X.xe sC) X.xe sB) X.xe sA)
    ?_).run [] s σ H D (I.toTry _) h
  · refine wpAny_mono run (fun f sA sp => ?_) (fun _ _ z => z)
    cases f with
    | next => obtain ⟨σ', H', J, q⟩ := sp; exact wpAny_execs_nil ⟨σ', H', J.ofTry okX, q⟩
    | brk => obtain ⟨σ', H', J, q⟩ := sp; exact ⟨σ', H', J.ofTry okX, q⟩
    | cont => obtain ⟨σ', H', J, q⟩ := sp; exact ⟨σ', H', J.ofTry okX, q⟩
    | ret u => obtain ⟨v, σ', H', J, r, q⟩ := sp; exact ⟨v, σ', H', J.ofTry okX, r, q⟩
  -- what flies out of the body
  rintro _ sA ⟨a, B, sI, pinsT, σ', H', cls, d, rfl, JT, kept, rise, sky, new, same, gens, wish⟩
  have J := JT.ofTry okX
  have sky2 : Sky B (X.env :: X.outer) a (Zc cls d) X.env.locals sA.heap := hs ▸ sky
  refine Sky.land Zc.steady hfr hf sky2 fun hC fl upC => ?_
  have D0 : Down X pins σ' H' cls d a B sI { sA with heap := hC } := ⟨J, kept, rise.trans upC, same, gens, fl, new⟩
  refine wpAny_handleBy_cons ?_ (by rintro ⟨⟩)
  rcases wish with ⟨m1, go1⟩ | ⟨m1, m2, go2⟩
  · refine D0.ask hf hc1 m1 (codeAny_handlers_suite (D0.again fun h4 D4 => ?_))
    obtain ⟨oe, vs, there, kind, fields, S⟩ := D4.suite hf
    exact wpAny_mono ((h1 a oe cls d (X.pn ++ pins) kind ⟨vs, fields⟩).run [] _ _ H' D S (go1 a new)) (fun f s5 sp => leave sp) (fun _ _ z => False.elim z)
  · refine D0.ask hf hc1 m1 (wpAny_handleBy_cons ?_ (by rintro ⟨⟩))
    refine D0.ask hf hc2 m2 (codeAny_handlers_suite_as (D0.again fun h4 D4 => ?_))
    obtain ⟨oe, vs, there, kind, fields, S⟩ := D4.suite hf
    refine @store_ok (X.suite a ((a, oe) :: (X.pn ++ pins))) _ _ _ _ _ _ _ i n (.ref a) _ _ S hN hi (.inl hln) rfl (fun s5 S5 => ?_) (.inr hln)
    refine wpAny_mono ((h2 a oe cls d (X.pn ++ pins) kind ⟨vs, fields⟩).run [] s5 _ H' _ S5 (go2 a new)) (fun f s6 sp => ?_) (fun _ _ z => False.elim z)
    have gone : ∀ {σ6 : L2.St} {H6 : Hp} {R : Shared → Prop}, L2.Inv (X.suite a ((a, oe) :: (X.pn ++ pins))) [] σ6 H6 s6 → (∀ s7, L2.Inv X pins (σ6.set i none) H6 s7 → R s7) →
        wpAny (model X.prog X.w) X.A (do bindName X.env n .none; unbindBehindTheSuite X.env n p2) (fun _ s7 => R s7) X.xe s6 := fun S6 r => gone_ok (S6.unsuite okX) hN hi hln r
    cases f with
    | ret u => obtain ⟨v, σ6, H6, S6, r6, q6⟩ := sp; exact gone S6 fun s7 J7 => ⟨v, _, H6, J7, r6, q6⟩
    | next => obtain ⟨σ6, H6, S6, q6⟩ := sp; exact gone S6 fun s7 J7 => ⟨_, H6, J7, q6⟩
    | brk => obtain ⟨σ6, H6, S6, q6⟩ := sp; exact gone S6 fun s7 J7 => ⟨_, H6, J7, q6⟩
    | cont => obtain ⟨σ6, H6, S6, q6⟩ := sp; exact gone S6 fun s7 J7 => ⟨_, H6, J7, q6⟩
end
end Wk
set_option maxRecDepth 100000
set_option maxHeartbeats 8000000
namespace Wk
open PySem L2 TL PyProof.Rows
open SX (S S_len)
/-- what is told of a text, its list a new one -/
def TellN (H0 H : Hp) (v : V) (r : Res) : Prop := ∃ p, v = .ref p ∧ (match r with
  | .bad l => H p = some (.tup [.str "bad", .int (l : Int)])
  | .ok ts => ∃ q vs, H p = some (.tup [.str "told", .ref q]) ∧ H q = some (.lst vs) ∧ H0 q = none ∧ Toks H vs ts)
section
variable {P : Program} {w : World} {K : PySem.W.Frag} {mg : Str → Option Value} {base : Heap}
abbrev s__law_told : Stmt := top 42
theorem sc__law_told : FnScope ["thing", "found", "e"] ["thing"] (defScope s__law_told) := ⟨rfl, rfl, rfl, by decide +kernel, rfl, by decide +kernel, by decide +kernel⟩
def sp_told (K : PySem.W.Frag) : Sp := fun vs H Q _ =>
  (∃ t : List Nat, vs = [.str (S t)] ∧ t.length ≤ 1000000 ∧ ∀ H' u, Same H H' → TellN H H' u (cutF 1 t) → Q u H') ∨
  ∃ v ty, vs = [v] ∧ TyX K H v ty ∧ PySem.W.kitOne K ty (.type "str") = some false ∧ ∀ H' p, Same H H' → H' p = some (.tup [.str "none", .int 0]) → Q (.ref p) H'
theorem ok_told (B : ExcT P w K mg base "BadText" ["self", "line"] sp_bad_init) (BN : ExcT P w K mg base "NoText" ["self"] (fun _ _ => sp_no_init)) (XT : XfC K B.C) (hno : PySem.W.findIn K (.ref B.C) "line" = some none)
    (m1 : PySem.W.exmOne K (.ref BN.C) (.ref BN.C) = some true) (m2 : PySem.W.exmOne K (.ref B.C) (.ref BN.C) = some false) (m3 : PySem.W.exmOne K (.ref B.C) (.ref B.C) = some true)
    {f : Addr} {fd : FuncData} (F : Fun K "_law_told" "_law_told" s__law_told f fd)
    (D_words : Def P w K mg base (L2.CX P w) "words" ["text"] 6 (sp_words K B.C BN.C)) : FnOk P w K mg base CX0 7 f fd ["thing"] (sp_told K) := by
  refine F.ok sc__law_told (fun vs H Q E h => ?_) (fun cdv A outer s H vs Q E hr h => ?_)
  · rcases h with ⟨a, rfl, _⟩ | ⟨v, ty, rfl, _⟩ <;> rfl
  refine ⟨_, (pss_cons (ps_try_two (i := 2) rfl rfl sc__law_told.nd rfl rfl ⟨rfl, by decide, .inl BN.gC⟩ ⟨rfl, by decide, .inl B.gC⟩ (fun W pn xe tk => (pss_one (ps_set (i := 1) sc__law_told.nd rfl (Or.inl rfl) (pe_tup (pa_cons pe_str (pa_cons (pe_callS D_words.ok hr rfl D_words.g D_words.k D_words.b (fun σ => passAt tk σ) (pa_cons (pv 0) pa_nil)) pa_nil)))))) (fun a oe cls d pn hz hf => (pss_one (ps_set (i := 1) sc__law_told.nd rfl (Or.inl rfl) (pe_tup (pa_cons pe_str (pa_cons pe_int pa_nil)))))) (fun a oe cls d pn hz hf => (pss_one (ps_set (i := 1) sc__law_told.nd rfl (Or.inl rfl) (pe_tup (pa_cons pe_str (pa_cons (pe_xf XT hno hz hf (pv 2)) pa_nil)))))))
    (pss_one (ps_ret (pv 1)))), ?_⟩
  have hz := line_eq
  rcases h with ⟨t, rfl, hl, q⟩ | ⟨v, ty, rfl, ht, hk, q⟩
  · refine seq_join (fun σ H' => ∃ u x2, σ = [some (.str (S t)), some u, x2] ∧ Same H H' ∧ TellN H H' u (cutF 1 t)) ?_ ?_
    · rintro σ H' ⟨u, x2, rfl, g, tl⟩
      exact ⟨_, rfl, q _ _ g tl⟩
    intro NX nx
    refine ⟨_, rfl, .inl ⟨t, rfl, hl, ?_⟩⟩
    cases e : cutF 1 t with
    | bad l =>
      rw [e] at nx
      intro H2 d g hd
      refine .inr ⟨m2, m3, fun a na => ?_⟩
      refine ⟨_, rfl, rfl, rfl, d, _, .int (l : Int), rfl, hd, rfl, (by show 2 ≤ _; omega), fun p np => ?_⟩
      exact nx _ _ ⟨_, _, rfl, same_to g np _, p, rfl, upd_same⟩
    | ok ts =>
      rw [e] at nx
      intro H2 p vs hp g hH ht
      refine ⟨(by show 2 ≤ _; omega), fun p2 np => ?_⟩
      exact nx _ _ ⟨_, _, rfl, same_to g np _, p2, rfl, p, vs, upd_same, same_new np _ _ _ hH, hp, ht.mono (same_new np _)⟩
  · refine seq_join (fun σ H' => ∃ p x2, σ = [some v, some (.ref p), x2] ∧ Same H H' ∧ H' p = some (.tup [.str "none", .int 0])) ?_ ?_
    · rintro σ H' ⟨p, x2, rfl, g, tl⟩
      exact ⟨_, rfl, q _ _ g tl⟩
    intro NX nx
    refine ⟨_, rfl, .inr ⟨v, ty, rfl, ht, hk, .inl ⟨m1, fun a na => ?_⟩⟩⟩
    refine ⟨(by show 2 ≤ _; omega), fun p np => ?_⟩
    exact nx _ _ ⟨p, _, rfl, same_new np _, upd_same⟩
end
end Wk
set_option maxRecDepth 100000
set_option maxHeartbeats 8000000
namespace Wk
open PySem L2 TL PyProof.Rows
open SX (S S_len)
theorem Tell.mono {H H' : Hp} {v : V} {r : Res} (g : Same H H') (h : Tell H v r) : Tell H' v r := by
  obtain ⟨p, e, h⟩ := h
  refine ⟨p, e, ?_⟩
  cases r with
  | bad l => exact g _ _ h
  | ok ts => obtain ⟨q, vs, h1, h2, h3⟩ := h; exact ⟨q, vs, g _ _ h1, g _ _ h2, h3.mono g⟩
theorem TellN.tell {H0 H : Hp} {v : V} {r : Res} (h : TellN H0 H v r) : Tell H v r := by
  obtain ⟨p, e, h⟩ := h
  refine ⟨p, e, ?_⟩
  cases r with
  | bad l => exact h
  | ok ts => obtain ⟨q, vs, h1, h2, _, h3⟩ := h; exact ⟨q, vs, h1, h2, h3⟩
theorem toks_len {H : Hp} : ∀ {vs : List V} {ts : List Tk}, Toks H vs ts → vs.length = ts.length
  | [], [], _ => rfl
  | _ :: _, _ :: _, ⟨_, r⟩ => congrArg (· + 1) (toks_len r)
  | [], _ :: _, h => h.elim
  | _ :: _, [], h => h.elim
theorem toks_get {H : Hp} : ∀ {vs : List V} {ts : List Tk} {k : Nat} {x : V}, Toks H vs ts → vs[k]? = some x → ∃ t, ts[k]? = some t ∧ ∃ p, x = .ref p ∧ H p = some (.tup (tkV t))
  | [], _, k, x, _, e => by cases k <;> cases e
  | _ :: _, t :: _, 0, x, ⟨⟨p, e1, h⟩, r⟩, e => ⟨t, rfl, p, by cases e; exact e1, h⟩
  | _ :: _, _ :: _, k + 1, x, ⟨_, r⟩, e => by have z := toks_get (k := k) r e; exact z
  | _ :: _, [], _, _, h, _ => h.elim
theorem alike_tk {H : Hp} {p q : Addr} {t : Tk} (h1 : H p = some (.tup (tkV t))) (h2 : H q = some (.tup (tkV t))) : Alike 2 H (.ref p) (.ref q) := by
  refine .inr (.inr ⟨p, q, tkV t, tkV t, rfl, rfl, .inl ⟨h1, h2⟩, rfl, by show 3 ≤ _; decide, fun k x y e1 e2 => ?_⟩)
  have e : x = y := Option.some.inj (e1.symm.trans e2)
  subst e
  rcases k with _ | _ | _ | k
  · exact .inl ⟨_, (Option.some.inj e1).symm, (Option.some.inj e1).symm⟩
  · have e3 : wdV t.wd = x := Option.some.inj e1
    subst e3
    cases t.wd with
    | s l => exact .inl ⟨_, rfl, rfl⟩
    | n m => exact .inr (.inl ⟨_, rfl, rfl⟩)
  · exact .inr (.inl ⟨_, (Option.some.inj e1).symm, (Option.some.inj e1).symm⟩)
  · cases k <;> cases e1
theorem alike_tell {H : Hp} {u v : V} {r : Res} (hr : ∀ ts, r = .ok ts → ts.length ≤ 10000000) (h1 : Tell H u r) (h2 : Tell H v r) : Alike 4 H u v := by
  obtain ⟨p, rfl, h1⟩ := h1
  obtain ⟨q, rfl, h2⟩ := h2
  cases r with
  | bad l =>
    refine .inr (.inr ⟨p, q, _, _, rfl, rfl, .inl ⟨h1, h2⟩, rfl, by show 2 ≤ _; decide, fun k x y e1 e2 => ?_⟩)
    have e : x = y := Option.some.inj (e1.symm.trans e2)
    subst e
    rcases k with _ | _ | k
    · exact .inl ⟨_, (Option.some.inj e1).symm, (Option.some.inj e1).symm⟩
    · exact .inr (.inl ⟨_, (Option.some.inj e1).symm, (Option.some.inj e1).symm⟩)
    · cases k <;> cases e1
  | ok ts =>
    obtain ⟨a, xs, h1, k1, t1⟩ := h1
    obtain ⟨b, ys, h2, k2, t2⟩ := h2
    have l1 := toks_len t1
    have l2 := toks_len t2
    have lb := hr ts rfl
    refine .inr (.inr ⟨p, q, _, _, rfl, rfl, .inl ⟨h1, h2⟩, rfl, by show 2 ≤ _; decide, fun k x y e1 e2 => ?_⟩)
    rcases k with _ | _ | k
    · have e : x = y := Option.some.inj (e1.symm.trans e2)
      subst e
      exact .inl ⟨_, (Option.some.inj e1).symm, (Option.some.inj e1).symm⟩
    · have e1 : V.ref a = x := Option.some.inj e1
      have e2 : V.ref b = y := Option.some.inj e2
      subst e1; subst e2
      refine .inr (.inr ⟨a, b, xs, ys, rfl, rfl, .inr ⟨k1, k2⟩, by rw [l1, l2], by omega, fun k x y e1 e2 => ?_⟩)
      obtain ⟨t, g1, p1, rfl, m1⟩ := toks_get t1 e1
      obtain ⟨t', g2, p2, rfl, m2⟩ := toks_get t2 e2
      have e : t = t' := Option.some.inj (g1.symm.trans g2)
      subst e
      exact alike_tk m1 m2
    · cases k <;> cases e1
section
variable {P : Program} {w : World} {K : PySem.W.Frag} {mg : Str → Option Value} {base : Heap}
abbrev s_law : Stmt := top 43
theorem sc_law : FnScope ["script", "flow", "way", "thing", "text", "k", "due", "told"] ["script"] (defScope s_law) := ⟨rfl, rfl, rfl, by decide +kernel, rfl, by decide +kernel, by decide +kernel⟩
def sp_law (K : PySem.W.Frag) : Sp := fun vs H Q _ => ∃ (a : Addr) (ns : List Int), vs = [.ref a] ∧ SqL K H a (ns.map V.int) ∧ ns.length ≤ 1000 ∧ ∀ H', Q (.bl true) H'
theorem ok_law (T : Txt K mg) {f : Addr} {fd : FuncData} (F : Fun K "law" "law" s_law f fd)
    (D__law_flow : Def P w K mg base CX0 "_law_flow" ["script"] 1 (sp_flow K)) (D__law_draw : Def P w K mg base CX0 "_law_draw" ["flow", "many"] 2 sp_draw) (D__law_sign : Def P w K mg base CX0 "_law_sign" ["flow"] 3 sp_sign)
    (D__law_cut : Def P w K mg base CX0 "_law_cut" ["text"] 3 sp_cut) (D__law_pieces : Def P w K mg base CX0 "_law_pieces" ["flow"] 5 (sp_pieces K)) (D__law_same : Def P w K mg base CX0 "_law_same" ["found", "due"] 5 (sp_same 4))
    (D__law_told : Def P w K mg base CX0 "_law_told" ["thing"] 7 (sp_told K)) : FnOk P w K mg base CX0 8 f fd ["script"] (sp_law K) := by
  refine F.ok sc_law (fun vs H Q E h => ?_) (fun cdv A outer s H vs Q E hr h => ?_)
  · obtain ⟨a, ns, rfl, _⟩ := h; rfl
  obtain ⟨a0, ns, rfl, hs, hl, q⟩ := h
  refine ⟨_, (pss_cons (ps_set (i := 1) sc_law.nd rfl (Or.inl rfl) (pe_call D__law_flow.ok (hr.mono (by omega)) rfl D__law_flow.g D__law_flow.k D__law_flow.b .nil pass0 (pa_cons (pv 0) pa_nil)))
    (pss_cons (ps_set (i := 2) sc_law.nd rfl (Or.inl rfl) (pe_call D__law_draw.ok (hr.mono (by omega)) rfl D__law_draw.g D__law_draw.k D__law_draw.b .nil pass0 (pa_cons (pv 1) (pa_cons pe_int pa_nil))))
    (pss_cons (ps_set (i := 3) sc_law.nd rfl (Or.inl rfl) (pe_ix ix_list (pe_lst (pa_cons pe_non (pa_cons pe_int (pa_cons pe_bl (pa_cons (pe_tup (pa_cons pe_str pa_nil)) (pa_cons (pe_lst (pa_cons pe_str pa_nil)) (pa_cons (pe_disp (pps_cons pe_str pe_int pps_nil) rfl rfl (fun e => nomatch e) (by decide)) (pa_cons (pe_tup pa_nil) pa_nil)))))))) (pe_call D__law_draw.ok (hr.mono (by omega)) rfl D__law_draw.g D__law_draw.k D__law_draw.b .nil pass0 (pa_cons (pv 1) (pa_cons pe_int pa_nil))) (fun _ _ => rfl)))
    (pss_cons (ps_if (pt_not (pt_val (pe_call D__law_same.ok (hr.mono (by omega)) rfl D__law_same.g D__law_same.k D__law_same.b .nil pass0 (pa_cons (pe_call D__law_told.ok (hr.mono (by omega)) rfl D__law_told.g D__law_told.k D__law_told.b .nil pass0 (pa_cons (pv 3) pa_nil)) (pa_cons (pe_tup (pa_cons pe_str (pa_cons pe_int pa_nil))) pa_nil))))) (pss_one (ps_ret pe_bl)) pss_nil)
    (pss_cons (ps_if (pt_cmpR op_eq (pv 2) pe_int (nomark _)) (pss_cons (ps_set (i := 4) sc_law.nd rfl (Or.inl rfl) pe_str)
      (pss_cons (ps_for PassesOwn.never rfl (pi_range1 rfl T.n_range (pa_cons (pe_call D__law_draw.ok (hr.mono (by omega)) rfl D__law_draw.g D__law_draw.k D__law_draw.b .nil pass0 (pa_cons (pv 1) (pa_cons pe_int pa_nil))) pa_nil)) (pg_name (i := 5) sc_law.nd rfl (Or.inl rfl)) (pss_one (ps_set (i := 4) sc_law.nd rfl (Or.inl rfl) (pe_op op_add_str (pv 4) (pe_call D__law_sign.ok (hr.mono (by omega)) rfl D__law_sign.g D__law_sign.k D__law_sign.b .nil pass0 (pa_cons (pv 1) pa_nil))))))
      (pss_one (ps_set (i := 6) sc_law.nd rfl (Or.inl rfl) (pe_call D__law_cut.ok (hr.mono (by omega)) rfl D__law_cut.g D__law_cut.k D__law_cut.b .nil pass0 (pa_cons (pv 4) pa_nil)))))) (pss_one (ps_asg (pe_call D__law_pieces.ok (hr.mono (by omega)) rfl D__law_pieces.g D__law_pieces.k D__law_pieces.b .nil pass0 (pa_cons (pv 1) pa_nil)) (pg_tup rfl (pgs_cons (pg_name (i := 4) sc_law.nd rfl (Or.inl rfl)) (pgs_cons (pg_name (i := 6) sc_law.nd rfl (Or.inl rfl)) pgs_nil))))))
    (pss_cons (ps_set (i := 7) sc_law.nd rfl (Or.inl rfl) (pe_call D__law_told.ok (hr.mono (by omega)) rfl D__law_told.g D__law_told.k D__law_told.b .nil pass0 (pa_cons (pv 4) pa_nil)))
    (pss_cons (ps_if (pt_not (pt_val (pe_call D__law_same.ok (hr.mono (by omega)) rfl D__law_same.g D__law_same.k D__law_same.b .nil pass0 (pa_cons (pv 7) (pa_cons (pv 6) pa_nil))))) (pss_one (ps_ret pe_bl)) pss_nil)
    (pss_cons (ps_if (pt_cmpR op_eq (pe_ix ix_tup (pv 7) pe_int (fun _ _ => rfl)) pe_str (nomark _)) (pss_one (ps_expr (pe_bm PySem.F.plainAttrs_list PySem.F.slot_list_append PySem.F.type_list_append mt_append (pe_ix ix_tup (pv 7) pe_int (fun _ _ => rfl)) (pa_cons (pe_tup (pa_cons pe_str (pa_cons pe_str (pa_cons pe_int pa_nil)))) pa_nil)))) pss_nil)
    (pss_one (ps_ret (pe_call D__law_same.ok (hr.mono (by omega)) rfl D__law_same.g D__law_same.k D__law_same.b .nil pass0 (pa_cons (pe_call D__law_told.ok (hr.mono (by omega)) rfl D__law_told.g D__law_told.k D__law_told.b .nil pass0 (pa_cons (pv 4) pa_nil)) (pa_cons (pv 6) pa_nil))))))))))))), ?_⟩
  have hz := line_eq
  -- flow, way
  refine seq_set ?_
  refine ⟨_, rfl, a0, ns, rfl, hs, hl, fun H1 a na g1 f1 => ?_⟩
  refine seq_set ?_
  refine ⟨_, rfl, a, 3, rfl, by decide, by decide, f1, fun H2 way _ b2 f2 => ?_⟩
  -- a thing that is no text
  refine seq_set ?_
  refine ⟨(by show 1 ≤ _; omega), fun p1 n1 => ⟨(by show 1 ≤ _; omega), fun p2 n2 p3 n3 => ?_⟩⟩
  refine ⟨upd_same, [(Sum.inr "a", .int 1)], rfl, by decide, (by show 0 ≤ _; omega), fun p4 n4 => ⟨(by show 7 ≤ _; omega), fun p5 n5 => ?_⟩⟩
  have g1' := same_new n1 (.tup [V.str "a"])
  have g2' := same_new n2 (.lst [V.str "a"])
  have g3' : Same (upd (upd H2 p1 (.tup [V.str "a"])) p2 (.lst [V.str "a"])) (upd (upd (upd (upd H2 p1 (.tup [V.str "a"])) p2 (.lst [V.str "a"])) p3 (.dK [])) p3 (.dK (mergeK [] [(Sum.inr "a", .int 1)]))) := same_mut (same_new n3 _) n3 _
  have g4' := same_new n4 (.tup [])
  have g5' := same_new n5 (.lst [V.non, V.int 7, V.bl true, V.ref p1, V.ref p2, V.ref p3, V.ref p4])
  have h1 := g5' _ _ (g4' _ _ (g3' _ _ (g2' _ _ (upd_same (H := H2) (a := p1) (o := .tup [V.str "a"])))))
  have h2 := g5' _ _ (g4' _ _ (g3' _ _ (upd_same (H := upd H2 p1 (.tup [V.str "a"])) (a := p2) (o := .lst [V.str "a"]))))
  have h3 := g5' _ _ (g4' _ _ (upd_same (H := upd (upd (upd H2 p1 (.tup [V.str "a"])) p2 (.lst [V.str "a"])) p3 (.dK [])) (a := p3) (o := .dK (mergeK [] [(Sum.inr "a", .int 1)]))))
  have h4 := g5' _ _ (upd_same (H := upd (upd (upd (upd H2 p1 (.tup [V.str "a"])) p2 (.lst [V.str "a"])) p3 (.dK [])) p3 (.dK (mergeK [] [(Sum.inr "a", .int 1)]))) (a := p4) (o := .tup []))
  have h5 : (upd (upd (upd (upd (upd (upd H2 p1 (.tup [V.str "a"])) p2 (.lst [V.str "a"])) p3 (.dK [])) p3 (.dK (mergeK [] [(Sum.inr "a", .int 1)]))) p4 (.tup [])) p5 (.lst [V.non, V.int 7, V.bl true, V.ref p1, V.ref p2, V.ref p3, V.ref p4])) p5 = some (.lst [V.non, V.int 7, V.bl true, V.ref p1, V.ref p2, V.ref p3, V.ref p4]) := upd_same
  have f5 := f2.mono ((((g1'.trans g2').trans g3').trans g4').trans g5')
  dsimp only
  generalize (upd (upd (upd (upd (upd (upd H2 p1 (.tup [V.str "a"])) p2 (.lst [V.str "a"])) p3 (.dK [])) p3 (.dK (mergeK [] [(Sum.inr "a", .int 1)]))) p4 (.tup [])) p5 (.lst [V.non, V.int 7, V.bl true, V.ref p1, V.ref p2, V.ref p3, V.ref p4])) = H5 at *
  refine ⟨_, rfl, a, 7, rfl, by decide, by decide, f5, fun H6 d6 l6 b6 f6 => ?_⟩
  have nea : ∀ {p : Addr} {o : HO}, H5 p = some o → (∀ xs, o ≠ .lst xs) → p ≠ a := fun {p o} h no e => by
    subst e
    obtain ⟨_, _, _, _, _, hl, _⟩ := f5
    rw [h] at hl
    exact no _ (Option.some.inj hl)
  have k1 := b6.o _ _ (nea h1 (fun xs e => by cases e)) h1
  have k3 := b6.o _ _ (nea h3 (fun xs e => by cases e)) h3
  have k4 := b6.o _ _ (nea h4 (fun xs e => by cases e)) h4
  have k2 := b6.o _ _ (fun e => by
    subst e
    obtain ⟨_, _, _, _, _, hl, _⟩ := f5
    rw [h2] at hl; cases hl) h2
  have k5 := b6.o _ _ (fun e => by
    subst e
    obtain ⟨_, _, _, _, _, hl, _⟩ := f5
    rw [h5] at hl; cases hl) h5
  obtain ⟨v, ty, ev, tyv, kv⟩ : ∃ v ty, ([V.non, V.int 7, V.bl true, V.ref p1, V.ref p2, V.ref p3, V.ref p4] : List V)[d6]? = some v ∧ TyX K H6 v ty ∧ PySem.W.kitOne K ty (.type "str") = some false := by
    rcases d6 with _ | _ | _ | _ | _ | _ | _ | d
    · exact ⟨_, _, rfl, .base .non, kit_ty (by decide +kernel)⟩
    · exact ⟨_, _, rfl, .base (.int 7), kit_ty (by decide +kernel)⟩
    · exact ⟨_, _, rfl, .base (.bl true), kit_ty (by decide +kernel)⟩
    · exact ⟨_, _, rfl, .base (.tup k1), kit_ty (by decide +kernel)⟩
    · exact ⟨_, _, rfl, .base (.lst k2), kit_ty (by decide +kernel)⟩
    · exact ⟨_, _, rfl, .base (.dK k3), kit_ty (by decide +kernel)⟩
    · exact ⟨_, _, rfl, .base (.tup k4), kit_ty (by decide +kernel)⟩
    · omega
  refine ⟨p5, _, _, v, rfl, rfl, SqL.of k5, atI_nat ev, ?_⟩
  -- it is refused
  refine ⟨_, rfl, .inr ⟨v, ty, rfl, tyv, kv, fun H7 p7 g7 hp7 => ?_⟩⟩
  refine ⟨(by show 2 ≤ _; omega), fun p8 n8 => ?_⟩
  refine ⟨_, _, rfl, .inr (.inr ⟨p7, p8, _, _, rfl, rfl, .inl ⟨same_new n8 _ _ _ hp7, upd_same⟩, rfl, by show 2 ≤ _; decide, fun k x y e1 e2 => ?_⟩), fun H9 g9 => ?_⟩
  · have e : x = y := Option.some.inj (e1.symm.trans e2)
    subst e
    rcases k with _ | _ | k
    · exact .inl ⟨_, (Option.some.inj e1).symm, (Option.some.inj e1).symm⟩
    · exact .inr (.inl ⟨_, (Option.some.inj e1).symm, (Option.some.inj e1).symm⟩)
    · cases k <;> cases e1
  refine ⟨_, rfl, ?_⟩
  refine iteF (go_next ?_)
  dsimp only
  have f9 := f6.mono (g7.trans ((same_new n8 _).trans g9))
  -- the text
  refine seq_join (fun σ H' => ∃ (t : List Nat) (u : V) (x5 : Option V), t.length ≤ 1000000 ∧ Tell H' u (cutF 1 t) ∧ σ = [some (.ref a0), some (.ref a), some (.int (way : Int)), some v, some (.str (S t)), x5, some u, none]) ?_ ?_
  rotate_left
  · intro NX nx
    refine ⟨_, rfl, rfl, _, rfl, ?_⟩
    refine ited (fun _ => ?_) (fun _ => ?_)
    · refine seq_setC ?_
      refine seq_join (fun σ H' => ∃ (t : List Nat) (x5 : Option V), t.length ≤ 61 ∧ Fine t ∧ σ = [some (.ref a0), some (.ref a), some (.int (way : Int)), some v, some (.str (S t)), x5, none, none]) ?_ ?_
      · rintro σ H10 ⟨t, x5, hl, hf, rfl⟩
        refine ⟨_, rfl, t, rfl, by omega, hf, fun H11 u g11 tl => ?_⟩
        exact nx _ _ ⟨t, u, _, by omega, tl, rfl⟩
      intro NX2 nx2
      refine ⟨_, rfl, a, 61, rfl, by decide, by decide, f9, fun H10 d10 l10 b10 f10 => ?_⟩
      refine ⟨_, rfl, by omega, by omega, ?_⟩
      rw [Int.toNat_natCast]
      refine for_range (fun i σ H' => Flow H' a ∧ ∃ (t : List Nat) (x5 : Option V), t.length = i ∧ Fine t ∧ σ = [some (.ref a0), some (.ref a), some (.int (way : Int)), some v, some (.str (S t)), x5, none, none]) ⟨f10, [], _, rfl, (fun c hc => by cases hc), rfl⟩ ?_ ?_
      · rintro i σ H11 hi ⟨f11, t, x5, hlt, hft, rfl⟩
        refine ⟨_, rfl, _, rfl, a, rfl, f11, fun H12 c hc b12 f12 => ?_⟩
        refine ⟨_, _, rfl, rfl, (by rw [S_len, S_len]; show _ + 1 ≤ _; omega), ?_⟩
        rw [S_app]
        exact ⟨f12, t ++ [c], _, by rw [List.length_append, hlt]; rfl, hft.app (fun d hd => by rw [List.mem_singleton.mp hd]; exact hc), rfl⟩
      · rintro σ H11 ⟨f11, t, x5, hlt, hft, rfl⟩
        exact nx2 _ _ ⟨t, x5, by omega, hft, rfl⟩
    · refine ⟨_, rfl, a, rfl, f9, fun H10 p t u hlt hft hp tl b10 f10 => ?_⟩
      refine ⟨p, _, rfl, SqT.of hp, rfl, _, _, rfl, _, _, rfl, rfl, ?_⟩
      exact nx _ _ ⟨t, u, _, hlt, tl, rfl⟩
  rintro σ H10 ⟨t, u, x5, hlt, tl, rfl⟩
  have hr : ∀ ts, cutF 1 t = .ok ts → ts.length ≤ 10000000 := fun ts e => by
    have := cutF_len _ t (Nat.le_refl _) 1 ts e; omega
  refine ⟨_, rfl, .inl ⟨t, rfl, hlt, fun H11 u2 g11 tl2 => ?_⟩⟩
  refine ⟨_, rfl, _, rfl, _, _, rfl, alike_tell hr tl2.tell (tl.mono g11), fun H12 g12 => ?_⟩
  refine ⟨_, rfl, ?_⟩
  refine iteF (go_next ?_)
  dsimp only
  have fin : ∀ H13, Tell H13 u (cutF 1 t) → (tRet (tCall (sp_same 4) [] E0 (tCons (tCall (sp_told K) [] E0 (tCons (tVar 4) tNil)) (tCons (tVar 6) tNil)))) { nx := fun x H' => Q V.non H', rt := Q }
      [some (.ref a0), some (.ref a), some (.int (way : Int)), some v, some (.str (S t)), x5, some u, some u2] H13 := fun H13 tl13 =>
    ⟨_, rfl, .inl ⟨t, rfl, hlt, fun H14 u3 g14 tl3 => ⟨_, rfl, _, _, rfl, alike_tell hr tl3.tell (tl13.mono g14), fun H15 g15 => q H15⟩⟩⟩
  refine seq_join (fun σ H13 => Tell H13 u (cutF 1 t) ∧ σ = [some (.ref a0), some (.ref a), some (.int (way : Int)), some v, some (.str (S t)), x5, some u, some u2]) (fun σ H13 ⟨x, y⟩ => y ▸ fin H13 x) ?_
  intro NX nx
  have tlN := tl2
  obtain ⟨pu, rfl, tl2⟩ := tl2
  cases ec : cutF 1 t with
  | bad l =>
    rw [ec] at tl2
    refine ⟨_, rfl, pu, _, _, _, rfl, rfl, SqT.of (g12 _ _ tl2), atI_nat (j := 0) rfl, rfl, _, rfl, ?_⟩
    refine ited (fun hx => absurd hx (by decide)) (fun _ => go_next ?_)
    exact nx _ _ ⟨tl.mono (g11.trans g12), rfl⟩
  | ok ts =>
    rw [ec] at tl2
    obtain ⟨qa, vs, m1, m2, m3, m4⟩ := tl2
    refine ⟨_, rfl, pu, _, _, _, rfl, rfl, SqT.of (g12 _ _ m1), atI_nat (j := 0) rfl, rfl, _, rfl, ?_⟩
    refine ited (fun _ => ?_) (fun hx => absurd rfl hx)
    refine ⟨_, rfl, pu, _, _, _, rfl, rfl, SqT.of (g12 _ _ m1), atI_nat (j := 1) rfl, .inl ⟨rfl, _, SqL.of (g12 _ _ m2)⟩, three_ok, fun p9 n9 => ?_⟩
    have lv : vs.length ≤ 10000000 := by rw [toks_len m4]; exact hr ts ec
    refine ⟨qa, vs, _, rfl, rfl, same_new n9 _ _ _ (g12 _ _ m2), by omega, ?_⟩
    exact nx _ _ ⟨tl.mono (same_mut ((g11.trans g12).trans (same_new n9 _)) m3 _), rfl⟩
end
end Wk
set_option maxRecDepth 100000
set_option maxHeartbeats 8000000
namespace Wk
open PySem L2 TL PyProof.Rows
open SX (S S_len)
/-! ### the end: what the top has written, collected -/
section
variable {P : Program} {w : World} {K : PySem.W.Frag} {mg : Str → Option Value} {base h : Heap}
/-- a def of the top -/
structure OnK (K : PySem.W.Frag) (x : Str) (st : Stmt) (f : Addr) : Prop where
  a : PySem.W.nsIn K mainGlobals x = some (some (.ref f))
  l : ∃ (oc : Value) (od an : Option Addr) (osl : Array (Option Value)) (kV dc pm cd ct : Value), K.lookup f = some ⟨oc, od, .func (PySem.W.fnOf x x (defArgs st) (defBody st) (defScope st) .none kV dc pm an cd ct), osl⟩ ∧ PySem.W.codeIn K cd x = true
  k : PySem.W.keepIn K (.ref f) = true
theorem on_mk {x : Str} {st : Stmt} {f : Addr} {oc : Value} {od an : Option Addr} {osl : Array (Option Value)} {kV dc pm cd ct : Value} (a : PySem.W.nsIn K mainGlobals x = some (some (.ref f)))
    (l : K.lookup f = some ⟨oc, od, .func (PySem.W.fnOf x x (defArgs st) (defBody st) (defScope st) .none kV dc pm an cd ct), osl⟩) (c : PySem.W.codeIn K cd x = true) (k : PySem.W.keepIn K (.ref f) = true) : OnK K x st f :=
  ⟨a, ⟨oc, od, an, osl, kV, dc, pm, cd, ct, l, c⟩, k⟩
theorem OnK.def {x : Str} {st : Stmt} {f : Addr} {ps : List Str} {CX : CXT} {k : Nat} {sp : Sp} (o : OnK K x st f) (X : K.In h) (G : h.Ns mainGlobals mg)
    (hb : ∀ (kV doc pm : Value) (an : Option Addr) (cdv ct : Value) (us : List Value), us.length = ps.length → bindArgs (PySem.W.fnOf x x (defArgs st) (defBody st) (defScope st) .none kV doc pm an cdv ct) ⟨us, []⟩ = pure (ps.zip us))
    (ok : ∀ (fd : FuncData), Fun K x x st f fd → FnOk P w K mg base CX k f fd ps sp) : Nonempty (Def P w K mg base CX x ps k sp) := by
  obtain ⟨oc, od, an, osl, kV, dc, pm, cd, ct, l, c⟩ := o.l
  have F := fun_mk (st := st) l c o.k
  exact ⟨⟨f, _, ok _ F, PySem.W.mg_of X G o.a, o.k, F.binds hb⟩⟩
/-- what of the text a clause names, by its class -/
theorem clause_of {A C : Addr} {b : Bool} (h1 : PySem.W.subIn K (.ref C) (.type "BaseException") = some true) (h2 : PySem.W.isClsIn K C = true) (h3 : PySem.W.typeIn K (.ref C) = some (.type "type")) (h4 : PySem.W.subIn K (.ref A) (.ref C) = some b) :
    PySem.W.exmOne K (.ref A) (.ref C) = some b := by
  have h2 : (PySem.W.clsIn K C).isSome = true := h2
  unfold PySem.W.exmOne PySem.W.kitCls
  rw [if_pos (by rw [h1]; rfl)]
  dsimp only
  rw [if_pos (by rw [h2, h3]; rfl)]
  exact h4
theorem vals_abs : ∀ {us : List Value} {xs : List V}, us.map absV = xs.map some → Vals xs us
  | [], [], _ => .nil
  | [], _ :: _, e => by cases e
  | _ :: _, [], e => by cases e
  | u :: us, x :: xs, e => by
    have e1 : absV u = some x := (List.cons.inj e).1
    refine .cons ?_ (vals_abs (List.cons.inj e).2)
    cases u <;> first
      | (cases e1; first | rfl | exact ⟨_, rfl⟩)
      | cases e1
/-- an own error of the top -/
structure OwnE (K : PySem.W.Frag) (x q : Str) (st : Stmt) (C fI : Addr) : Prop where
  a : PySem.W.nsIn K mainGlobals x = some (some (.ref C))
  x : OexC K C
  i : PySem.W.findIn K (.ref C) "__init__" = some (some (.ref fI))
  t : PySem.W.typeIn K (.ref fI) = some (.type "function")
  l : ∃ (oc : Value) (od an : Option Addr) (osl : Array (Option Value)) (kV dc pm cd ct : Value), K.lookup fI = some ⟨oc, od, .func (PySem.W.fnOf "__init__" q (defArgs st) (defBody st) (defScope st) .none kV dc pm an cd ct), osl⟩ ∧ PySem.W.codeIn K cd q = true
  k : PySem.W.keepIn K (.ref fI) = true
  c : PySem.W.isClsIn K C = true
theorem own_mk {x q : Str} {st : Stmt} {C fI : Addr} {nm qn : Str} {N : Addr} {bs bm : List Value} {sn : List Str} {sub : List Value} {ab : Bool} {col : Option Bool} {dd : Option Addr} {k0 k1 k2 k3 k5 : Option Value}
    {oc : Value} {od an : Option Addr} {osl : Array (Option Value)} {kV dc pm cd ct : Value}
    (a : PySem.W.nsIn K mainGlobals x = some (some (.ref C)))
    (cl : K.lookup C = some (excClassObj nm qn C N bs bm true sn sub ab col dd k0 k1 k2 k3 k5 "ValueError.__new__")) (ve : PySem.HandSPX.refsVE bm = true)
    (sa : PySem.W.findIn K (.ref C) "__setattr__" = some (some (.builtin "object.__setattr__"))) (ex : PySem.W.subIn K (.ref C) (.type "BaseException") = some true)
    (ty : PySem.W.typeIn K (.ref C) = some (.type "type")) (kc : PySem.W.keepIn K (.ref C) = true) (i : PySem.W.findIn K (.ref C) "__init__" = some (some (.ref fI))) (t : PySem.W.typeIn K (.ref fI) = some (.type "function"))
    (l : K.lookup fI = some ⟨oc, od, .func (PySem.W.fnOf "__init__" q (defArgs st) (defBody st) (defScope st) .none kV dc pm an cd ct), osl⟩) (c : PySem.W.codeIn K cd q = true)
    (k : PySem.W.keepIn K (.ref fI) = true) (ic : PySem.W.isClsIn K C = true) : OwnE K x q st C fI :=
  ⟨a, ⟨⟨nm, qn, N, bs, bm, sn, sub, ab, col, dd, k0, k1, k2, k3, k5, cl, ve⟩, sa, ex, ty, kc⟩, i, t, ⟨oc, od, an, osl, kV, dc, pm, cd, ct, l, c⟩, k, ic⟩
theorem OwnE.exc {x q : Str} {st : Stmt} {C fI : Addr} {ps : List Str} {sp : PySem.W.Frag → Addr → Sp} (o : OwnE K x q st C fI) (X : K.In h) (G : h.Ns mainGlobals mg)
    (hb : ∀ (kV doc pm : Value) (an : Option Addr) (cdv ct : Value) (us : List Value), us.length = ps.length → bindArgs (PySem.W.fnOf "__init__" q (defArgs st) (defBody st) (defScope st) .none kV doc pm an cdv ct) ⟨us, []⟩ = pure (ps.zip us))
    (ok : ∀ (fd : FuncData), Fun K "__init__" q st fI fd → FnOk P w K mg base CX0 1 fI fd ps (sp K C)) : ∃ E : ExcT P w K mg base x ps sp, E.C = C := by
  obtain ⟨oc, od, an, osl, kV, dc, pm, cd, ct, l, c⟩ := o.l
  have F := fun_mk (st := st) l c o.k
  exact ⟨⟨C, fI, _, PySem.W.mg_of X G o.a, o.x, o.i, o.t, ok _ F, F.binds hb⟩, rfl⟩
theorem seq_K {a : Addr} {dd : Option Addr} {its : Array Value} {n : Nat} {sl : Array (Option Value)} {xs : List V} (l : K.lookup a = some ⟨.type "tuple", dd, .seq its n, sl⟩) (hz : its.size ≤ sizeLine) (v : its.toList.map absV = xs.map some) (H : Hp) : SqT K H a xs :=
  .inr ⟨_, its, n, l, rfl, rfl, hz, vals_abs v⟩
theorem all_of {fa : Addr} {tG : Tok} (X : K.In h) (G : h.Ns mainGlobals mg) (hfa : mg "law" = some (.ref fa)) (gG : mg "GREATEST" = some (.int (2 ^ 59 - 1) tG))
    {tLETTERS : Tok} {xLETTERS : Str} {tFIGURES : Tok} {xFIGURES : Str} {tMARKS : Tok} {xMARKS : Str} {tMOST_SIGNS : Tok} {tMOST_FIGURES : Tok} {tBARRED : Tok} {aKEYS : Addr} {dKEYS : Option Addr} {iKEYS : Array Value} {nKEYS : Nat} {sKEYS : Array (Option Value)} {aDOUBLE_MARKS : Addr} {dDOUBLE_MARKS : Option Addr} {iDOUBLE_MARKS : Array Value} {nDOUBLE_MARKS : Nat} {sDOUBLE_MARKS : Array (Option Value)} {N fN C fC : Addr} {f_is_of_stretch : Addr} {f_is_plain : Addr} {f_is_name : Addr} {f_is_number_word : Addr} {f_stretch_at : Addr} {f_text_at : Addr} {f_word_at : Addr} {f_words_of_line : Addr} {f_words : Addr} {f__law_flow : Addr} {f__law_more : Addr} {f__law_draw : Addr} {f__law_signs : Addr} {f__law_keys : Addr} {f__law_sign : Addr} {f__law_stretch : Addr} {f__law_end : Addr} {f__law_quote : Addr} {f__law_mark : Addr} {f__law_cut : Addr} {f__law_inner : Addr} {f__law_name : Addr} {f__law_piece : Addr} {f__law_fault : Addr} {f__law_space : Addr} {f__law_pieces : Addr} {f__law_same : Addr} {f__law_told : Addr} {f_law : Addr}
    (z_len : PySem.W.nsIn K mainGlobals "len" = some none)
    (z_int : PySem.W.nsIn K mainGlobals "int" = some none)
    (z_abs : PySem.W.nsIn K mainGlobals "abs" = some none)
    (z_isinstance : PySem.W.nsIn K mainGlobals "isinstance" = some none)
    (z_str : PySem.W.nsIn K mainGlobals "str" = some none)
    (z_list : PySem.W.nsIn K mainGlobals "list" = some none)
    (z_tuple : PySem.W.nsIn K mainGlobals "tuple" = some none)
    (z_bool : PySem.W.nsIn K mainGlobals "bool" = some none)
    (z_all : PySem.W.nsIn K mainGlobals "all" = some none)
    (z_range : PySem.W.nsIn K mainGlobals "range" = some none)
    (z_ord : PySem.W.nsIn K mainGlobals "ord" = some none)
    (z_enumerate : PySem.W.nsIn K mainGlobals "enumerate" = some none)
    (c_LETTERS : PySem.W.nsIn K mainGlobals "LETTERS" = some (some (.str xLETTERS tLETTERS))) (e_LETTERS : xLETTERS = S lettersL)
    (c_FIGURES : PySem.W.nsIn K mainGlobals "FIGURES" = some (some (.str xFIGURES tFIGURES))) (e_FIGURES : xFIGURES = S figsL)
    (c_MARKS : PySem.W.nsIn K mainGlobals "MARKS" = some (some (.str xMARKS tMARKS))) (e_MARKS : xMARKS = S marksL)
    (c_MOST_SIGNS : PySem.W.nsIn K mainGlobals "MOST_SIGNS" = some (some (.int 20 tMOST_SIGNS)))
    (c_MOST_FIGURES : PySem.W.nsIn K mainGlobals "MOST_FIGURES" = some (some (.int 18 tMOST_FIGURES)))
    (c_BARRED : PySem.W.nsIn K mainGlobals "BARRED" = some (some (.int 37 tBARRED)))
    (c_KEYS : PySem.W.nsIn K mainGlobals "KEYS" = some (some (.ref aKEYS))) (l_KEYS : K.lookup aKEYS = some ⟨.type "tuple", dKEYS, .seq iKEYS nKEYS, sKEYS⟩) (b_KEYS : iKEYS.size ≤ 1000) (v_KEYS : iKEYS.toList.map absV = (keysL.map fun l => V.str (S l)).map some)
    (c_DOUBLE_MARKS : PySem.W.nsIn K mainGlobals "DOUBLE_MARKS" = some (some (.ref aDOUBLE_MARKS))) (l_DOUBLE_MARKS : K.lookup aDOUBLE_MARKS = some ⟨.type "tuple", dDOUBLE_MARKS, .seq iDOUBLE_MARKS nDOUBLE_MARKS, sDOUBLE_MARKS⟩) (b_DOUBLE_MARKS : iDOUBLE_MARKS.size ≤ 1000) (v_DOUBLE_MARKS : iDOUBLE_MARKS.toList.map absV = ([[61, 61], [33, 61], [60, 61], [62, 61]].map fun l => V.str (S l)).map some)
    (oN : OwnE K "NoText" "NoText.__init__" s_no_init N fN) (oC : OwnE K "BadText" "BadText.__init__" s_bad_init C fC)
    (noL : PySem.W.findIn K (.ref C) "line" = some none) (ga : PySem.W.findIn K (.ref C) "__getattribute__" = some (some (.builtin "BaseException.__getattribute__"))) (gg : PySem.W.findIn K (.ref C) "__getattr__" = some none) (hd : PySem.W.hasDictIn K C = true)
    (sNN : PySem.W.subIn K (.ref N) (.ref N) = some true) (sCN : PySem.W.subIn K (.ref C) (.ref N) = some false) (sCC : PySem.W.subIn K (.ref C) (.ref C) = some true)
    (o_is_of_stretch : OnK K "is_of_stretch" s_is_of_stretch f_is_of_stretch)
    (o_is_plain : OnK K "is_plain" s_is_plain f_is_plain)
    (o_is_name : OnK K "is_name" s_is_name f_is_name)
    (o_is_number_word : OnK K "is_number_word" s_is_number_word f_is_number_word)
    (o_stretch_at : OnK K "stretch_at" s_stretch_at f_stretch_at)
    (o_text_at : OnK K "text_at" s_text_at f_text_at)
    (o_word_at : OnK K "word_at" s_word_at f_word_at)
    (o_words_of_line : OnK K "words_of_line" s_words_of_line f_words_of_line)
    (o_words : OnK K "words" s_words f_words)
    (o__law_flow : OnK K "_law_flow" s__law_flow f__law_flow)
    (o__law_more : OnK K "_law_more" s__law_more f__law_more)
    (o__law_draw : OnK K "_law_draw" s__law_draw f__law_draw)
    (o__law_signs : OnK K "_law_signs" s__law_signs f__law_signs)
    (o__law_keys : OnK K "_law_keys" s__law_keys f__law_keys)
    (o__law_sign : OnK K "_law_sign" s__law_sign f__law_sign)
    (o__law_stretch : OnK K "_law_stretch" s__law_stretch f__law_stretch)
    (o__law_end : OnK K "_law_end" s__law_end f__law_end)
    (o__law_quote : OnK K "_law_quote" s__law_quote f__law_quote)
    (o__law_mark : OnK K "_law_mark" s__law_mark f__law_mark)
    (o__law_cut : OnK K "_law_cut" s__law_cut f__law_cut)
    (o__law_inner : OnK K "_law_inner" s__law_inner f__law_inner)
    (o__law_name : OnK K "_law_name" s__law_name f__law_name)
    (o__law_piece : OnK K "_law_piece" s__law_piece f__law_piece)
    (o__law_fault : OnK K "_law_fault" s__law_fault f__law_fault)
    (o__law_space : OnK K "_law_space" s__law_space f__law_space)
    (o__law_pieces : OnK K "_law_pieces" s__law_pieces f__law_pieces)
    (o__law_same : OnK K "_law_same" s__law_same f__law_same)
    (o__law_told : OnK K "_law_told" s__law_told f__law_told)
    (o_law : OnK K "law" s_law f_law)
    : ∃ fd : FuncData, (∀ (s : Shared) (u : Value), BindsTo s fd ⟨[u], []⟩ [("script", u)]) ∧ ∀ base : Heap, K.In base → base.Ns mainGlobals mg → FnOk P w K mg base CX0 8 fa fd ["script"] (sp_law K) := by
  have hz := line_eq
  cases hfa.symm.trans (PySem.W.mg_of X G o_law.a)
  subst e_LETTERS
  subst e_FIGURES
  subst e_MARKS
  have T : Txt K mg := {
    n_len := PySem.W.mg_none_of X G z_len,
    n_int := PySem.W.mg_none_of X G z_int,
    n_abs := PySem.W.mg_none_of X G z_abs,
    n_isinstance := PySem.W.mg_none_of X G z_isinstance,
    n_str := PySem.W.mg_none_of X G z_str,
    n_list := PySem.W.mg_none_of X G z_list,
    n_tuple := PySem.W.mg_none_of X G z_tuple,
    n_bool := PySem.W.mg_none_of X G z_bool,
    n_all := PySem.W.mg_none_of X G z_all,
    n_range := PySem.W.mg_none_of X G z_range,
    n_ord := PySem.W.mg_none_of X G z_ord,
    n_enumerate := PySem.W.mg_none_of X G z_enumerate,
    tLETTERS := tLETTERS, mLETTERS := PySem.W.mg_of X G c_LETTERS,
    tFIGURES := tFIGURES, mFIGURES := PySem.W.mg_of X G c_FIGURES,
    tMARKS := tMARKS, mMARKS := PySem.W.mg_of X G c_MARKS,
    tMOST_SIGNS := tMOST_SIGNS, mMOST_SIGNS := PySem.W.mg_of X G c_MOST_SIGNS,
    tMOST_FIGURES := tMOST_FIGURES, mMOST_FIGURES := PySem.W.mg_of X G c_MOST_FIGURES,
    tBARRED := tBARRED, mBARRED := PySem.W.mg_of X G c_BARRED,
    tGREATEST := tG, mGREATEST := gG,
    aKEYS := aKEYS, mKEYS := PySem.W.mg_of X G c_KEYS, kKEYS := seq_K l_KEYS (by omega) v_KEYS,
    aDOUBLE := aDOUBLE_MARKS, mDOUBLE_MARKS := PySem.W.mg_of X G c_DOUBLE_MARKS, kDOUBLE := seq_K l_DOUBLE_MARKS (by omega) v_DOUBLE_MARKS }
  obtain ⟨oc, od, an, osl, kV, dc, pm, cd, ct, lL, cL⟩ := o_law.l
  refine ⟨PySem.W.fnOf "law" "law" (defArgs s_law) (defBody s_law) (defScope s_law) .none kV dc pm an cd ct, fun s u => .of_eq rfl, fun base _ _ => ?_⟩
  obtain ⟨BN, eN⟩ := oN.exc (P := P) (w := w) (base := base) (sp := fun _ _ => sp_no_init) (ps := ["self"]) X G (fun _ _ _ _ _ _ us hl => match us, hl with | [_], _ => rfl) fun fd F => ok_no_init F
  obtain ⟨B, eC⟩ := oC.exc (P := P) (w := w) (base := base) (sp := sp_bad_init) (ps := ["self", "line"]) X G (fun _ _ _ _ _ _ us hl => match us, hl with | [_, _], _ => rfl) fun fd F => ok_bad_init oC.x noL F
  subst eN; subst eC
  have XT : XfC K B.C := ⟨ga, gg, oC.x.exC, hd⟩
  have m1 := clause_of oN.x.exC oN.c oN.x.tyC sNN
  have m2 := clause_of oN.x.exC oN.c oN.x.tyC sCN
  have m3 := clause_of oC.x.exC oC.c oC.x.tyC sCC
  obtain ⟨D_is_of_stretch⟩ := o_is_of_stretch.def (P := P) (w := w) (base := base) (ps := ["sign"]) (CX := CX0) (k := 1) (sp := sp_is_of_stretch) X G (fun _ _ _ _ _ _ us hl => match us, hl with | [_], _ => rfl) fun fd F => ok_is_of_stretch T F
  obtain ⟨D_is_plain⟩ := o_is_plain.def (P := P) (w := w) (base := base) (ps := ["thing"]) (CX := CX0) (k := 1) (sp := sp_is_plain) X G (fun _ _ _ _ _ _ us hl => match us, hl with | [_], _ => rfl) fun fd F => ok_is_plain T F
  obtain ⟨D_is_name⟩ := o_is_name.def (P := P) (w := w) (base := base) (ps := ["thing"]) (CX := CX0) (k := 2) (sp := sp_is_name) X G (fun _ _ _ _ _ _ us hl => match us, hl with | [_], _ => rfl) fun fd F => ok_is_name T F D_is_of_stretch
  obtain ⟨D_is_number_word⟩ := o_is_number_word.def (P := P) (w := w) (base := base) (ps := ["stretch"]) (CX := CX0) (k := 1) (sp := sp_is_number_word) X G (fun _ _ _ _ _ _ us hl => match us, hl with | [_], _ => rfl) fun fd F => ok_is_number_word T F
  obtain ⟨D_stretch_at⟩ := o_stretch_at.def (P := P) (w := w) (base := base) (ps := ["row", "at", "line"]) (CX := (L2.CX P w)) (k := 3) (sp := (sp_stretch_at B.C)) X G (fun _ _ _ _ _ _ us hl => match us, hl with | [_, _, _], _ => rfl) fun fd F => ok_stretch_at T B F D_is_of_stretch D_is_name D_is_number_word
  obtain ⟨D_text_at⟩ := o_text_at.def (P := P) (w := w) (base := base) (ps := ["row", "at", "line"]) (CX := (L2.CX P w)) (k := 3) (sp := (sp_text_at B.C)) X G (fun _ _ _ _ _ _ us hl => match us, hl with | [_, _, _], _ => rfl) fun fd F => ok_text_at T B F D_is_plain
  obtain ⟨D_word_at⟩ := o_word_at.def (P := P) (w := w) (base := base) (ps := ["row", "at", "line"]) (CX := (L2.CX P w)) (k := 4) (sp := (sp_word_at B.C)) X G (fun _ _ _ _ _ _ us hl => match us, hl with | [_, _, _], _ => rfl) fun fd F => ok_word_at T B F D_is_of_stretch D_stretch_at D_text_at
  obtain ⟨D_words_of_line⟩ := o_words_of_line.def (P := P) (w := w) (base := base) (ps := ["row", "line"]) (CX := (L2.CX P w)) (k := 5) (sp := (sp_words_of_line B.C)) X G (fun _ _ _ _ _ _ us hl => match us, hl with | [_, _], _ => rfl) fun fd F => ok_words_of_line T B F D_is_plain D_word_at
  obtain ⟨D_words⟩ := o_words.def (P := P) (w := w) (base := base) (ps := ["text"]) (CX := (L2.CX P w)) (k := 6) (sp := (sp_words K B.C BN.C)) X G (fun _ _ _ _ _ _ us hl => match us, hl with | [_], _ => rfl) fun fd F => ok_words T B BN F D_words_of_line
  obtain ⟨D__law_flow⟩ := o__law_flow.def (P := P) (w := w) (base := base) (ps := ["script"]) (CX := CX0) (k := 1) (sp := (sp_flow K)) X G (fun _ _ _ _ _ _ us hl => match us, hl with | [_], _ => rfl) fun fd F => ok_flow T F
  obtain ⟨D__law_more⟩ := o__law_more.def (P := P) (w := w) (base := base) (ps := ["flow"]) (CX := CX0) (k := 1) (sp := sp_more) X G (fun _ _ _ _ _ _ us hl => match us, hl with | [_], _ => rfl) fun fd F => ok_more T F
  obtain ⟨D__law_draw⟩ := o__law_draw.def (P := P) (w := w) (base := base) (ps := ["flow", "many"]) (CX := CX0) (k := 2) (sp := sp_draw) X G (fun _ _ _ _ _ _ us hl => match us, hl with | [_, _], _ => rfl) fun fd F => ok_draw T F D__law_more
  obtain ⟨D__law_signs⟩ := o__law_signs.def (P := P) (w := w) (base := base) (ps := []) (CX := CX0) (k := 1) (sp := sp_signs) X G (fun _ _ _ _ _ _ us hl => match us, hl with | [], _ => rfl) fun fd F => ok_signs F
  obtain ⟨D__law_keys⟩ := o__law_keys.def (P := P) (w := w) (base := base) (ps := []) (CX := CX0) (k := 1) (sp := sp_keys) X G (fun _ _ _ _ _ _ us hl => match us, hl with | [], _ => rfl) fun fd F => ok_keys F
  obtain ⟨D__law_sign⟩ := o__law_sign.def (P := P) (w := w) (base := base) (ps := ["flow"]) (CX := CX0) (k := 3) (sp := sp_sign) X G (fun _ _ _ _ _ _ us hl => match us, hl with | [_], _ => rfl) fun fd F => ok_sign T F D__law_draw D__law_signs
  obtain ⟨D__law_stretch⟩ := o__law_stretch.def (P := P) (w := w) (base := base) (ps := ["word", "line"]) (CX := CX0) (k := 2) (sp := sp_stretch) X G (fun _ _ _ _ _ _ us hl => match us, hl with | [_, _], _ => rfl) fun fd F => ok_stretch T F D__law_keys
  obtain ⟨D__law_end⟩ := o__law_end.def (P := P) (w := w) (base := base) (ps := ["text", "at"]) (CX := CX0) (k := 2) (sp := sp_end) X G (fun _ _ _ _ _ _ us hl => match us, hl with | [_, _], _ => rfl) fun fd F => ok_end T F D__law_signs
  obtain ⟨D__law_quote⟩ := o__law_quote.def (P := P) (w := w) (base := base) (ps := ["text", "at"]) (CX := CX0) (k := 1) (sp := sp_quote) X G (fun _ _ _ _ _ _ us hl => match us, hl with | [_, _], _ => rfl) fun fd F => ok_quote T F
  obtain ⟨D__law_mark⟩ := o__law_mark.def (P := P) (w := w) (base := base) (ps := ["text", "at", "line"]) (CX := CX0) (k := 1) (sp := sp_mark) X G (fun _ _ _ _ _ _ us hl => match us, hl with | [_, _, _], _ => rfl) fun fd F => ok_mark F
  obtain ⟨D__law_cut⟩ := o__law_cut.def (P := P) (w := w) (base := base) (ps := ["text"]) (CX := CX0) (k := 3) (sp := sp_cut) X G (fun _ _ _ _ _ _ us hl => match us, hl with | [_], _ => rfl) fun fd F => ok_cut T F D__law_signs D__law_quote D__law_end D__law_stretch D__law_mark
  obtain ⟨D__law_inner⟩ := o__law_inner.def (P := P) (w := w) (base := base) (ps := ["flow"]) (CX := CX0) (k := 3) (sp := sp_inner) X G (fun _ _ _ _ _ _ us hl => match us, hl with | [_], _ => rfl) fun fd F => ok_inner T F D__law_draw
  obtain ⟨D__law_name⟩ := o__law_name.def (P := P) (w := w) (base := base) (ps := ["flow"]) (CX := CX0) (k := 3) (sp := sp_name) X G (fun _ _ _ _ _ _ us hl => match us, hl with | [_], _ => rfl) fun fd F => ok_lname T F D__law_draw D__law_signs D__law_keys
  obtain ⟨D__law_piece⟩ := o__law_piece.def (P := P) (w := w) (base := base) (ps := ["flow"]) (CX := CX0) (k := 4) (sp := (sp_piece K)) X G (fun _ _ _ _ _ _ us hl => match us, hl with | [_], _ => rfl) fun fd F => ok_piece T F D__law_draw D__law_keys D__law_inner D__law_name
  obtain ⟨D__law_fault⟩ := o__law_fault.def (P := P) (w := w) (base := base) (ps := ["flow"]) (CX := CX0) (k := 4) (sp := sp_fault) X G (fun _ _ _ _ _ _ us hl => match us, hl with | [_], _ => rfl) fun fd F => ok_fault T F D__law_draw D__law_inner D__law_name
  obtain ⟨D__law_space⟩ := o__law_space.def (P := P) (w := w) (base := base) (ps := ["flow"]) (CX := CX0) (k := 3) (sp := sp_space) X G (fun _ _ _ _ _ _ us hl => match us, hl with | [_], _ => rfl) fun fd F => ok_space T F D__law_draw
  obtain ⟨D__law_pieces⟩ := o__law_pieces.def (P := P) (w := w) (base := base) (ps := ["flow"]) (CX := CX0) (k := 5) (sp := (sp_pieces K)) X G (fun _ _ _ _ _ _ us hl => match us, hl with | [_], _ => rfl) fun fd F => ok_pieces T F D__law_draw D__law_space D__law_fault D__law_piece
  obtain ⟨D0⟩ := o__law_same.def (P := P) (w := w) (base := base) (ps := ["found", "due"]) (CX := CX0) (k := 1) (sp := sp_same 0) X G (fun _ _ _ _ _ _ us hl => match us, hl with | [_, _], _ => rfl) fun fd F => ok_same0 F
  obtain ⟨D1⟩ := o__law_same.def (P := P) (w := w) (base := base) (ps := ["found", "due"]) (CX := CX0) (k := 2) (sp := sp_same 1) X G (fun _ _ _ _ _ _ us hl => match us, hl with | [_, _], _ => rfl) fun fd F => ok_same T F D0
  obtain ⟨D2⟩ := o__law_same.def (P := P) (w := w) (base := base) (ps := ["found", "due"]) (CX := CX0) (k := 3) (sp := sp_same 2) X G (fun _ _ _ _ _ _ us hl => match us, hl with | [_, _], _ => rfl) fun fd F => ok_same T F D1
  obtain ⟨D3⟩ := o__law_same.def (P := P) (w := w) (base := base) (ps := ["found", "due"]) (CX := CX0) (k := 4) (sp := sp_same 3) X G (fun _ _ _ _ _ _ us hl => match us, hl with | [_, _], _ => rfl) fun fd F => ok_same T F D2
  obtain ⟨D__law_same⟩ := o__law_same.def (P := P) (w := w) (base := base) (ps := ["found", "due"]) (CX := CX0) (k := 5) (sp := sp_same 4) X G (fun _ _ _ _ _ _ us hl => match us, hl with | [_, _], _ => rfl) fun fd F => ok_same T F D3
  obtain ⟨D__law_told⟩ := o__law_told.def (P := P) (w := w) (base := base) (ps := ["thing"]) (CX := CX0) (k := 7) (sp := (sp_told K)) X G (fun _ _ _ _ _ _ us hl => match us, hl with | [_], _ => rfl) fun fd F => ok_told B BN XT noL m1 m2 m3 F D_words
  exact ok_law T (fun_mk (st := s_law) lL cL o_law.k) D__law_flow D__law_draw D__law_sign D__law_cut D__law_pieces D__law_same D__law_told
end
/-- the head's leaf, with what the loose names are -/
theorem walk_loose {l : PySem.W.OpenLaw} {q : Program} {loose : List Str} {XP : (Str → Option Value) → Heap → Prop} {YP : World → Heap → Prop} {d : DefRec} {K : Params → PySem.W.Frag} (most : l.most = some 63) (plain0 : d.params.defaults = [])
    (written : ∀ (w : World) (h : Heap), YP w h → (K w.params).In h)
    (F : ∀ (w : World) (mg : Str → Option Value) (fa : Addr) (h : Heap), (K w.params).In h → h.Ns mainGlobals mg → mg d.name = some (.ref fa) → XP mg h →
      ∃ fd : FuncData, (∀ (s : Shared) (u : Value), BindsTo s fd ⟨[u], []⟩ [("script", u)]) ∧ ∀ base : Heap, (K w.params).In base → base.Ns mainGlobals mg → FnOk l.prog w (K w.params) mg base CX0 8 fa fd ["script"] (sp_law (K w.params))) :
    PySem.W.WalkO q loose XP YP l.row.toRowW d [] (fun f vs => PySem.call f vs) := by
  refine Att.attach_call most plain0 ?_
  intro w s0 s1 mg mb fa o pm cd doc a vs ns G Y ho hd hcd hmg hobj hints hlen hg
  obtain ⟨fd, binds, ok⟩ := F w mg fa _ (written w _ Y) G.T.g hmg G.X
  have room : Room 8 callerA := ⟨rfl, by decide, by decide⟩
  exact L2.law_call (written w _ Y) G.T.g G.T.b G.T.builtins G.T.nolimit hg hobj hints (Nat.le_trans hlen (by decide)) room ok binds
    (fun H _ hS => ⟨a, ns, rfl, hS, Nat.le_trans hlen (by decide), fun _ => rfl⟩) (fun _ _ _ z => z)
theorem greatest_of {p : Program} {mg : Str → Option Value} {h : Heap} (X : PySem.W.XL p [(Str.ofString "GREATEST", PySem.W.WData.int 576460752303423487)] mg h) : ∃ t, mg "GREATEST" = some (.int (2 ^ 59 - 1) t) := by
  obtain ⟨v, e, r⟩ := X.2.val _ (List.mem_singleton.mpr rfl)
  cases r with
  | int i t => exact ⟨t, e⟩
end Wk
set_option maxRecDepth 100000
open PySem PySem.W PyProof.Rows
set_option maxHeartbeats 0 in
theorem PySem.Challenge.cw_unseenheap_k01_words_of_a_text_holds : PySem.Challenge.rw_unseenheap_k01_words_of_a_text.Holds := by
  w_on; o_law; k_head; (case hw => w_witness2)
  k_fill
  refine Wk.walk_loose (l := PySem.Challenge.rw_unseenheap_k01_words_of_a_text) rfl rfl (fun w h Y => PySem.W.kIn_of Y) ?F
  case F =>
    intro w mg fa h KX G hmg XX
    obtain ⟨tG, gG⟩ := Wk.greatest_of XX
    refine' Wk.all_of KX G hmg gG ?z_len ?z_int ?z_abs ?z_isinstance ?z_str ?z_list ?z_tuple ?z_bool ?z_all ?z_range ?z_ord ?z_enumerate ?c_LETTERS ?e_LETTERS ?c_FIGURES ?e_FIGURES ?c_MARKS ?e_MARKS ?c_MOST_SIGNS ?c_MOST_FIGURES ?c_BARRED ?c_KEYS ?l_KEYS ?b_KEYS ?v_KEYS ?c_DOUBLE_MARKS ?l_DOUBLE_MARKS ?b_DOUBLE_MARKS ?v_DOUBLE_MARKS ?oN ?oC ?noL ?ga ?gg ?hd ?sNN ?sCN ?sCC ?o_is_of_stretch ?o_is_plain ?o_is_name ?o_is_number_word ?o_stretch_at ?o_text_at ?o_word_at ?o_words_of_line ?o_words ?o__law_flow ?o__law_more ?o__law_draw ?o__law_signs ?o__law_keys ?o__law_sign ?o__law_stretch ?o__law_end ?o__law_quote ?o__law_mark ?o__law_cut ?o__law_inner ?o__law_name ?o__law_piece ?o__law_fault ?o__law_space ?o__law_pieces ?o__law_same ?o__law_told ?o_law
    (case z_len => k_is)
    (case z_int => k_is)
    (case z_abs => k_is)
    (case z_isinstance => k_is)
    (case z_str => k_is)
    (case z_list => k_is)
    (case z_tuple => k_is)
    (case z_bool => k_is)
    (case z_all => k_is)
    (case z_range => k_is)
    (case z_ord => k_is)
    (case z_enumerate => k_is)
    (case c_LETTERS => k_is)
    (case e_LETTERS => first | rfl | decide +kernel | exact Wk.S_of _)
    (case c_FIGURES => k_is)
    (case e_FIGURES => first | rfl | decide +kernel | exact Wk.S_of _)
    (case c_MARKS => k_is)
    (case e_MARKS => first | rfl | decide +kernel | exact Wk.S_of _)
    (case c_MOST_SIGNS => k_is)
    (case c_MOST_FIGURES => k_is)
    (case c_BARRED => k_is)
    (case c_KEYS => k_is)
    (case l_KEYS => k_is)
    (case b_KEYS => first | decide | (show (_ : Nat) ≤ 1000; decide))
    (case v_KEYS => first | rfl | decide +kernel | exact Wk.vals_done (by decide +kernel))
    (case c_DOUBLE_MARKS => k_is)
    (case l_DOUBLE_MARKS => k_is)
    (case b_DOUBLE_MARKS => first | decide | (show (_ : Nat) ≤ 1000; decide))
    (case v_DOUBLE_MARKS => first | rfl | decide +kernel | exact Wk.vals_done (by decide +kernel))
    (case oN => (refine' Wk.own_mk ?a ?cl ?ve ?sa ?ex ?ty ?kc ?i ?t ?l ?c ?k ?ic; (case a => k_is); (case cl => k_is); (case ve => first | rfl | decide +kernel); (case sa => k_is); (case ex => k_is); (case ty => k_is); (case kc => k_is); (case i => k_is); (case t => k_is); (case l => k_is); (case c => k_is); (case k => k_is); (case ic => k_is)))
    (case oC => (refine' Wk.own_mk ?a ?cl ?ve ?sa ?ex ?ty ?kc ?i ?t ?l ?c ?k ?ic; (case a => k_is); (case cl => k_is); (case ve => first | rfl | decide +kernel); (case sa => k_is); (case ex => k_is); (case ty => k_is); (case kc => k_is); (case i => k_is); (case t => k_is); (case l => k_is); (case c => k_is); (case k => k_is); (case ic => k_is)))
    (case noL => first | k_is | rfl)
    (case ga => first | k_is | rfl)
    (case gg => first | k_is | rfl)
    (case hd => first | k_is | rfl)
    (case sNN => first | k_is | rfl)
    (case sCN => first | k_is | rfl)
    (case sCC => first | k_is | rfl)
    (case o_is_of_stretch => (refine' Wk.on_mk ?a ?l ?c ?k; (case a => k_is); (case l => k_is); (case c => k_is); (case k => k_is)))
    (case o_is_plain => (refine' Wk.on_mk ?a ?l ?c ?k; (case a => k_is); (case l => k_is); (case c => k_is); (case k => k_is)))
    (case o_is_name => (refine' Wk.on_mk ?a ?l ?c ?k; (case a => k_is); (case l => k_is); (case c => k_is); (case k => k_is)))
    (case o_is_number_word => (refine' Wk.on_mk ?a ?l ?c ?k; (case a => k_is); (case l => k_is); (case c => k_is); (case k => k_is)))
    (case o_stretch_at => (refine' Wk.on_mk ?a ?l ?c ?k; (case a => k_is); (case l => k_is); (case c => k_is); (case k => k_is)))
    (case o_text_at => (refine' Wk.on_mk ?a ?l ?c ?k; (case a => k_is); (case l => k_is); (case c => k_is); (case k => k_is)))
    (case o_word_at => (refine' Wk.on_mk ?a ?l ?c ?k; (case a => k_is); (case l => k_is); (case c => k_is); (case k => k_is)))
    (case o_words_of_line => (refine' Wk.on_mk ?a ?l ?c ?k; (case a => k_is); (case l => k_is); (case c => k_is); (case k => k_is)))
    (case o_words => (refine' Wk.on_mk ?a ?l ?c ?k; (case a => k_is); (case l => k_is); (case c => k_is); (case k => k_is)))
    (case o__law_flow => (refine' Wk.on_mk ?a ?l ?c ?k; (case a => k_is); (case l => k_is); (case c => k_is); (case k => k_is)))
    (case o__law_more => (refine' Wk.on_mk ?a ?l ?c ?k; (case a => k_is); (case l => k_is); (case c => k_is); (case k => k_is)))
    (case o__law_draw => (refine' Wk.on_mk ?a ?l ?c ?k; (case a => k_is); (case l => k_is); (case c => k_is); (case k => k_is)))
    (case o__law_signs => (refine' Wk.on_mk ?a ?l ?c ?k; (case a => k_is); (case l => k_is); (case c => k_is); (case k => k_is)))
    (case o__law_keys => (refine' Wk.on_mk ?a ?l ?c ?k; (case a => k_is); (case l => k_is); (case c => k_is); (case k => k_is)))
    (case o__law_sign => (refine' Wk.on_mk ?a ?l ?c ?k; (case a => k_is); (case l => k_is); (case c => k_is); (case k => k_is)))
    (case o__law_stretch => (refine' Wk.on_mk ?a ?l ?c ?k; (case a => k_is); (case l => k_is); (case c => k_is); (case k => k_is)))
    (case o__law_end => (refine' Wk.on_mk ?a ?l ?c ?k; (case a => k_is); (case l => k_is); (case c => k_is); (case k => k_is)))
    (case o__law_quote => (refine' Wk.on_mk ?a ?l ?c ?k; (case a => k_is); (case l => k_is); (case c => k_is); (case k => k_is)))
    (case o__law_mark => (refine' Wk.on_mk ?a ?l ?c ?k; (case a => k_is); (case l => k_is); (case c => k_is); (case k => k_is)))
    (case o__law_cut => (refine' Wk.on_mk ?a ?l ?c ?k; (case a => k_is); (case l => k_is); (case c => k_is); (case k => k_is)))
    (case o__law_inner => (refine' Wk.on_mk ?a ?l ?c ?k; (case a => k_is); (case l => k_is); (case c => k_is); (case k => k_is)))
    (case o__law_name => (refine' Wk.on_mk ?a ?l ?c ?k; (case a => k_is); (case l => k_is); (case c => k_is); (case k => k_is)))
    (case o__law_piece => (refine' Wk.on_mk ?a ?l ?c ?k; (case a => k_is); (case l => k_is); (case c => k_is); (case k => k_is)))
    (case o__law_fault => (refine' Wk.on_mk ?a ?l ?c ?k; (case a => k_is); (case l => k_is); (case c => k_is); (case k => k_is)))
    (case o__law_space => (refine' Wk.on_mk ?a ?l ?c ?k; (case a => k_is); (case l => k_is); (case c => k_is); (case k => k_is)))
    (case o__law_pieces => (refine' Wk.on_mk ?a ?l ?c ?k; (case a => k_is); (case l => k_is); (case c => k_is); (case k => k_is)))
    (case o__law_same => (refine' Wk.on_mk ?a ?l ?c ?k; (case a => k_is); (case l => k_is); (case c => k_is); (case k => k_is)))
    (case o__law_told => (refine' Wk.on_mk ?a ?l ?c ?k; (case a => k_is); (case l => k_is); (case c => k_is); (case k => k_is)))
    (case o_law => (refine' Wk.on_mk ?a ?l ?c ?k; (case a => k_is); (case l => k_is); (case c => k_is); (case k => k_is)))
