import PyProof.Rows.All
import Wide.All
import OpenK.AllK
import Wide.FinOn
import KE.GoesEnum
import KE.GoesEnumKw
import PyProof.AutoSeq1
import PySem.Challenge.RW_unseenheap_k09_whole_texts_joined
import HandS.ForMost
import HandS.Exc
import HandS.WordsExc
import HandS.TryOnly
import HandS.ExcOwn
import HandS.ExcInit
import HandS.ExcField
import HandS.Wide
import HandS.IsInst
import HandS.StrMore
import HandS.Codes
import HandS.ReplaceLit
import HandS.ReplaceList
import HandS.Replace
import HandS.Conv
import HandS.Dict
import HandS.More
import HandS.Star
import HandS.CallLocal
import HandS.Zip
import HandS.TupAny
import HandS.Call
set_option Elab.async false
set_option linter.all false
/-! The mathematics of the words of a text: lists of signs alone. -/
namespace Wk
inductive So | name | key | number | text | mark
  deriving DecidableEq, Repr
inductive Wd | s (l : List Nat) | n (k : Nat)
  deriving DecidableEq, Repr
structure Tk where
  so : So
  wd : Wd
  ln : Nat
  deriving DecidableEq, Repr
inductive Res | ok (ts : List Tk) | bad (l : Nat)
  deriving DecidableEq, Repr
def Res.app (ts : List Tk) : Res → Res
  | .ok us => .ok (ts ++ us)
  | .bad l => .bad l
theorem Res.app_nil (r : Res) : Res.app [] r = r := by cases r <;> rfl
theorem Res.app_app (a b : List Tk) (r : Res) : Res.app a (Res.app b r) = Res.app (a ++ b) r := by
  cases r with
  | ok us => show Res.ok (a ++ (b ++ us)) = Res.ok (a ++ b ++ us); rw [List.append_assoc]
  | bad l => rfl
def lettersL : List Nat := [97, 98, 99, 100, 101, 102, 103, 104, 105, 106, 107, 108, 109, 110, 111, 112, 113, 114, 115, 116, 117, 118, 119, 120, 121, 122,
  65, 66, 67, 68, 69, 70, 71, 72, 73, 74, 75, 76, 77, 78, 79, 80, 81, 82, 83, 84, 85, 86, 87, 88, 89, 90, 95]
def figsL : List Nat := [48, 49, 50, 51, 52, 53, 54, 55, 56, 57]
def marksL : List Nat := [40, 41, 91, 93, 123, 125, 44, 59, 46, 61, 60, 62, 43, 45, 42, 47]
def codes (s : String) : List Nat := s.toList.map Char.toNat
def keyStrings : List String := ["class", "of", "fun", "var", "if", "else", "while", "break", "continue", "return", "throw", "try", "catch", "say", "true", "false", "nil", "this", "super", "new", "and", "or", "not", "len", "weak", "worth", "number", "spawn", "join", "yield", "mod"]
def keysL : List (List Nat) := keyStrings.map codes
def isL (c : Nat) : Bool := decide (c ∈ lettersL)
def isF (c : Nat) : Bool := decide (c ∈ figsL)
def isS (c : Nat) : Bool := isL c || isF c
def plain (c : Nat) : Bool := decide (32 ≤ c) && decide (c ≤ 126) && decide (c ≠ 37)
def val (s : List Nat) : Nat := s.foldl (fun a c => a * 10 + (c - 48)) 0
def isName (s : List Nat) : Bool := decide (1 ≤ s.length) && decide (s.length ≤ 20) && !decide (s ∈ keysL) && isL (s.headD 0) && s.all isS
def isNum (s : List Nat) : Bool := decide (s.length ≤ 18) && s.all isF && (if s.headD 0 = 48 then decide (s = [48]) else decide (val s ≤ 2 ^ 59 - 1))
def classify (s : List Nat) : Option (So × Wd) :=
  if s ∈ keysL then some (.key, .s s) else if isName s = true then some (.name, .s s) else if isNum s = true then some (.number, .n (val s)) else none
/-- what a text has behind its first quote, and what stands behind its last one -/
def textP (acc : List Nat) : List Nat → Option (List Nat × List Nat)
  | [] => none
  | [c] => if c = 34 then some (acc, []) else none
  | c :: d :: r => if c = 34 then (if d = 34 then textP (acc ++ [34]) r else some (acc, d :: r)) else if plain c = true then textP (acc ++ [c]) (d :: r) else none
def two (c : Nat) (r : List Nat) : Bool := decide (c ∈ [61, 33, 60, 62]) && decide (r.headD 0 = 61)
def tok : List Nat → Option (So × Wd × List Nat)
  | [] => none
  | c :: r =>
    if isS c = true then (classify (c :: r.takeWhile isS)).map fun p => (p.1, p.2, r.dropWhile isS)
    else if c = 34 then (textP [] r).map fun p => (.text, .s p.1, p.2)
    else if two c r = true then some (.mark, .s [c, 61], r.tail)
    else if c ∈ marksL then some (.mark, .s [c], r) else none
theorem textP_len : ∀ (r acc : List Nat) {w r' : List Nat}, textP acc r = some (w, r') → r'.length < r.length
  | [], _, _, _, h => by simp [textP] at h
  | [c], acc, w, r', h => by
    simp only [textP] at h
    split at h
    · cases h; simp
    · cases h
  | c :: d :: r, acc, w, r', h => by
    simp only [textP] at h
    split at h
    · split at h
      · have := textP_len r _ h; simp; omega
      · cases h; simp
    · split at h
      · have := textP_len (d :: r) _ h; simp at this ⊢; omega
      · cases h
theorem drop_len (p : Nat → Bool) : ∀ l : List Nat, (l.dropWhile p).length ≤ l.length
  | [] => Nat.le_refl _
  | a :: l => by
    rw [List.dropWhile_cons]
    split
    · exact Nat.le_succ_of_le (drop_len p l)
    · exact Nat.le_refl _
theorem tok_len {l : List Nat} {so : So} {wd : Wd} {r' : List Nat} (h : tok l = some (so, wd, r')) : r'.length < l.length := by
  cases l with
  | nil => simp [tok] at h
  | cons c r =>
    simp only [tok] at h
    split at h
    · cases e : classify (c :: r.takeWhile isS) with
      | none => rw [e] at h; cases h
      | some p => rw [e] at h; cases h; have := drop_len isS r; simp; omega
    · split at h
      · cases e : textP [] r with
        | none => rw [e] at h; cases h
        | some p =>
          rw [e] at h
          cases h
          have := textP_len r [] e
          simp; omega
      · split at h
        · cases h; simp; omega
        · split at h
          · cases h; simp
          · cases h
def notNl (c : Nat) : Bool := !decide (c = 10)
/-- the words of a text from a line on, or the first line with what is none -/
def cutF (line : Nat) (l : List Nat) : Res :=
  match l with
  | [] => .ok []
  | c :: r =>
    if c = 10 then cutF (line + 1) r
    else if c = 32 then cutF line r
    else if c = 35 then (if (r.takeWhile notNl).all plain = true then cutF line (r.dropWhile notNl) else .bad line)
    else match h : tok (c :: r) with
      | none => .bad line
      | some (so, wd, r') => Res.app [⟨so, wd, line⟩] (cutF line r')
termination_by l.length
decreasing_by
  · simp
  · simp
  · have := drop_len notNl r; simp; omega
  · exact tok_len h
theorem cutF_nil (n : Nat) : cutF n [] = .ok [] := by rw [cutF]
theorem cutF_nl (n : Nat) (r : List Nat) : cutF n (10 :: r) = cutF (n + 1) r := by rw [cutF]; rfl
theorem cutF_sp (n : Nat) (r : List Nat) : cutF n (32 :: r) = cutF n r := by rw [cutF]; simp
theorem cutF_note (n : Nat) (r : List Nat) : cutF n (35 :: r) = if (r.takeWhile notNl).all plain = true then cutF n (r.dropWhile notNl) else .bad n := by rw [cutF]; simp
theorem cutF_tok {n c : Nat} {r : List Nat} (h1 : c ≠ 10) (h2 : c ≠ 32) (h3 : c ≠ 35) : cutF n (c :: r) = match tok (c :: r) with
      | none => .bad n
      | some (so, wd, r') => Res.app [⟨so, wd, n⟩] (cutF n r') := by
  rw [cutF]
  simp only [h1, h2, h3, if_false]
  split <;> simp_all
theorem cutF_some {n c : Nat} {r : List Nat} {so : So} {wd : Wd} {r' : List Nat} (h1 : c ≠ 10) (h2 : c ≠ 32) (h3 : c ≠ 35) (h : tok (c :: r) = some (so, wd, r')) : cutF n (c :: r) = Res.app [⟨so, wd, n⟩] (cutF n r') := by
  rw [cutF_tok h1 h2 h3, h]
theorem cutF_none {n c : Nat} {r : List Nat} (h1 : c ≠ 10) (h2 : c ≠ 32) (h3 : c ≠ 35) (h : tok (c :: r) = none) : cutF n (c :: r) = .bad n := by
  rw [cutF_tok h1 h2 h3, h]
end Wk
set_option maxRecDepth 100000
namespace Wk
open PySem L2 TL
def top (i : Nat) : Stmt := PySem.Challenge.pw_unseenheap_k09_whole_texts_joined.main.body.getD i (.Pass ⟨0, 0, 0, 0⟩)
open SX (S S_len)
theorem S_inj {a b : List Nat} (h : S a = S b) : a = b := by
  have h2 : (S a).cps.toList = (S b).cps.toList := by rw [h]
  exact h2
theorem S_of (s : String) : Str.ofString s = S (codes s) := ext_tl (tl_ofString s)
theorem S_app (a b : List Nat) : S a ++ S b = S (a ++ b) := ext_tl (tl_append (S a) (S b))
/-- what the top has written beside the defs -/
structure Txt (K : PySem.W.Frag) (mg : Str → Option Value) where
  n_len : mg "len" = none
  n_int : mg "int" = none
  n_abs : mg "abs" = none
  n_isinstance : mg "isinstance" = none
  n_str : mg "str" = none
  n_list : mg "list" = none
  n_tuple : mg "tuple" = none
  n_bool : mg "bool" = none
  n_all : mg "all" = none
  n_range : mg "range" = none
  n_ord : mg "ord" = none
  n_enumerate : mg "enumerate" = none
  tLETTERS : Tok
  mLETTERS : mg "LETTERS" = some (.str (S lettersL) tLETTERS)
  tFIGURES : Tok
  mFIGURES : mg "FIGURES" = some (.str (S figsL) tFIGURES)
  tMARKS : Tok
  mMARKS : mg "MARKS" = some (.str (S marksL) tMARKS)
  tMOST_SIGNS : Tok
  mMOST_SIGNS : mg "MOST_SIGNS" = some (.int 20 tMOST_SIGNS)
  tMOST_FIGURES : Tok
  mMOST_FIGURES : mg "MOST_FIGURES" = some (.int 18 tMOST_FIGURES)
  tBARRED : Tok
  mBARRED : mg "BARRED" = some (.int 37 tBARRED)
  tGREATEST : Tok
  mGREATEST : mg "GREATEST" = some (.int (2 ^ 59 - 1) tGREATEST)
  aKEYS : Addr
  mKEYS : mg "KEYS" = some (.ref aKEYS)
  kKEYS : ∀ H, SqT K H aKEYS (keysL.map fun l => V.str (S l))
  aDOUBLE : Addr
  mDOUBLE_MARKS : mg "DOUBLE_MARKS" = some (.ref aDOUBLE)
  kDOUBLE : ∀ H, SqT K H aDOUBLE ([[61, 61], [33, 61], [60, 61], [62, 61]].map fun l => V.str (S l))
/-- the callee: where it stands, what it promises -/
structure Def (P : Program) (w : World) (K : PySem.W.Frag) (mg : Str → Option Value) (base : Heap) (CX : CXT) (x : Str) (ps : List Str) (k : Nat) (sp : Sp) where
  f : Addr
  fd : FuncData
  ok : FnOk P w K mg base CX k f fd ps sp
  g : mg x = some (.ref f)
  k : PySem.W.keepIn K (.ref f) = true
  b : Binds K fd ps []
section
variable {P : Program} {w : World} {K : PySem.W.Frag} {mg : Str → Option Value} {base : Heap}
abbrev s_is_of_stretch : Stmt := top 32
theorem sc_is_of_stretch : FnScope ["sign"] ["sign"] (defScope s_is_of_stretch) := ⟨rfl, rfl, rfl, by decide +kernel, rfl, by decide +kernel, by decide +kernel⟩
def sp_is_of_stretch : Sp := fun vs H Q _ => ∃ c, vs = [.str (S [c])] ∧ Q (.bl (isS c)) H
theorem ok_is_of_stretch (T : Txt K mg) {f : Addr} {fd : FuncData} (F : Fun K "is_of_stretch" "is_of_stretch" s_is_of_stretch f fd) : FnOk P w K mg base CX0 1 f fd ["sign"] sp_is_of_stretch := by
  refine F.ok sc_is_of_stretch (fun vs H Q E h => ?_) (fun cdv A outer s H vs Q E hr h => ?_)
  · obtain ⟨c, rfl, _⟩ := h; rfl
  obtain ⟨c, rfl, q⟩ := h
  refine ⟨_, (pss_one (ps_ret (pe_or (pe_cmpR op_in_sign (pv 0) (pe_glob (v := .str (S lettersL)) rfl T.mLETTERS ⟨_, rfl⟩) rfl) (pe_one (pe_cmpR op_in_sign (pv 0) (pe_glob (v := .str (S figsL)) rfl T.mFIGURES ⟨_, rfl⟩) rfl))))), ?_⟩
  refine ⟨_, rfl, c, _, rfl, rfl, _, rfl, ?_⟩
  refine ite2 (fun e => ?_) (fun e => ?_)
  · have e' : isL c = true := e
    have : isS c = true := by unfold isS; rw [e']; rfl
    rw [this] at q; exact q
  · have e' : isL c = false := by
      have : ¬ isL c = true := e
      simpa using this
    refine ⟨_, rfl, c, _, rfl, rfl, ?_⟩
    have : isS c = isF c := by unfold isS; rw [e']; rfl
    rw [this] at q; exact q
end
end Wk
set_option maxRecDepth 100000
set_option maxHeartbeats 4000000
namespace Wk
open PySem L2 TL PySem.Builtin
open PySem.Builtin.Str (tooLong)
open SX (S S_len)
theorem take_next {α : Type} : ∀ {l : List α} {i : Nat} {x : α}, l[i]? = some x → l.take (i + 1) = l.take i ++ [x]
  | [], i, x, h => by simp at h
  | a :: l, 0, x, h => by
    have e : a = x := Option.some.inj h
    subst e; rfl
  | a :: l, i + 1, x, h => by
    show a :: l.take (i + 1) = a :: l.take i ++ [x]
    rw [take_next (l := l) (i := i) (x := x) h]; rfl
theorem same_new {H : Hp} {p : Addr} (h : H p = none) (o : HO) : Same H (upd H p o) := fun b u q => by rw [upd_ne (ne_of_none q h)]; exact q
theorem same_to {H H' : Hp} {p : Addr} (g : Same H H') (h : H' p = none) (o : HO) : Same H (upd H' p o) := g.trans (same_new h o)
/-- an object that H does not know may change -/
theorem same_mut {H H' : Hp} {p : Addr} (g : Same H H') (h : H p = none) (o : HO) : Same H (upd H' p o) := fun b u q => by rw [upd_ne (ne_of_none q h)]; exact g b u q
theorem line_eq : sizeLine = 16777216 := sizeLine_eq
theorem ited {p A B : Prop} [Decidable p] (h1 : p → A) (h2 : ¬ p → B) : if decide p = true then A else B := by
  by_cases h : p
  · rw [if_pos (decide_eq_true h)]; exact h1 h
  · rw [if_neg (by rw [decide_eq_false h]; exact Bool.false_ne_true)]; exact h2 h
theorem itedn {p A B : Prop} [Decidable p] (h1 : ¬ p → A) (h2 : p → B) : if (!decide p) = true then A else B := by
  by_cases h : p
  · rw [if_neg (by rw [decide_eq_true h]; exact Bool.false_ne_true)]; exact h2 h
  · rw [if_pos (by rw [decide_eq_false h]; rfl)]; exact h1 h
theorem iteb {b : Bool} {A B : Prop} (h1 : b = true → A) (h2 : b = false → B) : if b = true then A else B := by
  cases b with
  | true => rw [if_pos rfl]; exact h1 rfl
  | false => rw [if_neg Bool.false_ne_true]; exact h2 rfl
theorem itebn {b : Bool} {A B : Prop} (h1 : b = false → A) (h2 : b = true → B) : if (!b) = true then A else B := by
  cases b with
  | true => rw [if_neg (by exact Bool.false_ne_true)]; exact h2 rfl
  | false => rw [if_pos (by rfl)]; exact h1 rfl
theorem bl_to {R : VK} {x y : Bool} {H : Hp} (r : R (.bl y) H) (e : x = y) : R (.bl x) H := e ▸ r
/-- all([.. for sign in text]) -/
theorem all_text {K : PySem.W.Frag} {l : List Nat} {p : Nat → Bool} {i : Nat} {te tv : TE} {σ : L2.St} {H : Hp} {Q : VK} (hl : l.length < sizeLine)
    (hv : ∀ R : V → Hp → Prop, R (.str (S l)) H → tv σ H R) (hw : ∀ c, wipe ((wipe σ [i]).set i (some (.str (S [c])))) [i] = wipe σ [i])
    (he : ∀ c ∈ l, ∀ H' (R : VK), R (.bl (p c)) H' → te ((wipe σ [i]).set i (some (.str (S [c])))) H' R) (q : ∀ H', Same H H' → Q (.bl (l.all p)) H') :
    tCB (rAll K) (tCons (tLc (iStr tv) (gName i) tYes te [i]) tNil) σ H Q := by
  refine hv _ ⟨_, rfl, fun D hD => ?_⟩
  refine ⟨fun k m H' => k + m = l.length ∧ Same H H' ∧ H' D = some (.lst ((l.take k).map fun c => V.bl (p c))), ⟨l.length, by omega, same_new hD _, upd_same⟩, ?_⟩
  rintro k m H' ⟨e, g, hd⟩
  by_cases hk : k < l.length
  · have hg : (S l).cps.size = l.length := by simp [S]
    have hx : l[k]? = some l[k] := List.getElem?_eq_getElem hk
    refine .inr ⟨(by show k < (S l).cps.size; rw [hg]; exact hk), fun H2 => k + 1 + (m - 1) = l.length ∧ Same H H2 ∧ H2 D = some (.lst ((l.take (k + 1)).map fun c => V.bl (p c))), fun H2 h2 => ⟨m - 1, by omega, h2⟩, fun x H2 y => ?_⟩
    obtain ⟨e2, c, hc, e3⟩ := y
    subst e2; subst e3
    have hc' : l[k]? = some c := by
      have : (S l).cps.toList[k]? = some c := by rw [Array.getElem?_toList]; exact hc
      exact this
    have hm : c ∈ l := List.mem_of_getElem? hc'
    refine ⟨hw c, ?_⟩
    unfold tYes
    dsimp only
    rw [if_pos rfl]
    refine he c hm _ _ ?_
    refine ⟨_, hd, by rw [List.length_map, List.length_take]; omega, by omega, same_mut g hD _, ?_⟩
    rw [upd_same, take_next hc', List.map_append]; rfl
  · have ek : k = l.length := by omega
    have hg : (S l).cps.size = l.length := by simp [S]
    refine .inl ⟨(by show (S l).cps.size ≤ k; rw [hg]; omega), ?_⟩
    subst ek
    rw [List.take_length] at hd
    refine ⟨D, l.map p, rfl, SqL.of (by rw [List.map_map]; exact hd), ?_⟩
    have e2 : (l.map p).all id = l.all p := by rw [List.all_map]; rfl
    rw [e2]
    exact q _ g
section
variable {X : Cx}
theorem pget_list : PGet X (rIxL X.K) := by
  intro pins s σ H o i ov iv Q I ro ri h
  obtain ⟨p, xs, k, z, rfl, rfl, hq, he, q⟩ := h
  cases ro
  obtain ⟨t, rfl⟩ := ri
  obtain ⟨its, r, pl, hz⟩ := I.list hq
  obtain ⟨j, h1, h2, h3, h4, h5⟩ := atI_get he
  obtain ⟨w, ew, rw'⟩ := r.get h2
  have hl := r.length
  have hn := line63
  have fin : EP X pins σ Q w s := ⟨z, H, I, rw', q⟩
  by_cases h0 : 0 ≤ k
  · have hj : k.toNat = j := by
      rw [seqIndex_of h0 h5] at h1
      exact Option.some.inj h1
    exact wpAny_getItem_list pl.isList h0 (by omega) (by rw [hj]; simpa using ew) fin
  · have hj : (k + (its.toArray.size : Int)).toNat = j := by
      rw [seqIndex_neg (by omega) h4] at h1
      rw [List.size_toArray, ← hl]
      exact Option.some.inj h1
    exact wpAny_getItem_list_neg (Q := fun r s' => EP X pins σ Q r s') pl.isList (by omega) (by rw [List.size_toArray] <;> omega) (by omega) (by rw [hj]; simpa using ew) fin
end
end Wk
set_option maxRecDepth 100000
set_option maxHeartbeats 4000000
namespace Wk
open PySem L2 TL PyProof.Rows
open SX (S S_len)
section
variable {P : Program} {w : World} {K : PySem.W.Frag} {mg : Str → Option Value} {base : Heap}
/-! ### is_plain -/
abbrev s_is_plain : Stmt := top 35
theorem sc_is_plain : FnScope ["thing", "sign"] ["thing"] (defScope s_is_plain) := ⟨rfl, rfl, rfl, by decide +kernel, rfl, by decide +kernel, by decide +kernel⟩
def sp_is_plain : Sp := fun vs H Q _ => ∃ l, vs = [.str (S l)] ∧ l.length ≤ 1000000 ∧ ∀ H', Same H H' → Q (.bl (l.all plain)) H'
theorem ok_is_plain (T : Txt K mg) {f : Addr} {fd : FuncData} (F : Fun K "is_plain" "is_plain" s_is_plain f fd) : FnOk P w K mg base CX0 1 f fd ["thing"] sp_is_plain := by
  refine F.ok sc_is_plain (fun vs H Q E h => ?_) (fun cdv A outer s H vs Q E hr h => ?_)
  · obtain ⟨c, rfl, _⟩ := h; rfl
  obtain ⟨l, rfl, hl, q⟩ := h
  refine ⟨_, (pss_cons (ps_if (pt_not (pt_val (pe_callB call_isi rfl T.n_isinstance boot_isinstance (pa_cons (pv 0) (pa_cons (pe_bltn (v := .ty "str") rfl T.n_str boot_str rfl) pa_nil))))) (pss_one (ps_ret pe_bl)) pss_nil)
    (pss_one (ps_ret (pe_callB (cr_all rfl) rfl T.n_all boot_all (pa_cons (pe_lc (own := [("sign", 1)]) (g := gName 1) (tt := tYes) rfl sc_is_plain.nd (pi_str (pv 0)) (blkOk_by (N := ["thing", "sign"]) (sc := defScope s_is_plain) (by decide +kernel)) (fun _ _ _ _ _ => pg_name (i := 1) sc_is_plain.nd rfl (Or.inl rfl)) (fun _ _ _ _ _ => pts_nil) (fun _ _ _ _ _ => (pe_and (pe_chain op_le op_le pe_int (pe_callB call_ord rfl T.n_ord boot_ord (pa_cons (pv 1) pa_nil)) pe_int) (pe_one (pe_cmpR op_ne (pe_callB call_ord rfl T.n_ord boot_ord (pa_cons (pv 1) pa_nil)) (pe_glob (v := .int 37) rfl T.mBARRED ⟨_, rfl⟩) (nomark _)))))) pa_nil))))), ?_⟩
  have hz := line_eq
  refine ⟨_, rfl, _, _, _, _, true, rfl, .ty "str", .base (.str _), kit_ty (by decide +kernel), true, rfl, ?_⟩
  refine iteF ?_
  show tCB (rAll K) (tCons (tLc (iStr (tVar 0)) (gName 1) tYes _ [1]) tNil) [some (V.str (S l)), none] H _
  refine all_text (l := l) (p := plain) (by omega) ?_ ?_ ?_ ?_
  · exact fun R r => ⟨_, rfl, r⟩
  · exact fun c => rfl
  rotate_left
  · exact fun H' g => q H' g
  intro c hc H' R r
  -- 32 <= ord(sign) <= 126 and ord(sign) != BARRED
  refine ⟨_, rfl, S [c], rfl, rfl, _, _, rfl, rfl, _, rfl, ?_⟩
  have e0 : (S [c]).cps.getD 0 0 = c := rfl
  rw [e0]
  refine ited (fun h1 => ?_) (fun h1 => ?_)
  · refine ⟨_, _, rfl, rfl, _, rfl, ?_⟩
    refine ited (fun h2 => ?_) (fun h2 => ?_)
    · refine ⟨_, rfl, S [c], rfl, rfl, rfl, bl_to r ?_⟩
      rw [e0, Bool.eq_iff_iff]; simp [plain]; omega
    · exact bl_to r (by rw [Bool.eq_iff_iff]; simp [plain]; omega)
  · exact ⟨_, rfl, bl_to r (by rw [Bool.eq_iff_iff]; simp [plain]; omega)⟩
/-! ### is_name -/
abbrev s_is_name : Stmt := top 34
theorem sc_is_name : FnScope ["thing", "sign"] ["thing"] (defScope s_is_name) := ⟨rfl, rfl, rfl, by decide +kernel, rfl, by decide +kernel, by decide +kernel⟩
def sp_is_name : Sp := fun vs H Q _ => ∃ l, vs = [.str (S l)] ∧ l.length ≤ 1000000 ∧ ∀ H', Same H H' → Q (.bl (isName l)) H'
theorem isName_len {l : List Nat} (h : ¬ (1 ≤ l.length ∧ l.length ≤ 20)) : isName l = false := by
  unfold isName
  by_cases h1 : 1 ≤ l.length
  · have h2 : ¬ l.length ≤ 20 := fun h2 => h ⟨h1, h2⟩
    simp [h2]
  · simp [h1]
theorem inV_keys (l : List Nat) (ks : List (List Nat)) : inV (.str (S l)) (ks.map fun k => V.str (S k)) = decide (l ∈ ks) := by
  rw [Bool.eq_iff_iff]
  unfold inV
  rw [List.any_eq_true, decide_eq_true_eq]
  constructor
  · rintro ⟨y, hy, e⟩
    obtain ⟨k, hk, rfl⟩ := List.mem_map.mp hy
    have : S k = S l := by
      have e' : decide (S k = S l) = true := by simpa [eqV] using e
      exact of_decide_eq_true e'
    rw [← S_inj this]; exact hk
  · intro h
    exact ⟨_, List.mem_map.mpr ⟨l, h, rfl⟩, by simp [eqV]⟩
theorem flat_keys (ks : List (List Nat)) : (ks.map fun k => V.str (S k)).all flatV = true := by
  rw [List.all_map, List.all_eq_true]; intro k _; rfl
theorem ok_is_name (T : Txt K mg) {f : Addr} {fd : FuncData} (F : Fun K "is_name" "is_name" s_is_name f fd) (D_is_of_stretch : Def P w K mg base CX0 "is_of_stretch" ["sign"] 1 sp_is_of_stretch) : FnOk P w K mg base CX0 2 f fd ["thing"] sp_is_name := by
  refine F.ok sc_is_name (fun vs H Q E h => ?_) (fun cdv A outer s H vs Q E hr h => ?_)
  · obtain ⟨c, rfl, _⟩ := h; rfl
  obtain ⟨l, rfl, hl, q⟩ := h
  refine ⟨_, (pss_cons (ps_if (PW.pt (pw_or (pt_not (pt_val (pe_callB call_isi rfl T.n_isinstance boot_isinstance (pa_cons (pv 0) (pa_cons (pe_bltn (v := .ty "str") rfl T.n_str boot_str rfl) pa_nil))))) (pw_or (pt_not (pt_chain op_le op_le pe_int (pe_callB call_len_str rfl T.n_len boot_len (pa_cons (pv 0) pa_nil)) (pe_glob (v := .int 20) rfl T.mMOST_SIGNS ⟨_, rfl⟩))) (pw_or1 (pt_cmpR op_in_seq (pv 0) (pe_glob (v := .ref T.aKEYS) rfl T.mKEYS rfl) rfl))))) (pss_one (ps_ret pe_bl)) pss_nil)
    (pss_one (ps_ret (pe_and (pe_cmpR op_in_sign (pe_ix ix_str (pv 0) pe_int (fun _ _ => rfl)) (pe_glob (v := .str (S lettersL)) rfl T.mLETTERS ⟨_, rfl⟩) rfl) (pe_one (pe_callB (cr_all rfl) rfl T.n_all boot_all (pa_cons (pe_lc (own := [("sign", 1)]) (g := gName 1) (tt := tYes) rfl sc_is_name.nd (pi_str (pv 0)) (blkOk_by (N := ["thing", "sign"]) (sc := defScope s_is_name) (by decide +kernel)) (fun _ _ _ _ _ => pg_name (i := 1) sc_is_name.nd rfl (Or.inl rfl)) (fun _ _ _ _ _ => pts_nil) (fun _ _ _ _ _ => (pe_call D_is_of_stretch.ok (hr.mono (by omega)) rfl D_is_of_stretch.g D_is_of_stretch.k D_is_of_stretch.b .nil pass0 (pa_cons (pv 1) pa_nil)))) pa_nil))))))), ?_⟩
  have hz := line_eq
  have hlen := S_len l
  refine ⟨_, rfl, _, _, _, _, true, rfl, .ty "str", .base (.str _), kit_ty (by decide +kernel), true, rfl, ?_⟩
  refine iteF ?_
  -- 1 <= len(thing) <= 20
  refine ⟨_, rfl, _, rfl, (by rw [hlen]; omega), _, _, rfl, rfl, _, rfl, ?_⟩
  rw [hlen]
  refine ited (fun h1 => ?_) (fun h1 => ?_)
  · refine ⟨_, _, rfl, rfl, _, rfl, ?_⟩
    refine itedn (fun h2 => ?_) (fun h2 => ?_)
    · exact bl_to (q H (Same.refl H)) (isName_len (by omega)).symm
    refine ⟨_, rfl, _, _, rfl, .inr (T.kKEYS H), rfl, flat_keys _, _, rfl, ?_⟩
    rw [inV_keys]
    refine iteb (fun h3 => ?_) (fun h3 => ?_)
    · refine bl_to (q H (Same.refl H)) ?_
      have h3 : decide (l ∈ keysL) = true := h3
      unfold isName; rw [h3]; simp
    have h3 : decide (l ∈ keysL) = false := h3
    -- thing[0] in LETTERS
    obtain ⟨c, r, rfl⟩ : ∃ c r, l = c :: r := by
      cases l with
      | nil => simp at h1
      | cons c r => exact ⟨c, r, rfl⟩
    refine ⟨_, rfl, S (c :: r), 0, c, rfl, rfl, (by rw [hlen]; omega), (show atI (c :: r) ((0 : Nat) : Int) = some c from atI_nat rfl), c, _, rfl, rfl, _, rfl, ?_⟩
    have e1 : isName (c :: r) = (isL c && (c :: r).all isS) := by
      unfold isName
      rw [h3]
      have a : decide (1 ≤ (c :: r).length) = true := decide_eq_true (by omega)
      have b : decide ((c :: r).length ≤ 20) = true := decide_eq_true (by omega)
      rw [a, b]; simp
    refine iteb (fun h4 => ?_) (fun h4 => ?_)
    · have h4 : isL c = true := h4
      show tCB (rAll K) (tCons (tLc (iStr (tVar 0)) (gName 1) tYes _ [1]) tNil) [some (V.str (S (c :: r))), none] H _
      refine all_text (l := c :: r) (p := isS) (by omega) ?_ ?_ ?_ ?_
      · exact fun R r => ⟨_, rfl, r⟩
      · exact fun c => rfl
      · intro d hd H' R r'
        exact ⟨_, rfl, d, rfl, r'⟩
      · intro H' g
        exact bl_to (q H' g) (by rw [e1, h4]; rfl)
    · have h4 : isL c = false := h4
      exact bl_to (q H (Same.refl H)) (by rw [e1, h4]; rfl)
  · refine ⟨_, rfl, ?_⟩
    exact bl_to (q H (Same.refl H)) (isName_len (by omega)).symm
/-! ### is_number_word -/
abbrev s_is_number_word : Stmt := top 33
theorem sc_is_number_word : FnScope ["stretch", "sign"] ["stretch"] (defScope s_is_number_word) := ⟨rfl, rfl, rfl, by decide +kernel, rfl, by decide +kernel, by decide +kernel⟩
def sp_is_number_word : Sp := fun vs H Q _ => ∃ l, vs = [.str (S l)] ∧ l ≠ [] ∧ l.length ≤ 1000000 ∧ ∀ H', Same H H' → Q (.bl (isNum l)) H'
theorem val_digits (l : List Nat) : val l = NumText.digitsVal l := rfl
theorem figs_of {l : List Nat} (h : l.all isF = true) : l.all (fun c => decide (48 ≤ c) && decide (c ≤ 57)) = true := by
  rw [List.all_eq_true] at h ⊢
  intro c hc
  have := h c hc
  simp [isF, figsL] at this ⊢
  omega
theorem ok_is_number_word (T : Txt K mg) {f : Addr} {fd : FuncData} (F : Fun K "is_number_word" "is_number_word" s_is_number_word f fd) : FnOk P w K mg base CX0 1 f fd ["stretch"] sp_is_number_word := by
  refine F.ok sc_is_number_word (fun vs H Q E h => ?_) (fun cdv A outer s H vs Q E hr h => ?_)
  · obtain ⟨c, rfl, _⟩ := h; rfl
  obtain ⟨l, rfl, hne, hl, q⟩ := h
  refine ⟨_, (pss_cons (ps_if (PW.pt (pw_or (pt_cmpR op_gt (pe_callB call_len_str rfl T.n_len boot_len (pa_cons (pv 0) pa_nil)) (pe_glob (v := .int 18) rfl T.mMOST_FIGURES ⟨_, rfl⟩) (nomark _)) (pw_or1 (pt_not (pt_val (pe_callB (cr_all rfl) rfl T.n_all boot_all (pa_cons (pe_lc (own := [("sign", 1)]) (g := gName 1) (tt := tYes) rfl sc_is_number_word.nd (pi_str (pv 0)) (blkOk_by (N := ["stretch", "sign"]) (sc := defScope s_is_number_word) (by decide +kernel)) (fun _ _ _ _ _ => pg_name (i := 1) sc_is_number_word.nd rfl (Or.inl rfl)) (fun _ _ _ _ _ => pts_nil) (fun _ _ _ _ _ => (pe_cmpR op_in_sign (pv 1) (pe_glob (v := .str (S figsL)) rfl T.mFIGURES ⟨_, rfl⟩) rfl))) pa_nil))))))) (pss_one (ps_ret pe_bl)) pss_nil)
    (pss_cons (ps_if (pt_cmpR op_eq (pe_ix ix_str (pv 0) pe_int (fun _ _ => rfl)) pe_str (nomark _)) (pss_one (ps_ret (pe_cmpR op_eq (pv 0) pe_str (nomark _)))) pss_nil)
    (pss_one (ps_ret (pe_cmpR op_le (pe_callTy call_int_str rfl T.n_int boot_int (pa_cons (pv 0) pa_nil)) (pe_glob (v := .int (2 ^ 59 - 1)) rfl T.mGREATEST ⟨_, rfl⟩) (nomark _)))))), ?_⟩
  have hz := line_eq
  have hlen := S_len l
  -- len(stretch) > 18
  refine ⟨_, rfl, _, rfl, (by rw [hlen]; omega), _, _, rfl, rfl, _, rfl, ?_⟩
  rw [hlen]
  refine ited (fun h1 => ?_) (fun h1 => ?_)
  · refine iteT ?_
    refine bl_to (q H (Same.refl H)) ?_
    unfold isNum
    rw [decide_eq_false (show ¬ l.length ≤ 18 by omega)]; rfl
  -- all([..])
  show tCB (rAll K) (tCons (tLc (iStr (tVar 0)) (gName 1) tYes _ [1]) tNil) [some (V.str (S l)), none] H _
  refine all_text (l := l) (p := isF) (by omega) ?_ ?_ ?_ ?_
  · exact fun R r => ⟨_, rfl, r⟩
  · exact fun c => rfl
  · intro d hd H' R r'
    exact ⟨_, rfl, d, _, rfl, rfl, r'⟩
  intro H' g
  refine ⟨_, rfl, ?_⟩
  refine itebn (fun h2 => ?_) (fun h2 => ?_)
  · refine bl_to (q H' g) ?_
    unfold isNum; rw [h2]; simp
  obtain ⟨c, r, rfl⟩ : ∃ c r, l = c :: r := by
    cases l with
    | nil => exact absurd rfl hne
    | cons c r => exact ⟨c, r, rfl⟩
  have e1 : isNum (c :: r) = (if c = 48 then decide (c :: r = [48]) else decide (val (c :: r) ≤ 2 ^ 59 - 1)) := by
    unfold isNum
    rw [h2, decide_eq_true (show (c :: r).length ≤ 18 by omega)]; rfl
  -- stretch[0] == '0'
  refine ⟨_, rfl, S (c :: r), 0, c, rfl, rfl, (by rw [hlen]; omega), (show atI (c :: r) ((0 : Nat) : Int) = some c from atI_nat rfl), rfl, _, rfl, ?_⟩
  have e2 : (V.str ⟨#[c]⟩ = V.str "0") ↔ c = 48 := by
    constructor
    · intro h
      have h' : S [c] = S [48] := (V.str.inj h).trans (S_of "0")
      have := S_inj h'
      simpa using this
    · rintro rfl
      exact congrArg V.str (S_of "0").symm
  refine ited (fun h3 => ?_) (fun h3 => ?_)
  · have hc := e2.mp h3
    subst hc
    refine ⟨_, rfl, rfl, bl_to (q H' g) ?_⟩
    rw [e1, if_pos rfl, Bool.eq_iff_iff, decide_eq_true_eq, decide_eq_true_eq]
    constructor
    · intro h
      exact S_inj ((V.str.inj h).trans (S_of "0"))
    · intro h
      exact congrArg V.str ((congrArg S h).trans (S_of "0").symm)
  · have hc : ¬ c = 48 := fun h => h3 (e2.mpr h)
    refine ⟨_, rfl, S (c :: r), _, rfl, SX.int_S (figs_of h2) hne (by omega), (by rw [hlen]; omega), ?_⟩
    refine ⟨_, _, rfl, rfl, bl_to (q H' g) ?_⟩
    rw [e1, if_neg hc, ← val_digits, Bool.eq_iff_iff, decide_eq_true_eq, decide_eq_true_eq]
    omega
end
end Wk
set_option maxRecDepth 100000
set_option maxHeartbeats 4000000
namespace Wk
open PySem L2 TL PyProof.Rows
open SX (S S_len)
/-! ### the two errors -/
abbrev s_no_init : Stmt := inClass (top 2) 0
abbrev s_bad_init : Stmt := inClass (top 4) 0
theorem sc_no_init : FnScope ["self"] ["self"] (defScope s_no_init) := ⟨rfl, rfl, rfl, by decide +kernel, rfl, by decide +kernel, by decide +kernel⟩
theorem sc_bad_init : FnScope ["self", "line"] ["self", "line"] (defScope s_bad_init) := ⟨rfl, rfl, rfl, by decide +kernel, rfl, by decide +kernel, by decide +kernel⟩
def sp_no_init : Sp := fun vs H Q _ => ∃ a, vs = [.ref a] ∧ Q .non H
def sp_bad_init (K : PySem.W.Frag) (C : Addr) : Sp := fun vs H Q _ => ∃ a y, vs = [.ref a, y] ∧ H a = some (exo a C none) ∧ ∀ dx, H dx = none → dx ≠ a → Q .non (upd (upd H dx (exd dx [("line", y)])) a (exo a C (some dx)))
section
variable {P : Program} {w : World} {K : PySem.W.Frag} {mg : Str → Option Value} {base : Heap}
theorem ok_no_init {f : Addr} {fd : FuncData} (F : Fun K "__init__" "NoText.__init__" s_no_init f fd) : FnOk P w K mg base CX0 1 f fd ["self"] sp_no_init := by
  refine F.ok sc_no_init (fun vs H Q E h => ?_) (fun cdv A outer s H vs Q E hr h => ?_)
  · obtain ⟨c, rfl, _⟩ := h; rfl
  obtain ⟨a, rfl, q⟩ := h
  exact ⟨_, pss_one ps_pass, q⟩
theorem ok_bad_init {C : Addr} (T : OexC K C) (hno : PySem.W.findIn K (.ref C) "line" = some none) {f : Addr} {fd : FuncData} (F : Fun K "__init__" "BadText.__init__" s_bad_init f fd) : FnOk P w K mg base CX0 1 f fd ["self", "line"] (sp_bad_init K C) := by
  refine F.ok sc_bad_init (fun vs H Q E h => ?_) (fun cdv A outer s H vs Q E hr h => ?_)
  · obtain ⟨a, y, rfl, _⟩ := h; rfl
  obtain ⟨a, y, rfl, ha, q⟩ := h
  exact ⟨_, pss_one (ps_ost (pv 0) (pv 1)), _, rfl, _, rfl, a, C, rfl, T, hno, .inl ⟨ha, fun dx h1 h2 => q dx h1 h2⟩⟩
end
/-- what the written part tells of an own error class and its __init__ -/
structure ExcT (P : Program) (w : World) (K : PySem.W.Frag) (mg : Str → Option Value) (base : Heap) (x : Str) (ps : List Str) (sp : PySem.W.Frag → Addr → Sp) where
  C : Addr
  fI : Addr
  fd : FuncData
  gC : mg x = some (.ref C)
  T : OexC K C
  iC : PySem.W.findIn K (.ref C) "__init__" = some (some (.ref fI))
  tI : PySem.W.typeIn K (.ref fI) = some (.type "function")
  ok : FnOk P w K mg base CX0 1 fI fd ps (sp K C)
  b : Binds K fd ps []
theorem heap_bad {H : Hp} {a d C : Addr} {fs : List (Str × V)} (hd : H d = none) (ha : H a = none) (hne : d ≠ a) : upd (del (upd (upd (upd H a (exo a C none)) d (exd d fs)) a (exo a C (some d))) a) d (.xd fs) = upd H d (.xd fs) := by
  funext b
  by_cases h1 : b = d
  · subst h1; rw [upd_same, upd_same]
  · rw [upd_ne h1, upd_ne h1]
    by_cases h2 : b = a
    · subst h2; rw [del_same, ha]
    · rw [del_ne h2, upd_ne h2, upd_ne h1, upd_ne h2]
/-- behind BadText(v) -/
theorem bad_ok {K : PySem.W.Frag} {C : Addr} {H : Hp} {v : V} {Q : XK} (q : ∀ d, H d = none → Q (.ref C) (some d) (upd H d (.xd [("line", v)]))) :
    [v].length ≤ 1000 ∧ ∀ a, H a = none → sp_bad_init K C (.ref a :: ([v] ++ [])) (upd H a (exo a C none))
      (fun u H2 => u = .non ∧ ∃ (d : Addr) (fs : List (Str × V)), H2 a = some (exo a C (some d)) ∧ H2 d = some (exd d fs) ∧ H d = none ∧ Q (.ref C) (some d) (upd (del H2 a) d (.xd fs))) (fun _ _ _ => False) := by
  refine ⟨by simp, fun a ha => ⟨a, v, rfl, upd_same, fun dx h1 h2 => ⟨rfl, dx, [("line", v)], upd_same, ?_, ?_, ?_⟩⟩⟩
  · rw [upd_ne h2, upd_same]
  · rw [upd_ne h2] at h1; exact h1
  · rw [upd_ne h2] at h1
    rw [heap_bad h1 ha h2]
    exact q dx h1
section
variable {X : Cx} {e : Expr} {te : TE} {p pos : Pos}
theorem pmk_bad (B : ExcT X.prog X.w X.K X.mg X.base "BadText" ["self", "line"] sp_bad_init) (hr : Room 2 X.A) (hg : Gl X "BadText") (he : PE X e te)
    (hs : starEach (e :: []) X.env = (false, eval e X.env) :: starEach [] X.env := by rfl) (hpl : (backTo pos (starEach [] X.env)).any (·.1) = false := by rfl) :
    PMk X (.Call (.Name "BadText" p) [e] [] pos) (tMkO B.C (sp_bad_init X.K B.C) [] (tCons te tNil)) :=
  pmk_oex (p := p) (pos := pos) (CX := CX0) B.T B.iC B.tI B.ok hr B.b .nil (fun _ _ _ _ _ _ _ h => h.elim) hg B.gC (pa_cons he pa_nil hs) (by decide) hs hpl
/-- an error whose __init__ takes nothing and stores nothing -/
theorem pmk_none {x : Str} (B : ExcT X.prog X.w X.K X.mg X.base x ["self"] (fun _ _ => sp_no_init)) (hr : Room 2 X.A) (hg : Gl X x) (hdb : (x == ("__debug__" : Str)) = false := by decide) :
    PMk X (.Call (.Name x p) [] [] pos) (fun _ H Q => Q (.ref B.C) none H) := by
  intro pins s σ H Q I h
  obtain ⟨nm, q, N, bs, bm, sn, sub, ab, col, dd, k0, k1, k2, k3, k5, hC, hbm⟩ := B.T.cls
  refine wpAny_Call_Name_kw (ld_glob I hg B.gC ?_ hdb)
  refine PySem.W.callWith_K0 I.kIn B.T.kC ?_
  show wpAny _ _ (call (.ref B.C) []) _ _ _
  obtain ⟨hp, g, dr, tk, os⟩ := s
  have hsz : hp.objs.size ≤ hp.objs.size + 1 := Nat.le_succ _
  have hn : H (hp.objs.size + 1) = none := I.hok.fresh hsz
  have kk : ∀ b o, hp.get? b = some o → ((hp.push (PySem.W.kdv_tup [])).push (PySem.HandSPX.excO B.C hp.objs.size)).get? b = some o := fun b o e => Heap.get?_push_of_some _ (Heap.get?_push_of_some _ e)
  have hget : ((hp.push (PySem.W.kdv_tup [])).push (PySem.HandSPX.excO B.C hp.objs.size)).get? (hp.objs.size + 1) = some (PySem.HandSPX.excO B.C hp.objs.size) := by heap_get
  have I2 : L2.Inv X pins σ (upd H (hp.objs.size + 1) (exo (hp.objs.size + 1) B.C none)) ⟨(hp.push (PySem.W.kdv_tup [])).push (PySem.HandSPX.excO B.C hp.objs.size), g, dr, tk, os⟩ :=
    I.laid (t' := tk) (a := hp.objs.size + 1) (o := exo (hp.objs.size + 1) B.C none) (h' := (hp.push (PySem.W.kdv_tup [])).push (PySem.HandSPX.excO B.C hp.objs.size)) kk hsz (exo_ok hget)
  have r2 : L2.Vals [V.ref (hp.objs.size + 1)] [Value.ref (hp.objs.size + 1)] := .cons rfl .nil
  have hb := B.b ⟨(hp.push (PySem.W.kdv_tup [])).push (PySem.HandSPX.excO B.C hp.objs.size), g, dr, tk, os⟩ [Value.ref (hp.objs.size + 1)] I2.kIn rfl
  refine wpAny_call (PySem.HandSPX.call_own F.excBase_ValueError (fun Y => PySem.HandSPX.refsVE_contains Y bm hbm) (I.kIn _ _ hC) (PySem.W.looks_findIn I.kIn B.iC) (fun self => PySem.W.bind_fn I.kIn self B.tI) (Nat.zero_le _)
    (codeAny_mono (B.ok.run _ X.stack _ _ ⟨[Value.ref (hp.objs.size + 1)], []⟩ _ _ (fun v H2 => v = .non ∧ H2 = upd H (hp.objs.size + 1) (exo (hp.objs.size + 1) B.C none)) (fun _ _ _ => False) ((hr : Room (1 + 1) X.A).make B.C [] []) (I2.env0.make B.C [] []) hb r2 ⟨_, rfl, rfl, rfl⟩) fun r s' hq' => ?_))
  cases r with
  | error er => exact False.elim hq'
  | ok fl =>
    cases fl with
    | ret u =>
      obtain ⟨v, H2, os2, bare2, un2, hok2, rv, ev, eH⟩ := hq'
      subst ev; subst eH
      obtain ⟨h2, g2, d2, t2, os'⟩ := s'
      refine ⟨rv, ?_⟩
      generalize hp.objs.size + 1 = a at *
      obtain ⟨t0, hoe⟩ := exo_at hok2 upd_same
      have nha : ∀ {b : Addr} {o : Obj}, hp.get? b = some o → b ≠ a := fun {b o} z e => by
        rw [e] at z
        exact absurd (Nat.lt_of_lt_of_le (Heap.lt_size z) hsz) (Nat.lt_irrefl _)
      obtain ⟨G, g1', g2'⟩ := restrict h2 fun b => decide (b ≠ a)
      have gk : ∀ b, b ≠ a → G.get? b = h2.get? b := fun b hb => g1' b (decide_eq_true hb)
      have ge : G.get? a = none := g2' a (by simp)
      have up : ∀ {b : Addr}, b ≠ a → H b = none → upd H a (exo a B.C none) b = none := fun {b} hb n => by rw [upd_ne hb]; exact n
      have U : Un (frs X.stack) [] H H hp G := {
        keep := fun b o z n hf hx => by rw [gk b (nha z)]; exact un2.keep b o (kk b o z) (up (nha z) n) hf hx
        slot := fun b o z n hf hx => by rw [gk b (nha z)]; exact un2.slot b o (kk b o z) (up (nha z) n) hf hx
        free := fun b o z n hx => n
        there := fun b o z hx => by rw [gk b (nha z)]; exact un2.there b o (kk b o z) hx
        tups := fun b xs z => z
        frzs := fun b o v z => z
        tbls := fun b ps z => ⟨#[], by rw [z]; simp⟩ }
      have hok3 : HOk X.prog X.w H G := fun b o z => by
        have hba : b ≠ a := fun e => by rw [e, hn] at z; cases z
        have z2 : upd H a (exo a B.C none) b = some o := by rw [upd_ne hba]; exact z
        have noa : ∀ {c : Addr} {u : HO}, u ≠ exo a B.C none → upd H a (exo a B.C none) c = some u → c ≠ a := fun {c u} hu hc e => by
          rw [e, upd_same] at hc
          exact hu (Option.some.inj hc).symm
        refine (hok2 b o z2).stay (fun c v hc y => ?_) (fun c hc => ?_) (fun c xs hc => ?_)
        · have hca : c ≠ a := by
            rcases hc with hc | hc
            · rw [hc]; exact hba
            · exact noa (fun e => exo_own e.symm) hc
          rw [gk c hca]; exact y
        · have hca := noa (fun e => exo_own e.symm) hc
          rw [upd_ne hca] at hc; exact hc
        · have hca := noa (fun e => exo_tup e.symm) hc
          rw [upd_ne hca] at hc; exact hc
      have J : L2.Inv X pins σ H ⟨G, g2, d2, t2, os'⟩ := I.call' (ch := []) os2 U hok3 bare2 (fun b z => absurd z (by simp))
      refine ⟨a, _, _, ⟨G, g2, d2, t2, os'⟩, H, .ref B.C, none, rfl, J, fun b o z => ?_, ge, hoe, ⟨rfl, rfl⟩, rfl, rfl, hn, rfl, bare2, raises_own B.T.exC B.T.tyC, h⟩
      by_cases hba : b = a
      · rw [hba, ge] at z; cases z
      · exact (gk b hba).symm.trans z
    | next => exact False.elim hq'
    | brk => exact False.elim hq'
    | cont => exact False.elim hq'
end
end Wk
set_option maxRecDepth 100000
set_option maxHeartbeats 4000000
namespace Wk
open PySem L2 TL PyProof.Rows
open SX (S S_len)
/-! ### lists -/
theorem tw_of {p : Nat → Bool} : ∀ {l : List Nat} {k : Nat}, (l.take k).all p = true → (∀ c, l[k]? = some c → p c = false) → k ≤ l.length → l.takeWhile p = l.take k
  | [], k, _, _, _ => by simp
  | a :: l, 0, _, h, _ => by
    rw [List.takeWhile_cons, if_neg (by rw [h a rfl]; exact Bool.false_ne_true)]; rfl
  | a :: l, k + 1, h1, h2, h3 => by
    rw [List.take_succ_cons, List.all_cons, Bool.and_eq_true] at h1
    rw [List.takeWhile_cons, if_pos h1.1, List.take_succ_cons, tw_of h1.2 (fun c hc => h2 c hc) (Nat.le_of_succ_le_succ h3)]
theorem cut_nat {l : List Nat} {i j : Nat} (hi : i ≤ l.length) : cutS (S l) (some (i : Int)) (some (j : Int)) = S ((l.drop i).take (j - i)) := by
  refine ext_tl ?_
  show (l.drop (HT.sIx (S l).length 0 (some (i : Int)))).take (HT.sIx (S l).length (S l).length (some (j : Int)) - HT.sIx (S l).length 0 (some (i : Int))) = (l.drop i).take (j - i)
  rw [HT.sIx_nat, HT.sIx_nat, S_len, Nat.min_eq_left hi]
  by_cases hj : j ≤ l.length
  · rw [Nat.min_eq_left hj]
  · rw [Nat.min_eq_right (by omega), List.take_of_length_le (by rw [List.length_drop]; omega), List.take_of_length_le (by rw [List.length_drop]; omega)]
theorem cut_from {l : List Nat} {i : Nat} (hi : i ≤ l.length) : cutS (S l) (some (i : Int)) none = S (l.drop i) := by
  refine ext_tl ?_
  show (l.drop (HT.sIx (S l).length 0 (some (i : Int)))).take (HT.sIx (S l).length (S l).length none - HT.sIx (S l).length 0 (some (i : Int))) = l.drop i
  rw [HT.sIx_nat, HT.sIx_none, S_len, Nat.min_eq_left hi, List.take_of_length_le (by rw [List.length_drop]; omega)]
/-! ### words as values -/
def soS : So → Str
  | .name => "name" | .key => "key" | .number => "number" | .text => "text" | .mark => "mark"
def wdV : Wd → V
  | .s l => .str (S l)
  | .n k => .int (k : Int)
/-- what is raised: BadText(line) -/
def BadE (C : Addr) (line : Nat) (H : Hp) (E : XK) : Prop := ∀ H' d, Same H H' → H' d = some (.xd [("line", .int (line : Int))]) → E (.ref C) (some d) H'
theorem BadE.go {C : Addr} {line : Nat} {H H' : Hp} {E : XK} (b : BadE C line H E) (g : Same H H') {d : Addr} (hd : H' d = none) : E (.ref C) (some d) (upd H' d (.xd [("line", .int (line : Int))])) :=
  b _ d (same_to g hd _) upd_same
theorem BadE.mono {C : Addr} {line : Nat} {H H' : Hp} {E : XK} (b : BadE C line H E) (g : Same H H') : BadE C line H' E := fun H2 d g2 h => b H2 d (g.trans g2) h
/-- what is told: a triple -/
def TupQ (x y z : V) (H : Hp) (Q : VK) : Prop := ∀ H' p, Same H H' → H' p = some (.tup [x, y, z]) → Q (.ref p) H'
theorem TupQ.mono {x y z : V} {H H' : Hp} {Q : VK} (t : TupQ x y z H Q) (g : Same H H') : TupQ x y z H' Q := fun H2 p g2 h => t H2 p (g.trans g2) h
theorem TupQ.go {x y z : V} {H H' : Hp} {Q : VK} (t : TupQ x y z H Q) (g : Same H H') {p : Addr} (hp : H' p = none) : Q (.ref p) (upd H' p (.tup [x, y, z])) := t _ p (same_to g hp _) upd_same
theorem three_ok : (3 : Nat) ≤ sizeLine := by rw [line_eq]; decide
/-- a loop with one way out that is told once -/
theorem while_of {c : TT} {tb : TS} {D : Ends} {σ : L2.St} {H : Hp} (R : L2.St → Hp → Prop) (W : Nat → L2.St → Hp → Prop) (m0 : Nat) (h0 : W m0 σ H) (after : ∀ σ H, R σ H → D.nx σ H)
    (turn : ∀ NX : L2.St → Hp → Prop, (∀ σ H, R σ H → NX σ H) → ∀ m σ H, W m σ H → c σ H fun b H1 => if b = true then ∃ N : L2.St → Hp → Prop, (∀ σ' H', N σ' H' → ∃ m', m' < m ∧ W m' σ' H') ∧ tb { D with nx := N, ct := N, bk := NX } σ H1 else NX σ H1) :
    tWhile c tb D σ H := ⟨W, ⟨m0, h0⟩, turn D.nx after⟩
theorem go_next {D : Ends} {σ : L2.St} {H : Hp} (h : D.nx σ H) : tNext D σ H := h
theorem seq_set {te : TE} {u : TS} {i : Nat} {D : Ends} {σ : L2.St} {H : Hp} (h : te σ H fun x H1 => u D (σ.set i (some x)) H1) : tSeq (tAsg te (gName i)) u D σ H := h
theorem seq_setC {v : V} {u : TS} {i : Nat} {D : Ends} {σ : L2.St} {H : Hp} (h : u D (σ.set i (some v)) H) : tSeq (tAsg (tC v) (gName i)) u D σ H := h
/-- what stands behind a statement, told once -/
theorem seq_join {t u : TS} {D : Ends} {σ : L2.St} {H : Hp} (R : L2.St → Hp → Prop) (after : ∀ σ H, R σ H → u D σ H) (h : ∀ NX : L2.St → Hp → Prop, (∀ σ H, R σ H → NX σ H) → t { D with nx := NX } σ H) : tSeq t u D σ H := h _ after
section
variable {P : Program} {w : World} {K : PySem.W.Frag} {mg : Str → Option Value} {base : Heap}
/-! ### stretch_at -/
abbrev s_stretch_at : Stmt := top 30
theorem sc_stretch_at : FnScope ["row", "at", "line", "end", "stretch"] ["row", "at", "line"] (defScope s_stretch_at) := ⟨rfl, rfl, rfl, by decide +kernel, rfl, by decide +kernel, by decide +kernel⟩
def sp_stretch_at (C : Addr) : Sp := fun vs H Q E => ∃ (row : List Nat) (i line : Nat), vs = [.str (S row), .int (i : Int), .int (line : Int)] ∧ row.length ≤ 1000000 ∧ i < row.length ∧ (∀ c, row[i]? = some c → isS c = true) ∧
  (match classify ((row.drop i).takeWhile isS) with
    | none => BadE C line H E
    | some (so, wd) => TupQ (.str (soS so)) (wdV wd) (.int ((i + ((row.drop i).takeWhile isS).length : Nat) : Int)) H Q)
theorem ok_stretch_at (T : Txt K mg) (B : ExcT P w K mg base "BadText" ["self", "line"] sp_bad_init) {f : Addr} {fd : FuncData} (F : Fun K "stretch_at" "stretch_at" s_stretch_at f fd)
    (D_is_of_stretch : Def P w K mg base CX0 "is_of_stretch" ["sign"] 1 sp_is_of_stretch)
    (D_is_name : Def P w K mg base CX0 "is_name" ["thing"] 2 sp_is_name)
    (D_is_number_word : Def P w K mg base CX0 "is_number_word" ["stretch"] 1 sp_is_number_word) :
    FnOk P w K mg base (L2.CX P w) 3 f fd ["row", "at", "line"] (sp_stretch_at B.C) := by
  refine F.okX sc_stretch_at (fun vs H Q E h => ?_) (fun cdv A outer s H vs Q E hr h => ?_)
  · obtain ⟨a, y, z, rfl, _⟩ := h; rfl
  obtain ⟨row, i, line, rfl, hl, hi, hS, q⟩ := h
  refine ⟨_, (pss_cons (ps_set (i := 3) sc_stretch_at.nd rfl (Or.inl rfl) (pv 1))
    (pss_cons (ps_while (passes_of rfl) (PW.pt (pw_and (pt_cmpR op_lt (pv 3) (pe_callB call_len_str rfl T.n_len boot_len (pa_cons (pv 0) pa_nil)) (nomark _)) (pw_and1 (pt_val (pe_call D_is_of_stretch.ok (hr.mono (by omega)) rfl D_is_of_stretch.g D_is_of_stretch.k D_is_of_stretch.b .nil pass0 (pa_cons (pe_ix ix_str (pv 0) (pv 3) (fun _ _ => rfl)) pa_nil)))))) (pss_one (ps_aug (i := 3) sc_stretch_at.nd rfl (Or.inl rfl) pe_int ip_add)))
    (pss_cons (ps_set (i := 4) sc_stretch_at.nd rfl (Or.inl rfl) (pe_slice sl_str (pv 0) (po_some (pv 1)) (po_some (pv 3))))
    (pss_cons (ps_if (pt_cmpR op_in_seq (pv 4) (pe_glob (v := .ref T.aKEYS) rfl T.mKEYS rfl) rfl) (pss_one (ps_ret (pe_tup (pa_cons pe_str (pa_cons (pv 4) (pa_cons (pv 3) pa_nil)))))) pss_nil)
    (pss_cons (ps_if (pt_val (pe_call D_is_name.ok (hr.mono (by omega)) rfl D_is_name.g D_is_name.k D_is_name.b .nil pass0 (pa_cons (pv 4) pa_nil))) (pss_one (ps_ret (pe_tup (pa_cons pe_str (pa_cons (pv 4) (pa_cons (pv 3) pa_nil)))))) pss_nil)
    (pss_cons (ps_if (pt_val (pe_call D_is_number_word.ok (hr.mono (by omega)) rfl D_is_number_word.g D_is_number_word.k D_is_number_word.b .nil pass0 (pa_cons (pv 4) pa_nil))) (pss_one (ps_ret (pe_tup (pa_cons pe_str (pa_cons (pe_callTy call_int_str rfl T.n_int boot_int (pa_cons (pv 4) pa_nil)) (pa_cons (pv 3) pa_nil)))))) pss_nil)
    (pss_one (ps_raise rfl (takes_of rfl rfl rfl rfl) (pmk_bad B (hr.mono (by decide)) rfl (pv 2)))))))))), ?_⟩
  have hz := line_eq
  have hlen := S_len row
  -- end = at
  refine ⟨_, rfl, ?_⟩
  -- the loop
  refine while_of (fun σ H' => H' = H ∧ ∃ k : Nat, i < k ∧ k ≤ row.length ∧ ((row.drop i).take (k - i)).all isS = true ∧ (∀ c, row[k]? = some c → isS c = false) ∧ σ = [some (.str (S row)), some (.int (i : Int)), some (.int (line : Int)), some (.int (k : Int)), none])
    (fun m σ H' => H' = H ∧ ∃ k : Nat, m = row.length - k ∧ i ≤ k ∧ k ≤ row.length ∧ ((row.drop i).take (k - i)).all isS = true ∧ σ = [some (.str (S row)), some (.int (i : Int)), some (.int (line : Int)), some (.int (k : Int)), none])
    _ ⟨rfl, i, rfl, Nat.le_refl _, Nat.le_of_lt hi, by simp, rfl⟩ ?_ ?_
  rotate_left
  · rintro NX nx m σ H' ⟨rfl, k, rfl, h1, h2, h3, rfl⟩
    refine ⟨_, rfl, _, rfl, _, rfl, (by rw [hlen]; omega), _, _, rfl, rfl, _, rfl, ?_⟩
    rw [hlen]
    have next : ∀ c, row[k]? = some c → isS c = true → ((row.drop i).take (k + 1 - i)).all isS = true := fun c hc hs => by
      have e : k + 1 - i = (k - i) + 1 := by omega
      have hc' : (row.drop i)[k - i]? = some c := by rw [List.getElem?_drop, ← hc]; congr 1; omega
      rw [e, take_next hc', List.all_append, h3]
      simp [hs]
    refine ited (fun h4 => ?_) (fun h4 => ?_)
    · have hk : k < row.length := by omega
      have hc : row[k]? = some row[k] := List.getElem?_eq_getElem hk
      refine ⟨_, rfl, _, rfl, S row, _, row[k], rfl, rfl, (by rw [hlen]; omega), atI_nat hc, row[k], rfl, _, rfl, ?_⟩
      refine iteb (fun h5 => ?_) (fun h5 => ?_)
      · refine ⟨_, fun _ _ h => h, ?_⟩
        refine ⟨_, rfl, _, _, rfl, rfl, ?_⟩
        exact ⟨_, by omega, rfl, k + 1, rfl, by omega, by omega, next _ hc h5, rfl⟩
      · refine nx _ _ ⟨rfl, k, ?_, h2, h3, fun c e => ?_, rfl⟩
        · rcases Nat.lt_or_ge i k with h | h
          · exact h
          · have : i = k := by omega
            subst this
            rw [hS _ hc] at h5; cases h5
        · rw [hc] at e; cases e; exact h5
    · refine nx _ _ ⟨rfl, k, by omega, h2, h3, fun c e => ?_, rfl⟩
      rw [List.getElem?_eq_none (by omega)] at e; cases e
  rintro σ H' ⟨rfl, k, h1, h2, h3, h4, rfl⟩
  have hs : (row.drop i).takeWhile isS = (row.drop i).take (k - i) := tw_of h3 (fun c e => h4 c (by rw [List.getElem?_drop] at e; rw [← e]; congr 1; omega)) (by rw [List.length_drop]; omega)
  have hsl : ((row.drop i).take (k - i)).length = k - i := by rw [List.length_take, List.length_drop]; omega
  have hne : (row.drop i).take (k - i) ≠ [] := fun e => by rw [e] at hsl; simp at hsl; omega
  rw [hs, hsl] at q
  have ek : ((i + (k - i) : Nat) : Int) = (k : Int) := by omega
  rw [ek] at q
  have hs0 : (row.drop i).take (k - i) = (row.drop i).take (k - i) := rfl
  -- stretch = row[at:end]
  refine ⟨_, rfl, _, rfl, _, rfl, _, rfl, _, rfl, S row, rfl, (by rw [hlen]; omega), ?_⟩
  rw [cut_nat (by omega)]
  generalize (row.drop i).take (k - i) = l at *
  -- stretch in KEYS
  refine ⟨_, rfl, _, _, rfl, .inr (T.kKEYS _), rfl, flat_keys _, _, rfl, ?_⟩
  rw [inV_keys]
  refine iteb (fun h5 => ?_) (fun h5 => ?_)
  · have h5 : l ∈ keysL := of_decide_eq_true h5
    unfold classify at q
    rw [if_pos h5] at q
    refine ⟨_, rfl, _, rfl, three_ok, fun p hp => ?_⟩
    exact q.go (Same.refl _) hp
  have h5 : ¬ l ∈ keysL := fun h => by
    have h5 : decide (l ∈ keysL) = false := h5
    rw [decide_eq_true h] at h5; cases h5
  unfold classify at q
  rw [if_neg h5] at q
  -- is_name(stretch)
  refine ⟨_, rfl, l, rfl, by omega, fun H1 g1 => ⟨_, rfl, ?_⟩⟩
  refine iteb (fun h6 => ?_) (fun h6 => ?_)
  · rw [if_pos h6] at q
    exact ⟨_, rfl, _, rfl, three_ok, fun p hp => q.go g1 hp⟩
  rw [if_neg (by rw [h6]; exact Bool.false_ne_true)] at q
  -- is_number_word(stretch)
  refine ⟨_, rfl, l, rfl, hne, by omega, fun H2 g2 => ⟨_, rfl, ?_⟩⟩
  have g3 := g1.trans g2
  refine iteb (fun h7 => ?_) (fun h7 => ?_)
  · rw [if_pos h7] at q
    have hf : l.all isF = true ∧ l.length ≤ 18 := by
      unfold isNum at h7
      simp only [Bool.and_eq_true, decide_eq_true_eq] at h7
      exact ⟨h7.1.2, h7.1.1⟩
    refine ⟨_, rfl, S l, _, rfl, SX.int_S (figs_of hf.1) hne (by omega), (by rw [S_len]; omega), ?_⟩
    exact ⟨_, rfl, three_ok, fun p hp => q.go g3 hp⟩
  rw [if_neg (by rw [h7]; exact Bool.false_ne_true)] at q
  exact ⟨_, rfl, bad_ok fun d hd => q.go g3 hd⟩
end
end Wk
set_option maxRecDepth 100000
set_option maxHeartbeats 4000000
namespace Wk
open PySem L2 TL PyProof.Rows
open SX (S S_len)
theorem textP_plain {acc r : List Nat} {c : Nat} (h : c ≠ 34) (hp : plain c = true) : textP acc (c :: r) = textP (acc ++ [c]) r := by
  cases r with
  | nil => simp [textP, h]
  | cons d r => simp only [textP, if_neg h, if_pos hp]
theorem textP_bad {acc r : List Nat} {c : Nat} (h : c ≠ 34) (hp : plain c = false) : textP acc (c :: r) = none := by
  cases r with
  | nil => simp [textP, h]
  | cons d r => simp [textP, if_neg h, hp]
theorem textP_end {acc r : List Nat} (h : r.head? ≠ some 34) : textP acc (34 :: r) = some (acc, r) := by
  cases r with
  | nil => simp [textP]
  | cons d r => simp only [textP, if_pos, if_neg (show ¬ d = 34 from fun e => h (by rw [e]; rfl))]
theorem textP_dbl {acc r : List Nat} : textP acc (34 :: 34 :: r) = textP (acc ++ [34]) r := by simp [textP]
theorem join_ones (acc : List Nat) : Txt.join ("" : Str) (acc.map fun c => S [c]) = S acc := by
  refine ext_tl ?_
  rw [join_eq, tl_join]
  have h1 : tl ("" : Str) = [] := rfl
  rw [h1, List.map_map]
  have h2 : ∀ l : List Nat, joinL [] (l.map (tl ∘ fun c => S [c])) = l := by
    intro l
    induction l with
    | nil => rfl
    | cons a l ih =>
      cases l with
      | nil => rfl
      | cons b l =>
        show [a] ++ [] ++ joinL [] ((b :: l).map (tl ∘ fun c => S [c])) = _
        rw [ih]; rfl
  exact h2 acc
theorem sum_ones : ∀ l : List Nat, ((l.map fun c => S [c]).map fun x => x.length).sum = l.length
  | [] => rfl
  | a :: l => by rw [List.map_cons, List.map_cons, List.sum_cons, sum_ones l]; show 1 + l.length = l.length + 1; omega
theorem str_one {c d : Nat} : (V.str ⟨#[c]⟩ = V.str ⟨#[d]⟩) ↔ c = d := by
  constructor
  · intro h
    have h' : S [c] = S [d] := V.str.inj h
    simpa using S_inj h'
  · rintro rfl; rfl
theorem q_lit : ("\"" : Str) = S [34] := S_of "\""
section
variable {P : Program} {w : World} {K : PySem.W.Frag} {mg : Str → Option Value} {base : Heap}
/-! ### text_at -/
abbrev s_text_at : Stmt := top 31
theorem sc_text_at : FnScope ["row", "at", "line", "signs"] ["row", "at", "line"] (defScope s_text_at) := ⟨rfl, rfl, rfl, by decide +kernel, rfl, by decide +kernel, by decide +kernel⟩
def sp_text_at (C : Addr) : Sp := fun vs H Q E => ∃ (row : List Nat) (i line : Nat), vs = [.str (S row), .int (i : Int), .int (line : Int)] ∧ row.length ≤ 1000000 ∧ i < row.length ∧
  (match textP [] (row.drop (i + 1)) with
    | none => BadE C line H E
    | some (wd, r) => TupQ (.str "text") (.str (S wd)) (.int ((row.length - r.length : Nat) : Int)) H Q)
theorem ok_text_at (T : Txt K mg) (B : ExcT P w K mg base "BadText" ["self", "line"] sp_bad_init) {f : Addr} {fd : FuncData} (F : Fun K "text_at" "text_at" s_text_at f fd)
    (D_is_plain : Def P w K mg base CX0 "is_plain" ["thing"] 1 sp_is_plain) :
    FnOk P w K mg base (L2.CX P w) 3 f fd ["row", "at", "line"] (sp_text_at B.C) := by
  refine F.okX sc_text_at (fun vs H Q E h => ?_) (fun cdv A outer s H vs Q E hr h => ?_)
  · obtain ⟨a, y, z, rfl, _⟩ := h; rfl
  obtain ⟨row, i, line, rfl, hl, hi, q⟩ := h
  refine ⟨_, (pss_cons (ps_set (i := 3) sc_text_at.nd rfl (Or.inl rfl) (pe_lst pa_nil))
    (pss_cons (ps_aug (i := 1) sc_text_at.nd rfl (Or.inl rfl) pe_int ip_add)
    (pss_cons (ps_while (passes_of rfl) (pt_cmpR op_lt (pv 1) (pe_callB call_len_str rfl T.n_len boot_len (pa_cons (pv 0) pa_nil)) (nomark _)) (pss_cons (ps_if (pt_cmpR op_eq (pe_ix ix_str (pv 0) (pv 1) (fun _ _ => rfl)) pe_str (nomark _)) (pss_cons (ps_if (pt_cmpR op_ne (pe_slice sl_str (pv 0) (po_some (pe_op op_add (pv 1) pe_int)) (po_some (pe_op op_add (pv 1) pe_int))) pe_str (nomark _)) (pss_one (ps_ret (pe_tup (pa_cons pe_str (pa_cons (pe_bm PySem.F.plainAttrs_str PySem.F.slot_str_join PySem.F.type_str_join mt_join pe_str (pa_cons (pv 3) pa_nil)) (pa_cons (pe_op op_add (pv 1) pe_int) pa_nil)))))) pss_nil)
        (pss_one (ps_aug (i := 1) sc_text_at.nd rfl (Or.inl rfl) pe_int ip_add))) pss_nil)
      (pss_cons (ps_if (pt_not (pt_val (pe_call D_is_plain.ok (hr.mono (by omega)) rfl D_is_plain.g D_is_plain.k D_is_plain.b .nil pass0 (pa_cons (pe_ix ix_str (pv 0) (pv 1) (fun _ _ => rfl)) pa_nil)))) (pss_one (ps_raise rfl (takes_of rfl rfl rfl rfl) (pmk_bad B (hr.mono (by decide)) rfl (pv 2)))) pss_nil)
      (pss_cons (ps_expr (pe_bm PySem.F.plainAttrs_list PySem.F.slot_list_append PySem.F.type_list_append mt_append (pv 3) (pa_cons (pe_ix ix_str (pv 0) (pv 1) (fun _ _ => rfl)) pa_nil)))
      (pss_one (ps_aug (i := 1) sc_text_at.nd rfl (Or.inl rfl) pe_int ip_add))))))
    (pss_one (ps_raise rfl (takes_of rfl rfl rfl rfl) (pmk_bad B (hr.mono (by decide)) rfl (pv 2))))))), ?_⟩
  have hz := line_eq
  have hlen := S_len row
  -- signs = []; at += 1
  refine ⟨(by show 0 ≤ sizeLine; omega), fun p np => ?_⟩
  refine ⟨_, rfl, _, _, rfl, rfl, ?_⟩
  -- the loop
  refine while_of (fun σ H' => Same H H' ∧ textP [] (row.drop (i + 1)) = none ∧ ∃ k : Nat, σ = [some (.str (S row)), some (.int (k : Int)), some (.int (line : Int)), some (.ref p)])
    (fun m σ H' => Same H H' ∧ ∃ (k : Nat) (acc : List Nat), m = row.length - k ∧ k ≤ row.length ∧ acc.length ≤ k ∧ textP [] (row.drop (i + 1)) = textP acc (row.drop k) ∧ H' p = some (.lst (acc.map fun c => V.str (S [c]))) ∧
      σ = [some (.str (S row)), some (.int (k : Int)), some (.int (line : Int)), some (.ref p)])
    _ ⟨same_new np _, i + 1, [], rfl, by omega, by simp, rfl, upd_same, rfl⟩ ?_ ?_
  · rintro σ H' ⟨g, hn, k, rfl⟩
    rw [hn] at q
    exact ⟨_, rfl, bad_ok fun d hd => q.go g hd⟩
  rintro NX nx m σ H' ⟨g, k, acc, rfl, h1, h0, h2, h3, rfl⟩
  refine ⟨_, rfl, _, rfl, _, rfl, (by rw [hlen]; omega), _, _, rfl, rfl, _, rfl, ?_⟩
  rw [hlen]
  refine ited (fun h4 => ?_) (fun h4 => ?_)
  rotate_left
  · refine nx _ _ ⟨g, ?_, k, rfl⟩
    rw [h2, List.drop_eq_nil_of_le (by omega)]; rfl
  have hk : k < row.length := by omega
  refine ⟨_, fun _ _ h => h, ?_⟩
  obtain ⟨c, hc⟩ : ∃ c, row[k]? = some c := ⟨_, List.getElem?_eq_getElem hk⟩
  have hd : row.drop k = c :: row.drop (k + 1) := by
    rw [List.drop_eq_getElem_cons hk]
    rw [List.getElem?_eq_getElem hk] at hc
    rw [Option.some.inj hc]
  -- if row[at] == '"'
  refine seq_join (fun σ H2 => H2 = H' ∧ ∃ (k' c' : Nat), row[k']? = some c' ∧ k ≤ k' ∧ k' ≤ k + 1 ∧ textP acc (row.drop k) = (if plain c' = true then textP (acc ++ [c']) (row.drop (k' + 1)) else none) ∧
      σ = [some (.str (S row)), some (.int (k' : Int)), some (.int (line : Int)), some (.ref p)]) ?_ ?_
  · rintro σ H2 ⟨rfl, k', c', hc', h5, h6, h7, rfl⟩
    have hk' : k' < row.length := by
      rcases Nat.lt_or_ge k' row.length with h | h
      · exact h
      · rw [List.getElem?_eq_none h] at hc'; cases hc'
    -- not is_plain(row[at])
    refine ⟨_, rfl, _, rfl, S row, _, c', rfl, rfl, (by rw [hlen]; omega), atI_nat hc', [c'], rfl, by simp, fun H3 g3 => ⟨_, rfl, ?_⟩⟩
    have g4 := g.trans g3
    have e1 : [c'].all plain = plain c' := by simp
    rw [e1]
    refine itebn (fun h8 => ?_) (fun h8 => ?_)
    · rw [h2, h7, h8] at q
      exact ⟨_, rfl, bad_ok fun d hd => q.go g4 hd⟩
    rw [if_pos h8] at h7
    -- signs.append(row[at]); at += 1
    refine ⟨_, rfl, .inl ⟨rfl, _, SqL.of (g3 _ _ h3)⟩, _, rfl, _, rfl, S row, _, c', rfl, rfl, (by rw [hlen]; omega), atI_nat hc', _, _, _, rfl, rfl, g3 _ _ h3, (by rw [List.length_map]; omega), ?_⟩
    refine ⟨_, rfl, _, _, rfl, rfl, ?_⟩
    refine ⟨row.length - (k' + 1), by omega, same_mut g4 np _, k' + 1, acc ++ [c'], rfl, by omega, by rw [List.length_append, List.length_singleton]; omega, by rw [h2, h7], ?_, rfl⟩
    rw [upd_same, List.map_append]; rfl
  · intro NX2 nx2
    refine ⟨_, rfl, _, rfl, S row, _, c, rfl, rfl, (by rw [hlen]; omega), atI_nat hc, rfl, _, rfl, ?_⟩
    have e1 : (V.str ⟨#[c]⟩ = V.str "\"") ↔ c = 34 := by rw [q_lit]; exact str_one
    refine ited (fun h5 => ?_) (fun h5 => ?_)
    · have h5 := e1.mp h5
      subst h5
      refine ⟨_, rfl, _, rfl, _, _, rfl, rfl, _, rfl, _, rfl, _, _, rfl, rfl, _, rfl, S row, rfl, (by rw [hlen]; omega), rfl, _, rfl, ?_⟩
      have e2 : cutS (S row) (some ((k : Int) + 1)) (some ((k : Int) + 2)) = S ((row.drop (k + 1)).take 1) := by
        have := cut_nat (l := row) (i := k + 1) (j := k + 2) (by omega)
        rw [show k + 2 - (k + 1) = 1 by omega] at this
        exact this
      rw [e2]
      have e3 : (V.str (S ((row.drop (k + 1)).take 1)) = V.str "\"") ↔ (row.drop (k + 1)).head? = some 34 := by
        rw [q_lit]
        cases row.drop (k + 1) with
        | nil =>
          constructor
          · intro h
            have := S_inj (V.str.inj h)
            simp at this
          · intro h; cases h
        | cons d r =>
          show (V.str (S [d]) = V.str (S [34])) ↔ some d = some 34
          constructor
          · intro h
            have := S_inj (V.str.inj h)
            simpa using this
          · intro h
            rw [Option.some.inj h]
      refine itedn (fun h6 => ?_) (fun h6 => ?_)
      · have h6 : (row.drop (k + 1)).head? ≠ some 34 := fun h => h6 (e3.mpr h)
        rw [h2, hd, textP_end h6] at q
        have e4 : ((row.length - (row.drop (k + 1)).length : Nat) : Int) = (k : Int) + 1 := by rw [List.length_drop]; omega
        have q : TupQ (.str "text") (.str (S acc)) (.int ((row.length - (row.drop (k + 1)).length : Nat) : Int)) H Q := q
        rw [e4] at q
        refine ⟨rfl, _, rfl, _, p, acc.map (fun c => S [c]), rfl, rfl, .inl (SqL.of (by rw [List.map_map]; exact h3)), ?_, ?_⟩
        · rw [List.map_map]
          have e6 : ("" : Str).length = 0 := rfl
          rw [e6, Nat.mul_zero, ← List.map_map, sum_ones]
          omega
        rw [join_ones]
        exact ⟨_, rfl, _, _, rfl, rfl, three_ok, fun p2 hp2 => q.go g hp2⟩
      · have h6 := e3.mp h6
        have hlt : k + 1 < row.length := by
          rcases Nat.lt_or_ge (k + 1) row.length with h | h
          · exact h
          · rw [List.drop_eq_nil_of_le h] at h6; cases h6
        have hd2 : row.drop (k + 1) = 34 :: row.drop (k + 2) := by
          rw [List.drop_eq_getElem_cons hlt] at h6 ⊢
          rw [Option.some.inj h6]
        refine ⟨_, rfl, _, _, rfl, rfl, ?_⟩
        refine nx2 _ _ ⟨rfl, k + 1, 34, ?_, Nat.le_succ _, Nat.le_refl _, ?_, rfl⟩
        · have : (row.drop (k + 1))[0]? = some 34 := by rw [hd2]; rfl
          rw [List.getElem?_drop] at this; exact this
        · rw [hd, hd2, textP_dbl]; rfl
    · have h5 : c ≠ 34 := fun h => h5 (e1.mpr h)
      refine nx2 _ _ ⟨rfl, k, c, hc, Nat.le_refl _, Nat.le_succ _, ?_, rfl⟩
      rw [hd]
      cases hp : plain c with
      | true => rw [textP_plain h5 hp]; rfl
      | false => rw [textP_bad h5 hp]; rfl
end
end Wk
set_option maxRecDepth 100000
set_option maxHeartbeats 4000000
namespace Wk
open PySem L2 TL PyProof.Rows
open SX (S S_len)
theorem drop_cons {l : List Nat} {k c : Nat} (h : l[k]? = some c) : l.drop k = c :: l.drop (k + 1) := by
  obtain ⟨hk, e⟩ := List.getElem?_eq_some_iff.mp h
  rw [List.drop_eq_getElem_cons hk, e]
theorem two_in {c : Nat} {r : List Nat} : inV (.str (S (c :: r.take 1))) ([[61, 61], [33, 61], [60, 61], [62, 61]].map fun l => V.str (S l)) = two c r := by
  rw [inV_keys, Bool.eq_iff_iff, decide_eq_true_eq]
  cases r with
  | nil => simp [two]
  | cons d r => simp [two]; omega
theorem tok_cons (c : Nat) (r : List Nat) : tok (c :: r) = if isS c = true then (classify (c :: r.takeWhile isS)).map fun p => (p.1, p.2, r.dropWhile isS)
    else if c = 34 then (textP [] r).map fun p => (.text, .s p.1, p.2)
    else if two c r = true then some (.mark, .s [c, 61], r.tail)
    else if c ∈ marksL then some (.mark, .s [c], r) else none := rfl
section
variable {P : Program} {w : World} {K : PySem.W.Frag} {mg : Str → Option Value} {base : Heap}
/-! ### word_at -/
abbrev s_word_at : Stmt := top 29
theorem sc_word_at : FnScope ["row", "at", "line", "sign"] ["row", "at", "line"] (defScope s_word_at) := ⟨rfl, rfl, rfl, by decide +kernel, rfl, by decide +kernel, by decide +kernel⟩
def sp_word_at (C : Addr) : Sp := fun vs H Q E => ∃ (row : List Nat) (i line : Nat), vs = [.str (S row), .int (i : Int), .int (line : Int)] ∧ row.length ≤ 1000000 ∧ i < row.length ∧
  (match tok (row.drop i) with
    | none => BadE C line H E
    | some (so, wd, r) => TupQ (.str (soS so)) (wdV wd) (.int ((row.length - r.length : Nat) : Int)) H Q)
theorem ok_word_at (T : Txt K mg) (B : ExcT P w K mg base "BadText" ["self", "line"] sp_bad_init) {f : Addr} {fd : FuncData} (F : Fun K "word_at" "word_at" s_word_at f fd)
    (D_is_of_stretch : Def P w K mg base CX0 "is_of_stretch" ["sign"] 1 sp_is_of_stretch) (D_stretch_at : Def P w K mg base (L2.CX P w) "stretch_at" ["row", "at", "line"] 3 (sp_stretch_at B.C))
    (D_text_at : Def P w K mg base (L2.CX P w) "text_at" ["row", "at", "line"] 3 (sp_text_at B.C)) :
    FnOk P w K mg base (L2.CX P w) 4 f fd ["row", "at", "line"] (sp_word_at B.C) := by
  refine F.okX sc_word_at (fun vs H Q E h => ?_) (fun cdv A outer s H vs Q E hr h => ?_)
  · obtain ⟨a, y, z, rfl, _⟩ := h; rfl
  obtain ⟨row, i, line, rfl, hl, hi, q⟩ := h
  refine ⟨_, (pss_cons (ps_set (i := 3) sc_word_at.nd rfl (Or.inl rfl) (pe_ix ix_str (pv 0) (pv 1) (fun _ _ => rfl)))
    (pss_cons (ps_if (pt_val (pe_call D_is_of_stretch.ok (hr.mono (by omega)) rfl D_is_of_stretch.g D_is_of_stretch.k D_is_of_stretch.b .nil pass0 (pa_cons (pv 3) pa_nil))) (pss_one (ps_ret (pe_callS D_stretch_at.ok (hr.mono (by omega)) rfl D_stretch_at.g D_stretch_at.k D_stretch_at.b (fun σ => passAt (takes_of rfl rfl rfl rfl) σ) (pa_cons (pv 0) (pa_cons (pv 1) (pa_cons (pv 2) pa_nil)))))) pss_nil)
    (pss_cons (ps_if (pt_cmpR op_eq (pv 3) pe_str (nomark _)) (pss_one (ps_ret (pe_callS D_text_at.ok (hr.mono (by omega)) rfl D_text_at.g D_text_at.k D_text_at.b (fun σ => passAt (takes_of rfl rfl rfl rfl) σ) (pa_cons (pv 0) (pa_cons (pv 1) (pa_cons (pv 2) pa_nil)))))) pss_nil)
    (pss_cons (ps_if (pt_cmpR op_in_seq (pe_slice sl_str (pv 0) (po_some (pv 1)) (po_some (pe_op op_add (pv 1) pe_int))) (pe_glob (v := .ref T.aDOUBLE) rfl T.mDOUBLE_MARKS rfl) rfl) (pss_one (ps_ret (pe_tup (pa_cons pe_str (pa_cons (pe_slice sl_str (pv 0) (po_some (pv 1)) (po_some (pe_op op_add (pv 1) pe_int))) (pa_cons (pe_op op_add (pv 1) pe_int) pa_nil)))))) pss_nil)
    (pss_cons (ps_if (pt_cmpR op_in_sign (pv 3) (pe_glob (v := .str (S marksL)) rfl T.mMARKS ⟨_, rfl⟩) rfl) (pss_one (ps_ret (pe_tup (pa_cons pe_str (pa_cons (pv 3) (pa_cons (pe_op op_add (pv 1) pe_int) pa_nil)))))) pss_nil)
    (pss_one (ps_raise rfl (takes_of rfl rfl rfl rfl) (pmk_bad B (hr.mono (by decide)) rfl (pv 2))))))))), ?_⟩
  have hz := line_eq
  have hlen := S_len row
  obtain ⟨c, hc⟩ : ∃ c, row[i]? = some c := ⟨_, List.getElem?_eq_getElem hi⟩
  have hd := drop_cons hc
  rw [hd] at q
  -- sign = row[at]; is_of_stretch(sign)
  refine ⟨_, rfl, _, rfl, S row, _, c, rfl, rfl, (by rw [hlen]; omega), atI_nat hc, ?_⟩
  refine ⟨_, rfl, c, rfl, _, rfl, ?_⟩
  refine iteb (fun h1 => ?_) (fun h1 => ?_)
  · rw [tok_cons, if_pos h1] at q
    have tw : (c :: row.drop (i + 1)).takeWhile isS = c :: (row.drop (i + 1)).takeWhile isS := by rw [List.takeWhile_cons, if_pos h1]
    refine ⟨_, rfl, _, rfl, _, rfl, row, i, line, rfl, hl, hi, fun d e => by rw [hc] at e; cases e; exact h1, ?_⟩
    rw [hd, tw]
    cases e : classify (c :: (row.drop (i + 1)).takeWhile isS) with
    | none => rw [e] at q; exact q
    | some p =>
      rw [e] at q
      have q : TupQ (.str (soS p.1)) (wdV p.2) (.int ((row.length - ((row.drop (i + 1)).dropWhile isS).length : Nat) : Int)) H Q := q
      have e2 : i + (c :: (row.drop (i + 1)).takeWhile isS).length = row.length - ((row.drop (i + 1)).dropWhile isS).length := by
        have h2 : ((row.drop (i + 1)).takeWhile isS).length + ((row.drop (i + 1)).dropWhile isS).length = (row.drop (i + 1)).length := by
          rw [← List.length_append, List.takeWhile_append_dropWhile]
        rw [List.length_drop] at h2
        rw [List.length_cons]
        omega
      show TupQ (.str (soS p.1)) (wdV p.2) (.int ((i + (c :: (row.drop (i + 1)).takeWhile isS).length : Nat) : Int)) H Q
      rw [e2]; exact q
  rw [tok_cons, if_neg (by rw [h1]; exact Bool.false_ne_true)] at q
  -- sign == '"'
  refine ⟨_, rfl, rfl, _, rfl, ?_⟩
  have e1 : (V.str ⟨#[c]⟩ = V.str "\"") ↔ c = 34 := by rw [q_lit]; exact str_one
  refine ited (fun h2 => ?_) (fun h2 => ?_)
  · have h2 := e1.mp h2
    rw [if_pos h2] at q
    refine ⟨_, rfl, _, rfl, _, rfl, row, i, line, rfl, hl, hi, ?_⟩
    cases e : textP [] (row.drop (i + 1)) with
    | none => rw [e] at q; exact q
    | some p => rw [e] at q; exact q
  have h2 : ¬ c = 34 := fun h => h2 (e1.mpr h)
  rw [if_neg h2] at q
  -- row[at:at + 2] in DOUBLE_MARKS
  have e3 : cutS (S row) (some (i : Int)) (some ((i : Int) + 2)) = S (c :: (row.drop (i + 1)).take 1) := by
    have := cut_nat (l := row) (i := i) (j := i + 2) (by omega)
    rw [show i + 2 - i = 2 by omega, hd] at this
    exact this
  refine ⟨_, rfl, _, rfl, _, rfl, _, rfl, _, _, rfl, rfl, _, rfl, S row, rfl, (by rw [hlen]; omega), ?_⟩
  rw [e3]
  refine ⟨_, _, rfl, .inr (T.kDOUBLE _), rfl, flat_keys _, _, rfl, ?_⟩
  rw [two_in]
  refine iteb (fun h3 => ?_) (fun h3 => ?_)
  · have h3 : two c (row.drop (i + 1)) = true := h3
    rw [if_pos h3] at q
    have q : TupQ (.str "mark") (.str (S [c, 61])) (.int ((row.length - (row.drop (i + 1)).tail.length : Nat) : Int)) H Q := q
    have hd1 : ∃ r, row.drop (i + 1) = 61 :: r := by
      unfold two at h3
      simp only [Bool.and_eq_true, decide_eq_true_eq] at h3
      cases e : row.drop (i + 1) with
      | nil => rw [e] at h3; simp at h3
      | cons d r => rw [e] at h3; exact ⟨r, by rw [show d = 61 from h3.2]⟩
    obtain ⟨r, hr1⟩ := hd1
    have hl1 : (row.drop (i + 1)).length = r.length + 1 := by rw [hr1]; rfl
    rw [List.length_drop] at hl1
    have e4 : ((row.length - (row.drop (i + 1)).tail.length : Nat) : Int) = (i : Int) + 2 := by rw [hr1]; show ((row.length - r.length : Nat) : Int) = _; omega
    rw [e4] at q
    refine ⟨_, rfl, _, rfl, _, rfl, _, rfl, _, _, rfl, rfl, _, rfl, S row, rfl, (by rw [hlen]; omega), ?_⟩
    rw [e3, hr1]
    exact ⟨_, rfl, _, _, rfl, rfl, three_ok, fun p hp => q.go (Same.refl _) hp⟩
  have h3 : two c (row.drop (i + 1)) = false := h3
  rw [if_neg (by rw [h3]; exact Bool.false_ne_true)] at q
  -- sign in MARKS
  refine ⟨_, rfl, c, _, rfl, rfl, _, rfl, ?_⟩
  refine ited (fun h4 => ?_) (fun h4 => ?_)
  · rw [if_pos h4] at q
    have q : TupQ (.str "mark") (.str (S [c])) (.int ((row.length - (row.drop (i + 1)).length : Nat) : Int)) H Q := q
    have e4 : ((row.length - (row.drop (i + 1)).length : Nat) : Int) = (i : Int) + 1 := by rw [List.length_drop]; omega
    rw [e4] at q
    exact ⟨_, rfl, _, rfl, _, _, rfl, rfl, three_ok, fun p hp => q.go (Same.refl _) hp⟩
  rw [if_neg h4] at q
  exact ⟨_, rfl, bad_ok fun d hd => q.go (Same.refl _) hd⟩
/-! ### words_of_line -/
/-- a word as the triple that is told -/
def tkV (t : Tk) : List V := [.str (soS t.so), wdV t.wd, .int (t.ln : Int)]
def Toks (H : Hp) : List V → List Tk → Prop
  | [], [] => True
  | v :: vs, t :: ts => (∃ p, v = .ref p ∧ H p = some (.tup (tkV t))) ∧ Toks H vs ts
  | _, _ => False
theorem Toks.mono {H H' : Hp} (g : Same H H') : ∀ {vs : List V} {ts : List Tk}, Toks H vs ts → Toks H' vs ts
  | [], [], _ => trivial
  | _ :: _, _ :: _, ⟨⟨p, e, h⟩, r⟩ => ⟨⟨p, e, g _ _ h⟩, Toks.mono g r⟩
  | [], _ :: _, h => h.elim
  | _ :: _, [], h => h.elim
theorem Toks.app {H : Hp} : ∀ {vs ws : List V} {ts us : List Tk}, Toks H vs ts → Toks H ws us → Toks H (vs ++ ws) (ts ++ us)
  | [], _, [], _, _, h => h
  | _ :: _, _, _ :: _, _, ⟨a, r⟩, h => ⟨a, Toks.app r h⟩
  | [], _, _ :: _, _, h, _ => h.elim
  | _ :: _, _, [], _, h, _ => h.elim
theorem Toks.len {H : Hp} : ∀ {vs : List V} {ts : List Tk}, Toks H vs ts → vs.length = ts.length
  | [], [], _ => rfl
  | _ :: _, _ :: _, ⟨_, r⟩ => by rw [List.length_cons, List.length_cons, Toks.len r]
  | [], _ :: _, h => h.elim
  | _ :: _, [], h => h.elim
/-- a list that is new, of the words -/
def LstQ (ts : List Tk) (H : Hp) (Q : VK) : Prop := ∀ H' p vs, H p = none → Same H H' → H' p = some (.lst vs) → Toks H' vs ts → Q (.ref p) H'
abbrev s_words_of_line : Stmt := top 28
theorem sc_words_of_line : FnScope ["row", "line", "found", "at", "sort", "word"] ["row", "line"] (defScope s_words_of_line) := ⟨rfl, rfl, rfl, by decide +kernel, rfl, by decide +kernel, by decide +kernel⟩
def sp_words_of_line (C : Addr) : Sp := fun vs H Q E => ∃ (row : List Nat) (line : Nat), vs = [.str (S row), .int (line : Int)] ∧ row.length ≤ 1000000 ∧ 10 ∉ row ∧
  (match cutF line row with
    | .bad l => BadE C l H E
    | .ok ts => LstQ ts H Q)
theorem tok_drop {l : List Nat} {so : So} {wd : Wd} {r : List Nat} (h : tok l = some (so, wd, r)) : r = l.drop (l.length - r.length) := by
  have suf : ∀ {a b : List Nat}, a <:+ b → a = b.drop (b.length - a.length) := fun {a b} ⟨t, e⟩ => by rw [← e]; simp
  refine suf ?_
  cases l with
  | nil => simp [tok] at h
  | cons c r0 =>
    have hdw : r0.dropWhile isS <:+ c :: r0 := (List.dropWhile_suffix _).trans (List.suffix_cons c r0)
    have htp : ∀ (n : Nat) (l acc : List Nat) {w r' : List Nat}, l.length ≤ n → textP acc l = some (w, r') → r' <:+ l := by
      intro n
      induction n with
      | zero =>
        intro l acc w r' hl h
        cases l with
        | nil => simp [textP] at h
        | cons _ _ => simp at hl
      | succ n ih =>
        intro l acc w r' hl h
        cases l with
        | nil => simp [textP] at h
        | cons a l =>
          cases l with
          | nil =>
            simp only [textP] at h
            split at h
            · cases h; exact List.suffix_cons _ _
            · cases h
          | cons b l =>
            simp only [textP] at h
            split at h
            · split at h
              · exact (ih l _ (by simp at hl; omega) h).trans ((List.suffix_cons b l).trans (List.suffix_cons a _))
              · cases h; exact List.suffix_cons a _
            · split at h
              · exact (ih (b :: l) _ (by simp at hl ⊢; omega) h).trans (List.suffix_cons a _)
              · cases h
    simp only [tok] at h
    split at h
    · cases e : classify (c :: r0.takeWhile isS) with
      | none => rw [e] at h; cases h
      | some p => rw [e] at h; cases h; exact hdw
    · split at h
      · cases e : textP [] r0 with
        | none => rw [e] at h; cases h
        | some p =>
          rw [e] at h; cases h
          exact (htp _ r0 [] (Nat.le_refl _) e).trans (List.suffix_cons c r0)
      · split at h
        · cases h; exact (List.tail_suffix r0).trans (List.suffix_cons c r0)
        · split at h
          · cases h; exact List.suffix_cons c _
          · cases h
theorem tw_notNl {l : List Nat} (h : 10 ∉ l) : l.takeWhile notNl = l ∧ l.dropWhile notNl = [] := by
  have : ∀ c ∈ l, notNl c = true := fun c hc => by
    unfold notNl
    rw [decide_eq_false (fun e => h (by rw [← e]; exact hc))]; rfl
  induction l with
  | nil => exact ⟨rfl, rfl⟩
  | cons a l ih =>
    have i := ih (fun hm => h (List.mem_cons_of_mem _ hm)) (fun c hc => this c (List.mem_cons_of_mem _ hc))
    rw [List.takeWhile_cons, List.dropWhile_cons, if_pos (this a List.mem_cons_self), if_pos (this a List.mem_cons_self), i.1]
    exact ⟨rfl, i.2⟩
theorem sp_lit : (" " : Str) = S [32] := S_of " "
theorem no_lit : ("#" : Str) = S [35] := S_of "#"
theorem ok_words_of_line (T : Txt K mg) (B : ExcT P w K mg base "BadText" ["self", "line"] sp_bad_init) {f : Addr} {fd : FuncData} (F : Fun K "words_of_line" "words_of_line" s_words_of_line f fd)
    (D_is_plain : Def P w K mg base CX0 "is_plain" ["thing"] 1 sp_is_plain) (D_word_at : Def P w K mg base (L2.CX P w) "word_at" ["row", "at", "line"] 4 (sp_word_at B.C)) :
    FnOk P w K mg base (L2.CX P w) 5 f fd ["row", "line"] (sp_words_of_line B.C) := by
  refine F.okX sc_words_of_line (fun vs H Q E h => ?_) (fun cdv A outer s H vs Q E hr h => ?_)
  · obtain ⟨a, y, rfl, _⟩ := h; rfl
  obtain ⟨row, line, rfl, hl, h10, q⟩ := h
  refine ⟨_, (pss_cons (ps_set (i := 2) sc_words_of_line.nd rfl (Or.inl rfl) (pe_lst pa_nil))
    (pss_cons (ps_set (i := 3) sc_words_of_line.nd rfl (Or.inl rfl) pe_int)
    (pss_cons (ps_while (passes_of rfl) (pt_cmpR op_lt (pv 3) (pe_callB call_len_str rfl T.n_len boot_len (pa_cons (pv 0) pa_nil)) (nomark _)) (pss_one (ps_if (pt_cmpR op_eq (pe_ix ix_str (pv 0) (pv 3) (fun _ _ => rfl)) pe_str (nomark _)) (pss_one (ps_aug (i := 3) sc_words_of_line.nd rfl (Or.inl rfl) pe_int ip_add)) (pss_one (ps_if (pt_cmpR op_eq (pe_ix ix_str (pv 0) (pv 3) (fun _ _ => rfl)) pe_str (nomark _)) (pss_cons (ps_if (pt_not (pt_val (pe_call D_is_plain.ok (hr.mono (by omega)) rfl D_is_plain.g D_is_plain.k D_is_plain.b .nil pass0 (pa_cons (pe_slice sl_str (pv 0) (po_some (pv 3)) po_none) pa_nil)))) (pss_one (ps_raise rfl (takes_of rfl rfl rfl rfl) (pmk_bad B (hr.mono (by decide)) rfl (pv 1)))) pss_nil)
          (pss_one (ps_set (i := 3) sc_words_of_line.nd rfl (Or.inl rfl) (pe_callB call_len_str rfl T.n_len boot_len (pa_cons (pv 0) pa_nil))))) (pss_cons (ps_asg (pe_callS D_word_at.ok (hr.mono (by omega)) rfl D_word_at.g D_word_at.k D_word_at.b (fun σ => passAt (takes_of rfl rfl rfl rfl) σ) (pa_cons (pv 0) (pa_cons (pv 3) (pa_cons (pv 1) pa_nil)))) (pg_tup rfl (pgs_cons (pg_name (i := 4) sc_words_of_line.nd rfl (Or.inl rfl)) (pgs_cons (pg_name (i := 5) sc_words_of_line.nd rfl (Or.inl rfl)) (pgs_cons (pg_name (i := 3) sc_words_of_line.nd rfl (Or.inl rfl)) pgs_nil)))))
          (pss_one (ps_expr (pe_bm PySem.F.plainAttrs_list PySem.F.slot_list_append PySem.F.type_list_append mt_append (pv 2) (pa_cons (pe_tup (pa_cons (pv 4) (pa_cons (pv 5) (pa_cons (pv 1) pa_nil)))) pa_nil))))))))))
    (pss_one (ps_ret (pv 2)))))), ?_⟩
  have hz := line_eq
  have hlen := S_len row
  refine ⟨(by show 0 ≤ sizeLine; omega), fun p np => ?_⟩
  refine while_of (fun σ H' => ∃ (ts : List Tk) (vs : List V), Same H H' ∧ cutF line row = .ok ts ∧ H' p = some (.lst vs) ∧ Toks H' vs ts ∧ ∃ a b c d e : Option V, σ = [a, b, some (.ref p), c, d, e])
    (fun m σ H' => Same H H' ∧ ∃ (k : Nat) (ts : List Tk) (vs : List V), m = row.length - k ∧ k ≤ row.length ∧ vs.length ≤ k ∧ cutF line row = Res.app ts (cutF line (row.drop k)) ∧ H' p = some (.lst vs) ∧ Toks H' vs ts ∧
      ∃ a b : Option V, σ = [some (.str (S row)), some (.int (line : Int)), some (.ref p), some (.int (k : Int)), a, b])
    _ ⟨same_new np _, 0, [], [], rfl, Nat.zero_le _, Nat.le_refl _, (Res.app_nil _).symm, upd_same, trivial, none, none, rfl⟩ ?_ ?_
  · rintro σ H' ⟨ts, vs, g, hc, hp, ht, a, b, c, d, e, rfl⟩
    rw [hc] at q
    exact ⟨_, rfl, q H' p vs np g hp ht⟩
  rintro NX nx m σ H' ⟨g, k, ts, vs, rfl, h1, h0, h2, hp, ht, a, b, rfl⟩
  refine ⟨_, rfl, _, rfl, _, rfl, (by rw [hlen]; omega), _, _, rfl, rfl, _, rfl, ?_⟩
  rw [hlen]
  refine ited (fun h4 => ?_) (fun h4 => ?_)
  rotate_left
  · refine nx _ _ ⟨ts, vs, g, ?_, hp, ht, _, _, _, _, _, rfl⟩
    rw [h2, List.drop_eq_nil_of_le (by omega), cutF_nil]
    show Res.ok (ts ++ []) = _
    rw [List.append_nil]
  have hk : k < row.length := by omega
  refine ⟨_, fun _ _ h => h, ?_⟩
  obtain ⟨c, hc⟩ : ∃ c, row[k]? = some c := ⟨_, List.getElem?_eq_getElem hk⟩
  have hd := drop_cons hc
  have n10 : c ≠ 10 := fun e => h10 (by rw [← e]; exact List.mem_of_getElem? hc)
  have atk := atI_nat hc
  -- row[at] == ' '
  refine ⟨_, rfl, _, rfl, S row, _, c, rfl, rfl, (by rw [hlen]; omega), atk, rfl, _, rfl, ?_⟩
  refine ited (fun h5 => ?_) (fun h5 => ?_)
  · have h5 : c = 32 := str_one.mp (by rw [sp_lit] at h5; exact h5)
    subst h5
    refine ⟨_, rfl, _, _, rfl, rfl, ?_⟩
    refine ⟨row.length - (k + 1), by omega, g, k + 1, ts, vs, rfl, by omega, by omega, ?_, hp, ht, a, b, rfl⟩
    rw [h2, hd, cutF_sp]
  have n32 : c ≠ 32 := fun e => h5 (by rw [sp_lit, e])
  -- row[at] == '#'
  refine ⟨_, rfl, _, rfl, S row, _, c, rfl, rfl, (by rw [hlen]; omega), atk, rfl, _, rfl, ?_⟩
  refine ited (fun h6 => ?_) (fun h6 => ?_)
  · have h6 : c = 35 := str_one.mp (by rw [no_lit] at h6; exact h6)
    subst h6
    have n10' : 10 ∉ row.drop (k + 1) := fun hm => h10 (List.mem_of_mem_drop hm)
    have e1 : cutF line (row.drop k) = if (row.drop (k + 1)).all plain = true then .ok [] else .bad line := by
      rw [hd, cutF_note, (tw_notNl n10').1, (tw_notNl n10').2, cutF_nil]
    refine ⟨_, rfl, _, rfl, _, rfl, S row, rfl, (by rw [hlen]; omega), row.drop k, ?_, by rw [List.length_drop]; omega, fun H3 g3 => ⟨_, rfl, ?_⟩⟩
    · rw [cut_from (by omega)]; rfl
    have g4 := g.trans g3
    have e2 : (row.drop k).all plain = (row.drop (k + 1)).all plain := by rw [hd, List.all_cons]; rfl
    rw [e2]
    refine itebn (fun h8 => ?_) (fun h8 => ?_)
    · rw [h2, e1, h8] at q
      exact ⟨_, rfl, bad_ok fun d hd => BadE.go q g4 hd⟩
    rw [e1, if_pos h8] at h2
    refine ⟨_, rfl, _, rfl, (by rw [hlen]; omega), ?_⟩
    refine ⟨0, by omega, g4, row.length, ts, vs, by omega, Nat.le_refl _, by omega, ?_, g3 _ _ hp, ht.mono g3, a, b, by rw [hlen]; rfl⟩
    rw [h2, List.drop_eq_nil_of_le (Nat.le_refl _), cutF_nil]
  have n35 : c ≠ 35 := fun e => h6 (by rw [no_lit, e])
  -- sort, word, at = word_at(row, at, line)
  refine ⟨_, rfl, _, rfl, _, rfl, row, k, line, rfl, hl, hk, ?_⟩
  rw [hd] at h2
  cases e : tok (row.drop k) with
  | none =>
    rw [h2, cutF_none n10 n32 n35 (by rw [← hd]; exact e)] at q
    exact BadE.mono q g
  | some p3 =>
    obtain ⟨so, wd, r⟩ := p3
    have hr := tok_drop e
    have hlt := tok_len e
    rw [List.length_drop] at hlt hr
    rw [List.drop_drop] at hr
    have ek : k + (row.length - k - r.length) = row.length - r.length := by omega
    rw [ek] at hr
    intro H3 p3 g3 hp3
    refine ⟨p3, _, rfl, SqT.of hp3, rfl, ?_⟩
    refine ⟨_, _, rfl, _, _, rfl, _, _, rfl, rfl, ?_⟩
    -- found.append((sort, word, line))
    have hp' := g3 _ _ hp
    refine ⟨_, rfl, .inl ⟨rfl, _, SqL.of hp'⟩, _, rfl, _, rfl, _, rfl, three_ok, fun p4 hp4 => ?_⟩
    have hp'' : (upd H3 p4 (.tup (tkV ⟨so, wd, line⟩))) p = some (.lst vs) := (same_new hp4 _) _ _ hp'
    refine ⟨p, vs, _, rfl, rfl, hp'', by omega, ?_⟩
    have gall : Same H (upd (upd H3 p4 (.tup (tkV ⟨so, wd, line⟩))) p (.lst (vs ++ [.ref p4]))) := same_mut ((g.trans g3).trans (same_new hp4 _)) np _
    refine ⟨r.length, by omega, gall, row.length - r.length, ts ++ [⟨so, wd, line⟩], vs ++ [.ref p4], by omega, by omega, by rw [List.length_append, List.length_singleton]; omega, ?_, upd_same, ?_, _, _, rfl⟩
    · rw [h2, cutF_some n10 n32 n35 (by rw [← hd]; exact e), Res.app_app, ← hr]
    · have hne : ∀ {b : Addr} {xs : List V}, (upd H3 p4 (.tup (tkV ⟨so, wd, line⟩))) b = some (.tup xs) → (upd (upd H3 p4 (.tup (tkV ⟨so, wd, line⟩))) p (.lst (vs ++ [.ref p4]))) b = some (.tup xs) := fun {b xs} z => by
        rw [upd_ne (ne_of z hp'' (by intro z; cases z))]; exact z
      have keep : ∀ {ws : List V} {us : List Tk}, Toks (upd H3 p4 (.tup (tkV ⟨so, wd, line⟩))) ws us → Toks (upd (upd H3 p4 (.tup (tkV ⟨so, wd, line⟩))) p (.lst (vs ++ [.ref p4]))) ws us := by
        intro ws
        induction ws with
        | nil => intro us h; cases us with
          | nil => trivial
          | cons _ _ => exact h.elim
        | cons x ws ih => intro us h; cases us with
          | nil => exact h.elim
          | cons t us => obtain ⟨⟨b, e1, e2⟩, r⟩ := h; exact ⟨⟨b, e1, hne e2⟩, ih r⟩
      refine keep (Toks.app ((ht.mono g3).mono (same_new hp4 _)) ⟨⟨p4, rfl, upd_same⟩, trivial⟩)
end
end Wk
set_option maxRecDepth 100000
set_option maxHeartbeats 4000000
namespace Wk
open PySem L2 TL PyProof.Rows
open SX (S S_len)
/-! ### for line, row in enumerate(list, start=1) -/
def It1 (K : PySem.W.Frag) (a : Addr) : L2.It :=
  ⟨fun i H => ∃ (xs : List V) (x : V), SqL K H a xs ∧ xs[i]? = some x,
   fun i H v H' => ∃ T x, v = .ref T ∧ H T = none ∧ H' = upd H T (.tup [.int (1 + (i : Int)), x]) ∧ ∀ xs, SqL K H a xs → xs[i]? = some x,
   fun i H => ∃ xs : List V, SqL K H a xs ∧ xs.length = i⟩
theorem turn1 {P : Program} {w : World} {K : PySem.W.Frag} {elts : List Expr} {kk : Nat} {tpos : Pos} (a e it : Addr) :
    L2.Turn P w K (.Tuple elts kk tpos) (It1 K a) [e, it] e (fun i h => (∃ old, IsEnum h e it (1 + (i : Int)) old) ∧ h.IsListIter it a i ∧ e ≠ it ∧ e ≠ a ∧ a ≠ it) where
  mem := by simp
  obj := fun i h st b hb => by
    obtain ⟨⟨old, he⟩, ⟨o, ho, hc, hd⟩, _⟩ := st
    rcases (show b = e ∨ b = it by simpa using hb) with z | z
    · rw [z]; exact ⟨_, he, fun v q => nomatch q⟩
    · rw [z]; exact ⟨o, ho, fun v q => by rw [hd] at q; cases q⟩
  keep := fun i h h' st k => by
    obtain ⟨⟨old, he⟩, hi, hr⟩ := st
    exact ⟨⟨old, k e (by simp) _ he⟩, hi.at fun o q => k it (by simp) o q, hr⟩
  item := by
    intro X hP hw hK hc i pins s σ H E I hf st hg
    subst hP hw hK
    obtain ⟨⟨old, he⟩, hit, hne, hea, hai⟩ := st
    obtain ⟨xs, x, hq, hx⟩ := hg
    obtain ⟨its, rv, p, hz⟩ := I.list hq
    obtain ⟨u, hu, ru⟩ := rv.get hx
    have hel : e < s.heap.objs.size := Heap.lt_size he
    have hil : it < s.heap.objs.size := by obtain ⟨_, q, _⟩ := hit; exact Heap.lt_size q
    have hu' : its.toArray[i]? = some u := by simpa using hu
    have hlt : i < its.toArray.size := (Array.getElem?_eq_some_iff.mp hu').1
    refine wpAny_pyNext_enum_itemC (Draws.list (prog := X.prog) (w := X.w) (A := X.A.in1) (I.ok.hd hc) it a hai its.toArray) he ⟨hit, p.isList⟩ hlt hne (by simp [hne, hea]) fun y h' tk hy ho hs hT hsz hk => ?_
    have ey : y = u := by rw [hu'] at hy; exact (Option.some.inj hy).symm
    subst ey
    refine ⟨_, rfl, wpAny_letOwnedTupleGo_enum (s := { s with heap := h', toks := tk + 1 }) ho fun h2 he2 sb => ?_⟩
    have hT2 : h2.get? s.heap.objs.size = some { cls := .type "tuple", data := .seq #[.int (1 + (i : Int)) tk, y] } := (sb.2 _ (Nat.ne_of_gt hel)).trans hT
    have new : ObjOk X.prog X.w (upd H s.heap.objs.size (.tup [.int (1 + (i : Int)), x])) h2 s.heap.objs.size (.tup [.int (1 + (i : Int)), x]) :=
      ⟨by show 2 ≤ sizeLine; decide, [.int (1 + (i : Int)) tk, y], .cons ⟨_, rfl⟩ (.cons ru .nil), ⟨_, hT2, rfl, _, rfl⟩⟩
    have I1 : L2.Inv X pins σ (upd H s.heap.objs.size (.tup [.int (1 + (i : Int)), x])) { s with heap := h2, toks := tk + 1 } :=
      I.turnedNew (ch := [e, it]) (fun b ob hb q => (sb.2 b (fun z => hb (by simp [z]))).trans (hk b ob (fun z => hb (by simp [z])) (fun z => hb (by simp [z])) q)) hf (Nat.le_refl _) new
    refine ⟨.ref s.heap.objs.size, _, I1, rfl, ⟨_, x, rfl, I.hok.fresh (Nat.le_refl _), rfl, fun ys hy => by rw [I.list_inj hy hq]; exact hx⟩, ⟨⟨y, ?_⟩, hs.1.at fun o q => (sb.2 it (Ne.symm hne)).trans q, hne, hea, hai⟩, fun b hb => ?_⟩
    · rw [show (1 : Int) + ((i + 1 : Nat) : Int) = 1 + (i : Int) + 1 by omega]; exact he2
    · have hb' : b < s.heap.objs.size := by
        rcases (show b = e ∨ b = it by simpa using hb) with z | z
        · rw [z]; exact hel
        · rw [z]; exact hil
      rw [upd_ne (Nat.ne_of_lt hb')]
      exact (hf b hb).1
  done := by
    intro X hP hw hK hc i pins s σ H E I hf st hg
    subst hP hw hK
    obtain ⟨⟨old, he⟩, hit, hne, hea, hai⟩ := st
    obtain ⟨xs, hq, hx⟩ := hg
    obtain ⟨its, rv, p, hz⟩ := I.list hq
    obtain ⟨f0, f1, f2, f3, f4, f5⟩ := hf it (by simp)
    have hl := rv.length
    have hsz : its.toArray.size = i := by simp; omega
    refine wpAny_pyNext_enum_endD (Draws.list (prog := X.prog) (w := X.w) (A := X.A.in1) (I.ok.hd hc) it a hai its.toArray) he (by rw [hsz]; exact ⟨hit, p.isList⟩) fun h' eb => ⟨rfl, I.turned (t' := s.toks) (fun b o hb q => eb b o hb q) f0 f1 f3 f4 f5⟩
  self := fun A i s Q E st h => by
    obtain ⟨⟨_, he⟩, _⟩ := st
    exact wpAny_pyIter_enum he h
def iEnum1 (K : PySem.W.Frag) (ta : TA) : TI := fun σ H R => ta σ H fun vs H1 => ∃ a xs, vs = [.ref a] ∧ SqL K H1 a xs ∧ R (It1 K a) H1
theorem pi_enum1 {X : Cx} {e : Expr} {ta : TA} {p pos tpos cp kp : Pos} {j : Nat} {elts : List Expr} {kk : Nat} (hg : Gl X "enumerate") (hm : X.mg "enumerate" = none) (ha : PA X [e] ta)
    (hs : starEach [e] X.env = (false, eval e X.env) :: starEach [] X.env := by rfl) (hall : (backToKw pos (keywordEach [⟨some "start", .Constant (.int 1) j cp, kp⟩] X.env)).all (·.1.isSome) = true := by rfl)
    (hks : (backToKw pos (keywordEach [⟨some "start", .Constant (.int 1) j cp, kp⟩] X.env)).filterMap (·.1) = [Str.ofString "start"] := by rfl)
    (hpl : ((backTo pos (starEach [e] X.env)).any (·.1) || (backToKw pos (keywordEach [⟨some "start", .Constant (.int 1) j cp, kp⟩] X.env)).any (·.1.isNone)) = false := by rfl) :
    PI X (.Tuple elts kk tpos) (.Call (.Name "enumerate" p) [e] [⟨some "start", .Constant (.int 1) j cp, kp⟩] pos) (iEnum1 X.K ta) := by
  refine ⟨fun pins s σ H R I h => ?_⟩
  have hk : PK X [⟨some "start", .Constant (.int 1) j cp, kp⟩] (tCons (tC (.int 1)) tNil) := pk_cons pe_int pk_nil
  refine wpAny_Call_Name_kw (ld_blt I hg hm boot_enumerate ?_)
  refine PySem.W.callWith_of (P := fun _ => True) hpl (fun h _ => ⟨_, .inr (.inl rfl), .now⟩) (evalArgs_kw2 hall (thn (ha.run pos pins s σ H _ I h) fun us s1 ⟨vs, H1, I1, r1, a, xs, ev, hq, q⟩ => ?_) hs)
  refine thn (hk.run pos pins s1 σ H1 (fun ws H2 => ws = [.int 1] ∧ H2 = H1) I1 ⟨rfl, rfl⟩) fun ws s2 ⟨zs, H2, I2, rz, ez, eH⟩ => ⟨trivial, ?_⟩
  subst ev; subst ez; subst eH
  rw [hks]
  cases r1 with
  | cons r rr =>
    cases rr
    cases r
    cases rz with
    | cons rk rr2 =>
      cases rr2
      obtain ⟨t, rfl⟩ := rk
      obtain ⟨its, rv, p', hz⟩ := I2.list hq
      have hlt : a < s2.heap.objs.size := by
        obtain ⟨o, ho, _⟩ := p'.isList
        exact Heap.lt_size ho
      refine enum_begins_start (begins_list a its.toArray) p'.isList (by decide) (by decide) fun h' he hit hsz hkk => wpAny_pyIter_enum he ?_
      have I3 : L2.Inv X pins σ H2 { s2 with heap := h' } := I2.kept (t' := s2.toks) hkk
      refine ⟨s2.heap.objs.size + 1, [s2.heap.objs.size + 1, s2.heap.objs.size], _, _, H2, rfl, I3, turn1 a (s2.heap.objs.size + 1) s2.heap.objs.size, ⟨⟨.none, he⟩, ⟨_, hit, rfl, rfl⟩, Nat.succ_ne_self _, Nat.ne_of_gt (Nat.lt_succ_of_lt hlt), Nat.ne_of_lt hlt⟩, fun b hb => ?_, q⟩
      have hle : s2.heap.objs.size ≤ b := by
        rcases (show b = s2.heap.objs.size + 1 ∨ b = s2.heap.objs.size by simpa using hb) with z | z
        · rw [z]; exact Nat.le_add_right _ _
        · rw [z]; exact Nat.le_refl _
      exact I2.fpOk hle (I2.hok.fresh hle)
end Wk
set_option maxRecDepth 100000
set_option maxHeartbeats 4000000
namespace Wk
open PySem L2 TL PyProof.Rows
open SX (S S_len)
/-! ### a text by its lines -/
theorem tw_nl {p : Nat → Bool} (h : p 10 = false) (r : List Nat) : ∀ l : List Nat, (l ++ 10 :: r).takeWhile p = l.takeWhile p ∧ (l ++ 10 :: r).dropWhile p = l.dropWhile p ++ 10 :: r
  | [] => by
    rw [List.nil_append, List.takeWhile_cons, List.dropWhile_cons, if_neg (by rw [h]; exact Bool.false_ne_true), if_neg (by rw [h]; exact Bool.false_ne_true)]
    exact ⟨rfl, rfl⟩
  | a :: l => by
    have ih := tw_nl h r l
    rw [List.cons_append, List.takeWhile_cons, List.dropWhile_cons, List.takeWhile_cons, List.dropWhile_cons]
    cases e : p a with
    | true => simp only [if_pos]; exact ⟨by rw [ih.1], ih.2⟩
    | false => exact ⟨rfl, rfl⟩
theorem textP_nl (r : List Nat) : ∀ (n : Nat) (l acc : List Nat), l.length ≤ n → 10 ∉ l → textP acc (l ++ 10 :: r) = (textP acc l).map fun q => (q.1, q.2 ++ 10 :: r)
  | 0, l, acc, hl, _ => by
    cases l with
    | nil => exact textP_bad (by decide) (by decide)
    | cons _ _ => simp at hl
  | n + 1, l, acc, hl, h => by
    cases l with
    | nil => exact textP_bad (by decide) (by decide)
    | cons c l =>
      have hn : 10 ∉ l := fun hm => h (List.mem_cons_of_mem _ hm)
      have hl' : l.length ≤ n := by simp at hl; exact hl
      by_cases hc : c = 34
      · subst hc
        cases l with
        | nil =>
          rw [List.cons_append, textP_end (by simp), textP_end (by simp)]; rfl
        | cons d l =>
          by_cases hd : d = 34
          · subst hd
            rw [List.cons_append, List.cons_append, textP_dbl, textP_dbl]
            exact textP_nl r n l _ (by simp at hl'; omega) (fun hm => hn (List.mem_cons_of_mem _ hm))
          · rw [List.cons_append, textP_end (by simpa using hd), textP_end (by simpa using hd)]; rfl
      · rw [List.cons_append]
        cases hp : plain c with
        | true => rw [textP_plain hc hp, textP_plain hc hp]; exact textP_nl r n l _ hl' hn
        | false => rw [textP_bad hc hp, textP_bad hc hp]; rfl
theorem two_nl (c : Nat) (l r : List Nat) : two c (l ++ 10 :: r) = two c l := by
  cases l with
  | nil => simp [two]
  | cons d l => rfl
theorem tok_nl {c : Nat} {l : List Nat} (r : List Nat) (h : 10 ∉ l) : tok (c :: (l ++ 10 :: r)) = (tok (c :: l)).map fun q => (q.1, q.2.1, q.2.2 ++ 10 :: r) := by
  rw [tok_cons, tok_cons, (tw_nl (by decide) r l).1, (tw_nl (by decide) r l).2, textP_nl r l.length l [] (Nat.le_refl _) h, two_nl]
  by_cases h1 : isS c = true
  · rw [if_pos h1, if_pos h1]
    cases classify (c :: l.takeWhile isS) <;> rfl
  rw [if_neg h1, if_neg h1]
  by_cases h2 : c = 34
  · rw [if_pos h2, if_pos h2]
    cases textP [] l <;> rfl
  rw [if_neg h2, if_neg h2]
  by_cases h3 : two c l = true
  · rw [if_pos h3, if_pos h3]
    cases l with
    | nil => simp [two] at h3
    | cons d l => rfl
  rw [if_neg h3, if_neg h3]
  by_cases h4 : c ∈ marksL
  · rw [if_pos h4, if_pos h4]; rfl
  · rw [if_neg h4, if_neg h4]; rfl
/-- one more line behind -/
def Res.then (a b : Res) : Res := match a with
  | .bad l => .bad l
  | .ok us => Res.app us b
theorem Res.app_then (us : List Tk) (a b : Res) : Res.then (Res.app us a) b = Res.app us (Res.then a b) := by
  cases a with
  | bad l => rfl
  | ok ts => exact (Res.app_app us ts b).symm
theorem cutF_line (r : List Nat) : ∀ (k : Nat) (l : List Nat), l.length ≤ k → 10 ∉ l → ∀ n, cutF n (l ++ 10 :: r) = Res.then (cutF n l) (cutF (n + 1) r)
  | k, [], _, _, n => by
    rw [List.nil_append, cutF_nl, cutF_nil]
    exact (Res.app_nil _).symm
  | 0, _ :: _, hl, _, _ => by simp at hl
  | k + 1, c :: l, hl, h, n => by
    have hn : 10 ∉ l := fun hm => h (List.mem_cons_of_mem _ hm)
    have hl' : l.length ≤ k := by simp at hl; exact hl
    have n10 : c ≠ 10 := fun e => h (by rw [e]; exact List.mem_cons_self)
    rw [List.cons_append]
    by_cases h1 : c = 32
    · subst h1
      rw [cutF_sp, cutF_sp]
      exact cutF_line r k l hl' hn n
    by_cases h2 : c = 35
    · subst h2
      rw [cutF_note, cutF_note, (tw_nl (p := notNl) (by decide) r l).1, (tw_nl (p := notNl) (by decide) r l).2, (tw_notNl hn).1, (tw_notNl hn).2, List.nil_append, cutF_nl, cutF_nil]
      by_cases h3 : l.all plain = true
      · rw [if_pos h3, if_pos h3]; exact (Res.app_nil _).symm
      · rw [if_neg h3, if_neg h3]; rfl
    · have e := tok_nl (c := c) r hn
      cases e1 : tok (c :: l) with
      | none =>
        rw [e1] at e
        rw [cutF_none n10 h1 h2 e, cutF_none n10 h1 h2 e1]; rfl
      | some q =>
        obtain ⟨so, wd, q⟩ := q
        rw [e1] at e
        have hq := tok_drop e1
        have hlt := tok_len e1
        have hq10 : 10 ∉ q := fun hm => h (List.mem_of_mem_drop (hq ▸ hm))
        rw [cutF_some n10 h1 h2 e, cutF_some n10 h1 h2 e1, Res.app_then, cutF_line r k q (by simp at hlt; omega) hq10 n]
/-- lines, one behind the other -/
def rowsF : Nat → List (List Nat) → Res
  | _, [] => .ok []
  | n, row :: rs => Res.then (cutF n row) (rowsF (n + 1) rs)
theorem app_ok_nil (a : Res) : Res.then a (.ok []) = a := by
  cases a with
  | bad l => rfl
  | ok ts => show Res.ok (ts ++ []) = _; rw [List.append_nil]
theorem split_at : ∀ (t : List Nat), 10 ∉ t ∨ ∃ p r, t = p ++ 10 :: r ∧ 10 ∉ p
  | [] => .inl (by simp)
  | c :: t => by
    by_cases hc : c = 10
    · exact .inr ⟨[], t, by rw [hc]; rfl, by simp⟩
    · rcases split_at t with h | ⟨p, r, e, h⟩
      · exact .inl (by simp; exact ⟨fun e => hc e.symm, h⟩)
      · exact .inr ⟨c :: p, r, by rw [e]; rfl, by simp; exact ⟨fun e => hc e.symm, h⟩⟩
theorem cut_rows : ∀ (k : Nat) (t : List Nat), t.length ≤ k → ∀ n, cutF n t = rowsF n (spl [10] 0 [] t) := by
  intro k
  induction k with
  | zero =>
    intro t hl n
    cases t with
    | nil => rw [spl_nil, cutF_nil]; show _ = Res.then (cutF n []) _; rw [cutF_nil]; rfl
    | cons _ _ => simp at hl
  | succ k ih =>
    intro t hl n
    rcases split_at t with h | ⟨p, r, rfl, h⟩
    · rw [spl_last1 h, List.nil_append]
      exact (app_ok_nil _).symm
    · have e : spl [10] 0 [] (p ++ 10 :: r) = p :: spl [10] 0 [] r := spl_part1 (acc := []) h
      rw [e, cutF_line r _ p (Nat.le_refl _) h n]
      show Res.then (cutF n p) (cutF (n + 1) r) = Res.then (cutF n p) (rowsF (n + 1) _)
      rw [ih r (by simp at hl; omega) (n + 1)]
theorem rows_no : ∀ (k : Nat) (t : List Nat), t.length ≤ k → (∀ row ∈ spl [10] 0 [] t, 10 ∉ row) ∧ ((spl [10] 0 [] t).map List.length).sum ≤ t.length ∧ (spl [10] 0 [] t).length ≤ t.length + 1 := by
  intro k
  induction k with
  | zero =>
    intro t hl
    cases t with
    | nil => rw [spl_nil]; simp
    | cons _ _ => simp at hl
  | succ k ih =>
    intro t hl
    rcases split_at t with h | ⟨p, r, rfl, h⟩
    · rw [spl_last1 h, List.nil_append]
      refine ⟨fun row hr => by rw [List.mem_singleton.mp hr]; exact h, by simp, by simp⟩
    · have e : spl [10] 0 [] (p ++ 10 :: r) = p :: spl [10] 0 [] r := spl_part1 (acc := []) h
      have i := ih r (by simp at hl; omega)
      rw [e]
      refine ⟨fun row hr => ?_, ?_, ?_⟩
      · rcases List.mem_cons.mp hr with rfl | hr
        · exact h
        · exact i.1 row hr
      · rw [List.map_cons, List.sum_cons, List.length_append, List.length_cons]; have := i.2.1; omega
      · rw [List.length_cons, List.length_append, List.length_cons]; have := i.2.2; omega
theorem cutF_len : ∀ (k : Nat) (l : List Nat), l.length ≤ k → ∀ n ts, cutF n l = .ok ts → ts.length ≤ l.length
  | k, [], _, n, ts, e => by rw [cutF_nil] at e; cases e; simp
  | 0, _ :: _, hl, _, _, _ => by simp at hl
  | k + 1, c :: l, hl, n, ts, e => by
    have hl' : l.length ≤ k := by simp at hl; exact hl
    by_cases h0 : c = 10
    · subst h0; rw [cutF_nl] at e; have := cutF_len k l hl' _ _ e; simp; omega
    by_cases h1 : c = 32
    · subst h1; rw [cutF_sp] at e; have := cutF_len k l hl' _ _ e; simp; omega
    by_cases h2 : c = 35
    · subst h2
      rw [cutF_note] at e
      split at e
      · have hd := drop_len notNl l
        have := cutF_len k _ (by omega) _ _ e; simp; omega
      · cases e
    cases e1 : tok (c :: l) with
    | none => rw [cutF_none h0 h1 h2 e1] at e; cases e
    | some q =>
      obtain ⟨so, wd, q⟩ := q
      have hlt := tok_len e1
      rw [cutF_some h0 h1 h2 e1] at e
      cases e2 : cutF n q with
      | bad l => rw [e2] at e; cases e
      | ok us =>
        rw [e2] at e
        have e : Res.ok ([⟨so, wd, n⟩] ++ us) = .ok ts := e
        cases e
        have := cutF_len k q (by simp at hlt; omega) n us e2
        simp at hlt ⊢; omega
theorem mem_sum : ∀ {l : List Nat} {x : Nat}, x ∈ l → x ≤ l.sum
  | a :: l, x, h => by
    rw [List.sum_cons]
    rcases List.mem_cons.mp h with rfl | h
    · omega
    · have := mem_sum h; omega
theorem split_S (t : List Nat) : Txt.split (S t) ("\n" : Str) = (spl [10] 0 [] t).map S := by
  refine map_tl_inj ?_
  rw [split_spl (S t) ("\n" : Str) (by decide) (kind_ok (by decide +kernel)), List.map_map]
  have : (spl (tl ("\n" : Str)) 0 [] (tl (S t))) = spl [10] 0 [] t := rfl
  rw [this]
  have e2 : (tl ∘ S) = id := funext fun l => rfl
  rw [e2, List.map_id]
section
variable {P : Program} {w : World} {K : PySem.W.Frag} {mg : Str → Option Value} {base : Heap}
/-! ### words -/
abbrev s_words : Stmt := top 27
theorem sc_words : FnScope ["text", "found", "line", "row"] ["text"] (defScope s_words) := ⟨rfl, rfl, rfl, by decide +kernel, rfl, by decide +kernel, by decide +kernel⟩
def sp_words (K : PySem.W.Frag) (C N : Addr) : Sp := fun vs H Q E =>
  (∃ t : List Nat, vs = [.str (S t)] ∧ t.length ≤ 1000000 ∧ (match cutF 1 t with
    | .bad l => BadE C l H E
    | .ok ts => LstQ ts H Q)) ∨
  ∃ v ty, vs = [v] ∧ TyX K H v ty ∧ PySem.W.kitOne K ty (.type "str") = some false ∧ E (.ref N) none H
theorem ok_words (T : Txt K mg) (B : ExcT P w K mg base "BadText" ["self", "line"] sp_bad_init) (BNoText : ExcT P w K mg base "NoText" ["self"] (fun _ _ => sp_no_init)) {f : Addr} {fd : FuncData} (F : Fun K "words" "words" s_words f fd)
    (D_words_of_line : Def P w K mg base (L2.CX P w) "words_of_line" ["row", "line"] 5 (sp_words_of_line B.C)) :
    FnOk P w K mg base (L2.CX P w) 6 f fd ["text"] (sp_words K B.C BNoText.C) := by
  refine F.okX sc_words (fun vs H Q E h => ?_) (fun cdv A outer s H vs Q E hr h => ?_)
  · rcases h with ⟨a, rfl, _⟩ | ⟨v, ty, rfl, _⟩ <;> rfl
  refine ⟨_, (pss_cons (ps_if (pt_not (pt_val (pe_callB call_isi rfl T.n_isinstance boot_isinstance (pa_cons (pv 0) (pa_cons (pe_bltn (v := .ty "str") rfl T.n_str boot_str rfl) pa_nil))))) (pss_one (ps_raise rfl (takes_of rfl rfl rfl rfl) (pmk_none BNoText (hr.mono (by decide)) rfl))) pss_nil)
    (pss_cons (ps_set (i := 1) sc_words.nd rfl (Or.inl rfl) (pe_lst pa_nil))
    (pss_cons (ps_for (passes_of rfl) rfl (pi_enum1 rfl T.n_enumerate (pa_cons (pe_split (pv 0) pe_str) pa_nil)) (pg_tup rfl (pgs_cons (pg_name (i := 2) sc_words.nd rfl (Or.inl rfl)) (pgs_cons (pg_name (i := 3) sc_words.nd rfl (Or.inl rfl)) pgs_nil))) (pss_one (ps_expr (pe_bm PySem.F.plainAttrs_list PySem.F.slot_list_extend PySem.F.type_list_extend mt_extend (pv 1) (pa_cons (pe_callS D_words_of_line.ok (hr.mono (by omega)) rfl D_words_of_line.g D_words_of_line.k D_words_of_line.b (fun σ => passAt (takes_of rfl rfl rfl rfl) σ) (pa_cons (pv 3) (pa_cons (pv 2) pa_nil))) pa_nil)))))
    (pss_one (ps_ret (pv 1)))))), ?_⟩
  have hz := line_eq
  rcases h with ⟨t, rfl, hl, q⟩ | ⟨v, ty, rfl, ht, hk, q⟩
  rotate_left
  · refine ⟨_, rfl, _, _, _, _, false, rfl, .ty "str", ht, hk, false, rfl, ?_⟩
    exact iteT q
  have hlen := S_len t
  refine ⟨_, rfl, _, _, _, _, true, rfl, .ty "str", .base (.str _), kit_ty (by decide +kernel), true, rfl, ?_⟩
  refine iteF ?_
  refine ⟨(by show 0 ≤ sizeLine; omega), fun p np => ?_⟩
  -- the lines
  refine ⟨_, rfl, ⟨_, rfl⟩, S t, _, rfl, rfl, by decide, (by rw [hlen]; omega), fun a na => ?_⟩
  rw [split_S, List.map_map]
  have hp0 : (upd H p (.lst [])) p = some (.lst []) := upd_same
  have npa : p ≠ a := ne_of_none hp0 na
  rw [cut_rows _ t (Nat.le_refl _)] at q
  obtain ⟨hr1, hr2, hr3⟩ := rows_no _ t (Nat.le_refl _)
  generalize spl [10] 0 [] t = rows at q hr1 hr2 hr3 ⊢
  refine ⟨a, rows.map (V.str ∘ S), rfl, SqL.of upd_same, ?_⟩
  refine ⟨fun i m σ H' => i + m = rows.length ∧ Same H H' ∧ H' a = some (.lst (rows.map (V.str ∘ S))) ∧ ∃ (ts : List Tk) (vs : List V), rowsF 1 rows = Res.app ts (rowsF (1 + i) (rows.drop i)) ∧ vs.length ≤ ((rows.take i).map List.length).sum ∧
      H' p = some (.lst vs) ∧ Toks H' vs ts ∧ ∃ x y : Option V, σ = [some (.str (S t)), some (.ref p), x, y],
    ⟨rows.length, by omega, (same_new np _).trans (same_new na _), upd_same, [], [], (Res.app_nil _).symm, by simp, by rw [upd_ne npa]; exact hp0, trivial, none, none, rfl⟩, ?_⟩
  rintro i m σ H' ⟨him, g, ha, ts, vs, e1, hv, hp, hts, x, y, rfl⟩
  have hal : (rows.map (V.str ∘ S)).length = rows.length := List.length_map _
  rcases Nat.lt_or_ge i rows.length with hi | hi
  · right
    obtain ⟨row, hrow⟩ : ∃ row, rows[i]? = some row := ⟨_, List.getElem?_eq_getElem hi⟩
    have hrv : (rows.map (V.str ∘ S))[i]? = some (.str (S row)) := by rw [List.getElem?_map, hrow]; rfl
    have hmem : row ∈ rows := List.mem_of_getElem? hrow
    have hdr : rows.drop i = row :: rows.drop (i + 1) := by
      obtain ⟨hk, e⟩ := List.getElem?_eq_some_iff.mp hrow
      rw [List.drop_eq_getElem_cons hk, e]
    have hrl : row.length ≤ 1000000 := by
      have : row.length ≤ (rows.map List.length).sum := mem_sum (List.mem_map.mpr ⟨row, hmem, rfl⟩)
      omega
    have htk : ((rows.take (i + 1)).map List.length).sum = ((rows.take i).map List.length).sum + row.length := by
      rw [take_next hrow, List.map_append, List.sum_append]; simp
    have hle : ((rows.take (i + 1)).map List.length).sum ≤ t.length := by
      have h1 : ((rows.take (i + 1)).map List.length).sum + ((rows.drop (i + 1)).map List.length).sum = (rows.map List.length).sum := by
        rw [← List.sum_append, ← List.map_append, List.take_append_drop]
      omega
    refine ⟨⟨_, _, SqL.of ha, hrv⟩, fun σ2 H2 => i + 1 + (m - 1) = rows.length ∧ Same H H2 ∧ H2 a = some (.lst (rows.map (V.str ∘ S))) ∧ ∃ (ts : List Tk) (vs : List V), rowsF 1 rows = Res.app ts (rowsF (1 + (i + 1)) (rows.drop (i + 1))) ∧ vs.length ≤ ((rows.take (i + 1)).map List.length).sum ∧
        H2 p = some (.lst vs) ∧ Toks H2 vs ts ∧ ∃ x y : Option V, σ2 = [some (.str (S t)), some (.ref p), x, y], fun σ2 H2 h2 => ⟨m - 1, by omega, h2⟩, fun z H1 yl => ?_⟩
    obtain ⟨Tp, x0, rfl, nT, rfl, hx⟩ := yl
    have ex : x0 = .str (S row) := by
      have := hx _ (SqL.of ha)
      rw [hrv] at this; exact (Option.some.inj this).symm
    subst ex
    refine ⟨Tp, _, rfl, SqT.of upd_same, rfl, ?_⟩
    refine ⟨_, _, rfl, _, _, rfl, rfl, ?_⟩
    have gT := same_new nT (.tup [.int (1 + (i : Int)), .str (S row)])
    have hp1 := gT _ _ hp
    have ei : (V.int (1 + (i : Int))) = V.int ((1 + i : Nat) : Int) := congrArg V.int (by omega)
    rw [ei] at gT hp1 ⊢
    refine ⟨_, rfl, .inl ⟨rfl, _, SqL.of hp1⟩, _, rfl, _, rfl, row, 1 + i, rfl, hrl, hr1 row hmem, ?_⟩
    have e2 : rowsF 1 rows = Res.app ts (Res.then (cutF (1 + i) row) (rowsF (1 + i + 1) (rows.drop (i + 1)))) := by rw [e1, hdr]; rfl
    cases ec : cutF (1 + i) row with
    | bad l =>
      rw [e2, ec] at q
      exact BadE.mono q (g.trans gT)
    | ok us =>
      rw [ec] at e2
      intro H3 p3 vs3 np3 g3 hp3 ht3
      have hne : p ≠ p3 := ne_of_none hp1 np3
      have hl3 : vs3.length ≤ row.length := by rw [ht3.len]; exact cutF_len _ row (Nat.le_refl _) _ _ ec
      refine ⟨p, p3, vs, vs3, rfl, rfl, g3 _ _ hp1, hp3, by omega, ?_⟩
      have gall : Same H (upd H3 p (.lst (vs ++ vs3))) := same_mut ((g.trans gT).trans g3) np _
      have keep : ∀ {ws : List V} {zs : List Tk}, Toks H3 ws zs → Toks (upd H3 p (.lst (vs ++ vs3))) ws zs := by
        intro ws
        induction ws with
        | nil => intro zs h; cases zs with
          | nil => trivial
          | cons _ _ => exact h.elim
        | cons x ws ih => intro zs h; cases zs with
          | nil => exact h.elim
          | cons z zs =>
            obtain ⟨⟨b, e3, e4⟩, r⟩ := h
            exact ⟨⟨b, e3, by rw [upd_ne (ne_of e4 (g3 _ _ hp1) (by intro z; cases z))]; exact e4⟩, ih r⟩
      refine ⟨by omega, gall, by rw [upd_ne npa.symm]; exact g3 _ _ (gT _ _ ha), ts ++ us, vs ++ vs3, ?_, by rw [List.length_append]; omega, upd_same, keep (Toks.app ((hts.mono gT).mono g3) ht3), _, _, rfl⟩
      rw [e2, show 1 + (i + 1) = 1 + i + 1 by omega, ← Res.app_app]; rfl
  · left
    have hi' : i = rows.length := by omega
    refine ⟨⟨_, SqL.of ha, by rw [hal, hi']⟩, ?_⟩
    rw [List.drop_eq_nil_of_le hi] at e1
    have e1 : rowsF 1 rows = .ok (ts ++ []) := e1
    rw [List.append_nil] at e1
    rw [e1] at q
    exact ⟨_, rfl, q H' p vs np g hp hts⟩
end
end Wk
set_option maxRecDepth 100000
set_option maxHeartbeats 8000000
namespace Wk
open PySem L2 TL PyProof.Rows
open SX (S S_len)
/-! ### the flow of drawn numbers -/
def Flow (H : Hp) (a : Addr) : Prop := ∃ (s : Addr) (ns : List Int) (i : Nat) (c z : Int), H a = some (.lst [.ref s, .int (i : Int), .int c, .int z]) ∧ H s = some (.lst (ns.map V.int)) ∧ s ≠ a
/-- all that was tracked is as it was, but at a, whose list keeps its first item -/
structure But (a : Addr) (H H' : Hp) : Prop where
  o : ∀ b o, b ≠ a → H b = some o → H' b = some o
  h : ∀ s r, H a = some (.lst (s :: r)) → ∃ r', H' a = some (.lst (s :: r'))
theorem But.refl (a : Addr) (H : Hp) : But a H H := ⟨fun _ _ _ h => h, fun _ r h => ⟨r, h⟩⟩
theorem But.trans {a : Addr} {H H1 H2 : Hp} (x : But a H H1) (y : But a H1 H2) : But a H H2 := ⟨fun b o n h => y.o b o n (x.o b o n h), fun s r h => by obtain ⟨r', h'⟩ := x.h s r h; exact y.h s r' h'⟩
theorem But.same {a : Addr} {H H1 : Hp} (g : Same H H1) : But a H H1 := ⟨fun b o _ h => g b o h, fun _ r h => ⟨r, g _ _ h⟩⟩
theorem But.upd {a : Addr} {H : Hp} {s : V} {r r' : List V} (h : H a = some (.lst (s :: r))) : But a H (upd H a (.lst (s :: r'))) := ⟨fun b u n h => by rw [upd_ne n]; exact h, fun s2 r2 h2 => by rw [h] at h2; cases h2; exact ⟨r', upd_same⟩⟩
theorem Flow.mono {H H' : Hp} {a : Addr} (f : Flow H a) (g : Same H H') : Flow H' a := by
  obtain ⟨s, ns, i, c, z, h1, h2, h3⟩ := f
  exact ⟨s, ns, i, c, z, g _ _ h1, g _ _ h2, h3⟩
section
variable {P : Program} {w : World} {K : PySem.W.Frag} {mg : Str → Option Value} {base : Heap}
abbrev s__law_flow : Stmt := top 69
theorem sc__law_flow : FnScope ["script"] ["script"] (defScope s__law_flow) := ⟨rfl, rfl, rfl, by decide +kernel, rfl, by decide +kernel, by decide +kernel⟩
def sp_flow (K : PySem.W.Frag) : Sp := fun vs H Q _ => ∃ (a : Addr) (ns : List Int), vs = [.ref a] ∧ SqL K H a (ns.map V.int) ∧ ns.length ≤ 1000 ∧ ∀ H' p, H p = none → Same H H' → Flow H' p → Q (.ref p) H'
theorem ok_flow (T : Txt K mg) {f : Addr} {fd : FuncData} (F : Fun K "_law_flow" "_law_flow" s__law_flow f fd) : FnOk P w K mg base CX0 1 f fd ["script"] (sp_flow K) := by
  refine F.ok sc__law_flow (fun vs H Q E h => ?_) (fun cdv A outer s H vs Q E hr h => ?_)
  · obtain ⟨a, _, rfl, _⟩ := h; rfl
  obtain ⟨a, ns, rfl, hS, hl, q⟩ := h
  refine ⟨_, (pss_one (ps_ret (pe_lst (pa_cons (pe_callTy call_list_of rfl T.n_list boot_list (pa_cons (pv 0) pa_nil)) (pa_cons pe_int (pa_cons pe_int (pa_cons pe_int pa_nil))))))), ?_⟩
  have hz := line_eq
  refine ⟨_, rfl, a, _, rfl, .inl hS, fun l nl => ?_⟩
  refine ⟨by show 4 ≤ sizeLine; omega, fun p np => ?_⟩
  have hlp : l ≠ p := ne_of_none upd_same np
  have npH : H p = none := by
    have h : (upd H l (.lst (ns.map V.int))) p = none := np
    rw [upd_ne hlp.symm] at h; exact h
  exact q _ p npH ((same_new nl _).trans (same_new np _)) ⟨l, ns, 0, 0, 17, upd_same, by rw [upd_ne hlp, upd_same], hlp⟩
/-! ### _law_more -/
abbrev s__law_more : Stmt := top 70
theorem sc__law_more : FnScope ["flow", "cell", "one", "two", "three"] ["flow"] (defScope s__law_more) := ⟨rfl, rfl, rfl, by decide +kernel, rfl, by decide +kernel, by decide +kernel⟩
def sp_more : Sp := fun vs H Q _ => ∃ (a : Addr), vs = [.ref a] ∧ Flow H a ∧ ∀ H', But a H H' → Flow H' a → Q .non H'
theorem mod_in {x m : Int} (hm : 0 < m) (h : m ≤ 2 ^ 63) : -(2 ^ 64) < x % m ∧ x % m < 2 ^ 64 := by
  have h1 := Int.emod_nonneg x (Int.ne_of_gt hm)
  have h2 := Int.emod_lt_of_pos x hm
  constructor <;> omega
theorem ok_more (T : Txt K mg) {f : Addr} {fd : FuncData} (F : Fun K "_law_more" "_law_more" s__law_more f fd) : FnOk P w K mg base CX0 1 f fd ["flow"] sp_more := by
  refine F.ok sc__law_more (fun vs H Q E h => ?_) (fun cdv A outer s H vs Q E hr h => ?_)
  · obtain ⟨a, rfl, _⟩ := h; rfl
  obtain ⟨a, rfl, ⟨l, ns, i, c, z, ha, hl, hne⟩, q⟩ := h
  refine ⟨_, (pss_cons (ps_set (i := 1) sc__law_more.nd rfl (Or.inl rfl) pe_int)
    (pss_cons (ps_if (pt_cmpR op_lt (pe_ix ix_list (pv 0) pe_int (fun _ _ => rfl)) (pe_callB call_len_seq rfl T.n_len boot_len (pa_cons (pe_ix ix_list (pv 0) pe_int (fun _ _ => rfl)) pa_nil)) (nomark _)) (pss_one (ps_set (i := 1) sc__law_more.nd rfl (Or.inl rfl) (pe_ix ix_list (pe_ix ix_list (pv 0) pe_int (fun _ _ => rfl)) (pe_ix ix_list (pv 0) pe_int (fun _ _ => rfl)) (fun _ _ => rfl)))) pss_nil)
    (pss_cons (ps_augS (pv 0) pe_int pget_list pe_int ip_add set_list)
    (pss_cons (ps_if (pt_cmpR op_ge (pv 1) (pe_op op_pow pe_int pe_int) (nomark _)) (pss_cons (ps_asg (pv 1) (pg_sub (pv 0) pe_int set_list))
      (pss_one ps_retN)) pss_nil)
    (pss_cons (ps_set (i := 2) sc__law_more.nd rfl (Or.inl rfl) (pe_op op_mod (pe_callTy call_int1 rfl T.n_int boot_int (pa_cons (pe_op op_add (pe_op op_add (pe_op op_add (pe_op op_mul (pe_ix ix_list (pv 0) pe_int (fun _ _ => rfl)) pe_int) (pe_op op_mul (pe_callB call_abs rfl T.n_abs boot_abs (pa_cons (pv 1) pa_nil)) pe_int)) (pe_callTy call_int1 rfl T.n_int boot_int (pa_cons (pe_cmpR op_lt (pv 1) pe_int (nomark _)) pa_nil))) (pe_op op_mul pe_int (pe_ix ix_list (pv 0) pe_int (fun _ _ => rfl)))) pa_nil)) pe_int))
    (pss_cons (ps_set (i := 2) sc__law_more.nd rfl (Or.inl rfl) (pe_op op_mod (pe_callTy call_int1 rfl T.n_int boot_int (pa_cons (pe_op op_add (pe_op op_mul (pv 2) pe_int) pe_int) pa_nil)) pe_int))
    (pss_cons (ps_set (i := 3) sc__law_more.nd rfl (Or.inl rfl) (pe_op op_mod (pe_callTy call_int1 rfl T.n_int boot_int (pa_cons (pe_op op_add (pe_op op_mul (pv 2) (pe_op op_add (pe_op op_fdivW (pv 2) pe_int) pe_int)) pe_int) pa_nil)) pe_int))
    (pss_cons (ps_set (i := 4) sc__law_more.nd rfl (Or.inl rfl) (pe_op op_mod (pe_callTy call_int1 rfl T.n_int boot_int (pa_cons (pe_op op_add (pe_op op_mul (pv 3) (pe_op op_add (pe_op op_fdivW (pv 3) pe_int) pe_int)) (pv 2)) pa_nil)) pe_int))
    (pss_cons (ps_asg (pv 4) (pg_sub (pv 0) pe_int set_list))
    (pss_one (ps_asg (pe_op op_add (pe_op op_mul (pe_op op_add (pe_op op_mul (pv 2) pe_int) (pv 3)) pe_int) (pv 4)) (pg_sub (pv 0) pe_int set_list)))))))))))), ?_⟩
  have hz := line_eq
  have e0 : atI [V.ref l, V.int (i : Int), V.int c, V.int z] 0 = some (.ref l) := atI_nat (j := 0) rfl
  have e1 : atI [V.ref l, V.int (i : Int), V.int c, V.int z] 1 = some (.int (i : Int)) := atI_nat (j := 1) rfl
  have x1 : ixN [V.ref l, V.int (i : Int), V.int c, V.int z].length 1 = some 1 := rfl
  have hsl := SqL.of (K := K) ha
  -- cell
  refine seq_setC ?_
  refine seq_join (fun σ H' => H' = H ∧ ∃ cell : Int, σ = [some (.ref a), some (.int cell), none, none, none]) ?_ ?_
  rotate_left
  · intro NX nx
    refine ⟨_, rfl, a, _, _, _, rfl, rfl, hsl, e1, _, rfl, a, _, _, _, rfl, rfl, hsl, e0, l, _, rfl, .inl (SqL.of hl), _, _, rfl, rfl, _, rfl, ?_⟩
    refine ited (fun h1 => ?_) (fun h1 => ?_)
    · rw [List.length_map] at h1
      have h2 : i < ns.length := by omega
      have e2 : atI (ns.map V.int) (i : Int) = some (.int ns[i]) := atI_nat (by rw [List.getElem?_map, List.getElem?_eq_getElem h2]; rfl)
      refine ⟨_, rfl, a, _, _, _, rfl, rfl, hsl, e0, _, rfl, a, _, _, _, rfl, rfl, hsl, e1, l, _, _, _, rfl, rfl, SqL.of hl, e2, ?_⟩
      exact nx _ _ ⟨rfl, _, rfl⟩
    · exact nx _ _ ⟨rfl, _, rfl⟩
  rintro σ H' ⟨rfl, cell, rfl⟩
  -- flow[1] += 1
  refine ⟨_, rfl, a, _, _, _, rfl, rfl, hsl, e1, _, _, rfl, rfl, ?_⟩
  refine ⟨a, _, _, 1, rfl, rfl, ha, x1, ?_⟩
  have ei : V.int ((i : Int) + 1) = V.int ((i + 1 : Nat) : Int) := congrArg V.int (by omega)
  rw [ei]
  have hb1 : But a H' (upd H' a (.lst [V.ref l, V.int ((i + 1 : Nat) : Int), V.int c, V.int z])) := But.upd ha
  have ha1 : (upd H' a (.lst [V.ref l, V.int ((i + 1 : Nat) : Int), V.int c, V.int z])) a = some (.lst [V.ref l, V.int ((i + 1 : Nat) : Int), V.int c, V.int z]) := upd_same
  show tSeq _ _ _ _ (upd H' a (.lst [V.ref l, V.int ((i + 1 : Nat) : Int), V.int c, V.int z]))
  generalize upd H' a (.lst [V.ref l, V.int ((i + 1 : Nat) : Int), V.int c, V.int z]) = H1 at *
  have hl1 := hb1.o _ _ hne hl
  generalize i + 1 = i1 at *
  have hs1 := SqL.of (K := K) ha1
  have f0 : atI [V.ref l, V.int (i1 : Int), V.int c, V.int z] 3 = some (.int z) := atI_nat (j := 3) rfl
  have f1 : atI [V.ref l, V.int (i1 : Int), V.int c, V.int z] 1 = some (.int (i1 : Int)) := atI_nat (j := 1) rfl
  have y2 : ixN [V.ref l, V.int (i1 : Int), V.int c, V.int z].length 2 = some 2 := rfl
  have y3 : ixN [V.ref l, V.int (i1 : Int), V.int c, V.int z].length 3 = some 3 := rfl
  -- cell >= 10 ** 18
  refine ⟨_, rfl, _, _, rfl, rfl, ⟨by decide, by decide, by decide⟩, _, _, rfl, rfl, _, rfl, ?_⟩
  refine ited (fun h1 => ?_) (fun h1 => ?_)
  · refine ⟨_, rfl, _, rfl, a, _, _, 2, rfl, rfl, ha1, y2, ?_⟩
    exact q _ (hb1.trans (But.upd ha1)) ⟨l, ns, i1, cell, z, upd_same, by rw [upd_ne hne]; exact hl1, hne⟩
  -- one
  refine ⟨_, rfl, a, _, _, _, rfl, rfl, hs1, f0, _, _, rfl, rfl, .inr ⟨by decide, by decide⟩, ?_⟩
  refine ⟨_, rfl, _, rfl, _, _, rfl, rfl, .inr ⟨by decide, by decide⟩, _, _, rfl, rfl, ?_⟩
  refine ⟨_, rfl, _, _, rfl, rfl, .inr ⟨_, rfl, ?_⟩⟩
  refine ⟨_, _, rfl, rfl, ?_⟩
  refine ⟨_, rfl, a, _, _, _, rfl, rfl, hs1, f1, _, _, rfl, rfl, .inl ⟨by decide, by decide⟩, _, _, rfl, rfl, ?_⟩
  refine .inl ⟨_, rfl, _, _, rfl, rfl, (show (0 : Int) < 2147483629 by decide), ?_⟩
  refine ⟨_, rfl, _, _, rfl, rfl, .inr ⟨by decide, by decide⟩, _, _, rfl, rfl, .inl ⟨_, rfl, _, _, rfl, rfl, (show (0 : Int) < 2147483647 by decide), ?_⟩⟩
  -- two
  refine ⟨_, rfl, _, rfl, _, _, rfl, rfl, ⟨by decide, by decide⟩, _, _, rfl, rfl, _, _, rfl, rfl, .inl (mod_in (by decide) (by decide)), _, _, rfl, rfl, .inl ⟨_, rfl, _, _, rfl, rfl, (show (0 : Int) < 2147483399 by decide), ?_⟩⟩
  -- three
  refine ⟨_, rfl, _, rfl, _, _, rfl, rfl, ⟨by decide, by decide⟩, _, _, rfl, rfl, _, _, rfl, rfl, .inl (mod_in (by decide) (by decide)), _, rfl, _, _, rfl, rfl, .inl ⟨_, rfl, _, _, rfl, rfl, (show (0 : Int) < 2147483563 by decide), ?_⟩⟩
  -- flow[3] = three; flow[2] = ..
  refine ⟨_, rfl, _, rfl, a, _, _, 3, rfl, rfl, ha1, y3, ?_⟩
  refine ⟨_, rfl, _, _, rfl, rfl, .inr ⟨by decide, by decide⟩, _, rfl, _, _, rfl, rfl, _, _, rfl, rfl, .inr ⟨by decide, by decide⟩, _, rfl, _, _, rfl, rfl, ?_⟩
  refine ⟨_, rfl, a, _, _, 2, rfl, rfl, upd_same, y2, ?_⟩
  refine q _ ((hb1.trans (But.upd ha1)).trans (But.upd upd_same)) ⟨l, ns, i1, _, _, upd_same, ?_, hne⟩
  rw [upd_ne hne, upd_ne hne]; exact hl1
abbrev s__law_draw : Stmt := top 71
theorem sc__law_draw : FnScope ["flow", "many", "digit"] ["flow", "many"] (defScope s__law_draw) := ⟨rfl, rfl, rfl, by decide +kernel, rfl, by decide +kernel, by decide +kernel⟩
/-- a drawn number below n -/
def sp_draw : Sp := fun vs H Q _ => ∃ (a : Addr) (n : Nat), vs = [.ref a, .int (n : Int)] ∧ 0 < n ∧ n < 2 ^ 100 ∧ Flow H a ∧ ∀ H' (d : Nat), d < n → But a H H' → Flow H' a → Q (.int (d : Int)) H'
theorem ok_draw (T : Txt K mg) {f : Addr} {fd : FuncData} (F : Fun K "_law_draw" "_law_draw" s__law_draw f fd) (D__law_more : Def P w K mg base CX0 "_law_more" ["flow"] 1 sp_more) : FnOk P w K mg base CX0 2 f fd ["flow", "many"] sp_draw := by
  refine F.ok sc__law_draw (fun vs H Q E h => ?_) (fun cdv A outer s H vs Q E hr h => ?_)
  · obtain ⟨a, n, rfl, _⟩ := h; rfl
  obtain ⟨a, n, rfl, hn, hn2, fl, q⟩ := h
  refine ⟨_, (pss_cons (ps_if (pt_cmpR op_lt (pe_ix ix_list (pv 0) pe_int (fun _ _ => rfl)) (pv 1) (nomark _)) (pss_one (ps_expr (pe_call D__law_more.ok (hr.mono (by omega)) rfl D__law_more.g D__law_more.k D__law_more.b .nil pass0 (pa_cons (pv 0) pa_nil)))) pss_nil)
    (pss_cons (ps_set (i := 2) sc__law_draw.nd rfl (Or.inl rfl) (pe_op op_mod (pe_callTy call_int1 rfl T.n_int boot_int (pa_cons (pe_ix ix_list (pv 0) pe_int (fun _ _ => rfl)) pa_nil)) (pv 1)))
    (pss_cons (ps_asg (pe_op op_fdivW (pe_ix ix_list (pv 0) pe_int (fun _ _ => rfl)) (pv 1)) (pg_sub (pv 0) pe_int set_list))
    (pss_one (ps_ret (pv 2)))))), ?_⟩
  have hz := line_eq
  refine seq_join (fun σ H' => But a H H' ∧ Flow H' a ∧ σ = [some (.ref a), some (.int (n : Int)), none]) ?_ ?_
  rotate_left
  · intro NX nx
    obtain ⟨l, ns, i, c, z, ha, hl, hne⟩ := id fl
    refine ⟨_, rfl, a, _, _, _, rfl, rfl, SqL.of ha, atI_nat (j := 2) rfl, _, rfl, _, _, rfl, rfl, _, rfl, ?_⟩
    refine ited (fun h1 => ?_) (fun h1 => ?_)
    · exact ⟨_, rfl, a, rfl, fl, fun H' b f' => nx _ _ ⟨b, f', rfl⟩⟩
    · exact nx _ _ ⟨But.refl a H, fl, rfl⟩
  rintro σ H' ⟨b, ⟨l, ns, i, c, z, ha, hl, hne⟩, rfl⟩
  have hpos : (0 : Int) < (n : Int) := by omega
  refine ⟨_, rfl, a, _, _, _, rfl, rfl, SqL.of ha, atI_nat (j := 2) rfl, .inl ⟨_, rfl, _, rfl, _, _, rfl, rfl, hpos, ?_⟩⟩
  have hlog : ((n : Int)).natAbs.log2 < 9000 := by
    have : ((n : Int)).natAbs = n := Int.natAbs_natCast n
    rw [this]
    have := (Nat.log2_lt (Nat.ne_of_gt hn)).mpr hn2
    omega
  refine ⟨_, rfl, a, _, _, _, rfl, rfl, SqL.of ha, atI_nat (j := 2) rfl, _, rfl, _, _, rfl, rfl, ⟨hpos, hlog⟩, ?_⟩
  refine ⟨_, rfl, a, _, _, 2, rfl, rfl, ha, rfl, ?_⟩
  refine ⟨_, rfl, ?_⟩
  have h0 := Int.emod_nonneg c (Int.ne_of_gt hpos)
  have h1 := Int.emod_lt_of_pos c hpos
  have e : V.int (c % (n : Int)) = V.int (((c % (n : Int)).toNat : Nat) : Int) := congrArg V.int (by omega)
  show Q (V.int (c % (n : Int))) _
  rw [e]
  refine q _ _ (by omega) (b.trans (But.upd ha)) ⟨l, ns, i, _, z, upd_same, by rw [upd_ne hne]; exact hl, hne⟩
end
/-- of the same form, to a depth -/
def Alike : Nat → Hp → V → V → Prop
  | 0, _, _, _ => False
  | d + 1, H, v, u => (∃ s, v = .str s ∧ u = .str s) ∨ (∃ n : Int, v = .int n ∧ u = .int n) ∨
    (∃ p q xs ys, v = .ref p ∧ u = .ref q ∧ ((H p = some (.tup xs) ∧ H q = some (.tup ys)) ∨ (H p = some (.lst xs) ∧ H q = some (.lst ys))) ∧ xs.length = ys.length ∧ xs.length ≤ 16777216 ∧
      ∀ (k : Nat) x y, xs[k]? = some x → ys[k]? = some y → Alike d H x y) ∨ (v = .non ∧ u = .non)
theorem Alike.mono {H H' : Hp} (g : Same H H') : ∀ {d : Nat} {v u : V}, Alike d H v u → Alike d H' v u
  | 0, _, _, h => h.elim
  | d + 1, v, u, h => by
    rcases h with h | h | ⟨p, q, xs, ys, e1, e2, h, hl, hb, hk⟩ | h
    · exact .inl h
    · exact .inr (.inl h)
    · refine .inr (.inr (.inl ⟨p, q, xs, ys, e1, e2, ?_, hl, hb, fun k x y h1 h2 => (hk k x y h1 h2).mono g⟩))
      rcases h with ⟨h1, h2⟩ | ⟨h1, h2⟩
      · exact .inl ⟨g _ _ h1, g _ _ h2⟩
      · exact .inr ⟨g _ _ h1, g _ _ h2⟩
    · exact .inr (.inr (.inr h))
section
variable {P : Program} {w : World} {K : PySem.W.Frag} {mg : Str → Option Value} {base : Heap}
theorem ixK {X : Cx} {K : PySem.W.Frag} (h : X.K = K) : IxR X (rIx K) := by rw [← h]; exact ix_seq
theorem isi {v : V} {T t : String} {b : Bool} {σ : L2.St} {H : Hp} {Q : Bool → Hp → Prop} {i : Nat} (hv : σ[i]? = some (some v)) (ty : TyX K H v (.type T)) (k : kitB T t = some b) (q : Q b H) : tB (tCB (rIsi K) (tCons (tVar i) (tCons (tC (V.ty t)) tNil))) σ H Q :=
  ⟨v, hv, v, .ty t, .type T, .type t, b, rfl, .ty t, ty, kit_ty k, b, rfl, q⟩
theorem isiV {v : V} {T t : String} {b : Bool} {σ : L2.St} {H : Hp} {Q : VK} {i : Nat} (hv : σ[i]? = some (some v)) (ty : TyX K H v (.type T)) (k : kitB T t = some b) (q : Q (.bl b) H) : tCB (rIsi K) (tCons (tVar i) (tCons (tC (V.ty t)) tNil)) σ H Q :=
  ⟨v, hv, v, .ty t, .type T, .type t, b, rfl, .ty t, ty, kit_ty k, q⟩
abbrev s__law_same : Stmt := top 72
theorem sc__law_same : FnScope ["found", "due", "k"] ["found", "due"] (defScope s__law_same) := ⟨rfl, rfl, rfl, by decide +kernel, rfl, by decide +kernel, by decide +kernel⟩
def sp_same (d : Nat) : Sp := fun vs H Q _ => ∃ (v u : V), vs = [v, u] ∧ Alike d H v u ∧ ∀ H', Same H H' → Q (.bl true) H'
theorem ok_same {d lv : Nat} (T : Txt K mg) {f : Addr} {fd : FuncData} (F : Fun K "_law_same" "_law_same" s__law_same f fd) (D__law_same : Def P w K mg base CX0 "_law_same" ["found", "due"] lv (sp_same d)) : FnOk P w K mg base CX0 (lv + 1) f fd ["found", "due"] (sp_same (d + 1)) := by
  refine F.ok sc__law_same (fun vs H Q E h => ?_) (fun cdv A outer s H vs Q E hr h => ?_)
  · obtain ⟨a, b, rfl, _⟩ := h; rfl
  obtain ⟨v, u, rfl, ha, q⟩ := h
  refine ⟨_, (pss_cons (ps_if (PW.pt (pw_or (pt_val (pe_callB call_isi rfl T.n_isinstance boot_isinstance (pa_cons (pv 1) (pa_cons (pe_bltn (v := .ty "list") rfl T.n_list boot_list rfl) pa_nil)))) (pw_or1 (pt_val (pe_callB call_isi rfl T.n_isinstance boot_isinstance (pa_cons (pv 1) (pa_cons (pe_bltn (v := .ty "tuple") rfl T.n_tuple boot_tuple rfl) pa_nil))))))) (pss_cons (ps_if (PW.pt (pw_or (PW.pt (pw_and (pt_val (pe_callB call_isi rfl T.n_isinstance boot_isinstance (pa_cons (pv 1) (pa_cons (pe_bltn (v := .ty "list") rfl T.n_list boot_list rfl) pa_nil)))) (pw_and1 (pt_not (pt_val (pe_callB call_isi rfl T.n_isinstance boot_isinstance (pa_cons (pv 0) (pa_cons (pe_bltn (v := .ty "list") rfl T.n_list boot_list rfl) pa_nil)))))))) (pw_or1 (PW.pt (pw_and (pt_val (pe_callB call_isi rfl T.n_isinstance boot_isinstance (pa_cons (pv 1) (pa_cons (pe_bltn (v := .ty "tuple") rfl T.n_tuple boot_tuple rfl) pa_nil)))) (pw_and1 (pt_not (pt_val (pe_callB call_isi rfl T.n_isinstance boot_isinstance (pa_cons (pv 0) (pa_cons (pe_bltn (v := .ty "tuple") rfl T.n_tuple boot_tuple rfl) pa_nil))))))))))) (pss_one (ps_ret pe_bl)) pss_nil)
      (pss_one (ps_ret (pe_and (pe_cmpR op_eq (pe_callB call_len_seq rfl T.n_len boot_len (pa_cons (pv 0) pa_nil)) (pe_callB call_len_seq rfl T.n_len boot_len (pa_cons (pv 1) pa_nil)) (nomark _)) (pe_one (pe_callB (cr_all rfl) rfl T.n_all boot_all (pa_cons (pe_lc (own := [("k", 2)]) (g := gName 2) (tt := tYes) rfl sc__law_same.nd (pi_range1 rfl T.n_range (pa_cons (pe_callB call_len_seq rfl T.n_len boot_len (pa_cons (pv 1) pa_nil)) pa_nil)) (blkOk_by (N := ["found", "due", "k"]) (sc := defScope s__law_same) (by decide +kernel)) (fun _ _ _ _ _ => pg_name (i := 2) sc__law_same.nd rfl (Or.inl rfl)) (fun _ _ _ _ _ => pts_nil) (fun _ _ _ _ _ => (pe_call D__law_same.ok hr rfl D__law_same.g D__law_same.k D__law_same.b .nil pass0 (pa_cons (pe_ix (ixK (K := K) rfl) (pv 0) (pv 2) (fun _ _ => rfl)) (pa_cons (pe_ix (ixK (K := K) rfl) (pv 1) (pv 2) (fun _ _ => rfl)) pa_nil))))) pa_nil))))))) pss_nil)
    (pss_cons (ps_if (pt_cmpR op_isN (pv 1) pe_non (nomark _)) (pss_one (ps_ret (pe_cmpR op_isN (pv 0) pe_non (nomark _)))) pss_nil)
    (pss_cons (ps_if (pt_val (pe_callB call_isi rfl T.n_isinstance boot_isinstance (pa_cons (pv 1) (pa_cons (pe_bltn (v := .ty "bool") rfl T.n_bool boot_bool rfl) pa_nil)))) (pss_one (ps_ret (pe_and (pe_callB call_isi rfl T.n_isinstance boot_isinstance (pa_cons (pv 0) (pa_cons (pe_bltn (v := .ty "bool") rfl T.n_bool boot_bool rfl) pa_nil))) (pe_one (pe_cmpR op_eq (pv 0) (pv 1) (nomark _)))))) pss_nil)
    (pss_cons (ps_if (pt_val (pe_callB call_isi rfl T.n_isinstance boot_isinstance (pa_cons (pv 1) (pa_cons (pe_bltn (v := .ty "int") rfl T.n_int boot_int rfl) pa_nil)))) (pss_one (ps_ret (pe_and (pe_callB call_isi rfl T.n_isinstance boot_isinstance (pa_cons (pv 0) (pa_cons (pe_bltn (v := .ty "int") rfl T.n_int boot_int rfl) pa_nil))) (pe_and (pe_not (pe_callB call_isi rfl T.n_isinstance boot_isinstance (pa_cons (pv 0) (pa_cons (pe_bltn (v := .ty "bool") rfl T.n_bool boot_bool rfl) pa_nil)))) (pe_one (pe_cmpR op_eq (pv 0) (pv 1) (nomark _))))))) pss_nil)
    (pss_one (ps_ret (pe_and (pe_callB call_isi rfl T.n_isinstance boot_isinstance (pa_cons (pv 0) (pa_cons (pe_bltn (v := .ty "str") rfl T.n_str boot_str rfl) pa_nil))) (pe_one (pe_cmpR op_eq (pv 0) (pv 1) (nomark _)))))))))), ?_⟩
  have hz := line_eq
  have rest : ∀ {p q : Addr} {xs ys : List V}, v = .ref p → u = .ref q → ((H p = some (.tup xs) ∧ H q = some (.tup ys)) ∨ (H p = some (.lst xs) ∧ H q = some (.lst ys))) → xs.length = ys.length → xs.length ≤ 16777216 →
      (∀ (k : Nat) x y, xs[k]? = some x → ys[k]? = some y → Alike d H x y) →
      (tAndV (tOp rEq (tCB (fun xs H Q => ∃ p ys, xs = [V.ref p] ∧ (SqL K H p ys ∨ SqT K H p ys) ∧ Q (V.int ys.length) H) (tCons (tVar 0) tNil)) (tCB (fun xs H Q => ∃ p ys, xs = [V.ref p] ∧ (SqL K H p ys ∨ SqT K H p ys) ∧ Q (V.int ys.length) H) (tCons (tVar 1) tNil)))
        (tCB (rAll K) (tCons (tLc (iRng1 (tCons (tCB (fun xs H Q => ∃ p ys, xs = [V.ref p] ∧ (SqL K H p ys ∨ SqT K H p ys) ∧ Q (V.int ys.length) H) (tCons (tVar 1) tNil)) tNil)) (gName 2) tYes
          (tCall (sp_same d) [] E0 (tCons (tOp (rIx K) (tVar 0) (tVar 2)) (tCons (tOp (rIx K) (tVar 1) (tVar 2)) tNil))) [2]) tNil))) [some v, some u, none] H Q := by
    rintro p q' xs ys rfl rfl hh hl hb hk
    have hx : ∀ {H'}, Same H H' → (SqL K H' p xs ∨ SqT K H' p xs) := fun g => by
      rcases hh with ⟨h1, _⟩ | ⟨h1, _⟩
      · exact .inr (SqT.of (g _ _ h1))
      · exact .inl (SqL.of (g _ _ h1))
    have hy : ∀ {H'}, Same H H' → (SqL K H' q' ys ∨ SqT K H' q' ys) := fun g => by
      rcases hh with ⟨_, h1⟩ | ⟨_, h1⟩
      · exact .inr (SqT.of (g _ _ h1))
      · exact .inl (SqL.of (g _ _ h1))
    have ixx : ∀ {H' : Hp} {a : Addr} {zs : List V} {k : Nat} {z : V} {R : VK}, (SqL K H' a zs ∨ SqT K H' a zs) → zs[k]? = some z → R z H' → rIx K (.ref a) (.int (k : Int)) H' R := fun h e r => by
      rcases h with h | h
      · exact .inl ⟨_, _, _, _, rfl, rfl, h, atI_nat e, r⟩
      · exact .inr (.inl ⟨_, _, _, _, rfl, rfl, h, atI_nat e, r⟩)
    refine ⟨_, rfl, p, xs, rfl, hx (Same.refl H), _, rfl, q', ys, rfl, hy (Same.refl H), rfl, _, rfl, ?_⟩
    refine ited (fun _ => ?_) (fun hn => absurd (by rw [hl]) hn)
    refine ⟨_, rfl, q', ys, rfl, hy (Same.refl H), _, rfl, by omega, by omega, fun D hD => ?_⟩
    rw [Int.toNat_natCast]
    refine lc_range (fun i H' => Same H H' ∧ H' D = some (.lst (List.replicate i (V.bl true)))) ⟨same_new hD _, upd_same⟩ ?_ ?_
    · rintro i H' hi ⟨g, hd⟩
      refine ⟨rfl, ?_⟩
      unfold tYes
      dsimp only
      rw [if_pos rfl, Int.zero_add]
      have e1 : xs[i]? = some xs[i] := List.getElem?_eq_getElem (by omega)
      have e2 : ys[i]? = some ys[i] := List.getElem?_eq_getElem hi
      refine ⟨_, rfl, _, rfl, ixx (hx g) e1 ?_⟩
      refine ⟨_, rfl, _, rfl, ixx (hy g) e2 ?_⟩
      refine ⟨_, _, rfl, (hk i _ _ e1 e2).mono g, fun H2 g2 => ?_⟩
      refine ⟨_, g2 _ _ hd, by rw [List.length_replicate]; omega, same_mut (g.trans g2) hD _, ?_⟩
      rw [upd_same, ← List.replicate_succ']
    · rintro H' ⟨g, hd⟩
      refine ⟨D, List.replicate ys.length true, rfl, SqL.of (by rw [hd, List.map_replicate]), ?_⟩
      have e : (List.replicate ys.length true).all id = true := by simp
      rw [e]
      exact q _ g
  rcases ha with ⟨z, rfl, rfl⟩ | ⟨n, rfl, rfl⟩ | ⟨p, q', xs, ys, e1, e2, hh, hl, hb, hk⟩ | ⟨rfl, rfl⟩
  rotate_right
  · have ty : TyX K H .non (.type "NoneType") := .base .non
    refine isi (K := K) rfl ty (by decide +kernel) (iteF (isi (K := K) rfl ty (by decide +kernel) (iteF (go_next ?_))))
    refine ⟨_, rfl, rfl, _, rfl, ?_⟩
    refine ited (fun _ => ?_) (fun hn => absurd rfl hn)
    refine ⟨_, rfl, rfl, ?_⟩
    rw [decide_eq_true rfl]
    exact q _ (Same.refl H)
  · have ty : TyX K H (.str z) (.type "str") := .base (.str z)
    refine isi (K := K) rfl ty (by decide +kernel) (iteF (isi (K := K) rfl ty (by decide +kernel) (iteF (go_next ?_))))
    refine ⟨_, rfl, rfl, _, rfl, ?_⟩
    refine ited (fun hx => by cases hx) (fun _ => go_next ?_)
    refine isi (K := K) rfl ty (by decide +kernel) (iteF (go_next ?_))
    refine isi (K := K) rfl ty (by decide +kernel) (iteF (go_next ?_))
    refine isiV (K := K) rfl ty (b := true) (by decide +kernel) ⟨_, rfl, iteT ?_⟩
    refine ⟨_, rfl, _, rfl, rfl, ?_⟩
    rw [decide_eq_true rfl]
    exact q _ (Same.refl H)
  · have ty : TyX K H (.int n) (.type "int") := .base (.int n)
    refine isi (K := K) rfl ty (by decide +kernel) (iteF (isi (K := K) rfl ty (by decide +kernel) (iteF (go_next ?_))))
    refine ⟨_, rfl, rfl, _, rfl, ?_⟩
    refine ited (fun hx => by cases hx) (fun _ => go_next ?_)
    refine isi (K := K) rfl ty (by decide +kernel) (iteF (go_next ?_))
    refine isi (K := K) rfl ty (by decide +kernel) (iteT ?_)
    refine isiV (K := K) rfl ty (b := true) (by decide +kernel) ⟨_, rfl, iteT ?_⟩
    refine isiV (K := K) rfl ty (b := false) (by decide +kernel) ⟨_, rfl, _, rfl, iteT ?_⟩
    refine ⟨_, rfl, _, rfl, rfl, ?_⟩
    rw [decide_eq_true rfl]
    exact q _ (Same.refl H)
  · have r := rest e1 e2 hh hl hb hk
    subst e1; subst e2
    rcases hh with ⟨h1, h2⟩ | ⟨h1, h2⟩
    · have t1 : TyX K H (.ref p) (.type "tuple") := .base (.tup h1)
      have t2 : TyX K H (.ref q') (.type "tuple") := .base (.tup h2)
      refine isi (K := K) rfl t2 (b := false) (by decide +kernel) (iteF (isi (K := K) rfl t2 (b := true) (by decide +kernel) (iteT ?_)))
      refine isi (K := K) rfl t2 (b := false) (by decide +kernel) (iteF (iteF (isi (K := K) rfl t2 (b := true) (by decide +kernel) (iteT (isi (K := K) rfl t1 (b := true) (by decide +kernel) (iteF (go_next ?_)))))))
      exact r
    · have t1 : TyX K H (.ref p) (.type "list") := .base (.lst h1)
      have t2 : TyX K H (.ref q') (.type "list") := .base (.lst h2)
      refine isi (K := K) rfl t2 (b := true) (by decide +kernel) (iteT (iteT ?_))
      refine isi (K := K) rfl t2 (b := true) (by decide +kernel) (iteT (isi (K := K) rfl t1 (b := true) (by decide +kernel) (iteF (isi (K := K) rfl t2 (b := false) (by decide +kernel) (iteF (iteF (go_next ?_)))))))
      exact r
theorem ok_same0 {f : Addr} {fd : FuncData} (F : Fun K "_law_same" "_law_same" s__law_same f fd) : FnOk P w K mg base CX0 1 f fd ["found", "due"] (sp_same 0) := by
  refine F.ok sc__law_same (fun vs H Q E h => ?_) (fun cdv A outer s H vs Q E hr h => ?_)
  · obtain ⟨a, b, _, h, _⟩ := h; exact h.elim
  · obtain ⟨a, b, _, h, _⟩ := h; exact h.elim
end
end Wk
set_option maxRecDepth 100000
set_option maxHeartbeats 8000000
namespace Wk
open PySem PySem.Spec L2 TL PyProof.Rows
/-! ### a try of two clauses, the second with a name -/
section
variable {X : Cx} {pins : List (Addr × Obj)} {σ : L2.St} {H : Hp} {cls : Value} {d : Option Addr} {a : Addr} {B : Heap} {sI s : Shared}
/-- an exception before the clauses of X -/
structure Down (X : Cx) (pins : List (Addr × Obj)) (σ : L2.St) (H : Hp) (cls : Value) (d : Option Addr) (a : Addr) (B : Heap) (sI s : Shared) : Prop where
  ground : L2.Inv X pins σ H sI
  kept : ∀ b o, sI.heap.get? b = some o → b ∉ frs X.stack → B.get? b = some o
  rise : sI.heap.UpToSlots s.heap
  same : s.os = sI.os
  gens : AllBare s.gens
  air : HandSPX.FlyingZ B (X.env :: X.outer) a (Zc cls d) s.heap
  new : H a = none
theorem Down.inv (D : Down X pins σ H cls d a B sI s) : L2.Inv X pins σ H s := D.ground.landed D.kept D.air.1 D.rise D.same D.gens
theorem Down.suite (D : Down X pins σ H cls d a B sI s) (hf : X.env.frame = some X.env.locals) :
    ∃ oe vs, s.heap.get? a = some oe ∧ Zc cls d oe ∧ oe.data = .fields vs ∧ L2.Inv (X.suite a ((a, oe) :: (X.pn ++ pins))) [] σ H s := by
  obtain ⟨oe, vs, there, kind, fields⟩ := D.air.there
  have noFrame : a ∉ frs (X.env :: X.outer) := by
    intro mem
    obtain ⟨_, o2, e2, k2⟩ := D.air.2.2.1.mem mem
    rw [there] at e2
    obtain rfl := Option.some.inj e2
    exact k2 _ fields
  refine ⟨oe, vs, there, kind, fields, D.inv.suite there fields D.new (fun e => noFrame ?_) fun mem => noFrame ?_⟩
  · exact List.mem_filterMap.mpr ⟨X.env, .head _, by rw [hf, e]⟩
  · obtain ⟨e2, m2, k2⟩ := List.mem_filterMap.mp mem
    exact List.mem_filterMap.mpr ⟨e2, .tail _ m2, k2⟩
theorem Down.again {M : Model} {A : Around} {Q : Unit → Shared → Prop} {E : Value → Shared → Prop} (D : Down X pins σ H cls d a B sI s)
    (q : ∀ h, Down X pins σ H cls d a B sI { s with heap := h } → Q () { s with heap := h }) : wpAny M A (setFlight (.ref a) none) Q E s :=
  HandSPX.lands_againZ D.air fun h f u => q h ⟨D.ground, D.kept, D.rise.trans u, D.same, D.gens, f, D.new⟩
/-- the class of a clause is looked up and asked -/
theorem Down.ask {R : Except Value PySem.Flow → Shared → Prop} {x : Str} {c : Value} {b : Bool} {np pos : Pos} (D : Down X pins σ H cls d a B sI s) (hf : X.env.frame = some X.env.locals) (hc : Names X x c) (hb : PySem.W.exmOne X.K cls c = some b)
    (q : R (.ok (if b then .brk else .next)) s) : codeAny (model X.prog X.w) (X.A.mark (some (.ref a))) (.handlers (.ref a) [.ExceptHandler (some (.Name x np)) none [] pos] X.env) R s := by
  obtain ⟨oe, vs, there, kind, fields, S⟩ := D.suite hf
  refine codeAny_handlers_test ?_
  have looks : PySem.W.Looks (model X.prog X.w) s.heap (typeOf (.ref a)) cls := fun A Q E s2 keep q2 => wpAny_typeOf_ref (keep a oe there) (kind.1.symm ▸ q2)
  have asked := PySem.W.exm_one (M := model X.prog X.w) D.inv.kIn looks hb
  obtain ⟨glob, nodbg, own | ⟨none_, boot, nn⟩⟩ := hc
  · exact ld_glob S glob own (asked.here q) nodbg
  · exact ld_blt S glob none_ boot (asked.here q) nn nodbg
/-- what the two clauses wish -/
def wTwo (K : PySem.W.Frag) (c1 c2 : Value) (i : Nat) (t1 t2 : Addr → Value → Option Addr → TS) (D : Ends) : WX := fun cls d σ H =>
  (PySem.W.exmOne K cls c1 = some true ∧ ∀ a, H a = none → t1 a cls d D σ H) ∨
  (PySem.W.exmOne K cls c1 = some false ∧ PySem.W.exmOne K cls c2 = some true ∧ ∀ a, H a = none →
    t2 a cls d { nx := fun σ' H' => D.nx (σ'.set i none) H', rt := D.rt, bk := fun σ' H' => D.bk (σ'.set i none) H', ct := fun σ' H' => D.ct (σ'.set i none) H' } (σ.set i (some (.ref a))) H)
theorem ps_try_two {x1 x2 n : Str} {c1 c2 : Value} {i : Nat} {body s1 s2 : List Stmt} {b1 b2 : Stmt} {n1 n2 p1 p2 pos : Pos} {tb : WX → TS} {t1 t2 : Addr → Value → Option Addr → TS}
    (hs : X.stack = X.env :: X.outer) (hf : X.env.frame = some X.env.locals) (hN : X.N.Nodup) (hi : X.N[i]? = some n) (hln : X.env.kindOf n = some .local) (hc1 : Names X x1 c1) (hc2 : Names X x2 c2)
    (hb : ∀ (W : WX) (pn : List (Addr × Obj)) (xe : Value → Shared → Prop), Takes (X.tr pn xe) W → PSs (X.tr pn xe) body (tb W))
    (h1 : ∀ (a : Addr) (oe : Obj) (cls : Value) (d : Option Addr) (pn : List (Addr × Obj)), Zc cls d oe → (∃ vs, oe.data = .fields vs) → PSs (X.suite a ((a, oe) :: pn)) (b1 :: s1) (t1 a cls d))
    (h2 : ∀ (a : Addr) (oe : Obj) (cls : Value) (d : Option Addr) (pn : List (Addr × Obj)), Zc cls d oe → (∃ vs, oe.data = .fields vs) → PSs (X.suite a ((a, oe) :: pn)) (b2 :: s2) (t2 a cls d)) :
    PS X (.Try body [.ExceptHandler (some (.Name x1 n1)) none (b1 :: s1) p1, .ExceptHandler (some (.Name x2 n2)) (some n) (b2 :: s2) p2] [] [] pos) (fun D σ H => tb (wTwo X.K c1 c2 i t1 t2 D) D σ H) := by
  refine ⟨fun pins s σ H D I h => wpAny_Try_except ?_⟩
  have okX := I.ok
  have hfr : X.A.frames = some (X.env :: X.outer) := by rw [okX.frames, hs]
  -- out of a suite
  have leave : ∀ {f : PySem.Flow} {a : Addr} {oe : Obj} {s5 : Shared}, SP (X.suite a ((a, oe) :: (X.pn ++ pins))) [] D f s5 → SP X pins D f s5 := by
    intro f a oe s5 sp
    cases f with
    | ret u => obtain ⟨v, σ5, H5, S5, r5, q5⟩ := sp; exact ⟨v, σ5, H5, S5.unsuite okX, r5, q5⟩
    | next => obtain ⟨σ5, H5, S5, q5⟩ := sp; exact ⟨σ5, H5, S5.unsuite okX, q5⟩
    | brk => obtain ⟨σ5, H5, S5, q5⟩ := sp; exact ⟨σ5, H5, S5.unsuite okX, q5⟩
    | cont => obtain ⟨σ5, H5, S5, q5⟩ := sp; exact ⟨σ5, H5, S5.unsuite okX, q5⟩
  have run := (hb (wTwo X.K c1 c2 i t1 t2 D) (X.pn ++ pins)
    (fun e sA => wpAny (model X.prog X.w) X.A (noteFrame e X.env) (fun _ sB => wpAny (model X.prog X.w) X.A (setFlight e none)
      (fun _ sC => wpAny (model X.prog X.w) X.A (handleBy e X.env [.ExceptHandler (some (.Name x1 n1)) none (b1 :: s1) p1, .ExceptHandler (some (.Name x2 n2)) (some n) (b2 :: s2) p2]) (SP X pins D) X.xe sC) X.xe sB) X.xe sA)
    ?_).run [] s σ H D (I.toTry _) h
  · refine wpAny_mono run (fun f sA sp => ?_) (fun _ _ z => z)
    cases f with
    | next => obtain ⟨σ', H', J, q⟩ := sp; exact wpAny_execs_nil ⟨σ', H', J.ofTry okX, q⟩
    | brk => obtain ⟨σ', H', J, q⟩ := sp; exact ⟨σ', H', J.ofTry okX, q⟩
    | cont => obtain ⟨σ', H', J, q⟩ := sp; exact ⟨σ', H', J.ofTry okX, q⟩
    | ret u => obtain ⟨v, σ', H', J, r, q⟩ := sp; exact ⟨v, σ', H', J.ofTry okX, r, q⟩
  -- what flies out of the body
  rintro _ sA ⟨a, B, sI, pinsT, σ', H', cls, d, rfl, JT, kept, rise, sky, new, same, gens, wish⟩
  have J := JT.ofTry okX
  have sky2 : Sky B (X.env :: X.outer) a (Zc cls d) X.env.locals sA.heap := hs ▸ sky
  refine Sky.land Zc.steady hfr hf sky2 fun hC fl upC => ?_
  have D0 : Down X pins σ' H' cls d a B sI { sA with heap := hC } := ⟨J, kept, rise.trans upC, same, gens, fl, new⟩
  refine wpAny_handleBy_cons ?_ (by rintro ⟨⟩)
  rcases wish with ⟨m1, go1⟩ | ⟨m1, m2, go2⟩
  · refine D0.ask hf hc1 m1 (codeAny_handlers_suite (D0.again fun h4 D4 => ?_))
    obtain ⟨oe, vs, there, kind, fields, S⟩ := D4.suite hf
    exact wpAny_mono ((h1 a oe cls d (X.pn ++ pins) kind ⟨vs, fields⟩).run [] _ _ H' D S (go1 a new)) (fun f s5 sp => leave sp) (fun _ _ z => False.elim z)
  · refine D0.ask hf hc1 m1 (wpAny_handleBy_cons ?_ (by rintro ⟨⟩))
    refine D0.ask hf hc2 m2 (codeAny_handlers_suite_as (D0.again fun h4 D4 => ?_))
    obtain ⟨oe, vs, there, kind, fields, S⟩ := D4.suite hf
    refine @store_ok (X.suite a ((a, oe) :: (X.pn ++ pins))) _ _ _ _ _ _ _ i n (.ref a) _ _ S hN hi (.inl hln) rfl (fun s5 S5 => ?_) (.inr hln)
    refine wpAny_mono ((h2 a oe cls d (X.pn ++ pins) kind ⟨vs, fields⟩).run [] s5 _ H' _ S5 (go2 a new)) (fun f s6 sp => ?_) (fun _ _ z => False.elim z)
    have gone : ∀ {σ6 : L2.St} {H6 : Hp} {R : Shared → Prop}, L2.Inv (X.suite a ((a, oe) :: (X.pn ++ pins))) [] σ6 H6 s6 → (∀ s7, L2.Inv X pins (σ6.set i none) H6 s7 → R s7) →
        wpAny (model X.prog X.w) X.A (do bindName X.env n .none; unbindBehindTheSuite X.env n p2) (fun _ s7 => R s7) X.xe s6 := fun S6 r => gone_ok (S6.unsuite okX) hN hi hln r
    cases f with
    | ret u => obtain ⟨v, σ6, H6, S6, r6, q6⟩ := sp; exact gone S6 fun s7 J7 => ⟨v, _, H6, J7, r6, q6⟩
    | next => obtain ⟨σ6, H6, S6, q6⟩ := sp; exact gone S6 fun s7 J7 => ⟨_, H6, J7, q6⟩
    | brk => obtain ⟨σ6, H6, S6, q6⟩ := sp; exact gone S6 fun s7 J7 => ⟨_, H6, J7, q6⟩
    | cont => obtain ⟨σ6, H6, S6, q6⟩ := sp; exact gone S6 fun s7 J7 => ⟨_, H6, J7, q6⟩
/-! ### a try of clauses, each with a name or without -/
abbrev Suite := Addr → Value → Option Addr → TS
/-- behind a clause with a name, the name (in slot i) is gone -/
def wiped (i : Nat) (D : Ends) : Ends := { nx := fun σ' H' => D.nx (σ'.set i none) H', rt := D.rt, bk := fun σ' H' => D.bk (σ'.set i none) H', ct := fun σ' H' => D.ct (σ'.set i none) H' }
def wAny (K : PySem.W.Frag) (D : Ends) : List (Value × Option Nat × Suite) → WX
  | [] => fun _ _ _ _ => False
  | (c, none, t) :: r => fun cls d σ H => (PySem.W.exmOne K cls c = some true ∧ ∀ a, H a = none → t a cls d D σ H) ∨ (PySem.W.exmOne K cls c = some false ∧ wAny K D r cls d σ H)
  | (c, some i, t) :: r => fun cls d σ H => (PySem.W.exmOne K cls c = some true ∧ ∀ a, H a = none → t a cls d (wiped i D) (σ.set i (some (.ref a))) H) ∨ (PySem.W.exmOne K cls c = some false ∧ wAny K D r cls d σ H)
inductive Clauses (X : Cx) : List ExceptHandler → List (Value × Option Nat × Suite) → Prop
  | nil : Clauses X [] []
  | plain {x : Str} {c : Value} {t : Suite} {b : Stmt} {su : List Stmt} {np p : Pos} {hds : List ExceptHandler} {l : List (Value × Option Nat × Suite)} (hc : Names X x c)
      (hsu : ∀ (a : Addr) (oe : Obj) (cls : Value) (d : Option Addr) (pn : List (Addr × Obj)), Zc cls d oe → (∃ vs, oe.data = .fields vs) → PSs (X.suite a ((a, oe) :: pn)) (b :: su) (t a cls d)) (r : Clauses X hds l) :
      Clauses X (.ExceptHandler (some (.Name x np)) none (b :: su) p :: hds) ((c, none, t) :: l)
  | named {x n : Str} {c : Value} {i : Nat} {t : Suite} {b : Stmt} {su : List Stmt} {np p : Pos} {hds : List ExceptHandler} {l : List (Value × Option Nat × Suite)} (hc : Names X x c) (hi : X.N[i]? = some n) (hln : X.env.kindOf n = some .local)
      (hsu : ∀ (a : Addr) (oe : Obj) (cls : Value) (d : Option Addr) (pn : List (Addr × Obj)), Zc cls d oe → (∃ vs, oe.data = .fields vs) → PSs (X.suite a ((a, oe) :: pn)) (b :: su) (t a cls d)) (r : Clauses X hds l) :
      Clauses X (.ExceptHandler (some (.Name x np)) (some n) (b :: su) p :: hds) ((c, some i, t) :: l)
theorem ps_try_any {body : List Stmt} {hd : ExceptHandler} {hds : List ExceptHandler} {l : List (Value × Option Nat × Suite)} {pos : Pos} {tb : WX → TS}
    (hs : X.stack = X.env :: X.outer) (hf : X.env.frame = some X.env.locals) (hN : X.N.Nodup)
    (hb : ∀ (W : WX) (pn : List (Addr × Obj)) (xe : Value → Shared → Prop), Takes (X.tr pn xe) W → PSs (X.tr pn xe) body (tb W)) (hh : Clauses X (hd :: hds) l) :
    PS X (.Try body (hd :: hds) [] [] pos) (fun D σ H => tb (wAny X.K D l) D σ H) := by
  refine ⟨fun pins s σ H D I h => wpAny_Try_except ?_⟩
  have okX := I.ok
  have hfr : X.A.frames = some (X.env :: X.outer) := by rw [okX.frames, hs]
  have run := (hb (wAny X.K D l) (X.pn ++ pins)
    (fun e sA => wpAny (model X.prog X.w) X.A (noteFrame e X.env) (fun _ sB => wpAny (model X.prog X.w) X.A (setFlight e none)
      (fun _ sC => wpAny (model X.prog X.w) X.A (handleBy e X.env (hd :: hds)) (SP X pins D) X.xe sC) X.xe sB) X.xe sA)
    ?_).run [] s σ H D (I.toTry _) h
  · refine wpAny_mono run (fun f sA sp => ?_) (fun _ _ z => z)
    cases f with
    | next => obtain ⟨σ', H', J, q⟩ := sp; exact wpAny_execs_nil ⟨σ', H', J.ofTry okX, q⟩
    | brk => obtain ⟨σ', H', J, q⟩ := sp; exact ⟨σ', H', J.ofTry okX, q⟩
    | cont => obtain ⟨σ', H', J, q⟩ := sp; exact ⟨σ', H', J.ofTry okX, q⟩
    | ret u => obtain ⟨v, σ', H', J, r, q⟩ := sp; exact ⟨v, σ', H', J.ofTry okX, r, q⟩
  rintro _ sA ⟨a, B, sI, pinsT, σ', H', cls, d, rfl, JT, kept, rise, sky, new, same, gens, wish⟩
  have J := JT.ofTry okX
  have sky2 : Sky B (X.env :: X.outer) a (Zc cls d) X.env.locals sA.heap := hs ▸ sky
  refine Sky.land Zc.steady hfr hf sky2 fun hC fl upC => ?_
  have D0 : Down X pins σ' H' cls d a B sI { sA with heap := hC } := ⟨J, kept, rise.trans upC, same, gens, fl, new⟩
  revert D0
  generalize ({ sA with heap := hC } : Shared) = sD
  intro D0
  -- out of a suite
  have leave : ∀ {f : PySem.Flow} {oe : Obj} {s5 : Shared}, SP (X.suite a ((a, oe) :: (X.pn ++ pins))) [] D f s5 → SP X pins D f s5 := by
    intro f oe s5 sp
    cases f with
    | ret u => obtain ⟨v, σ5, H5, S5, r5, q5⟩ := sp; exact ⟨v, σ5, H5, S5.unsuite okX, r5, q5⟩
    | next => obtain ⟨σ5, H5, S5, q5⟩ := sp; exact ⟨σ5, H5, S5.unsuite okX, q5⟩
    | brk => obtain ⟨σ5, H5, S5, q5⟩ := sp; exact ⟨σ5, H5, S5.unsuite okX, q5⟩
    | cont => obtain ⟨σ5, H5, S5, q5⟩ := sp; exact ⟨σ5, H5, S5.unsuite okX, q5⟩
  have all : ∀ {es : List ExceptHandler} {ws : List (Value × Option Nat × Suite)}, Clauses X es ws → wAny X.K D ws cls d σ' H' → wpAny (model X.prog X.w) X.A (handleBy (.ref a) X.env es) (SP X pins D) X.xe sD := by
    intro es ws hk
    induction hk with
    | nil => exact fun wish => wish.elim
    | plain hc hsu r ih =>
      intro wish
      refine wpAny_handleBy_cons ?_ (by rintro ⟨⟩)
      rcases wish with ⟨m, go⟩ | ⟨m, wish⟩
      · refine D0.ask hf hc m (codeAny_handlers_suite (D0.again fun h4 D4 => ?_))
        obtain ⟨oe, vs, there, kind, fields, S⟩ := D4.suite hf
        exact wpAny_mono ((hsu a oe cls d (X.pn ++ pins) kind ⟨vs, fields⟩).run [] _ _ H' D S (go a new)) (fun f s5 sp => leave sp) (fun _ _ z => False.elim z)
      · exact D0.ask hf hc m (ih wish)
    | @named x n c i t b su np p hds2 l2 hc hi hln hsu r ih =>
      intro wish
      refine wpAny_handleBy_cons ?_ (by rintro ⟨⟩)
      rcases wish with ⟨m, go⟩ | ⟨m, wish⟩
      · refine D0.ask hf hc m (codeAny_handlers_suite_as (D0.again fun h4 D4 => ?_))
        obtain ⟨oe, vs, there, kind, fields, S⟩ := D4.suite hf
        refine @store_ok (X.suite a ((a, oe) :: (X.pn ++ pins))) _ _ _ _ _ _ _ i n (.ref a) _ _ S hN hi (.inl hln) rfl (fun s5 S5 => ?_) (.inr hln)
        refine wpAny_mono ((hsu a oe cls d (X.pn ++ pins) kind ⟨vs, fields⟩).run [] s5 _ H' _ S5 (go a new)) (fun f s6 sp => ?_) (fun _ _ z => False.elim z)
        have gone : ∀ {σ6 : L2.St} {H6 : Hp} {R : Shared → Prop}, L2.Inv (X.suite a ((a, oe) :: (X.pn ++ pins))) [] σ6 H6 s6 → (∀ s7, L2.Inv X pins (σ6.set i none) H6 s7 → R s7) →
            wpAny (model X.prog X.w) X.A (do bindName X.env n .none; unbindBehindTheSuite X.env n p) (fun _ s7 => R s7) X.xe s6 := fun S6 r => gone_ok (S6.unsuite okX) hN hi hln r
        cases f with
        | ret u => obtain ⟨v, σ6, H6, S6, r6, q6⟩ := sp; exact gone S6 fun s7 J7 => ⟨v, _, H6, J7, r6, q6⟩
        | next => obtain ⟨σ6, H6, S6, q6⟩ := sp; exact gone S6 fun s7 J7 => ⟨_, H6, J7, q6⟩
        | brk => obtain ⟨σ6, H6, S6, q6⟩ := sp; exact gone S6 fun s7 J7 => ⟨_, H6, J7, q6⟩
        | cont => obtain ⟨σ6, H6, S6, q6⟩ := sp; exact gone S6 fun s7 J7 => ⟨_, H6, J7, q6⟩
      · exact D0.ask hf hc m (ih wish)
  exact all hh wish
end
end Wk
/-! The mathematics of expressions whose words bind unlike: by calls of one's own (climbing), and by what waits (a pile). -/
namespace Gm
inductive R (α τ : Type) | ok (t : τ) (r : List α) | bad (r : List α) | out
/-- a language of expressions: how words bind (0: not at all), the two words ahead, what is made, what an operand is -/
structure L (α τ : Type) where
  lv : α → Nat
  no : α → Bool
  mi : α → Bool
  two : α → τ → τ → τ
  mkNo : τ → τ
  mkMi : τ → τ
  O : List α → R α τ
variable {α τ : Type} (G : L α τ)
def lvH : List α → Nat
  | [] => 0
  | w :: _ => G.lv w
def noH : List α → Bool
  | [] => false
  | w :: _ => G.no w
def minuses : List α → Nat × List α
  | [] => (0, [])
  | w :: r => if G.mi w = true then ((minuses r).1 + 1, (minuses r).2) else (0, w :: r)
def rep (f : τ → τ) : Nat → τ → τ
  | 0, t => t
  | n + 1, t => f (rep f n t)
/-- an operand with the minus signs ahead of it -/
def high (toks : List α) : R α τ := match G.O (minuses G toks).2 with
  | .ok t r => .ok (rep G.mkMi (minuses G toks).1 t) r
  | .bad b => .bad b
  | .out => .out
/-- whether the next word is taken here -/
def goes (least held l : Nat) : Bool := decide (l ≠ 0) && decide (least ≤ l) && decide ((if l = 4 then 5 else l) ≤ held)
mutual
def climb : Nat → Nat → List α → R α τ
  | 0, _, _ => .out
  | n + 1, least, toks =>
    if (noH G toks && decide (least ≤ 3)) = true then match climb n 3 toks.tail with
      | .ok t r => loop n least (G.mkNo t) 3 r
      | .bad b => .bad b
      | .out => .out
    else match high G toks with
      | .ok t r => loop n least t 7 r
      | .bad b => .bad b
      | .out => .out
def loop : Nat → Nat → τ → Nat → List α → R α τ
  | 0, _, _, _, _ => .out
  | n + 1, least, t, held, toks => match toks with
    | [] => .ok t []
    | w :: r => if goes least held (G.lv w) = true then match climb n (G.lv w + 1) r with
        | .ok u r' => loop n least (G.two w t u) (G.lv w) r'
        | .bad b => .bad b
        | .out => .out
      else .ok t (w :: r)
end
/-- behind a whole expression no word may stand that binds -/
def fin (t : τ) (toks : List α) : R α τ := if lvH G toks = 0 then .ok t toks else .bad toks
/-! what waits -/
inductive Fr (α τ : Type) | bin (w : α) (l : τ) | no
def cur : List (Fr α τ) → Nat
  | [] => 1
  | .bin w _ :: _ => G.lv w + 1
  | .no :: _ => 3
inductive Out (α τ : Type) | stop (x : R α τ) | cont (fs : List (Fr α τ)) (r : List α)
def settleW (w : α) (r : List α) : List (Fr α τ) → τ → Nat → Out α τ
  | [], t, held => if goes 1 held (G.lv w) = true then .cont [.bin w t] r else .stop (fin G t (w :: r))
  | .bin v l :: fs, t, held => if goes (G.lv v + 1) held (G.lv w) = true then .cont (.bin w t :: .bin v l :: fs) r else settleW w r fs (G.two v l t) (G.lv v)
  | .no :: fs, t, held => if goes 3 held (G.lv w) = true then .cont (.bin w t :: .no :: fs) r else settleW w r fs (G.mkNo t) 3
def settleE : List (Fr α τ) → τ → Out α τ
  | [], t => .stop (fin G t [])
  | .bin v l :: fs, t => settleE fs (G.two v l t)
  | .no :: fs, t => settleE fs (G.mkNo t)
def settle (toks : List α) (fs : List (Fr α τ)) (t : τ) (held : Nat) : Out α τ := match toks with
  | [] => settleE G fs t
  | w :: r => settleW G w r fs t held
def settleRet (toks : List α) (fs : List (Fr α τ)) (t : τ) : Out α τ := match fs with
  | [] => .stop (fin G t toks)
  | .bin w l :: fs' => settle G toks fs' (G.two w l t) (G.lv w)
  | .no :: fs' => settle G toks fs' (G.mkNo t) 3
theorem settle_cont {w : α} {r : List α} {fs : List (Fr α τ)} {t : τ} {held : Nat} (h : goes (cur G fs) held (G.lv w) = true) : settle G (w :: r) fs t held = .cont (.bin w t :: fs) r := by
  show settleW G w r fs t held = _
  cases fs with
  | nil => exact if_pos h
  | cons f fs => cases f <;> exact if_pos h
theorem settle_ret {toks : List α} {fs : List (Fr α τ)} {t : τ} {held : Nat} (h : goes (cur G fs) held (lvH G toks) = false) : settle G toks fs t held = settleRet G toks fs t := by
  have h' : ¬ goes (cur G fs) held (lvH G toks) = true := by rw [h]; exact Bool.false_ne_true
  cases toks with
  | nil =>
    cases fs with
    | nil => rfl
    | cons f fs => cases f <;> rfl
  | cons w r =>
    cases fs with
    | nil => exact if_neg h'
    | cons f fs => cases f <;> exact if_neg h'
def runL : Nat → List (Fr α τ) → List α → R α τ
  | 0, _, _ => .out
  | n + 1, fs, toks =>
    if (noH G toks && decide (cur G fs ≤ 3)) = true then runL n (.no :: fs) toks.tail
    else match high G toks with
      | .ok t r => match settle G r fs t 7 with
        | .stop x => x
        | .cont fs2 r4 => runL n fs2 r4
      | .bad b => .bad b
      | .out => .out
def go (n : Nat) : Out α τ → R α τ
  | .stop x => x
  | .cont fs r => runL G n fs r
theorem runL_no {n : Nat} {fs : List (Fr α τ)} {toks : List α} (h : (noH G toks && decide (cur G fs ≤ 3)) = true) : runL G (n + 1) fs toks = runL G n (.no :: fs) toks.tail := by
  rw [runL, if_pos h]
theorem runL_ok {n : Nat} {fs : List (Fr α τ)} {toks r : List α} {t : τ} (h : ¬ (noH G toks && decide (cur G fs ≤ 3)) = true) (e : high G toks = .ok t r) : runL G (n + 1) fs toks = go G n (settle G r fs t 7) := by
  rw [runL, if_neg h, e]
  dsimp only
  cases settle G r fs t 7 <;> rfl
theorem runL_bad {n : Nat} {fs : List (Fr α τ)} {toks b : List α} (h : ¬ (noH G toks && decide (cur G fs ≤ 3)) = true) (e : high G toks = .bad b) : runL G (n + 1) fs toks = .bad b := by
  rw [runL, if_neg h, e]
/-- climbing does what the pile does -/
theorem climb_run : ∀ (n : Nat),
    (∀ (fs : List (Fr α τ)) (toks : List α), (∀ t r, climb G n (cur G fs) toks = .ok t r → ∀ N, go G N (settleRet G r fs t) ≠ .out → ∃ N', runL G N' fs toks = go G N (settleRet G r fs t)) ∧
      (∀ b, climb G n (cur G fs) toks = .bad b → ∃ N', runL G N' fs toks = .bad b)) ∧
    (∀ (fs : List (Fr α τ)) (t : τ) (held : Nat) (toks : List α), (∀ t' r, loop G n (cur G fs) t held toks = .ok t' r → ∀ N, go G N (settleRet G r fs t') ≠ .out → ∃ N', go G N' (settle G toks fs t held) = go G N (settleRet G r fs t')) ∧
      (∀ b, loop G n (cur G fs) t held toks = .bad b → ∃ N', go G N' (settle G toks fs t held) = .bad b)) := by
  intro n
  induction n with
  | zero =>
    refine ⟨fun fs toks => ⟨fun t r e => ?_, fun b e => ?_⟩, fun fs t held toks => ⟨fun t r e => ?_, fun b e => ?_⟩⟩
    · rw [climb] at e; cases e
    · rw [climb] at e; cases e
    · rw [loop] at e; cases e
    · rw [loop] at e; cases e
  | succ n ih =>
    obtain ⟨ihA, ihB⟩ := ih
    constructor
    · intro fs toks
      by_cases hn : (noH G toks && decide (cur G fs ≤ 3)) = true
      · -- not
        have hA := ihA (.no :: fs) toks.tail
        constructor
        · intro t r e N hN
          rw [climb, if_pos hn] at e
          cases e1 : climb G n 3 toks.tail with
          | out => rw [e1] at e; cases e
          | bad b => rw [e1] at e; cases e
          | ok u r1 =>
            rw [e1] at e
            have e : loop G n (cur G fs) (G.mkNo u) 3 r1 = .ok t r := e
            obtain ⟨N1, h1⟩ := (ihB fs (G.mkNo u) 3 r1).1 t r e N hN
            have h2 : go G N1 (settleRet G r1 (.no :: fs) u) = go G N (settleRet G r fs t) := h1
            obtain ⟨N2, h3⟩ := hA.1 u r1 e1 N1 (by rw [h2]; exact hN)
            exact ⟨N2 + 1, by rw [runL_no G hn, h3, h2]⟩
        · intro b e
          rw [climb, if_pos hn] at e
          cases e1 : climb G n 3 toks.tail with
          | out => rw [e1] at e; cases e
          | bad b1 =>
            rw [e1] at e
            have e : R.bad (τ := τ) b1 = .bad b := e
            injection e with e
            subst e
            obtain ⟨N2, h3⟩ := hA.2 b1 e1
            exact ⟨N2 + 1, by rw [runL_no G hn, h3]⟩
          | ok u r1 =>
            rw [e1] at e
            have e : loop G n (cur G fs) (G.mkNo u) 3 r1 = .bad b := e
            obtain ⟨N1, h1⟩ := (ihB fs (G.mkNo u) 3 r1).2 b e
            have h2 : go G N1 (settleRet G r1 (.no :: fs) u) = .bad b := h1
            obtain ⟨N2, h3⟩ := hA.1 u r1 e1 N1 (by rw [h2]; intro z; cases z)
            exact ⟨N2 + 1, by rw [runL_no G hn, h3, h2]⟩
      · constructor
        · intro t r e N hN
          rw [climb, if_neg hn] at e
          cases e1 : high G toks with
          | out => rw [e1] at e; cases e
          | bad b => rw [e1] at e; cases e
          | ok u r1 =>
            rw [e1] at e
            have e : loop G n (cur G fs) u 7 r1 = .ok t r := e
            obtain ⟨N1, h1⟩ := (ihB fs u 7 r1).1 t r e N hN
            exact ⟨N1 + 1, by rw [runL_ok G hn e1, h1]⟩
        · intro b e
          rw [climb, if_neg hn] at e
          cases e1 : high G toks with
          | out => rw [e1] at e; cases e
          | bad b1 =>
            rw [e1] at e
            have e : R.bad (τ := τ) b1 = .bad b := e
            cases e
            exact ⟨1, runL_bad G hn e1⟩
          | ok u r1 =>
            rw [e1] at e
            have e : loop G n (cur G fs) u 7 r1 = .bad b := e
            obtain ⟨N1, h1⟩ := (ihB fs u 7 r1).2 b e
            exact ⟨N1 + 1, by rw [runL_ok G hn e1, h1]⟩
    · intro fs t held toks
      cases toks with
      | nil =>
        constructor
        · intro t' r e N hN
          rw [loop] at e
          cases e
          exact ⟨N, by rw [settle_ret G (by simp [goes, lvH])]⟩
        · intro b e
          rw [loop] at e
          cases e
      | cons w r0 =>
        by_cases hg : goes (cur G fs) held (G.lv w) = true
        · have hA := ihA (.bin w t :: fs) r0
          constructor
          · intro t' r e N hN
            rw [loop] at e
            rw [if_pos hg] at e
            cases e1 : climb G n (G.lv w + 1) r0 with
            | out => rw [e1] at e; cases e
            | bad b => rw [e1] at e; cases e
            | ok u r1 =>
              rw [e1] at e
              have e : loop G n (cur G fs) (G.two w t u) (G.lv w) r1 = .ok t' r := e
              obtain ⟨N1, h1⟩ := (ihB fs (G.two w t u) (G.lv w) r1).1 t' r e N hN
              have h2 : go G N1 (settleRet G r1 (.bin w t :: fs) u) = go G N (settleRet G r fs t') := h1
              obtain ⟨N2, h3⟩ := hA.1 u r1 e1 N1 (by rw [h2]; exact hN)
              exact ⟨N2, by rw [settle_cont G hg]; exact h3.trans h2⟩
          · intro b e
            rw [loop] at e
            rw [if_pos hg] at e
            cases e1 : climb G n (G.lv w + 1) r0 with
            | out => rw [e1] at e; cases e
            | bad b1 =>
              rw [e1] at e
              have e : R.bad (τ := τ) b1 = .bad b := e
              injection e with e
              subst e
              obtain ⟨N2, h3⟩ := hA.2 b1 e1
              exact ⟨N2, by rw [settle_cont G hg]; exact h3⟩
            | ok u r1 =>
              rw [e1] at e
              have e : loop G n (cur G fs) (G.two w t u) (G.lv w) r1 = .bad b := e
              obtain ⟨N1, h1⟩ := (ihB fs (G.two w t u) (G.lv w) r1).2 b e
              have h2 : go G N1 (settleRet G r1 (.bin w t :: fs) u) = .bad b := h1
              obtain ⟨N2, h3⟩ := hA.1 u r1 e1 N1 (by rw [h2]; intro z; cases z)
              exact ⟨N2, by rw [settle_cont G hg]; exact h3.trans h2⟩
        · have hg' : goes (cur G fs) held (G.lv w) = false := by cases h : goes (cur G fs) held (G.lv w) with
            | true => exact absurd h hg
            | false => rfl
          constructor
          · intro t' r e N hN
            rw [loop] at e
            rw [if_neg hg] at e
            cases e
            exact ⟨N, by rw [settle_ret G (toks := w :: r0) hg']⟩
          · intro b e
            rw [loop] at e
            rw [if_neg hg] at e
            cases e
/-! ### the pile, as it is bound at once -/
def lvF : Fr α τ → Nat
  | .bin w _ => G.lv w
  | .no => 3
def put : Fr α τ → τ → τ
  | .bin w l, t => G.two w l t
  | .no, t => G.mkNo t
def Good : List (Fr α τ) → Prop
  | [] => True
  | .bin w _ :: fs => 1 ≤ G.lv w ∧ G.lv w ≤ 6 ∧ G.lv w ≠ 3 ∧ cur G fs ≤ G.lv w ∧ Good fs
  | .no :: fs => cur G fs ≤ 3 ∧ Good fs
def pop (l : Nat) : List (Fr α τ) → τ → List (Fr α τ) × τ
  | [], t => ([], t)
  | f :: fs, t => if l ≤ lvF G f then pop l fs (put G f t) else (f :: fs, t)
def settleP (toks : List α) (fs : List (Fr α τ)) (t : τ) : Out α τ :=
  if lvH G toks = 4 ∧ 4 ∈ fs.map (lvF G) then .stop (.bad toks)
  else if lvH G toks = 0 then .stop (.ok (pop G 0 fs t).2 toks)
  else match toks with
    | [] => .stop .out
    | w :: r => .cont (.bin w (pop G (G.lv w) fs t).2 :: (pop G (G.lv w) fs t).1) r
theorem goes_iff {least held l : Nat} : goes least held l = true ↔ l ≠ 0 ∧ least ≤ l ∧ (if l = 4 then 5 else l) ≤ held := by
  unfold goes
  simp only [Bool.and_eq_true, decide_eq_true_eq, and_assoc]
theorem pop0 : ∀ (fs : List (Fr α τ)) (t : τ), pop G 0 fs t = ([], fs.foldl (fun x f => put G f x) t)
  | [], _ => rfl
  | f :: fs, t => by
    rw [pop, if_pos (Nat.zero_le _), pop0 fs]; rfl
theorem lvs_le : ∀ {fs : List (Fr α τ)}, Good G fs → ∀ x ∈ fs.map (lvF G), x ≤ cur G fs
  | [], _, x, hx => by cases hx
  | .bin w l :: fs, ⟨_, _, _, h4, h5⟩, x, hx => by
    rw [List.map_cons] at hx
    rcases List.mem_cons.mp hx with rfl | hx
    · exact Nat.le_succ _
    · exact Nat.le_trans (lvs_le h5 x hx) (Nat.le_trans h4 (Nat.le_succ _))
  | .no :: fs, ⟨h4, h5⟩, x, hx => by
    rw [List.map_cons] at hx
    rcases List.mem_cons.mp hx with rfl | hx
    · exact Nat.le_refl _
    · exact Nat.le_trans (lvs_le h5 x hx) h4
theorem settle_A {w : α} {r : List α} (hw : G.lv w ≠ 0) (hw3 : G.lv w ≠ 3) : ∀ (fs : List (Fr α τ)) (t : τ) (held : Nat), Good G fs → G.lv w ≤ held → (G.lv w = 4 → 5 ≤ held) → ¬ (G.lv w = 4 ∧ 4 ∈ fs.map (lvF G)) →
    settleW G w r fs t held = .cont (.bin w (pop G (G.lv w) fs t).2 :: (pop G (G.lv w) fs t).1) r
  | [], t, held, _, h1, h2, _ => by
    rw [settleW, if_pos (goes_iff.mpr ⟨hw, by omega, by split <;> omega⟩)]; rfl
  | .bin v l :: fs, t, held, hg, h1, h2, h3 => by
    rw [settleW, pop]
    by_cases hl : G.lv v + 1 ≤ G.lv w
    · rw [if_pos (goes_iff.mpr ⟨hw, hl, by split <;> omega⟩), if_neg (show ¬ G.lv w ≤ lvF G (.bin v l) by show ¬ G.lv w ≤ G.lv v; omega)]
    · have hv : ¬ (G.lv w = 4 ∧ G.lv v = 4) := fun ⟨a, b⟩ => h3 ⟨a, by rw [List.map_cons]; exact List.mem_cons.mpr (.inl b.symm)⟩
      rw [if_neg (fun z => hl (goes_iff.mp z).2.1), if_pos (show G.lv w ≤ lvF G (.bin v l) by show G.lv w ≤ G.lv v; omega)]
      exact settle_A hw hw3 fs _ _ hg.2.2.2.2 (by omega) (by omega) (fun ⟨a, b⟩ => h3 ⟨a, by rw [List.map_cons]; exact List.mem_cons.mpr (.inr b)⟩)
  | .no :: fs, t, held, hg, h1, h2, h3 => by
    rw [settleW, pop]
    by_cases hl : 3 ≤ G.lv w
    · rw [if_pos (goes_iff.mpr ⟨hw, hl, by split <;> omega⟩), if_neg (show ¬ G.lv w ≤ lvF G (.no : Fr α τ) by show ¬ G.lv w ≤ 3; omega)]
    · rw [if_neg (fun z => hl (goes_iff.mp z).2.1), if_pos (show G.lv w ≤ lvF G (.no : Fr α τ) by show G.lv w ≤ 3; omega)]
      exact settle_A hw hw3 fs _ _ hg.2 (by omega) (by omega) (fun ⟨a, b⟩ => h3 ⟨a, by rw [List.map_cons]; exact List.mem_cons.mpr (.inr b)⟩)
theorem settle_B {w : α} {r : List α} (hw : G.lv w = 0) : ∀ (fs : List (Fr α τ)) (t : τ) (held : Nat), settleW G w r fs t held = .stop (.ok (pop G 0 fs t).2 (w :: r))
  | [], t, held => by
    rw [settleW, if_neg (fun z => (goes_iff.mp z).1 hw), fin, if_pos (show lvH G (w :: r) = 0 from hw)]; rfl
  | .bin v l :: fs, t, held => by
    rw [settleW, if_neg (fun z => (goes_iff.mp z).1 hw), settle_B hw fs, pop, if_pos (Nat.zero_le _)]; rfl
  | .no :: fs, t, held => by
    rw [settleW, if_neg (fun z => (goes_iff.mp z).1 hw), settle_B hw fs, pop, if_pos (Nat.zero_le _)]; rfl
theorem settle_E : ∀ (fs : List (Fr α τ)) (t : τ), settleE G fs t = .stop (.ok (pop G 0 fs t).2 [])
  | [], t => rfl
  | .bin v l :: fs, t => by rw [settleE, settle_E fs, pop, if_pos (Nat.zero_le _)]; rfl
  | .no :: fs, t => by rw [settleE, settle_E fs, pop, if_pos (Nat.zero_le _)]; rfl
theorem settle_C1 {w : α} {r : List α} (hw : G.lv w = 4) : ∀ (fs : List (Fr α τ)) (t : τ) (held : Nat), (∀ x ∈ fs.map (lvF G), x ≤ 4) → held ≤ 4 → settleW G w r fs t held = .stop (.bad (w :: r))
  | [], t, held, _, h => by
    rw [settleW, if_neg (fun z => by have := (goes_iff.mp z).2.2; rw [if_pos hw] at this; omega), fin, if_neg (show ¬ lvH G (w :: r) = 0 by show ¬ G.lv w = 0; omega)]
  | .bin v l :: fs, t, held, hx, h => by
    rw [settleW, if_neg (fun z => by have := (goes_iff.mp z).2.2; rw [if_pos hw] at this; omega)]
    exact settle_C1 hw fs _ _ (fun x h' => hx x (by rw [List.map_cons]; exact List.mem_cons.mpr (.inr h'))) (hx _ (by rw [List.map_cons]; exact List.mem_cons.mpr (.inl rfl)))
  | .no :: fs, t, held, hx, h => by
    rw [settleW, if_neg (fun z => by have := (goes_iff.mp z).2.2; rw [if_pos hw] at this; omega)]
    exact settle_C1 hw fs _ _ (fun x h' => hx x (by rw [List.map_cons]; exact List.mem_cons.mpr (.inr h'))) (by omega)
theorem settle_C2 {w : α} {r : List α} (hw : G.lv w = 4) : ∀ (fs : List (Fr α τ)) (t : τ) (held : Nat), Good G fs → 4 ∈ fs.map (lvF G) → settleW G w r fs t held = .stop (.bad (w :: r))
  | [], t, held, _, h => by cases h
  | .bin v l :: fs, t, held, hg, h => by
    rw [List.map_cons] at h
    by_cases hv : G.lv v = 4
    · rw [settleW, if_neg (fun z => by have := (goes_iff.mp z).2.1; omega)]
      exact settle_C1 G hw fs _ _ (fun x hx => Nat.le_trans (lvs_le G hg.2.2.2.2 x hx) (by have := hg.2.2.2.1; omega)) (by omega)
    · have h4 : 4 ∈ fs.map (lvF G) := by
        rcases List.mem_cons.mp h with e | e
        · exact absurd e.symm hv
        · exact e
      have := lvs_le G hg.2.2.2.2 4 h4
      rw [settleW, if_neg (fun z => by have h1 := (goes_iff.mp z).2.1; have h2 := hg.2.2.2.1; omega)]
      exact settle_C2 hw fs _ _ hg.2.2.2.2 h4
  | .no :: fs, t, held, hg, h => by
    rw [List.map_cons] at h
    have h4 : 4 ∈ fs.map (lvF G) := by
      rcases List.mem_cons.mp h with e | e
      · exact absurd e (by show ¬ 4 = 3; omega)
      · exact e
    have h1 := lvs_le G hg.2 4 h4
    have h2 := hg.1
    omega
/-- how words may bind -/
def Levels : Prop := ∀ w, G.lv w ≤ 6 ∧ G.lv w ≠ 3
theorem settle_P (hl : Levels G) {toks : List α} {fs : List (Fr α τ)} {t : τ} (hg : Good G fs) : settle G toks fs t 7 = settleP G toks fs t := by
  unfold settleP
  cases toks with
  | nil =>
    rw [if_neg (fun z => by have : (0 : Nat) = 4 := z.1; omega), if_pos (show lvH G [] = 0 from rfl)]
    exact settle_E G fs t
  | cons w r =>
    show settleW G w r fs t 7 = _
    have h6 := hl w
    by_cases hc : G.lv w = 4 ∧ 4 ∈ fs.map (lvF G)
    · rw [if_pos (show lvH G (w :: r) = 4 ∧ _ from hc)]
      exact settle_C2 G hc.1 fs t 7 hg hc.2
    · rw [if_neg (show ¬ (lvH G (w :: r) = 4 ∧ _) from hc)]
      by_cases h0 : G.lv w = 0
      · rw [if_pos (show lvH G (w :: r) = 0 from h0)]
        exact settle_B G h0 fs t 7
      · rw [if_neg (show ¬ lvH G (w :: r) = 0 from h0)]
        exact settle_A G h0 h6.2 fs t 7 hg (by omega) (by omega) hc
theorem pop_good {l : Nat} : ∀ {fs : List (Fr α τ)} {t : τ}, Good G fs → Good G (pop G l fs t).1 ∧ (1 ≤ l → cur G (pop G l fs t).1 ≤ l)
  | [], t, h => ⟨h, fun h1 => h1⟩
  | .bin v u :: fs, t, h => by
    rw [pop]
    by_cases hl : l ≤ G.lv v
    · rw [if_pos (show l ≤ lvF G (.bin v u) from hl)]; exact pop_good h.2.2.2.2
    · rw [if_neg (show ¬ l ≤ lvF G (.bin v u) from hl)]
      exact ⟨h, fun _ => by show G.lv v + 1 ≤ l; omega⟩
  | .no :: fs, t, h => by
    rw [pop]
    by_cases hl : l ≤ 3
    · rw [if_pos (show l ≤ lvF G (.no : Fr α τ) from hl)]; exact pop_good h.2
    · rw [if_neg (show ¬ l ≤ lvF G (.no : Fr α τ) from hl)]
      exact ⟨h, fun _ => by show 3 ≤ l; omega⟩
/-- one word ahead, or one operand and the words that it binds -/
def runP : Nat → List (Fr α τ) → List α → R α τ
  | 0, _, _ => .out
  | n + 1, fs, toks =>
    if (noH G toks && decide (cur G fs ≤ 3)) = true then runP n (.no :: fs) toks.tail
    else match high G toks with
      | .ok t r => match settleP G r fs t with
        | .stop x => x
        | .cont fs2 r4 => runP n fs2 r4
      | .bad b => .bad b
      | .out => .out
theorem runP_L (hl : Levels G) : ∀ (n : Nat) (fs : List (Fr α τ)) (toks : List α), Good G fs → runP G n fs toks = runL G n fs toks
  | 0, _, _, _ => rfl
  | n + 1, fs, toks, hg => by
    rw [runP, runL]
    by_cases hn : (noH G toks && decide (cur G fs ≤ 3)) = true
    · rw [if_pos hn, if_pos hn]
      exact runP_L hl n _ _ ⟨by rw [Bool.and_eq_true] at hn; exact of_decide_eq_true hn.2, hg⟩
    · rw [if_neg hn, if_neg hn]
      cases high G toks with
      | out => rfl
      | bad b => rfl
      | ok t r =>
        dsimp only
        rw [settle_P G hl hg]
        cases e : settleP G r fs t with
        | stop x => rfl
        | cont fs2 r4 =>
          refine runP_L hl n fs2 r4 ?_
          unfold settleP at e
          split at e
          · cases e
          · split at e
            · cases e
            · cases r with
              | nil => cases e
              | cons w r =>
                rename_i h0
                have h0 : ¬ G.lv w = 0 := h0
                have hw := hl w
                have pg := pop_good G (l := G.lv w) (t := t) hg
                cases e
                exact ⟨by omega, hw.1, hw.2, pg.2 (by omega), pg.1⟩
/-- the two ways tell the same -/
theorem same_told (hl : Levels G) {n : Nat} {toks : List α} : (∀ t r, climb G n 1 toks = .ok t r → ∃ N, runP G N [] toks = fin G t r) ∧ (∀ b, climb G n 1 toks = .bad b → ∃ N, runP G N [] toks = .bad b) := by
  have h := (climb_run G n).1 [] toks
  constructor
  · intro t r e
    obtain ⟨N, h1⟩ := h.1 t r e 0 (by show fin G t r ≠ .out; unfold fin; split <;> (intro z; cases z))
    exact ⟨N, by rw [runP_L G hl N [] toks trivial, h1]; rfl⟩
  · intro b e
    obtain ⟨N, h1⟩ := h.2 b e
    exact ⟨N, by rw [runP_L G hl N [] toks trivial, h1]⟩
end Gm
/-! The grammar of programs over their words, by how many brackets may still be opened. -/
namespace Gr
open Wk Gm
/-- what is told: texts, whole numbers, nothing, tuples -/
inductive Tr | s (l : List Nat) | n (k : Nat) | z | t (ts : List Tr)
abbrev P (σ : Type) := List Tk → R Tk σ
def bind {σ ρ : Type} (x : R Tk σ) (f : σ → P ρ) : R Tk ρ := match x with
  | .ok a r => f a r
  | .bad r => .bad r
  | .out => .out
def w (x : String) : Tr := .s (codes x)
/-- a key or a mark, by its word -/
def isW (x : String) (t : Tk) : Bool := (decide (t.so = .key) || decide (t.so = .mark)) && decide (t.wd = .s (codes x))
def hd (x : String) : List Tk → Bool
  | [] => false
  | t :: _ => isW x t
def wdT : Wd → Tr
  | .s l => .s l
  | .n k => .n k
def want (x : String) : P Unit
  | [] => .bad []
  | t :: r => if isW x t = true then .ok () r else .bad (t :: r)
def named : P Tr
  | [] => .bad []
  | t :: r => if t.so = .name then .ok (wdT t.wd) r else .bad (t :: r)
/-- the parsers behind an open bracket -/
structure In where
  E : P Tr
  S : P Tr
def opn {σ : Type} (p : Option In) (x : String) (k : In → P σ) : P σ
  | [] => .bad []
  | t :: r => if isW x t = true then (match p with
      | none => .bad (t :: r)
      | some q => k q r) else .bad (t :: r)
def many (X : P Tr) : Nat → List Tr → P (List Tr)
  | 0, _, _ => .out
  | n + 1, acc, toks => bind (X toks) fun t r => if hd "," r = true then many X n (acc ++ [t]) r.tail else .ok (acc ++ [t]) r
def listed (X : P Tr) (close : String) : P (List Tr) := fun toks =>
  if hd close toks = true then .ok [] toks.tail
  else bind (many X (toks.length + 1) [] toks) fun ts r => bind (want close r) fun _ r => .ok ts r
def stmts (S : P Tr) : Nat → List Tr → P (List Tr)
  | 0, _, _ => .out
  | n + 1, acc, toks => if hd "}" toks = true then .ok acc toks.tail else bind (S toks) fun t r => stmts S n (acc ++ [t]) r
def block (p : Option In) : P Tr := opn p "{" fun q r => bind (stmts q.S (r.length + 1) [] r) fun ts r => .ok (.t ts) r
def params (p : Option In) : P Tr := opn p "(" fun _ r => bind (listed named ")" r) fun ts r => .ok (.t ts) r
def args (p : Option In) : P Tr := opn p "(" fun q r => bind (listed q.E ")" r) fun ts r => .ok (.t ts) r
def askedS : List String := ["len", "weak", "worth", "number", "spawn", "join"]
def aloneS : List String := ["true", "false", "nil", "this"]
def is1 (xs : List String) (t : Tk) : Bool := xs.any fun x => isW x t
def soW : So → String
  | .name => "name" | .key => "key" | .number => "number" | .text => "text" | .mark => "mark"
def first (p : Option In) : P Tr
  | [] => .bad []
  | t :: r =>
    if t.so = .number ∨ t.so = .text ∨ t.so = .name then .ok (.t [w (soW t.so), wdT t.wd]) r
    else if is1 aloneS t = true then .ok (.t [wdT t.wd]) r
    else if isW "(" t = true then opn p "(" (fun q r => bind (q.E r) fun e r => bind (want ")" r) fun _ r => .ok e r) (t :: r)
    else if is1 askedS t = true then opn p "(" (fun q r => bind (q.E r) fun e r => bind (want ")" r) fun _ r => .ok (.t [w "ask", wdT t.wd, .t [e]]) r) r
    else if isW "[" t = true then opn p "[" (fun q r => bind (listed q.E "]" r) fun ts r => .ok (.t [w "list", .t ts]) r) (t :: r)
    else if isW "fun" t = true then bind (params p r) fun ps r => bind (block p r) fun b r => .ok (.t [w "fun", ps, b]) r
    else if isW "super" t = true then bind (want "." r) fun _ r => bind (named r) fun n r => bind (args p r) fun a r => .ok (.t [w "up", n, a]) r
    else if isW "new" t = true then bind (named r) fun n r => bind (args p r) fun a r => .ok (.t [w "new", n, a]) r
    else if isW "yield" t = true then opn p "(" (fun _ r => bind (want ")" r) fun _ r => .ok (.t [w "ask", w "yield", .t []]) r) r
    else .bad (t :: r)
def post (p : Option In) : Nat → Tr → P Tr
  | 0, _, _ => .out
  | n + 1, t, toks =>
    if hd "(" toks = true then bind (args p toks) fun a r => post p n (.t [w "call", t, a]) r
    else if hd "[" toks = true then bind (opn p "[" (fun q r => bind (q.E r) fun e r => bind (want "]" r) fun _ r => .ok e r) toks) fun e r => post p n (.t [w "item", t, e]) r
    else if hd "." toks = true then bind (named toks.tail) fun m r =>
      if hd "(" r = true then bind (args p r) fun a r => post p n (.t [w "send", t, m, a]) r else post p n (.t [w "field", t, m]) r
    else .ok t toks
def opd (p : Option In) : P Tr := fun toks => bind (first p toks) fun t r => post p (r.length + 1) t r
def levelS : List (String × Nat) := [("or", 1), ("and", 2), ("==", 4), ("!=", 4), ("<", 4), ("<=", 4), (">", 4), (">=", 4), ("+", 5), ("-", 5), ("*", 6), ("/", 6), ("mod", 6)]
def level (t : Tk) : Nat := ((levelS.find? fun q => isW q.1 t).map Prod.snd).getD 0
def G (p : Option In) : L Tk Tr := ⟨level, isW "not", isW "-", fun t a b => .t [wdT t.wd, a, b], fun a => .t [w "not", a], fun a => .t [w "minus", a], opd p⟩
def expr (p : Option In) : P Tr := fun toks => bind (climb (G p) (3 * toks.length + 3) 1 toks) fun t r => fin (G p) t r
def place : Tr → Bool
  | .t (.s l :: _) => decide (l = codes "name") || decide (l = codes "field") || decide (l = codes "item")
  | _ => false
def stmt (p : Option In) : P Tr
  | [] => .bad []
  | t :: r =>
    let E := expr p
    if is1 ["break", "continue"] t = true then bind (want ";" r) fun _ r => .ok (.t [wdT t.wd]) r
    else if isW "var" t = true then bind (named r) fun n r => bind (want "=" r) fun _ r => bind (E r) fun e r => bind (want ";" r) fun _ r => .ok (.t [w "var", n, e]) r
    else if is1 ["return", "throw", "say"] t = true then bind (E r) fun e r => bind (want ";" r) fun _ r => .ok (.t [wdT t.wd, e]) r
    else if isW "try" t = true then bind (block p r) fun b r => bind (want "catch" r) fun _ r => bind (named r) fun n r => bind (block p r) fun c r => .ok (.t [w "try", b, n, c]) r
    else if isW "while" t = true then bind (E r) fun e r => bind (block p r) fun b r => .ok (.t [w "while", e, b]) r
    else if isW "if" t = true then bind (E r) fun e r => bind (block p r) fun b r =>
      if hd "else" r = true then bind (block p r.tail) fun c r => .ok (.t [w "if", e, b, c]) r else .ok (.t [w "if", e, b, .t []]) r
    else bind (E (t :: r)) fun e r' =>
      if hd "=" r' && place e then bind (E r'.tail) fun u r => bind (want ";" r) fun _ r => .ok (.t [w "set", e, u]) r
      else bind (want ";" r') fun _ r => .ok (.t [w "do", e]) r
def mk (p : Option In) : In := ⟨expr p, stmt p⟩
/-- d brackets may still be opened -/
def inn : Nat → Option In
  | 0 => none
  | d + 1 => some (mk (inn d))
def fields : Nat → List Tr → P (List Tr)
  | 0, _, _ => .out
  | n + 1, acc, toks => match toks with
    | t :: u :: r => if t.so = .name ∧ isW ";" u = true then fields n (acc ++ [wdT t.wd]) r else .ok acc toks
    | _ => .ok acc toks
def methods (p : Option In) : Nat → List Tr → P (List Tr)
  | 0, _, _ => .out
  | n + 1, acc, toks => match toks with
    | t :: r => if t.so = .name then bind (params p r) fun ps r => bind (block p r) fun b r => methods p n (acc ++ [.t [wdT t.wd, ps, b]]) r else .ok acc toks
    | [] => .ok acc []
/-- behind «class» -/
def classB (d : Nat) : P Tr := fun r => bind (named r) fun n r =>
  bind (if hd "of" r = true then named r.tail else .ok .z r) fun e r =>
  opn (inn d) "{" (fun _ r => bind (fields (r.length + 1) [] r) fun fs r => bind (methods (inn (d - 1)) (r.length + 1) [] r) fun ms r =>
    bind (want "}" r) fun _ r => .ok (.t [w "class", n, e, .t fs, .t ms]) r) r
def item (d : Nat) : P Tr
  | [] => .bad []
  | t :: r =>
    if isW "class" t = true then classB d r
    else match r with
      | u :: r' => if isW "fun" t = true ∧ u.so = .name then bind (params (inn d) r') fun ps r => bind (block (inn d) r) fun b r => .ok (.t [w "function", wdT u.wd, ps, b]) r
        else stmt (inn d) (t :: r)
      | [] => stmt (inn d) [t]
def items (d : Nat) : Nat → List Tr → P (List Tr)
  | 0, _, _ => .out
  | n + 1, acc, toks => if toks.isEmpty = true then .ok acc [] else bind (item d toks) fun t r => items d n (acc ++ [t]) r
/-- a whole program -/
def prog (toks : List Tk) : R Tk (List Tr) := items 60 (toks.length + 1) [] toks
end Gr
/-! Parsers end, and leave a rest of what they were given. -/
namespace Gr
open Wk Gm
def Gd {σ : Type} (s : Bool) (toks : List Tk) (x : R Tk σ) : Prop := match x with
  | .ok _ r => r <:+ toks ∧ (s = true → r.length < toks.length)
  | .bad r => r <:+ toks
  | .out => False
theorem Gd.weak {σ : Type} {toks : List Tk} {x : R Tk σ} {s : Bool} (h : Gd true toks x) : Gd s toks x := by
  cases x with
  | ok a r => exact ⟨h.1, fun _ => h.2 rfl⟩
  | bad r => exact h
  | out => exact h
theorem Gd.bind {σ ρ : Type} {toks : List Tk} {x : R Tk σ} {f : σ → P ρ} {s1 s2 s : Bool} (h : Gd s1 toks x) (hf : ∀ a r, x = .ok a r → r <:+ toks → (s1 = true → r.length < toks.length) → Gd s2 r (f a r)) (hs : s = true → s1 = true ∨ s2 = true) : Gd s toks (bind x f) := by
  cases x with
  | out => exact h.elim
  | bad r => exact h
  | ok a r =>
    have h2 := hf a r rfl h.1 h.2
    show Gd s toks (f a r)
    cases e : f a r with
    | out => rw [e] at h2; exact h2.elim
    | bad r' => rw [e] at h2; exact List.IsSuffix.trans h2 h.1
    | ok b r' =>
      rw [e] at h2
      refine ⟨List.IsSuffix.trans h2.1 h.1, fun z => ?_⟩
      have l1 := List.IsSuffix.length_le h.1
      have l2 := List.IsSuffix.length_le h2.1
      rcases hs z with z | z
      · have := h.2 z; omega
      · have := h2.2 z; omega
/-- what stands further on, seen from further ahead -/
theorem Gd.up {σ : Type} {toks r : List Tk} {x : R Tk σ} {s s' : Bool} (h : Gd s r x) (hr : r <:+ toks) (hs : s' = true → s = true ∨ r.length < toks.length) : Gd s' toks x := by
  have l1 := List.IsSuffix.length_le hr
  cases x with
  | out => exact h.elim
  | bad b => exact List.IsSuffix.trans h hr
  | ok a b =>
    refine ⟨List.IsSuffix.trans h.1 hr, fun z => ?_⟩
    have l2 := List.IsSuffix.length_le h.1
    rcases hs z with z | z
    · have := h.2 z; omega
    · omega
theorem gd_ok {σ : Type} {a : σ} {r : List Tk} : Gd false r (.ok a r) := ⟨List.suffix_rfl, fun z => by cases z⟩
theorem tail_suf {t : Tk} {r : List Tk} : r <:+ t :: r := List.suffix_cons t r
theorem gd_tail {σ : Type} {a : σ} {t : Tk} {r : List Tk} : Gd true (t :: r) (.ok a r) := ⟨tail_suf, fun _ => Nat.lt_succ_self _⟩
theorem gd_bad {σ : Type} {s : Bool} {r : List Tk} : Gd (σ := σ) s r (.bad r) := List.suffix_rfl
theorem gd_want (x : String) : ∀ toks, Gd true toks (want x toks)
  | [] => gd_bad
  | t :: r => by
    rw [want]
    split
    · exact gd_tail
    · exact gd_bad
theorem gd_named : ∀ toks, Gd true toks (named toks)
  | [] => gd_bad
  | t :: r => by
    rw [named]
    split
    · exact gd_tail
    · exact gd_bad
def InOk (p : Option In) : Prop := ∀ q, p = some q → (∀ toks, Gd true toks (q.E toks)) ∧ (∀ toks, Gd true toks (q.S toks))
theorem gd_opn {σ : Type} {p : Option In} {x : String} {k : In → P σ} (h : ∀ q, p = some q → ∀ r, Gd false r (k q r)) : ∀ toks, Gd true toks (opn p x k toks)
  | [] => gd_bad
  | t :: r => by
    rw [opn.eq_def]
    dsimp only
    split
    · cases p with
      | none => exact gd_bad
      | some q => exact (h q rfl r).up tail_suf fun _ => .inr (Nat.lt_succ_self _)
    · exact gd_bad
theorem hd_tail {x : String} {r : List Tk} (h : hd x r = true) : r.tail <:+ r ∧ r.tail.length < r.length := by
  cases r with
  | nil => cases h
  | cons t r => exact ⟨tail_suf, Nat.lt_succ_self _⟩
theorem gd_many {X : P Tr} (hX : ∀ toks, Gd true toks (X toks)) : ∀ (n : Nat) (acc : List Tr) (toks : List Tk), toks.length < n → Gd true toks (many X n acc toks)
  | 0, _, _, h => by omega
  | n + 1, acc, toks, h => by
    unfold many
    refine (hX toks).bind (s2 := false) (fun t r _ hr hl => ?_) (fun _ => .inl rfl)
    have := hl rfl
    split
    · rename_i hh
      have ht := hd_tail hh
      exact (gd_many hX n _ r.tail (by omega)).up ht.1 (fun z => by cases z)
    · exact gd_ok
theorem gd_listed {X : P Tr} {c : String} (hX : ∀ toks, Gd true toks (X toks)) (toks : List Tk) : Gd true toks (listed X c toks) := by
  unfold listed
  split
  · rename_i hh
    have ht := hd_tail hh
    exact ⟨ht.1, fun _ => ht.2⟩
  · exact (gd_many hX _ _ _ (Nat.lt_succ_self _)).bind (s2 := true) (fun ts r _ _ _ => (gd_want c r).bind (s2 := false) (fun _ r _ _ _ => gd_ok) (fun _ => .inl rfl)) (fun _ => .inl rfl)
theorem gd_stmts {S : P Tr} (hS : ∀ toks, Gd true toks (S toks)) : ∀ (n : Nat) (acc : List Tr) (toks : List Tk), toks.length < n → Gd true toks (stmts S n acc toks)
  | 0, _, _, h => by omega
  | n + 1, acc, toks, h => by
    unfold stmts
    split
    · rename_i hh
      have ht := hd_tail hh
      exact ⟨ht.1, fun _ => ht.2⟩
    · refine (hS toks).bind (s2 := true) (fun t r _ hr hl => ?_) (fun _ => .inl rfl)
      have := hl rfl
      exact gd_stmts hS n _ r (by omega)
section
variable {p : Option In} (hp : InOk p)
include hp
theorem gd_block : ∀ toks, Gd true toks (block p toks) :=
  gd_opn fun q e r => (gd_stmts (hp q e).2 _ _ _ (Nat.lt_succ_self _)).bind (s2 := false) (fun _ _ _ _ _ => gd_ok) (fun z => by cases z)
omit hp in
theorem gd_params : ∀ toks, Gd true toks (params p toks) :=
  gd_opn fun q e r => (gd_listed gd_named r).bind (s2 := false) (fun _ _ _ _ _ => gd_ok) (fun z => by cases z)
theorem gd_args : ∀ toks, Gd true toks (args p toks) :=
  gd_opn fun q e r => (gd_listed (hp q e).1 r).bind (s2 := false) (fun _ _ _ _ _ => gd_ok) (fun z => by cases z)
theorem gd_one {x y : String} {f : Tr → Tr} : ∀ toks, Gd true toks (opn p x (fun q r => bind (q.E r) fun e r => bind (want y r) fun _ r => .ok (f e) r) toks) :=
  gd_opn fun q e r => ((hp q e).1 r).bind (s2 := true) (fun _ r _ _ _ => (gd_want y r).bind (s2 := false) (fun _ _ _ _ _ => gd_ok) (fun _ => .inl rfl)) (fun z => by cases z)
theorem gd_first : ∀ toks, Gd true toks (first p toks)
  | [] => gd_bad
  | t :: r => by
    have on : ∀ {σ : Type} {x : R Tk σ} {s : Bool}, Gd s r x → Gd true (t :: r) x := fun h => h.up tail_suf fun _ => .inr (Nat.lt_succ_self _)
    rw [first]
    repeat' split
    · exact gd_tail
    · exact gd_tail
    · exact gd_one hp (f := id) _
    · exact on (gd_one hp (f := fun e => .t [w "ask", wdT t.wd, .t [e]]) r)
    · exact gd_opn (fun q e r => (gd_listed (hp q e).1 r).bind (s2 := false) (fun _ _ _ _ _ => gd_ok) (fun z => by cases z)) _
    · exact on ((gd_params r).bind (s2 := true) (s := true) (fun _ r _ _ _ => (gd_block hp r).bind (s2 := false) (fun _ _ _ _ _ => gd_ok) (fun _ => .inl rfl)) (fun _ => .inl rfl))
    · exact on ((gd_want "." r).bind (s2 := true) (s := true) (fun _ r _ _ _ => (gd_named r).bind (s2 := true) (fun _ r _ _ _ => (gd_args hp r).bind (s2 := false) (fun _ _ _ _ _ => gd_ok) (fun _ => .inl rfl)) (fun _ => .inl rfl)) (fun _ => .inl rfl))
    · exact on ((gd_named r).bind (s2 := true) (s := true) (fun _ r _ _ _ => (gd_args hp r).bind (s2 := false) (fun _ _ _ _ _ => gd_ok) (fun _ => .inl rfl)) (fun _ => .inl rfl))
    · exact on (gd_opn (p := p) (x := "(") (k := fun _ r => bind (want ")" r) fun _ r => .ok (Tr.t [w "ask", w "yield", Tr.t []]) r) (fun q e r => (gd_want ")" r).bind (s2 := false) (s := false) (fun _ _ _ _ _ => gd_ok) (fun z => by cases z)) r)
    · exact gd_bad
theorem gd_post : ∀ (n : Nat) (t : Tr) (toks : List Tk), toks.length < n → Gd false toks (post p n t toks)
  | 0, _, _, h => by omega
  | n + 1, t, toks, h => by
    unfold post
    repeat' split
    · exact (gd_args hp toks).bind (s2 := false) (fun a r _ _ hl => gd_post n _ r (by have := hl rfl; omega)) (fun z => by cases z)
    · exact (gd_one hp (f := id) toks).bind (s2 := false) (fun a r _ _ hl => gd_post n _ r (by have := hl rfl; omega)) (fun z => by cases z)
    · rename_i hh
      have ht := hd_tail hh
      refine Gd.up (s := false) ?_ ht.1 (fun z => by cases z)
      refine (gd_named toks.tail).bind (s2 := false) (fun a r _ hr hl => ?_) (fun z => by cases z)
      have := hl rfl
      split
      · exact (gd_args hp r).bind (s2 := false) (fun a r _ _ hl => gd_post n _ r (by have := hl rfl; omega)) (fun z => by cases z)
      · exact gd_post n _ r (by omega)
    · exact gd_ok
theorem gd_opd (toks : List Tk) : Gd true toks (opd p toks) :=
  (gd_first hp toks).bind (s2 := false) (fun t r _ _ _ => gd_post hp _ t r (Nat.lt_succ_self _)) (fun _ => .inl rfl)
omit hp in
theorem min_suf : ∀ toks : List Tk, (minuses (G p) toks).2 <:+ toks
  | [] => List.suffix_rfl
  | t :: r => by
    unfold minuses
    split
    · exact List.IsSuffix.trans (min_suf r) tail_suf
    · exact List.suffix_rfl
theorem gd_high (toks : List Tk) : Gd true toks (high (G p) toks) := by
  have hs := min_suf (p := p) toks
  have h : Gd true _ ((G p).O (minuses (G p) toks).2) := gd_opd hp _
  unfold high
  have l := List.IsSuffix.length_le hs
  cases e : (G p).O (minuses (G p) toks).2 with
  | out => rw [e] at h; exact h.elim
  | bad b => rw [e] at h; exact List.IsSuffix.trans h hs
  | ok a r => rw [e] at h; exact ⟨List.IsSuffix.trans h.1 hs, fun _ => by have := h.2 rfl; omega⟩
theorem gd_climb : ∀ (n : Nat), (∀ (least : Nat) (toks : List Tk), 2 * toks.length + 2 ≤ n → Gd true toks (climb (G p) n least toks)) ∧
    (∀ (least : Nat) (t : Tr) (held : Nat) (toks : List Tk), 2 * toks.length + 1 ≤ n → Gd false toks (loop (G p) n least t held toks))
  | 0 => ⟨fun _ _ h => by omega, fun _ _ _ _ h => by omega⟩
  | n + 1 => by
    obtain ⟨ihA, ihB⟩ := gd_climb n
    constructor
    · intro least toks h
      rw [climb]
      split
      · rename_i hn
        cases toks with
        | nil => cases hn
        | cons t r =>
          have hA := ihA 3 r (by simp only [List.length_cons] at h; omega)
          have hA : Gd true r (climb (G p) n 3 (t :: r).tail) := hA
          cases e : climb (G p) n 3 (t :: r).tail with
          | out => rw [e] at hA; exact hA.elim
          | bad b => rw [e] at hA; exact List.IsSuffix.trans hA tail_suf
          | ok a r1 =>
            rw [e] at hA
            have l1 := hA.2 rfl
            exact (ihB least ((G p).mkNo a) 3 r1 (by simp only [List.length_cons] at h; omega)).up (List.IsSuffix.trans hA.1 tail_suf) (fun _ => .inr (by simp only [List.length_cons]; omega))
      · have hH := gd_high hp toks
        cases e : high (G p) toks with
        | out => rw [e] at hH; exact hH.elim
        | bad b => rw [e] at hH; exact hH
        | ok a r1 =>
          rw [e] at hH
          have l1 := hH.2 rfl
          exact (ihB least a 7 r1 (by omega)).up hH.1 (fun _ => .inr l1)
    · intro least t held toks h
      rw [loop.eq_def]
      cases toks with
      | nil => exact gd_ok
      | cons x r =>
        dsimp only
        split
        · have hA := ihA ((G p).lv x + 1) r (by simp only [List.length_cons] at h; omega)
          cases e : climb (G p) n ((G p).lv x + 1) r with
          | out => rw [e] at hA; exact hA.elim
          | bad b => rw [e] at hA; exact List.IsSuffix.trans hA tail_suf
          | ok a r1 =>
            rw [e] at hA
            have l1 := hA.2 rfl
            exact (ihB least ((G p).two x t a) ((G p).lv x) r1 (by simp only [List.length_cons] at h; omega)).up (List.IsSuffix.trans hA.1 tail_suf) (fun z => by cases z)
        · exact gd_ok
theorem gd_expr (toks : List Tk) : Gd true toks (expr p toks) := by
  refine ((gd_climb hp _).1 1 toks (by omega)).bind (s2 := false) (fun t r _ _ _ => ?_) (fun _ => .inl rfl)
  unfold fin
  split
  · exact gd_ok
  · exact gd_bad
theorem gd_stmt : ∀ toks, Gd true toks (stmt p toks)
  | [] => gd_bad
  | t :: r => by
    have on : ∀ {σ : Type} {x : R Tk σ} {s : Bool}, Gd s r x → Gd true (t :: r) x := fun h => h.up tail_suf fun _ => .inr (Nat.lt_succ_self _)
    have semi : ∀ {a : Tr} (r : List Tk), Gd true r (bind (want ";" r) fun _ r => .ok a r) := fun r => (gd_want ";" r).bind (s2 := false) (fun _ _ _ _ _ => gd_ok) (fun _ => .inl rfl)
    rw [stmt]
    split
    · exact on (semi r)
    split
    · exact on ((gd_named r).bind (s2 := true) (s := true) (fun _ r _ _ _ => (gd_want "=" r).bind (s2 := true) (fun _ r _ _ _ => (gd_expr hp r).bind (s2 := true) (fun _ r _ _ _ => semi r) (fun _ => .inl rfl)) (fun _ => .inl rfl)) (fun _ => .inl rfl))
    split
    · exact on ((gd_expr hp r).bind (s2 := true) (s := true) (fun _ r _ _ _ => semi r) (fun _ => .inl rfl))
    split
    · exact on ((gd_block hp r).bind (s2 := true) (s := true) (fun _ r _ _ _ => (gd_want "catch" r).bind (s2 := true) (fun _ r _ _ _ => (gd_named r).bind (s2 := true) (fun _ r _ _ _ => (gd_block hp r).bind (s2 := false) (fun _ _ _ _ _ => gd_ok) (fun _ => .inl rfl)) (fun _ => .inl rfl)) (fun _ => .inl rfl)) (fun _ => .inl rfl))
    split
    · exact on ((gd_expr hp r).bind (s2 := true) (s := true) (fun _ r _ _ _ => (gd_block hp r).bind (s2 := false) (fun _ _ _ _ _ => gd_ok) (fun _ => .inl rfl)) (fun _ => .inl rfl))
    split
    · refine on ((gd_expr hp r).bind (s2 := true) (s := true) (fun _ r _ _ _ => (gd_block hp r).bind (s2 := false) (fun _ r _ _ _ => ?_) (fun _ => .inl rfl)) (fun _ => .inl rfl))
      split
      · rename_i hh
        have ht := hd_tail hh
        exact ((gd_block hp r.tail).bind (s2 := false) (s := false) (fun _ _ _ _ _ => gd_ok) (fun z => by cases z)).up ht.1 (fun z => by cases z)
      · exact gd_ok
    · refine (gd_expr hp (t :: r)).bind (s2 := true) (s := true) (fun e r' _ _ _ => ?_) (fun _ => .inl rfl)
      split
      · rename_i hh
        rw [Bool.and_eq_true] at hh
        have ht := hd_tail hh.1
        exact ((gd_expr hp r'.tail).bind (s2 := true) (s := true) (fun _ r _ _ _ => semi r) (fun _ => .inl rfl)).up ht.1 (fun _ => .inl rfl)
      · exact semi r'
end
theorem in_ok : ∀ d, InOk (inn d)
  | 0 => fun q e => by cases e
  | d + 1 => fun q e => by
    have e : some (mk (inn d)) = some q := e
    cases e
    exact ⟨gd_expr (in_ok d), gd_stmt (in_ok d)⟩
theorem gd_fields : ∀ (n : Nat) (acc : List Tr) (toks : List Tk), toks.length < n → Gd false toks (fields n acc toks)
  | 0, _, _, h => by omega
  | n + 1, acc, [], h => by rw [fields]; exact gd_ok; (intro t u r e; cases e)
  | n + 1, acc, [t], h => by rw [fields]; exact gd_ok; (intro t u r e; cases e)
  | n + 1, acc, t :: u :: r, h => by
    rw [fields]
    split
    · exact (gd_fields n _ r (by simp only [List.length_cons] at h; omega)).up (List.IsSuffix.trans tail_suf tail_suf) (fun z => by cases z)
    · exact gd_ok
theorem gd_methods {p : Option In} (hp : InOk p) : ∀ (n : Nat) (acc : List Tr) (toks : List Tk), toks.length < n → Gd false toks (methods p n acc toks)
  | 0, _, _, h => by omega
  | n + 1, acc, [], h => by rw [methods]; exact gd_ok
  | n + 1, acc, t :: r, h => by
    rw [methods]
    split
    · refine Gd.up (s := false) ((gd_params r).bind (s2 := false) (s := false) (fun ps r1 _ _ l1 => (gd_block hp r1).bind (s2 := false) (s := false) (fun b r2 _ _ l2 => gd_methods hp n _ r2 ?_) (fun z => by cases z)) (fun z => by cases z)) tail_suf (fun z => by cases z)
      have h1 := l1 rfl
      have h2 := l2 rfl
      simp only [List.length_cons] at h
      omega
    · exact gd_ok
theorem gd_class (d : Nat) (toks : List Tk) : Gd true toks (classB d toks) := by
  refine (gd_named toks).bind (s2 := false) (fun n r _ _ _ => ?_) (fun _ => .inl rfl)
  have he : Gd false r (if hd "of" r = true then named r.tail else .ok .z r) := by
    split
    · rename_i hh
      exact ((gd_named r.tail).weak (s := false)).up (hd_tail hh).1 (fun z => by cases z)
    · exact gd_ok
  refine he.bind (s2 := false) (fun e r _ _ _ => ?_) (fun z => by cases z)
  refine Gd.weak (gd_opn (fun q hq r => ?_) r)
  refine (gd_fields _ _ r (Nat.lt_succ_self _)).bind (s2 := false) (fun fs r _ _ _ => ?_) (fun z => by cases z)
  refine (gd_methods (in_ok _) _ _ r (Nat.lt_succ_self _)).bind (s2 := true) (fun ms r _ _ _ => ?_) (fun z => by cases z)
  exact (gd_want "}" r).bind (s2 := false) (fun _ _ _ _ _ => gd_ok) (fun _ => .inl rfl)
theorem gd_item (d : Nat) : ∀ toks, Gd true toks (item d toks)
  | [] => gd_bad
  | t :: [] => by
    rw [item.eq_def]
    dsimp only
    split
    · exact (gd_class d []).up tail_suf fun _ => .inl rfl
    · exact gd_stmt (in_ok d) [t]
  | t :: u :: r => by
    rw [item.eq_def]
    dsimp only
    split
    · exact (gd_class d (u :: r)).up tail_suf fun _ => .inl rfl
    · split
      · exact ((gd_params r).bind (s2 := true) (s := true) (fun _ r _ _ _ => (gd_block (in_ok d) r).bind (s2 := false) (fun _ _ _ _ _ => gd_ok) (fun _ => .inl rfl)) (fun _ => .inl rfl)).up (List.IsSuffix.trans tail_suf tail_suf) (fun _ => .inl rfl)
      · exact gd_stmt (in_ok d) (t :: u :: r)
theorem gd_items (d : Nat) : ∀ (n : Nat) (acc : List Tr) (toks : List Tk), toks.length < n → Gd false toks (items d n acc toks)
  | 0, _, _, h => by omega
  | n + 1, acc, toks, h => by
    unfold items
    split
    · rename_i e
      have : toks = [] := by cases toks with
        | nil => rfl
        | cons _ _ => cases e
      subst this
      exact gd_ok
    · exact (gd_item d toks).bind (s2 := false) (fun t r _ _ hl => gd_items d n _ r (by have := hl rfl; omega)) (fun z => by cases z)
/-- a program is told, or the first word with which none goes on -/
theorem prog_told (toks : List Tk) : (∃ ts, prog toks = .ok ts []) ∨ ∃ r, prog toks = .bad r ∧ r <:+ toks := by
  have all : ∀ (d n : Nat) (acc : List Tr) (toks : List Tk) (ts : List Tr) (r : List Tk), items d n acc toks = .ok ts r → r = [] := by
    intro d n
    induction n with
    | zero => intro acc toks ts r e; cases e
    | succ n ih =>
      intro acc toks ts r e
      unfold items at e
      split at e
      · cases e; rfl
      · cases e1 : item d toks with
        | out => rw [e1] at e; cases e
        | bad b => rw [e1] at e; cases e
        | ok a r1 => rw [e1] at e; exact ih _ _ _ _ e
  have h := gd_items 60 (toks.length + 1) [] toks (Nat.lt_succ_self _)
  cases e : prog toks with
  | ok ts r => exact .inl ⟨ts, by rw [all _ _ _ _ _ _ e]⟩
  | bad r =>
    have e' : items 60 (toks.length + 1) [] toks = .bad r := e
    rw [e'] at h
    exact .inr ⟨r, rfl, h⟩
  | out =>
    have e' : items 60 (toks.length + 1) [] toks = .out := e
    rw [e'] at h
    exact h.elim
end Gr
/-! An expression is told by a tuple that begins with a text. -/
namespace Gr
open Wk Gm
def HdT (a : Tr) : Prop := ∃ l ts, a = .t (.s l :: ts)
def Hd (x : R Tk Tr) : Prop := ∀ a r, x = .ok a r → HdT a
theorem hd_bind {σ : Type} {x : R Tk σ} {f : σ → P Tr} (h : ∀ a r, x = .ok a r → Hd (f a r)) : Hd (bind x f) := by
  cases x with
  | ok a r => exact h a r rfl
  | bad r => intro a r' e; cases e
  | out => intro a r' e; cases e
theorem hd_ok {a : Tr} {r : List Tk} (h : HdT a) : Hd (.ok a r) := fun a' r' e => by cases e; exact h
theorem hd_bad {r : List Tk} : Hd (.bad r) := fun a' r' e => by cases e
theorem hd_opn {p : Option In} {x : String} {k : In → P Tr} (h : ∀ q, p = some q → ∀ r, Hd (k q r)) : ∀ toks, Hd (opn p x k toks)
  | [] => hd_bad
  | t :: r => by
    rw [opn.eq_def]
    dsimp only
    split
    · cases p with
      | none => exact hd_bad
      | some q => exact h q rfl r
    · exact hd_bad
theorem hdw (x : String) (ts : List Tr) : HdT (.t (w x :: ts)) := ⟨codes x, ts, rfl⟩
theorem isW_s {x : String} {t : Tk} (h : isW x t = true) : ∃ l, wdT t.wd = .s l := by
  unfold isW at h
  rw [Bool.and_eq_true, decide_eq_true_eq] at h
  exact ⟨codes x, by rw [h.2]; rfl⟩
theorem is1_s {xs : List String} {t : Tk} (h : is1 xs t = true) : ∃ l, wdT t.wd = .s l := by
  unfold is1 at h
  obtain ⟨x, _, hx⟩ := List.any_eq_true.mp h
  exact isW_s hx
theorem level_s {t : Tk} (h : level t ≠ 0) : ∃ l, wdT t.wd = .s l := by
  unfold level at h
  cases e : levelS.find? fun q => isW q.1 t with
  | none => rw [e] at h; exact absurd rfl h
  | some q => exact isW_s (List.find?_some (p := fun q : String × Nat => isW q.1 t) e)
def InS (p : Option In) : Prop := ∀ q, p = some q → ∀ toks, Hd (q.E toks)
section
variable {p : Option In} (hp : InS p)
include hp
theorem hd_first : ∀ toks, Hd (first p toks)
  | [] => hd_bad
  | t :: r => by
    rw [first]
    split
    · exact hd_ok (hdw _ _)
    split
    · rename_i h
      obtain ⟨l, e⟩ := is1_s h
      rw [e]
      exact hd_ok ⟨l, [], rfl⟩
    split
    · exact hd_opn (fun q e r => hd_bind fun a r1 e1 => hd_bind fun _ r2 _ => hd_ok (hp q e r a r1 e1)) _
    split
    · exact hd_opn (fun q e r => hd_bind fun a r1 e1 => hd_bind fun _ r2 _ => hd_ok (hdw _ _)) _
    split
    · exact hd_opn (fun q e r => hd_bind fun a r1 e1 => hd_ok (hdw _ _)) _
    split
    · exact hd_bind fun a r1 e1 => hd_bind fun _ r2 _ => hd_ok (hdw _ _)
    split
    · exact hd_bind fun a r1 e1 => hd_bind fun _ r2 _ => hd_bind fun _ r2 _ => hd_ok (hdw _ _)
    split
    · exact hd_bind fun a r1 e1 => hd_bind fun _ r2 _ => hd_ok (hdw _ _)
    split
    · exact hd_opn (fun q e r => hd_bind fun a r1 e1 => hd_ok (hdw _ _)) _
    · exact hd_bad
omit hp in
theorem hd_post : ∀ (n : Nat) (t : Tr) (toks : List Tk), HdT t → Hd (post p n t toks)
  | 0, _, _, _ => fun a r e => by cases e
  | n + 1, t, toks, h => by
    unfold post
    split
    · exact hd_bind fun a r _ => hd_post n _ r (hdw _ _)
    split
    · exact hd_bind fun a r _ => hd_post n _ r (hdw _ _)
    split
    · refine hd_bind fun m r _ => ?_
      split
      · exact hd_bind fun a r _ => hd_post n _ r (hdw _ _)
      · exact hd_post n _ r (hdw _ _)
    · exact hd_ok h
theorem hd_opd (toks : List Tk) : Hd (opd p toks) := hd_bind fun t r e => hd_post _ _ _ (hd_first hp toks t r e)
omit hp in
theorem hd_rep {t : Tr} (h : HdT t) : ∀ n, HdT (rep (G p).mkMi n t)
  | 0 => h
  | n + 1 => hdw "minus" [_]
theorem hd_high (toks : List Tk) : Hd (high (G p) toks) := by
  have h : Hd ((G p).O (minuses (G p) toks).2) := hd_opd hp _
  unfold high
  cases e : (G p).O (minuses (G p) toks).2 with
  | out => intro a r e; cases e
  | bad b => intro a r e; cases e
  | ok a r => exact hd_ok (hd_rep (h a r e) _)
theorem hd_climb : ∀ (n : Nat), (∀ (least : Nat) (toks : List Tk), Hd (climb (G p) n least toks)) ∧ (∀ (least : Nat) (t : Tr) (held : Nat) (toks : List Tk), HdT t → Hd (loop (G p) n least t held toks))
  | 0 => ⟨(fun _ _ a r e => by rw [climb] at e; cases e), (fun _ _ _ _ _ a r e => by rw [loop.eq_def] at e; cases e)⟩
  | n + 1 => by
    obtain ⟨ihA, ihB⟩ := hd_climb n
    constructor
    · intro least toks
      rw [climb]
      split
      · cases e : climb (G p) n 3 toks.tail with
        | out => intro a r e; cases e
        | bad b => intro a r e; cases e
        | ok a r => exact ihB _ _ _ _ (hdw "not" [_])
      · cases e : high (G p) toks with
        | out => intro a r e; cases e
        | bad b => intro a r e; cases e
        | ok a r => exact ihB _ _ _ _ (hd_high hp toks a r e)
    · intro least t held toks h
      rw [loop.eq_def]
      cases toks with
      | nil => exact hd_ok h
      | cons y r =>
        dsimp only
        split
        · rename_i hg
          have hl : level y ≠ 0 := (goes_iff.mp hg).1
          obtain ⟨l, el⟩ := level_s hl
          cases e : climb (G p) n ((G p).lv y + 1) r with
          | out => intro a r e; cases e
          | bad b => intro a r e; cases e
          | ok a r => exact ihB _ _ _ _ ⟨l, [t, a], by show Tr.t [wdT y.wd, t, a] = _; rw [el]⟩
        · exact hd_ok h
theorem hd_expr (toks : List Tk) : Hd (expr p toks) := hd_bind fun t r e => by
  have h := (hd_climb hp _).1 _ _ t r e
  unfold fin
  split
  · exact hd_ok h
  · exact hd_bad
end
theorem in_s : ∀ d, InS (inn d)
  | 0 => fun q e => by cases e
  | d + 1 => fun q e => by
    have e : some (mk (inn d)) = some q := e
    cases e
    exact hd_expr (in_s d)
end Gr
set_option maxRecDepth 100000
set_option maxHeartbeats 4000000
/-! Calls counted one by one: a level is one call, where Room counts three. -/
namespace Wk
open PySem L2 TL PyProof.Rows
structure RoomF (n : Nat) (A : Around) : Prop where
  hd : A.handled = none
  dp : A.depth + n + 60 < recursionLimit
  un : A.units + 3 * n + 600 < cLine
theorem RoomF.mono {j k : Nat} {A : Around} (r : RoomF k A) (h : j ≤ k) : RoomF j A := ⟨r.hd, by have := r.dp; omega, by have := r.un; omega⟩
theorem RoomF.deeper {k : Nat} {A : Around} (r : RoomF (k + 1) A) (env : Env) : RoomF k (A.deeper env) :=
  ⟨r.hd, by have := r.dp; show A.depth + 1 + k + 60 < _; omega, by have := r.un; show A.units + 3 + 3 * k + 600 < _; omega⟩
theorem RoomF.room {n : Nat} {A : Around} (r : RoomF n A) : Room 12 A := ⟨r.hd, by have := r.dp; omega, by have := r.un; omega⟩
theorem RoomF.of {n k : Nat} {A : Around} (r : Room k A) (h1 : n + 60 ≤ 3 * k + 5) (h2 : 3 * n + 600 ≤ 16 * k + 200) : RoomF n A := ⟨r.hd, by have := r.dp; omega, by have := r.un; omega⟩
structure FnF (P : Program) (w : World) (K : PySem.W.Frag) (mg : Str → Option Value) (base : Heap) (CX : CXT) (k : Nat) (f : Addr) (fd : FuncData) (ps : List Str) (sp : Sp) : Prop where
  len : ∀ vs H Q E, sp vs H Q E → vs.length = ps.length
  run : ∀ (A : Around) (outer : List Env) (s : Shared) (H : Hp) (args : Args) (us : List Value) (vs : List V) (Q : VK) (E : XK), RoomF k A → Env0 P w K mg base A outer s H → BindsTo s fd args (ps.zip us) → Vals vs us → sp vs H Q E →
    codeAny (model P w) A (.call (.ref f) args) (CR CX outer P w H s Q E) s
section
variable {P : Program} {w : World} {K : PySem.W.Frag} {mg : Str → Option Value} {base : Heap} {CX : CXT} {f : Addr} {fd : FuncData} {ps : List Str} {sp : Sp}
theorem FnF.mono {j k : Nat} (F : FnF P w K mg base CX j f fd ps sp) (h : j ≤ k) : FnF P w K mg base CX k f fd ps sp := ⟨F.len, fun A outer s H args us vs Q E hr => F.run A outer s H args us vs Q E (hr.mono h)⟩
theorem FnF.coarse {n k : Nat} (F : FnF P w K mg base CX n f fd ps sp) (h1 : n + 60 ≤ 3 * k + 5) (h2 : 3 * n + 600 ≤ 16 * k + 200) : FnOk P w K mg base CX k f fd ps sp := ⟨F.len, fun A outer s H args us vs Q E hr => F.run A outer s H args us vs Q E (RoomF.of hr h1 h2)⟩
theorem FnF.of {n k : Nat} (F : FnOk P w K mg base CX k f fd ps sp) (h : k ≤ 12) : FnF P w K mg base CX n f fd ps sp := ⟨F.len, fun A outer s H args us vs Q E hr => F.run A outer s H args us vs Q E (hr.room.mono h)⟩
/-- of a promise that nobody can ask for -/
theorem FnF.never {n : Nat} : FnF P w K mg base CX n f fd ps (fun _ _ _ _ => False) := ⟨fun _ _ _ _ z => z.elim, fun _ _ _ _ _ _ _ _ _ _ _ _ _ z => z.elim⟩
theorem fn_ofF {k : Nat} {name qual : Str} {params : Arguments} {body : List Stmt} {scope : Scope} {dV kV doc pm cdv ct oc : Value} {an od : Option Addr}
    {osl : Array (Option Value)} {N : List Str} (lk : K.lookup f = some ⟨oc, od, .func (PySem.W.fnOf name qual params body scope dV kV doc pm an cdv ct), osl⟩) (hcd : PySem.W.codeIn K cdv qual = true) (S : FnScope N ps scope)
    (len : ∀ vs H Q E, sp vs H Q E → vs.length = ps.length)
    (hbody : ∀ (A : Around) (outer : List Env) (s : Shared) (H : Hp) (vs : List V) (Q : VK) (E : XK), RoomF k (A.deeper (envOfC qual scope s.heap.objs.size f cdv)) → sp vs H Q E →
      ∃ t, PSs (cxOf CX P w K mg base N qual scope f cdv A outer s H E) body t ∧ t { nx := fun _ H' => Q .non H', rt := Q } (start N vs) H) :
    FnF P w K mg base CX (k + 1) f (PySem.W.fnOf name qual params body scope dV kV doc pm an cdv ct) ps sp := by
  refine ⟨len, fun A outer s H args us vs Q E hr e0 hb r hsp => ?_⟩
  have hl := len _ _ _ _ hsp
  have KX : K.In s.heap := e0.mod.kin.keeps fun b o e => (e0.bs b o e).1
  have lim : s.heap.NoLimit := e0.mod.nolimit.keeps fun b o e => (e0.bs b o e).1
  have hkind : ∀ y ∈ ps.zip us, scope.names.lookup y.1 = some .local ∨ (scope.names.lookup y.1 = some .cell ∧ ((cellsFrom (s.heap.objs.size + 1) scope.names []).lookup y.1).isSome = true) := fun ⟨n, v⟩ hy => by
    rcases S.par n (List.of_mem_zip hy).1 with q | q
    · exact .inl q
    · exact .inr ⟨q, PySem.W.cellsFrom_some _ _ _ (.inl q)⟩
  refine codeAny_call_function hr.room.depth (KX _ _ lk) rfl S.co S.gen rfl (PySem.W.codeRec_of KX hcd) (hb _ _ _ _ ?_)
  refine wpAny_newFunctionEnv_cells S.kind hkind fun env he s1 x => ?_
  subst he
  refine ⟨lim.keeps x.toInCall.keep, codeAny_func ?_⟩
  obtain ⟨t, ht, hq⟩ := hbody A outer s H vs Q E (hr.deeper _) hsp
  have I : Inv (cxOf CX P w K mg base N qual scope f cdv A outer s H E) [] (start N vs) H s1 := inv_start S hr.hd e0 hl r x
  refine wpAny_mono (ht.run [] s1 (start N vs) H _ I hq) (fun fl s' hs => ?_) fun e s' hs => hs
  have fin : ∀ {σ' : L2.St} {H' : Hp} {v : V} {u : Value}, Inv (cxOf CX P w K mg base N qual scope f cdv A outer s H E) [] σ' H' s' → RelV v u → Q v H' → CE outer P w H s Q u s' :=
    fun {σ' H' v u} J rv q => ⟨v, H', J.os, J.bare, J.base, J.hok, rv, q⟩
  cases fl with
  | ret u =>
    obtain ⟨v, σ', H', J, rv, q⟩ := hs
    exact fin J rv q
  | next =>
    obtain ⟨σ', H', J, q⟩ := hs
    exact fin (v := V.non) (u := Value.none) J rfl q
  | brk =>
    obtain ⟨_, _, _, q⟩ := hs
    exact False.elim q
  | cont =>
    obtain ⟨_, _, _, q⟩ := hs
    exact False.elim q
end
section
variable {P : Program} {w : World} {K : PySem.W.Frag} {mg : Str → Option Value} {base : Heap}
/-- as Fun.ok: hr for calls at a level of Room, hf for calls counted one by one -/
theorem okF {x qual : Str} {st : Stmt} {f : Addr} {fd : FuncData} {N ps : List Str} {k : Nat} {sp : Sp} (F : Fun K x qual st f fd) (S : FnScope N ps (defScope st)) (len : ∀ vs H Q E, sp vs H Q E → vs.length = ps.length)
    (hbody : ∀ (cdv : Value) (A : Around) (outer : List Env) (s : Shared) (H : Hp) (vs : List V) (Q : VK) (E : XK), Room 12 (A.deeper (envOfC qual (defScope st) s.heap.objs.size f cdv)) → RoomF k (A.deeper (envOfC qual (defScope st) s.heap.objs.size f cdv)) → sp vs H Q E →
      ∃ t, PSs (cxOf CX0 P w K mg base N qual (defScope st) f cdv A outer s H E).nox (defBody st) t ∧ t { nx := fun _ H' => Q .non H', rt := Q } (start N vs) H) : FnF P w K mg base CX0 (k + 1) f fd ps sp := by
  obtain ⟨oc, od, kV, doc, pm, an, cdv, ct, osl, rfl, lk, hcd⟩ := F.ex
  refine fn_ofF lk hcd S len fun A outer s H vs Q E hr hsp => ?_
  obtain ⟨t, h, q⟩ := hbody cdv A outer s H vs Q E hr.room hr hsp
  exact ⟨t, h.nox, q⟩
end
structure DefF (P : Program) (w : World) (K : PySem.W.Frag) (mg : Str → Option Value) (base : Heap) (CX : CXT) (x : Str) (ps : List Str) (k : Nat) (sp : Sp) where
  f : Addr
  fd : FuncData
  ok : FnF P w K mg base CX k f fd ps sp
  g : mg x = some (.ref f)
  k : PySem.W.keepIn K (.ref f) = true
  b : Binds K fd ps []
section
variable {X : Cx} {CX : CXT} {k : Nat} {f C : Addr} {fd : FuncData} {ps : List Str} {sp : Sp} {dvs : List V} {ds : List Value} {E : XK} {x m : Str} {p pos apos : Pos} {e o : Expr} {es : List Expr} {ta : TE} {t : TA}
theorem run_fnF {pins : List (Addr × Obj)} {σ : L2.St} {H : Hp} {s : Shared} {Q : VK} {us : List Value} {vs : List V} (F : FnF X.prog X.w X.K X.mg X.base CX k f fd ps sp) (hr : RoomF k X.A) (hb : Binds X.K fd ps ds) (hd : Vals dvs ds) (hx : Passes CX X E)
    (I : L2.Inv X pins σ H s) (r : Vals vs us) (h : sp (vs ++ dvs) H Q E) : wpAny (model X.prog X.w) X.A (call (.ref f) us) (EP X pins σ Q) X.xe s := by
  have r2 : Vals (vs ++ dvs) (us ++ ds) := r.append hd
  have hl : (us ++ ds).length = ps.length := by rw [← r2.length]; exact F.len _ _ _ _ h
  refine wpAny_call (codeAny_mono (F.run X.A X.stack s H ⟨us, []⟩ (us ++ ds) (vs ++ dvs) Q E hr I.env0 (hb s us I.kIn hl) r2 h) fun r s' hq => ?_)
  cases r with
  | error e => exact hx pins σ H s e s' I hq
  | ok fl =>
    cases fl with
    | ret u => exact I.after hq
    | next => exact False.elim hq
    | brk => exact False.elim hq
    | cont => exact False.elim hq
end
end Wk
/-! How many words there are that make a tree deeper: all but names, numbers, texts and some few. -/
namespace Gr
open Wk Gm
/-- the words that make the law's reader call itself without a bracket -/
def deepS : List String := ["not", "or", "and", "==", "!=", "<", "<=", ">", ">=", "+", "-", "*", "/", "mod"]
def deepW (t : Tk) : Bool := (decide (t.so = .key) || decide (t.so = .mark)) && deepS.any fun x => decide (t.wd = .s (codes x))
def SR (toks : List Tk) : Nat := toks.countP deepW
theorem SR_drop {toks : List Tk} {i j : Nat} (h : i ≤ j) : SR (toks.drop j) ≤ SR (toks.drop i) := by
  have : toks.drop j = (toks.drop i).drop (j - i) := by rw [List.drop_drop]; congr 1; omega
  rw [this]
  exact List.Sublist.countP_le (List.drop_suffix _ _).sublist
/-- a place in the words behind which at most m of them are heavy -/
def Okm (toks : List Tk) (m i : Nat) : Prop := i ≤ toks.length ∧ SR (toks.drop i) ≤ m
theorem Okm.next {toks : List Tk} {m i j : Nat} (h : Okm toks m i) (h1 : i ≤ j) (h2 : j ≤ toks.length) : Okm toks m j := ⟨h2, Nat.le_trans (SR_drop h1) h.2⟩
theorem Okm.more {toks : List Tk} {m m' i : Nat} (h : Okm toks m i) (h1 : m ≤ m') : Okm toks m' i := ⟨h.1, Nat.le_trans h.2 h1⟩
end Gr
set_option maxRecDepth 100000
set_option maxHeartbeats 8000000
namespace Wk
open PySem L2 TL PyProof.Rows
open SX (S S_len)
/-! ### the law's own reader: where it stands -/
/-- a key or a mark has a text -/
def TkOk (t : Tk) : Prop := (t.so = .key ∨ t.so = .mark) → ∃ l, t.wd = .s l
/-- the words that are read, beside the state at p -/
structure PW (H : Hp) (p ws : Addr) (us : List V) (toks : List Tk) : Prop where
  w : H ws = some (.lst us)
  t : Toks H us toks
  l : toks.length ≤ 100000
  n : p ≠ ws
  k : ∀ t ∈ toks, TkOk t
def PAt (H : Hp) (p ws : Addr) (i : Nat) (f : V) (o : Int) : Prop := H p = some (.lst [.ref ws, .int (i : Int), f, .int o, .int 60])
theorem toks_but {p : Addr} {H H' : Hp} {xs : List V} (b : But p H H') (hp : H p = some (.lst xs)) : ∀ {us : List V} {ts : List Tk}, Toks H us ts → Toks H' us ts
  | [], [], _ => trivial
  | _ :: _, _ :: _, ⟨⟨a, e, h⟩, r⟩ => ⟨⟨a, e, b.o _ _ (by rintro rfl; rw [h] at hp; cases hp) h⟩, toks_but b hp r⟩
  | [], _ :: _, h => h.elim
  | _ :: _, [], h => h.elim
theorem PW.but {H H' : Hp} {p ws : Addr} {us : List V} {toks : List Tk} {xs : List V} (h : PW H p ws us toks) (b : But p H H') (hp : H p = some (.lst xs)) : PW H' p ws us toks :=
  ⟨b.o _ _ (fun e => h.n e.symm) h.w, toks_but b hp h.t, h.l, h.n, h.k⟩
theorem PW.same {H H' : Hp} {p ws : Addr} {us : List V} {toks : List Tk} (h : PW H p ws us toks) (g : Same H H') : PW H' p ws us toks := ⟨g _ _ h.w, h.t.mono g, h.l, h.n, h.k⟩
theorem toks_at {H : Hp} : ∀ {us : List V} {ts : List Tk} {k : Nat} {t : Tk}, Toks H us ts → ts[k]? = some t → ∃ a, us[k]? = some (.ref a) ∧ H a = some (.tup (tkV t))
  | _, [], k, t, _, e => by cases k <;> cases e
  | _ :: _, _ :: _, 0, t, ⟨⟨a, e1, h⟩, r⟩, e => ⟨a, by rw [e1]; rfl, by cases e; exact h⟩
  | _ :: us, _ :: ts, k + 1, t, ⟨_, r⟩, e => by have z := toks_at (k := k) r e; exact z
  | [], _ :: _, _, _, h, _ => h.elim
theorem toks_size {H : Hp} : ∀ {us : List V} {ts : List Tk}, Toks H us ts → us.length = ts.length
  | [], [], _ => rfl
  | _ :: _, _ :: _, ⟨_, r⟩ => congrArg (· + 1) (toks_size r)
  | [], _ :: _, h => h.elim
  | _ :: _, [], h => h.elim
/-- the next word, where it is a key or a mark -/
def nx : List Tk → List Nat
  | [] => []
  | t :: _ => match t.so, t.wd with
    | .key, .s l => l
    | .mark, .s l => l
    | _, _ => []
theorem nx_km {t : Tk} {r : List Tk} {l : List Nat} (h : t.so = .key ∨ t.so = .mark) (e : t.wd = .s l) : nx (t :: r) = l := by
  obtain ⟨so, wd, ln⟩ := t
  have e : wd = .s l := e
  subst e
  rcases h with h | h
  · have h : so = .key := h
    subst h; rfl
  · have h : so = .mark := h
    subst h; rfl
theorem nx_no {t : Tk} {r : List Tk} (h1 : ¬ t.so = .key) (h2 : ¬ t.so = .mark) : nx (t :: r) = [] := by
  obtain ⟨so, wd, ln⟩ := t
  cases so with
  | key => exact absurd rfl h1
  | mark => exact absurd rfl h2
  | name => rfl
  | number => rfl
  | text => rfl
/-- the sort of the next word -/
def sortN : List Tk → Str
  | [] => "end"
  | t :: _ => soS t.so
theorem drop_at {toks : List Tk} {i : Nat} (h : i < toks.length) : toks.drop i = toks[i] :: toks.drop (i + 1) := List.drop_eq_getElem_cons h
section
variable {P : Program} {w : World} {K : PySem.W.Frag} {mg : Str → Option Value} {base : Heap}
def failV (i : Nat) (f : V) : V := if f = .non then .int (i : Int) else f
def sp_fail : Sp := fun vs H Q _ => ∃ (p ws : Addr) (us : List V) (toks : List Tk) (i : Nat) (f : V) (o : Int), vs = [.ref p] ∧ PW H p ws us toks ∧ PAt H p ws i f o ∧
  ∀ H', But p H H' → PAt H' p ws toks.length (failV i f) o → Q .non H'
def sp_sort : Sp := fun vs H Q _ => ∃ (p ws : Addr) (us : List V) (toks : List Tk) (i : Nat) (f : V) (o : Int), vs = [.ref p] ∧ PW H p ws us toks ∧ PAt H p ws i f o ∧ Q (.str (sortN (toks.drop i))) H
def sp_next : Sp := fun vs H Q _ => ∃ (p ws : Addr) (us : List V) (toks : List Tk) (i : Nat) (f : V) (o : Int), vs = [.ref p] ∧ PW H p ws us toks ∧ PAt H p ws i f o ∧ ∀ H', Same H H' → Q (.str (S (nx (toks.drop i)))) H'
end
end Wk
set_option maxRecDepth 100000
set_option maxHeartbeats 8000000
namespace Wk
open PySem L2 TL PyProof.Rows
open SX (S S_len)
def opens : List (List Nat) := [[40], [91], [123]]
def closes : List (List Nat) := [[41], [93], [125]]
theorem open_lit : [V.str "(", V.str "[", V.str "{"] = opens.map fun l => V.str (S l) := by
  rw [show ("(" : Str) = S [40] from S_of _, show ("[" : Str) = S [91] from S_of _, show ("{" : Str) = S [123] from S_of _]; rfl
theorem close_lit : [V.str ")", V.str "]", V.str "}"] = closes.map fun l => V.str (S l) := by
  rw [show (")" : Str) = S [41] from S_of _, show ("]" : Str) = S [93] from S_of _, show ("}" : Str) = S [125] from S_of _]; rfl
section
variable {P : Program} {w : World} {K : PySem.W.Frag} {mg : Str → Option Value} {base : Heap}
def sp_go : Sp := fun vs H Q _ => ∃ (p ws : Addr) (us : List V) (toks : List Tk) (i : Nat) (f : V) (o : Int), vs = [.ref p] ∧ PW H p ws us toks ∧ PAt H p ws i f o ∧
  (if nx (toks.drop i) ∈ opens then (if 60 < o + 1 then ∀ H', But p H H' → PAt H' p ws toks.length (failV i f) (o + 1) → Q .non H' else ∀ H', But p H H' → PAt H' p ws (i + 1) f (o + 1) → Q .non H')
    else if nx (toks.drop i) ∈ closes then ∀ H', But p H H' → PAt H' p ws (i + 1) f (o - 1) → Q .non H'
    else ∀ H', But p H H' → PAt H' p ws (i + 1) f o → Q .non H')
end
end Wk
set_option maxRecDepth 100000
set_option maxHeartbeats 8000000
namespace Wk
open PySem L2 TL PyProof.Rows
open SX (S S_len)
section
variable {P : Program} {w : World} {K : PySem.W.Frag} {mg : Str → Option Value} {base : Heap}
/-- behind _law_go at the word l -/
def GoQ (p ws : Addr) (toks : List Tk) (i : Nat) (f : V) (o : Int) (l : List Nat) (H : Hp) (Q : VK) : Prop :=
  if l ∈ opens then (if 60 < o + 1 then ∀ H', But p H H' → PAt H' p ws toks.length (failV i f) (o + 1) → Q .non H' else ∀ H', But p H H' → PAt H' p ws (i + 1) f (o + 1) → Q .non H')
    else if l ∈ closes then ∀ H', But p H H' → PAt H' p ws (i + 1) f (o - 1) → Q .non H'
    else ∀ H', But p H H' → PAt H' p ws (i + 1) f o → Q .non H'
theorem GoQ.but {p ws : Addr} {toks : List Tk} {i : Nat} {f : V} {o : Int} {l : List Nat} {H H1 : Hp} {Q : VK} (g : GoQ p ws toks i f o l H Q) (b : But p H H1) : GoQ p ws toks i f o l H1 Q := by
  unfold GoQ at g ⊢
  split
  · rename_i h1
    rw [if_pos h1] at g
    split
    · rename_i h2
      rw [if_pos h2] at g
      exact fun H' b' => g H' (b.trans b')
    · rename_i h2
      rw [if_neg h2] at g
      exact fun H' b' => g H' (b.trans b')
  · rename_i h1
    rw [if_neg h1] at g
    split
    · rename_i h2
      rw [if_pos h2] at g
      exact fun H' b' => g H' (b.trans b')
    · rename_i h2
      rw [if_neg h2] at g
      exact fun H' b' => g H' (b.trans b')
def sp_want : Sp := fun vs H Q _ => ∃ (p ws : Addr) (us : List V) (toks : List Tk) (i : Nat) (f : V) (o : Int) (x : List Nat), vs = [.ref p, .str (S x)] ∧ PW H p ws us toks ∧ PAt H p ws i f o ∧
  (if nx (toks.drop i) = x then GoQ p ws toks i f o x H Q else ∀ H', But p H H' → PAt H' p ws toks.length (failV i f) o → Q .non H')
def nameN : List Tk → Option V
  | [] => none
  | t :: _ => if t.so = .name then some (wdV t.wd) else none
def sp_named : Sp := fun vs H Q _ => ∃ (p ws : Addr) (us : List V) (toks : List Tk) (i : Nat) (f : V) (o : Int), vs = [.ref p] ∧ PW H p ws us toks ∧ PAt H p ws i f o ∧
  (match nameN (toks.drop i) with
    | some v => ∀ H', But p H H' → PAt H' p ws (i + 1) f o → Q v H'
    | none => ∀ H', But p H H' → PAt H' p ws toks.length (failV i f) o → Q (.str "_") H')
end
end Wk
set_option maxRecDepth 100000
set_option maxHeartbeats 8000000
namespace Wk
open PySem L2 TL PyProof.Rows Gm Gr
open SX (S S_len)
/-! ### what is told, as it lies -/
mutual
def RelT (H : Hp) : Tr → V → Prop
  | .s l, v => v = .str (S l)
  | .n k, v => v = .int (k : Int)
  | .z, v => v = .non
  | .t ts, v => ∃ a xs, v = .ref a ∧ H a = some (.tup xs) ∧ RelTs H ts xs
def RelTs (H : Hp) : List Tr → List V → Prop
  | [], xs => xs = []
  | t :: ts, xs => ∃ x ys, xs = x :: ys ∧ RelT H t x ∧ RelTs H ts ys
end
/-- tuples stay -/
def TupK (H H' : Hp) : Prop := ∀ a xs, H a = some (.tup xs) → H' a = some (.tup xs)
theorem TupK.but {p : Addr} {H H' : Hp} {zs : List V} (b : But p H H') (hp : H p = some (.lst zs)) : TupK H H' := fun a xs h => b.o _ _ (fun z => by subst z; rw [h] at hp; cases hp) h
theorem TupK.set {q : Addr} {H : Hp} {zs : List V} {o : HO} (hq : H q = some (.lst zs)) : TupK H (upd H q o) := fun a xs h => by rw [upd_ne (fun z => by subst z; rw [h] at hq; cases hq)]; exact h
theorem TupK.same {H H' : Hp} (g : Same H H') : TupK H H' := fun a xs h => g _ _ h
mutual
theorem RelT.keep {H H' : Hp} (b : TupK H H') : ∀ {t : Tr} {v : V}, RelT H t v → RelT H' t v
  | .s l, v, h => by rw [RelT] at h ⊢; exact h
  | .n k, v, h => by rw [RelT] at h ⊢; exact h
  | .z, v, h => by rw [RelT] at h ⊢; exact h
  | .t ts, v, h => by
    rw [RelT] at h ⊢
    obtain ⟨a, xs, e, ha, r⟩ := h
    exact ⟨a, xs, e, b _ _ ha, RelTs.keep b r⟩
theorem RelTs.keep {H H' : Hp} (b : TupK H H') : ∀ {ts : List Tr} {xs : List V}, RelTs H ts xs → RelTs H' ts xs
  | [], xs, h => by rw [RelTs] at h ⊢; exact h
  | t :: ts, xs, h => by
    rw [RelTs] at h ⊢
    obtain ⟨x, ys, e, h1, h2⟩ := h
    exact ⟨x, ys, e, RelT.keep b h1, RelTs.keep b h2⟩
end
theorem RelTs.snoc {H : Hp} : ∀ {ts : List Tr} {xs : List V} {t : Tr} {x : V}, RelTs H ts xs → RelT H t x → RelTs H (ts ++ [t]) (xs ++ [x])
  | [], xs, t, x, h, hx => by
    rw [RelTs] at h
    subst h
    show RelTs H [t] [x]
    rw [RelTs]
    exact ⟨x, [], rfl, hx, by rw [RelTs]⟩
  | u :: ts, xs, t, x, h, hx => by
    rw [RelTs] at h
    obtain ⟨y, ys, rfl, h1, h2⟩ := h
    show RelTs H (u :: (ts ++ [t])) (y :: (ys ++ [x]))
    rw [RelTs]
    exact ⟨y, _, rfl, h1, h2.snoc hx⟩
theorem wd_rel {H : Hp} (wd : Wd) : RelT H (wdT wd) (wdV wd) := by
  cases wd with
  | s l => show RelT H (.s l) _; rw [RelT]; rfl
  | n k => show RelT H (.n k) _; rw [RelT]; rfl
/-- the next word is x just where its text is -/
theorem hd_nx {x : String} (hx : codes x ≠ []) {toks : List Tk} (hk : ∀ t ∈ toks, TkOk t) : hd x toks = true ↔ nx toks = codes x := by
  cases toks with
  | nil => exact ⟨(fun h => by cases h), (fun h => absurd (show codes x = [] from h.symm) hx)⟩
  | cons t r =>
    show isW x t = true ↔ _
    unfold isW
    rw [Bool.and_eq_true, Bool.or_eq_true, decide_eq_true_eq, decide_eq_true_eq, decide_eq_true_eq]
    constructor
    · rintro ⟨h, e⟩
      exact nx_km h e
    · intro h
      by_cases hs : t.so = .key ∨ t.so = .mark
      · obtain ⟨l, e⟩ := hk t List.mem_cons_self hs
        rw [nx_km hs e] at h
        exact ⟨hs, by rw [e, h]⟩
      · rw [nx_no (fun e => hs (.inl e)) (fun e => hs (.inr e))] at h
        exact absurd h.symm hx
/-! ### the promise of a def that reads -/
/-- where a parser X leaves the reader that stands at i with o brackets open; failed: where it was, as it was -/
def ParQ {σ : Type} (p ws : Addr) (toks : List Tk) (o : Int) (x : R Tk σ) (rel : Hp → σ → V → Prop) (H : Hp) (Q : VK) : Prop := match x with
  | .ok a r => ∀ H' v, But p H H' → PAt H' p ws (toks.length - r.length) .non o → rel H' a v → Q v H'
  | .bad r => ∀ H' v o', But p H H' → PAt H' p ws toks.length (.int ((toks.length - r.length : Nat) : Int)) o' → Q v H'
  | .out => True
def FailQ (p ws : Addr) (toks : List Tk) (j : Int) (H : Hp) (Q : VK) : Prop := ∀ H' v o', But p H H' → PAt H' p ws toks.length (.int j) o' → Q v H'
/-- a def of one argument, the reader, that does as X does -/
def sp_par {σ : Type} (d m : Nat) (X : P σ) (rel : Hp → σ → V → Prop) : Sp := fun vs H Q _ => ∃ (p ws : Addr) (us : List V) (toks : List Tk) (i : Nat) (o : Int), vs = [.ref p] ∧ PW H p ws us toks ∧
  ((o = 60 - (d : Int) ∧ Okm toks m i ∧ PAt H p ws i .non o ∧ ParQ p ws toks o (X (toks.drop i)) rel H Q) ∨ ∃ j, PAt H p ws toks.length (.int j) o ∧ FailQ p ws toks j H Q)
theorem want_yes {x : String} {t : Tk} {r : List Tk} (h : hd x (t :: r) = true) : want x (t :: r) = .ok () r := if_pos h
theorem want_no {x : String} {toks : List Tk} (h : ¬ hd x toks = true) : want x toks = .bad toks := by
  cases toks with
  | nil => rfl
  | cons t r => exact if_neg h
/-- what is left to do once a list with commas has an item more -/
def contM (X : P Tr) (n : Nat) (acc : List Tr) : P (List Tr) := fun r => if hd "," r = true then many X n acc r.tail else .ok acc r
theorem drop_len_pos {toks : List Tk} {i : Nat} (h : i ≤ toks.length) : toks.length - (toks.drop i).length = i := by rw [List.length_drop]; omega
section
variable {P : Program} {w : World} {K : PySem.W.Frag} {mg : Str → Option Value} {base : Heap}
theorem named_two (toks : List Tk) (i : Nat) : (∃ t : Tk, i < toks.length ∧ nameN (toks.drop i) = some (wdV t.wd) ∧ named (toks.drop i) = .ok (wdT t.wd) (toks.drop (i + 1))) ∨ (nameN (toks.drop i) = none ∧ named (toks.drop i) = .bad (toks.drop i)) := by
  by_cases hi : i < toks.length
  · rw [drop_at hi]
    by_cases h : toks[i].so = .name
    · exact .inl ⟨toks[i], hi, if_pos h, if_pos h⟩
    · exact .inr ⟨if_neg h, if_neg h⟩
  · rw [List.drop_eq_nil_of_le (by omega)]
    exact .inr ⟨rfl, rfl⟩
end
end Wk
set_option maxRecDepth 100000
set_option maxHeartbeats 8000000
namespace Wk
open PySem L2 TL PyProof.Rows Gm Gr
open SX (S S_len)
theorem suf_drop {r toks : List Tk} (h : r <:+ toks) : r = toks.drop (toks.length - r.length) := by
  obtain ⟨pre, rfl⟩ := h
  rw [List.length_append, Nat.add_sub_cancel, List.drop_left]
/-- an expression, as climbing leaves it -/
theorem bin_three {e i : Nat} (toks : List Tk) :
    (∃ t i2, climb (G (inn e)) (3 * (toks.drop i).length + 3) 1 (toks.drop i) = .ok t (toks.drop i2) ∧ i < i2 ∧ i2 ≤ toks.length ∧ expr (inn e) (toks.drop i) = .ok t (toks.drop i2)) ∨
    (∃ t i2, climb (G (inn e)) (3 * (toks.drop i).length + 3) 1 (toks.drop i) = .ok t (toks.drop i2) ∧ i < i2 ∧ i2 ≤ toks.length ∧ lvH (G none) (toks.drop i2) ≠ 0 ∧ expr (inn e) (toks.drop i) = .bad (toks.drop i2)) ∨
    (∃ i2, climb (G (inn e)) (3 * (toks.drop i).length + 3) 1 (toks.drop i) = .bad (toks.drop i2) ∧ 0 ≤ i2 ∧ i2 ≤ toks.length ∧ expr (inn e) (toks.drop i) = .bad (toks.drop i2)) := by
  have hg := (gd_climb (in_ok e) (3 * (toks.drop i).length + 3)).1 1 (toks.drop i) (by omega)
  have hsuf : toks.drop i <:+ toks := List.drop_suffix i toks
  have hex : expr (inn e) (toks.drop i) = bind (climb (G (inn e)) (3 * (toks.drop i).length + 3) 1 (toks.drop i)) fun t r => fin (G (inn e)) t r := rfl
  cases ec : climb (G (inn e)) (3 * (toks.drop i).length + 3) 1 (toks.drop i) with
  | out => rw [ec] at hg; exact hg.elim
  | bad r =>
    rw [ec] at hg hex
    have hr : r <:+ toks := List.IsSuffix.trans hg hsuf
    have hl := List.IsSuffix.length_le hg
    rw [List.length_drop] at hl
    refine .inr (.inr ⟨toks.length - r.length, ?_, by omega, by omega, ?_⟩)
    · rw [← suf_drop hr]
    · rw [← suf_drop hr]; exact hex
  | ok t r =>
    rw [ec] at hg hex
    have hr : r <:+ toks := List.IsSuffix.trans hg.1 hsuf
    have hl := hg.2 rfl
    have hl2 := List.IsSuffix.length_le hr
    rw [List.length_drop] at hl
    have hex : expr (inn e) (toks.drop i) = fin (G (inn e)) t r := hex
    unfold fin at hex
    by_cases h0 : lvH (G (inn e)) r = 0
    · rw [if_pos h0] at hex
      exact .inl ⟨t, toks.length - r.length, by rw [← suf_drop hr], by omega, by omega, by rw [← suf_drop hr]; exact hex⟩
    · rw [if_neg h0] at hex
      refine .inr (.inl ⟨t, toks.length - r.length, by rw [← suf_drop hr], by omega, by omega, ?_, by rw [← suf_drop hr]; exact hex⟩)
      rw [← suf_drop hr]
      exact h0
section
variable {P : Program} {w : World} {K : PySem.W.Frag} {mg : Str → Option Value} {base : Heap}
/-- an expression from a level on -/
def sp_bin (d m : Nat) : Sp := fun vs H Q _ => ∃ (p ws : Addr) (us : List V) (toks : List Tk) (i : Nat) (o : Int) (least : Nat), vs = [.ref p, .int (least : Int)] ∧ PW H p ws us toks ∧
  ((o = 60 - (d : Int) ∧ Okm toks m i ∧ PAt H p ws i .non o ∧ ParQ p ws toks o (climb (G (inn d)) (3 * (toks.drop i).length + 3) least (toks.drop i)) RelT H Q) ∨ ∃ j, PAt H p ws toks.length (.int j) o ∧ FailQ p ws toks j H Q)
end
end Wk
set_option maxRecDepth 100000
set_option maxHeartbeats 8000000
namespace Wk
open PySem L2 TL PyProof.Rows Gm Gr
open SX (S S_len)
section
variable {P : Program} {w : World} {K : PySem.W.Frag} {mg : Str → Option Value} {base : Heap}
theorem par_three {e i : Nat} {X : Gr.P Tr} (hX : ∀ r, Gd true r (X r)) (toks : List Tk) :
    (∃ t i2, X (toks.drop i) = .ok t (toks.drop i2) ∧ i < i2 ∧ i2 ≤ toks.length) ∨ (∃ i2, X (toks.drop i) = .bad (toks.drop i2) ∧ i2 ≤ toks.length) := by
  have hg := hX (toks.drop i)
  have hsuf : toks.drop i <:+ toks := List.drop_suffix i toks
  cases ec : X (toks.drop i) with
  | out => rw [ec] at hg; exact hg.elim
  | bad r =>
    rw [ec] at hg
    have hr : r <:+ toks := List.IsSuffix.trans hg hsuf
    exact .inr ⟨toks.length - r.length, by rw [← suf_drop hr], by omega⟩
  | ok t r =>
    rw [ec] at hg
    have hr : r <:+ toks := List.IsSuffix.trans hg.1 hsuf
    have hl := hg.2 rfl
    have hl2 := List.IsSuffix.length_le hr
    rw [List.length_drop] at hl
    exact .inl ⟨t, toks.length - r.length, by rw [← suf_drop hr], by omega, by omega⟩
end
end Wk
set_option maxRecDepth 100000
set_option maxHeartbeats 8000000
namespace Wk
open PySem L2 TL PyProof.Rows Gm Gr
open SX (S S_len)
/-! ### one call behind the other: where the reader is, and what was read so far -/
section
variable {σ : Type} {p ws : Addr} {us : List V} {toks : List Tk} {H0 : Hp} {Q : VK} {oF : Int} {x : R Tk σ} {rel : Hp → σ → V → Prop} {xs0 : List V} {m : Nat}
/-- f is what is left to do; as, vs what was read; dm: a word that binds may stand here, with which nothing goes on -/
def Cur (p ws : Addr) (toks : List Tk) (m : Nat) (H0 : Hp) (Q : VK) (oF : Int) (x : R Tk σ) (rel : Hp → σ → V → Prop) (dm : Bool) (o : Int) (f : Gr.P σ) (as : List Tr) (vs : List V) (H : Hp) : Prop :=
  But p H0 H ∧ ((∃ i, Okm toks m i ∧ PAt H p ws i .non o ∧ RelTs H as vs ∧ x = f (toks.drop i) ∧ ParQ p ws toks oF x rel H0 Q) ∨
    (∃ i, dm = true ∧ Okm toks m i ∧ PAt H p ws i .non o ∧ lvH (G none) (toks.drop i) ≠ 0 ∧ x = .bad (toks.drop i) ∧ ParQ p ws toks oF x rel H0 Q) ∨
    ∃ j o', PAt H p ws toks.length (.int j) o' ∧ FailQ p ws toks j H0 Q)
theorem fail_of {k : Nat} (hk : k ≤ toks.length) (ex : x = .bad (toks.drop k)) (hq : ParQ p ws toks oF x rel H0 Q) : FailQ p ws toks (k : Int) H0 Q := by
  rw [ex] at hq
  intro H2 v o' b2 hp2
  exact hq H2 v o' b2 (by rw [drop_len_pos hk]; exact hp2)
theorem failV_int {i : Nat} {j : Int} : failV i (.int j) = .int j := if_neg (by intro z; cases z)
theorem failV_non {i : Nat} : failV i .non = .int (i : Int) := if_pos rfl
/-- what opens, as the law begins to read with it -/
theorem Cur.start {d : Nat} {i : Nat} {o : Int} {X : Gr.P σ} (h : (o = 60 - (d : Int) ∧ Okm toks m i ∧ PAt H0 p ws i .non o ∧ ParQ p ws toks o (X (toks.drop i)) rel H0 Q) ∨ ∃ j, PAt H0 p ws toks.length (.int j) o ∧ FailQ p ws toks j H0 Q) :
    Cur p ws toks m H0 Q o (X (toks.drop i)) rel false o X [] [] H0 := by
  refine ⟨But.refl _ _, ?_⟩
  rcases h with ⟨_, hi, hp, hq⟩ | ⟨j, hp, hq⟩
  · exact .inl ⟨i, hi, hp, by rw [RelTs], rfl, hq⟩
  · exact .inr (.inr ⟨j, o, hp, hq⟩)
theorem Cur.at_ {dm : Bool} {o : Int} {f : Gr.P σ} {as : List Tr} {vs : List V} {H : Hp} (c : Cur p ws toks m H0 Q oF x rel dm o f as vs H) : ∃ i g o', PAt H p ws i g o' := by
  rcases c.2 with ⟨i, _, h, _⟩ | ⟨i, _, _, h, _⟩ | ⟨j, o', h, _⟩
  · exact ⟨_, _, _, h⟩
  · exact ⟨_, _, _, h⟩
  · exact ⟨_, _, _, h⟩
/-- what leaves the reader as it is -/
theorem Cur.same {dm : Bool} {o : Int} {f : Gr.P σ} {as : List Tr} {vs : List V} {H H' : Hp} (c : Cur p ws toks m H0 Q oF x rel dm o f as vs H) (g : Same H H') : Cur p ws toks m H0 Q oF x rel dm o f as vs H' := by
  refine ⟨c.1.trans (But.same g), ?_⟩
  rcases c.2 with ⟨i, hi, hp, hr, ex, hq⟩ | ⟨i, hd, hi, hp, hl, ex, hq⟩ | ⟨j, o', hp, hq⟩
  · exact .inl ⟨i, hi, g _ _ hp, hr.keep (TupK.same g), ex, hq⟩
  · exact .inr (.inl ⟨i, hd, hi, g _ _ hp, hl, ex, hq⟩)
  · exact .inr (.inr ⟨j, o', g _ _ hp, hq⟩)
/-- _law_named -/
theorem Cur.named {o : Int} {g : Tr → Gr.P σ} {as : List Tr} {vs : List V} {H : Hp} {Rk : VK} {E : XK} (W : PW H0 p ws us toks) (hp0 : H0 p = some (.lst xs0)) (c : Cur p ws toks m H0 Q oF x rel false o (fun r => bind (Gr.named r) g) as vs H)
    (k : ∀ H' v a, But p H H' → Cur p ws toks m H0 Q oF x rel false o (g a) (as ++ [a]) (vs ++ [v]) H' → Rk v H') : sp_named [.ref p] H Rk E := by
  have W1 := W.but c.1 hp0
  rcases c.2 with ⟨i, hi, hp, hr, ex, hq⟩ | ⟨i, hd_, _⟩ | ⟨j, o', hp, hq⟩
  · refine ⟨p, ws, us, toks, i, .non, o, rfl, W1, hp, ?_⟩
    have ex : x = bind (Gr.named (toks.drop i)) g := ex
    rcases named_two toks i with ⟨t, hlt, en, en2⟩ | ⟨en, en2⟩
    · rw [en]
      rw [en2] at ex
      intro H' b hp'
      exact k H' _ _ b ⟨c.1.trans b, .inl ⟨i + 1, hi.next (Nat.le_succ _) hlt, hp', (hr.keep (TupK.but b hp)).snoc (wd_rel _), ex, hq⟩⟩
    · rw [en]
      rw [en2] at ex
      intro H' b hp'
      exact k H' _ .z b ⟨c.1.trans b, .inr (.inr ⟨(i : Int), o, by rw [failV_non] at hp'; exact hp', fail_of hi.1 ex hq⟩)⟩
  · cases hd_
  · refine ⟨p, ws, us, toks, toks.length, .int j, o', rfl, W1, hp, ?_⟩
    rw [List.drop_eq_nil_of_le (Nat.le_refl _)]
    intro H' b hp'
    exact k H' _ .z b ⟨c.1.trans b, .inr (.inr ⟨j, o', by rw [failV_int] at hp'; exact hp', hq⟩)⟩
/-- a def that reads as X does, not behind a word that binds -/
theorem Cur.par {d : Nat} {o : Int} {X : Gr.P Tr} {g : Tr → Gr.P σ} {as : List Tr} {vs : List V} {H : Hp} {Rk : VK} {E : XK} (W : PW H0 p ws us toks) (hp0 : H0 p = some (.lst xs0)) (ho : o = 60 - (d : Int)) (hX : ∀ r, Gd true r (X r))
    (c : Cur p ws toks m H0 Q oF x rel false o (fun r => bind (X r) g) as vs H) (k : ∀ H' v a, But p H H' → Cur p ws toks m H0 Q oF x rel false o (g a) (as ++ [a]) (vs ++ [v]) H' → Rk v H') : sp_par d m X RelT [.ref p] H Rk E := by
  have W1 := W.but c.1 hp0
  rcases c.2 with ⟨i, hi, hp, hr, ex, hq⟩ | ⟨i, hd_, _⟩ | ⟨j, o', hp, hq⟩
  · refine ⟨p, ws, us, toks, i, o, rfl, W1, .inl ⟨ho, hi, hp, ?_⟩⟩
    have ex : x = bind (X (toks.drop i)) g := ex
    rcases par_three (e := d) (i := i) hX toks with ⟨t, i2, ec, l1, l2⟩ | ⟨i2, ec, l2⟩
    · rw [ec] at ex ⊢
      intro H' v b hp' hr'
      exact k H' v t b ⟨c.1.trans b, .inl ⟨i2, hi.next (Nat.le_of_lt l1) l2, by rw [drop_len_pos l2] at hp'; exact hp', (hr.keep (TupK.but b hp)).snoc hr', ex, hq⟩⟩
    · rw [ec] at ex ⊢
      intro H' v o2 b hp'
      exact k H' v .z b ⟨c.1.trans b, .inr (.inr ⟨(i2 : Int), o2, by rw [drop_len_pos l2] at hp'; exact hp', fail_of l2 ex hq⟩)⟩
  · cases hd_
  · refine ⟨p, ws, us, toks, toks.length, o', rfl, W1, .inr ⟨j, hp, fun H' v o2 b hp' => ?_⟩⟩
    exact k H' v .z b ⟨c.1.trans b, .inr (.inr ⟨j, o2, hp', hq⟩)⟩
/-- an expression -/
theorem Cur.bin {d : Nat} {o : Int} {g : Tr → Gr.P σ} {as : List Tr} {vs : List V} {H : Hp} {Rk : VK} {E : XK} (W : PW H0 p ws us toks) (hp0 : H0 p = some (.lst xs0)) (ho : o = 60 - (d : Int))
    (c : Cur p ws toks m H0 Q oF x rel false o (fun r => bind (expr (inn d) r) g) as vs H) (k : ∀ H' v a, But p H H' → Cur p ws toks m H0 Q oF x rel true o (g a) (as ++ [a]) (vs ++ [v]) H' → Rk v H') : sp_bin d m [.ref p, .int 1] H Rk E := by
  have W1 := W.but c.1 hp0
  rcases c.2 with ⟨i, hi, hp, hr, ex, hq⟩ | ⟨i, hd_, _⟩ | ⟨j, o', hp, hq⟩
  · refine ⟨p, ws, us, toks, i, o, 1, rfl, W1, .inl ⟨ho, hi, hp, ?_⟩⟩
    have ex : x = bind (expr (inn d) (toks.drop i)) g := ex
    rcases bin_three (e := d) (i := i) toks with ⟨t, i2, ec, l1, l2, ee⟩ | ⟨t, i2, ec, l1, l2, hlv, ee⟩ | ⟨i2, ec, l1, l2, ee⟩
    · rw [ec]
      rw [ee] at ex
      intro H' v b hp' hr'
      exact k H' v t b ⟨c.1.trans b, .inl ⟨i2, hi.next (Nat.le_of_lt l1) l2, by rw [drop_len_pos l2] at hp'; exact hp', (hr.keep (TupK.but b hp)).snoc hr', ex, hq⟩⟩
    · rw [ec]
      rw [ee] at ex
      intro H' v b hp' hr'
      exact k H' v .z b ⟨c.1.trans b, .inr (.inl ⟨i2, rfl, hi.next (Nat.le_of_lt l1) l2, by rw [drop_len_pos l2] at hp'; exact hp', hlv, ex, hq⟩)⟩
    · rw [ec]
      rw [ee] at ex
      intro H' v o2 b hp'
      exact k H' v .z b ⟨c.1.trans b, .inr (.inr ⟨(i2 : Int), o2, by rw [drop_len_pos l2] at hp'; exact hp', fail_of l2 ex hq⟩)⟩
  · cases hd_
  · refine ⟨p, ws, us, toks, toks.length, o', 1, rfl, W1, .inr ⟨j, hp, fun H' v o2 b hp' => ?_⟩⟩
    exact k H' v .z b ⟨c.1.trans b, .inr (.inr ⟨j, o2, hp', hq⟩)⟩
/-- it is told -/
theorem Cur.done {as : List Tr} {vs : List V} {a : σ} {v : V} {H : Hp} (c : Cur p ws toks m H0 Q oF x rel false oF (fun r => .ok a r) as vs H) (hr : RelTs H as vs → rel H a v) : Q v H := by
  rcases c.2 with ⟨i, hi, hp, hr0, ex, hq⟩ | ⟨i, hd_, _⟩ | ⟨j, o', hp, hq⟩
  · rw [ex] at hq
    exact hq H v c.1 (by rw [drop_len_pos hi.1]; exact hp) (hr hr0)
  · cases hd_
  · exact hq H v o' c.1 hp
end
end Wk
set_option maxRecDepth 100000
set_option maxHeartbeats 8000000
namespace Wk
open PySem L2 TL PyProof.Rows Gm Gr
open SX (S S_len)
theorem isW_other {s s' : String} {t : Tk} (h : isW s t = true) (hne : codes s ≠ codes s') : ¬ isW s' t = true := fun z => by
  unfold isW at h z
  rw [Bool.and_eq_true, decide_eq_true_eq] at h z
  rw [h.2] at z
  exact hne (Wd.s.inj z.2)
theorem isW_wd {s : String} {t : Tk} (h : isW s t = true) : wdT t.wd = .s (codes s) := by
  unfold isW at h
  rw [Bool.and_eq_true, decide_eq_true_eq] at h
  rw [h.2]; rfl
theorem isW_nx {s : String} {t : Tk} {r : List Tk} (h : isW s t = true) : nx (t :: r) = codes s := by
  unfold isW at h
  rw [Bool.and_eq_true, Bool.or_eq_true, decide_eq_true_eq, decide_eq_true_eq, decide_eq_true_eq] at h
  exact nx_km h.1 h.2
theorem stmt_var {q : Option In} {t : Tk} {r : List Tk} (h : isW "var" t = true) : stmt q (t :: r) = bind (named r) fun n r => bind (want "=" r) fun _ r => bind (expr q r) fun e r => bind (want ";" r) fun _ r => .ok (.t [w "var", n, e]) r := by
  rw [stmt]
  have h1 : ¬ is1 ["break", "continue"] t = true := by
    show ¬ (isW "break" t || (isW "continue" t || false)) = true
    rw [Bool.or_eq_true, Bool.or_eq_true]
    rintro (z | z | z)
    · exact isW_other h (by decide +kernel) z
    · exact isW_other h (by decide +kernel) z
    · cases z
  rw [if_neg h1, if_pos h]
theorem stmt_stop {q : Option In} {t : Tk} {r : List Tk} {s : String} (hs : s = "break" ∨ s = "continue") (h : isW s t = true) : stmt q (t :: r) = bind (want ";" r) fun _ r => .ok (.t [.s (codes s)]) r := by
  rw [stmt]
  have h1 : is1 ["break", "continue"] t = true := by
    show (isW "break" t || (isW "continue" t || false)) = true
    rcases hs with rfl | rfl <;> rw [h] <;> simp
  rw [if_pos h1, isW_wd h]
theorem stmt_give {q : Option In} {t : Tk} {r : List Tk} {s : String} (hs : s = "return" ∨ s = "throw" ∨ s = "say") (h : isW s t = true) : stmt q (t :: r) = bind (expr q r) fun e r => bind (want ";" r) fun _ r => .ok (.t [.s (codes s), e]) r := by
  have other : ∀ {u : String}, codes "return" ≠ codes u → codes "throw" ≠ codes u → codes "say" ≠ codes u → ¬ isW u t = true := fun h1 h2 h3 => by
    rcases hs with rfl | rfl | rfl
    · exact isW_other h h1
    · exact isW_other h h2
    · exact isW_other h h3
  rw [stmt]
  have h1 : ¬ is1 ["break", "continue"] t = true := by
    show ¬ (isW "break" t || (isW "continue" t || false)) = true
    rw [Bool.or_eq_true, Bool.or_eq_true]
    rintro (z | z | z)
    · exact other (by decide +kernel) (by decide +kernel) (by decide +kernel) z
    · exact other (by decide +kernel) (by decide +kernel) (by decide +kernel) z
    · cases z
  have h2 : is1 ["return", "throw", "say"] t = true := by
    show (isW "return" t || (isW "throw" t || (isW "say" t || false))) = true
    rcases hs with rfl | rfl | rfl <;> rw [h] <;> simp
  rw [if_neg h1, if_neg (other (by decide +kernel) (by decide +kernel) (by decide +kernel)), if_pos h2, isW_wd h]
theorem Cur.swap {σ : Type} {p ws : Addr} {toks : List Tk} {m : Nat} {H0 : Hp} {Q : VK} {oF : Int} {x : R Tk σ} {rel : Hp → σ → V → Prop} {dm : Bool} {o : Int} {f : Gr.P σ} {as as' : List Tr} {vs vs' : List V} {H : Hp} (c : Cur p ws toks m H0 Q oF x rel dm o f as vs H) (h : RelTs H as vs → RelTs H as' vs') : Cur p ws toks m H0 Q oF x rel dm o f as' vs' H := by
  refine ⟨c.1, ?_⟩
  rcases c.2 with ⟨i, hi, hp, hr, ex, hq⟩ | h2 | h3
  · exact .inl ⟨i, hi, hp, h hr, ex, hq⟩
  · exact .inr (.inl h2)
  · exact .inr (.inr h3)
/-- a tuple of what was read, laid -/
theorem rel_tup {H : Hp} {a : Addr} {ts : List Tr} {xs : List V} (ha : H a = some (.tup xs)) (h : RelTs H ts xs) : RelTs H [.t ts] [.ref a] := by
  rw [RelTs]
  refine ⟨_, [], rfl, ?_, by rw [RelTs]⟩
  rw [RelT]
  exact ⟨a, xs, rfl, ha, h⟩
theorem rel_word {H : Hp} {s : String} {ts : List Tr} {xs : List V} (h : RelTs H ts xs) : RelTs H (.s (codes s) :: ts) (.str (S (codes s)) :: xs) := by
  rw [RelTs]
  exact ⟨_, _, rfl, by rw [RelT], h⟩
end Wk
set_option maxRecDepth 100000
set_option maxHeartbeats 8000000
namespace Wk
open PySem L2 TL PyProof.Rows Gm Gr
open SX (S S_len)
section
variable {σ : Type} {p ws : Addr} {us : List V} {toks : List Tk} {H0 : Hp} {Q : VK} {oF : Int} {x : R Tk σ} {rel : Hp → σ → V → Prop} {xs0 : List V} {m : Nat}
/-- _law_next: a word that is none that binds is seen only where it stands -/
theorem Cur.next {dm : Bool} {o : Int} {f : Gr.P σ} {as : List Tr} {vs : List V} {H : Hp} {Rk : VK} {E : XK} (W : PW H0 p ws us toks) (hp0 : H0 p = some (.lst xs0)) (c : Cur p ws toks m H0 Q oF x rel dm o f as vs H)
    (k : ∀ H' l, Same H H' → ((∃ i, Okm toks m i ∧ PAt H' p ws i .non o ∧ l = nx (toks.drop i) ∧ RelTs H' as vs ∧ x = f (toks.drop i) ∧ ParQ p ws toks oF x rel H0 Q) ∨
      ((∀ s : String, codes s ≠ [] → (∀ q ∈ levelS, codes q.1 ≠ codes s) → l ≠ codes s) ∧ ∀ g as' vs', Cur p ws toks m H0 Q oF x rel dm o g as' vs' H')) → Rk (.str (S l)) H') : sp_next [.ref p] H Rk E := by
  have W1 := W.but c.1 hp0
  rcases c.2 with ⟨i, hi, hp, hr, ex, hq⟩ | ⟨i, hd_, hi, hp, hl, ex, hq⟩ | ⟨j, o', hp, hq⟩
  · exact ⟨p, ws, us, toks, i, .non, o, rfl, W1, hp, fun H' g => k H' _ g (.inl ⟨i, hi, g _ _ hp, rfl, hr.keep (TupK.same g), ex, hq⟩)⟩
  · refine ⟨p, ws, us, toks, i, .non, o, rfl, W1, hp, fun H' g => k H' _ g (.inr ⟨fun s hs h3 z => ?_, fun _ _ _ => ⟨c.1.trans (But.same g), .inr (.inl ⟨i, hd_, hi, g _ _ hp, hl, ex, hq⟩)⟩⟩)⟩
    cases e : toks.drop i with
    | nil => rw [e] at hl; exact hl rfl
    | cons t r =>
      rw [e] at hl z
      have hl : level t ≠ 0 := hl
      unfold level at hl
      cases e2 : levelS.find? fun q => isW q.1 t with
      | none => rw [e2] at hl; exact hl rfl
      | some q =>
        have hq1 : isW q.1 t = true := List.find?_some (p := fun q : String × Nat => isW q.1 t) e2
        rw [isW_nx hq1] at z
        exact h3 q (List.mem_of_find?_eq_some e2) z
  · refine ⟨p, ws, us, toks, toks.length, .int j, o', rfl, W1, hp, fun H' g => ?_⟩
    rw [List.drop_eq_nil_of_le (Nat.le_refl _)]
    exact k H' _ g (.inr ⟨fun s hs _ z => hs z.symm, fun _ _ _ => ⟨c.1.trans (But.same g), .inr (.inr ⟨j, o', g _ _ hp, hq⟩)⟩⟩)
/-- _law_go behind a word that is no bracket -/
theorem Cur.go {o : Int} {i : Nat} {s : String} {g : Gr.P σ} {as : List Tr} {vs : List V} {H : Hp} {Rk : VK} {E : XK} (W : PW H0 p ws us toks) (hp0 : H0 p = some (.lst xs0)) (b0 : But p H0 H) (hm : Okm toks m (i + 1)) (hi : i < toks.length) (hp : PAt H p ws i .non o) (hn : nx (toks.drop i) = codes s) (h1 : codes s ∉ opens) (h2 : codes s ∉ closes)
    (hr : RelTs H as vs) (ex : x = g (toks.drop (i + 1))) (hq : ParQ p ws toks oF x rel H0 Q) (k : ∀ H', But p H H' → Cur p ws toks m H0 Q oF x rel false o g as vs H' → Rk .non H') : sp_go [.ref p] H Rk E := by
  refine ⟨p, ws, us, toks, i, .non, o, rfl, W.but b0 hp0, hp, ?_⟩
  rw [hn, if_neg h1, if_neg h2]
  intro H' b hp'
  exact k H' b ⟨b0.trans b, .inl ⟨i + 1, hm, hp', hr.keep (TupK.but b hp), ex, hq⟩⟩
end
end Wk
set_option maxRecDepth 100000
set_option maxHeartbeats 8000000
namespace Wk
open PySem L2 TL PyProof.Rows Gm Gr
open SX (S S_len)
theorem lits (xs : List String) : (xs.map fun s => V.str (Str.ofString s)) = (xs.map codes).map fun l => V.str (S l) := by
  rw [List.map_map]
  exact List.map_congr_left fun s _ => congrArg V.str (S_of s)
theorem in_lits (l : List Nat) (xs : List String) : inV (.str (S l)) (xs.map fun s => V.str (Str.ofString s)) = decide (l ∈ xs.map codes) := by
  rw [lits, inV_keys]
theorem eq_lit {l : List Nat} {s : String} : V.str (S l) = V.str (Str.ofString s) ↔ l = codes s :=
  ⟨fun h => S_inj (V.str.inj (h.trans (congrArg V.str (S_of s)))), fun h => by rw [h]; exact congrArg V.str (S_of s).symm⟩
theorem ParQ.but {σ : Type} {p ws : Addr} {toks : List Tk} {o : Int} {x : R Tk σ} {rel : Hp → σ → V → Prop} {H H1 : Hp} {Q : VK} (h : ParQ p ws toks o x rel H Q) (b : But p H H1) : ParQ p ws toks o x rel H1 Q := by
  cases x with
  | out => exact h
  | bad r => exact fun H' v o' b' => h H' v o' (b.trans b')
  | ok a r => exact fun H' v b' => h H' v (b.trans b')
theorem FailQ.but {p ws : Addr} {toks : List Tk} {j : Int} {H H1 : Hp} {Q : VK} (h : FailQ p ws toks j H Q) (b : But p H H1) : FailQ p ws toks j H1 Q := fun H' v o' b' => h H' v o' (b.trans b')
section
variable {σ : Type} {p ws : Addr} {us : List V} {toks : List Tk} {H0 : Hp} {Q : VK} {oF : Int} {x : R Tk σ} {rel : Hp → σ → V → Prop} {xs0 : List V} {m : Nat}
/-- nothing goes on here -/
def CurD (p ws : Addr) (toks : List Tk) (m : Nat) (H0 : Hp) (Q : VK) (oF : Int) (x : R Tk σ) (rel : Hp → σ → V → Prop) (o : Int) (H : Hp) : Prop :=
  But p H0 H ∧ ((∃ i, Okm toks m i ∧ PAt H p ws i .non o ∧ lvH (G none) (toks.drop i) ≠ 0 ∧ x = .bad (toks.drop i) ∧ ParQ p ws toks oF x rel H0 Q) ∨
    ∃ j o', PAt H p ws toks.length (.int j) o' ∧ FailQ p ws toks j H0 Q)
theorem CurD.same {o : Int} {H H' : Hp} (c : CurD p ws toks m H0 Q oF x rel o H) (g : Same H H') : CurD p ws toks m H0 Q oF x rel o H' := by
  refine ⟨c.1.trans (But.same g), ?_⟩
  rcases c.2 with ⟨i, h1, h2, h3, h4, h5⟩ | ⟨j, o', h1, h2⟩
  · exact .inl ⟨i, h1, g _ _ h2, h3, h4, h5⟩
  · exact .inr ⟨j, o', g _ _ h1, h2⟩
theorem CurD.next {o : Int} {H : Hp} {Rk : VK} {E : XK} (W : PW H0 p ws us toks) (hp0 : H0 p = some (.lst xs0)) (c : CurD p ws toks m H0 Q oF x rel o H)
    (k : ∀ H' l, Same H H' → (∀ s : String, codes s ≠ [] → (∀ q ∈ levelS, codes q.1 ≠ codes s) → l ≠ codes s) → Rk (.str (S l)) H') : sp_next [.ref p] H Rk E := by
  have W1 := W.but c.1 hp0
  rcases c.2 with ⟨i, hi, hp, hl, ex, hq⟩ | ⟨j, o', hp, hq⟩
  · refine ⟨p, ws, us, toks, i, .non, o, rfl, W1, hp, fun H' g => k H' _ g fun s hs h3 z => ?_⟩
    cases e : toks.drop i with
    | nil => rw [e] at hl; exact hl rfl
    | cons t r =>
      rw [e] at hl z
      have hl : level t ≠ 0 := hl
      unfold level at hl
      cases e2 : levelS.find? fun q => isW q.1 t with
      | none => rw [e2] at hl; exact hl rfl
      | some q =>
        have hq1 : isW q.1 t = true := List.find?_some (p := fun q : String × Nat => isW q.1 t) e2
        rw [isW_nx hq1] at z
        exact h3 q (List.mem_of_find?_eq_some e2) z
  · refine ⟨p, ws, us, toks, toks.length, .int j, o', rfl, W1, hp, fun H' g => k H' _ g fun s hs h3 z => ?_⟩
    rw [List.drop_eq_nil_of_le (Nat.le_refl _)] at z
    exact hs z.symm
end
theorem is1_no {xs : List String} {t : Tk} (h : ∀ s ∈ xs, ¬ isW s t = true) : ¬ is1 xs t = true := fun z => by
  unfold is1 at z
  obtain ⟨s, hs, hw⟩ := List.any_eq_true.mp z
  exact h s hs hw
theorem is1_yes {xs : List String} {t : Tk} {s : String} (hs : s ∈ xs) (h : isW s t = true) : is1 xs t = true := by
  unfold is1
  exact List.any_eq_true.mpr ⟨s, hs, h⟩
def stmtG (q : Option In) (e : Tr) : Gr.P Tr := fun r' =>
      if hd "=" r' && place e then bind (expr q r'.tail) fun u r => bind (want ";" r) fun _ r => .ok (.t [w "set", e, u]) r
      else bind (want ";" r') fun _ r => .ok (.t [w "do", e]) r
def stmtE (q : Option In) : Gr.P Tr := fun r0 => bind (expr q r0) (stmtG q)
def stmtS : List String := ["break", "continue", "var", "return", "throw", "say", "try", "while", "if"]
/-- a statement that begins with no key of its own -/
theorem stmt_else {q : Option In} {toks : List Tk} (h : ∀ s ∈ stmtS, ∀ t r, toks = t :: r → ¬ isW s t = true) (hq : InOk q) : stmt q toks = stmtE q toks := by
  cases toks with
  | nil =>
    rw [stmt]
    unfold stmtE
    have : expr q [] = .bad [] := by
      have hg := gd_expr hq []
      cases e : expr q [] with
      | out => rw [e] at hg; exact hg.elim
      | ok a r => rw [e] at hg; have := hg.2 rfl; simp at this
      | bad r => rw [e] at hg; have : r <:+ [] := hg; rw [List.suffix_nil.mp this]
    rw [this]; rfl
  | cons t r =>
    have h : ∀ s ∈ stmtS, ¬ isW s t = true := fun s hs => h s hs t r rfl
    rw [stmt]
    rw [if_neg (is1_no fun s hs => h s (by simp [stmtS] at hs ⊢; rcases hs with h | h <;> simp [h])), if_neg (h "var" (by simp [stmtS])), if_neg (is1_no fun s hs => h s (by simp [stmtS] at hs ⊢; rcases hs with h | h | h <;> simp [h])), if_neg (h "try" (by simp [stmtS])), if_neg (h "while" (by simp [stmtS])), if_neg (h "if" (by simp [stmtS]))]
    rfl
theorem not_is1 {xs : List String} {t : Tk} {s : String} (h : isW s t = true) (hx : ∀ y ∈ xs, codes s ≠ codes y) : ¬ is1 xs t = true := is1_no fun y hy => isW_other h (hx y hy)
theorem stmt_try {q : Option In} {t : Tk} {r : List Tk} (h : isW "try" t = true) : stmt q (t :: r) = bind (block q r) fun b r => bind (want "catch" r) fun _ r => bind (named r) fun n r => bind (block q r) fun c r => .ok (.t [w "try", b, n, c]) r := by
  rw [stmt, if_neg (not_is1 h (by decide +kernel)), if_neg (isW_other h (by decide +kernel)), if_neg (not_is1 h (by decide +kernel)), if_pos h]
theorem stmt_while {q : Option In} {t : Tk} {r : List Tk} (h : isW "while" t = true) : stmt q (t :: r) = bind (expr q r) fun e r => bind (block q r) fun b r => .ok (.t [w "while", e, b]) r := by
  rw [stmt, if_neg (not_is1 h (by decide +kernel)), if_neg (isW_other h (by decide +kernel)), if_neg (not_is1 h (by decide +kernel)), if_neg (isW_other h (by decide +kernel)), if_pos h]
theorem stmt_if {q : Option In} {t : Tk} {r : List Tk} (h : isW "if" t = true) : stmt q (t :: r) = bind (expr q r) fun e r => bind (block q r) fun b r =>
      if hd "else" r = true then bind (block q r.tail) fun c r => .ok (.t [w "if", e, b, c]) r else .ok (.t [w "if", e, b, .t []]) r := by
  rw [stmt, if_neg (not_is1 h (by decide +kernel)), if_neg (isW_other h (by decide +kernel)), if_neg (not_is1 h (by decide +kernel)), if_neg (isW_other h (by decide +kernel)), if_neg (isW_other h (by decide +kernel)), if_pos h]
end Wk
set_option maxRecDepth 100000
set_option maxHeartbeats 8000000
namespace Wk
open PySem L2 TL PyProof.Rows Gm Gr
open SX (S S_len)
section
variable {P : Program} {w : World} {K : PySem.W.Frag} {mg : Str → Option Value} {base : Heap}
theorem place_in {l : List Nat} {ts : List Tr} : inV (.str (S l)) (["name", "field", "item"].map fun s => V.str (Str.ofString s)) = place (.t (.s l :: ts)) := by
  rw [in_lits]
  show _ = (decide (l = codes "name") || decide (l = codes "field") || decide (l = codes "item"))
  rw [Bool.eq_iff_iff]
  simp [or_assoc]
theorem rel_head {H : Hp} {a : Tr} {v : V} (h : RelT H a v) (hh : HdT a) : ∃ q l ts xs, v = .ref q ∧ a = .t (.s l :: ts) ∧ H q = some (.tup (.str (S l) :: xs)) := by
  obtain ⟨l, ts, rfl⟩ := hh
  rw [RelT] at h
  obtain ⟨q, xs, rfl, hq, hr⟩ := h
  rw [RelTs] at hr
  obtain ⟨y, ys, rfl, h1, h2⟩ := hr
  rw [RelT] at h1
  subst h1
  exact ⟨q, l, ts, ys, rfl, rfl, hq⟩
theorem rels_last {H : Hp} {a : Tr} {v : V} (h : RelTs H [a] [v]) : RelT H a v := by
  rw [RelTs] at h
  obtain ⟨y, ys, e, h1, h2⟩ := h
  rw [RelTs] at h2
  subst h2
  cases e
  exact h1
end
end Wk
set_option maxRecDepth 100000
set_option maxHeartbeats 8000000
namespace Wk
open PySem L2 TL PyProof.Rows Gm Gr
open SX (S S_len)
section
variable {P : Program} {w : World} {K : PySem.W.Frag} {mg : Str → Option Value} {base : Heap}
/-- an expression is asked for where the reader has failed -/
def sp_binF : Sp := fun vs H Q _ => ∃ (p ws : Addr) (us : List V) (toks : List Tk) (o : Int) (least : Nat) (j : Int), vs = [.ref p, .int (least : Int)] ∧ PW H p ws us toks ∧ PAt H p ws toks.length (.int j) o ∧ FailQ p ws toks j H Q
def sp_binS (m : Nat) : Nat → Sp
  | 0 => sp_binF
  | e + 1 => sp_bin e m
end
section
variable {σ : Type} {p ws : Addr} {us : List V} {toks : List Tk} {H0 : Hp} {Q : VK} {oF : Int} {x : R Tk σ} {rel : Hp → σ → V → Prop} {xs0 : List V} {m : Nat}
/-- it has failed -/
def CurF (p ws : Addr) (toks : List Tk) (H0 : Hp) (Q : VK) (H : Hp) : Prop := But p H0 H ∧ ∃ j o', PAt H p ws toks.length (.int j) o' ∧ FailQ p ws toks j H0 Q
theorem CurF.same {H H' : Hp} (c : CurF p ws toks H0 Q H) (g : Same H H') : CurF p ws toks H0 Q H' := by
  obtain ⟨b, j, o', hp, hq⟩ := c
  exact ⟨b.trans (But.same g), j, o', g _ _ hp, hq⟩
/-- behind a bracket that was to be opened: it has failed, or stands behind it -/
def CurO (p ws : Addr) (toks : List Tk) (m : Nat) (H0 : Hp) (Q : VK) (oF : Int) (x : R Tk σ) (rel : Hp → σ → V → Prop) (dm : Bool) (d : Nat) (o : Int) (k : In → Gr.P σ) (as : List Tr) (vs : List V) (H : Hp) : Prop :=
  CurF p ws toks H0 Q H ∨ ∃ e, d = e + 1 ∧ Cur p ws toks m H0 Q oF x rel dm (o + 1) (k (mk (inn e))) as vs H
theorem CurO.same {dm : Bool} {d : Nat} {o : Int} {k : In → Gr.P σ} {as : List Tr} {vs : List V} {H H' : Hp} (c : CurO p ws toks m H0 Q oF x rel dm d o k as vs H) (g : Same H H') : CurO p ws toks m H0 Q oF x rel dm d o k as vs H' := by
  rcases c with c | ⟨e, h, c⟩
  · exact .inl (c.same g)
  · exact .inr ⟨e, h, c.same g⟩
/-- an expression behind a bracket -/
theorem CurO.bin {d : Nat} {o : Int} {g : Tr → Gr.P σ} {as : List Tr} {vs : List V} {H : Hp} {Rk : VK} {E : XK} (W : PW H0 p ws us toks) (hp0 : H0 p = some (.lst xs0)) (ho : o = 60 - (d : Int))
    (c : CurO p ws toks m H0 Q oF x rel false d o (fun q r => bind (q.E r) g) as vs H) (k : ∀ H' v a, But p H H' → Cur p ws toks m H0 Q oF x rel true (o + 1) (g a) (as ++ [a]) (vs ++ [v]) H' → Rk v H') : sp_binS m d [.ref p, .int 1] H Rk E := by
  rcases c with c | ⟨e, rfl, c⟩
  · have W1 := W.but c.1 hp0
    obtain ⟨b0, j, o', hp, hq⟩ := c
    cases d with
    | zero => exact ⟨p, ws, us, toks, o', 1, j, rfl, W1, hp, fun H' v o2 b hp' => k H' v .z b ⟨b0.trans b, .inr (.inr ⟨j, o2, hp', hq⟩)⟩⟩
    | succ e => exact ⟨p, ws, us, toks, toks.length, o', 1, rfl, W1, .inr ⟨j, hp, fun H' v o2 b hp' => k H' v .z b ⟨b0.trans b, .inr (.inr ⟨j, o2, hp', hq⟩)⟩⟩⟩
  · have c : Cur p ws toks m H0 Q oF x rel false (o + 1) (fun r => bind (expr (inn e) r) g) as vs H := c
    exact Cur.bin (E := E) W hp0 (by omega) c k
end
end Wk
set_option maxRecDepth 100000
set_option maxHeartbeats 8000000
namespace Wk
open PySem L2 TL PyProof.Rows Gm Gr
open SX (S S_len)
theorem isW_so {s : String} {t : Tk} (h : isW s t = true) : ¬ (t.so = .number ∨ t.so = .text ∨ t.so = .name) := fun z => by
  unfold isW at h
  rw [Bool.and_eq_true, Bool.or_eq_true, decide_eq_true_eq, decide_eq_true_eq] at h
  rcases h.1 with h | h <;> rw [h] at z <;> rcases z with z | z | z <;> cases z
section
variable {q : Option In} {t : Tk} {r : List Tk}
theorem first_val (h : t.so = .number ∨ t.so = .text ∨ t.so = .name) : first q (t :: r) = .ok (.t [w (soW t.so), wdT t.wd]) r := by
  rw [first, if_pos h]
theorem first_alone {s : String} (hs : s ∈ aloneS) (h : isW s t = true) : first q (t :: r) = .ok (.t [.s (codes s)]) r := by
  rw [first, if_neg (isW_so h), if_pos (is1_yes hs h), isW_wd h]
theorem first_par (h : isW "(" t = true) : first q (t :: r) = opn q "(" (fun q r => bind (q.E r) fun e r => bind (want ")" r) fun _ r => .ok e r) (t :: r) := by
  rw [first, if_neg (isW_so h), if_neg (not_is1 h (by decide +kernel)), if_pos h]
theorem first_ask {s : String} (hs : s ∈ askedS) (h : isW s t = true) : first q (t :: r) = opn q "(" (fun q r => bind (q.E r) fun e r => bind (want ")" r) fun _ r => .ok (.t [w "ask", .s (codes s), .t [e]]) r) r := by
  have : ∀ s ∈ askedS, (∀ y ∈ aloneS, codes s ≠ codes y) ∧ codes s ≠ codes "(" := by decide +kernel
  rw [first, if_neg (isW_so h), if_neg (not_is1 h (this s hs).1), if_neg (isW_other h (this s hs).2), if_pos (is1_yes hs h), isW_wd h]
theorem first_list (h : isW "[" t = true) : first q (t :: r) = opn q "[" (fun q r => bind (listed q.E "]" r) fun ts r => .ok (.t [w "list", .t ts]) r) (t :: r) := by
  rw [first, if_neg (isW_so h), if_neg (not_is1 h (by decide +kernel)), if_neg (isW_other h (by decide +kernel)), if_neg (not_is1 h (by decide +kernel)), if_pos h]
theorem first_fun (h : isW "fun" t = true) : first q (t :: r) = bind (params q r) fun ps r => bind (block q r) fun b r => .ok (.t [w "fun", ps, b]) r := by
  rw [first, if_neg (isW_so h), if_neg (not_is1 h (by decide +kernel)), if_neg (isW_other h (by decide +kernel)), if_neg (not_is1 h (by decide +kernel)), if_neg (isW_other h (by decide +kernel)), if_pos h]
theorem first_super (h : isW "super" t = true) : first q (t :: r) = bind (want "." r) fun _ r => bind (named r) fun n r => bind (args q r) fun a r => .ok (.t [w "up", n, a]) r := by
  rw [first, if_neg (isW_so h), if_neg (not_is1 h (by decide +kernel)), if_neg (isW_other h (by decide +kernel)), if_neg (not_is1 h (by decide +kernel)), if_neg (isW_other h (by decide +kernel)), if_neg (isW_other h (by decide +kernel)), if_pos h]
theorem first_new (h : isW "new" t = true) : first q (t :: r) = bind (named r) fun n r => bind (args q r) fun a r => .ok (.t [w "new", n, a]) r := by
  rw [first, if_neg (isW_so h), if_neg (not_is1 h (by decide +kernel)), if_neg (isW_other h (by decide +kernel)), if_neg (not_is1 h (by decide +kernel)), if_neg (isW_other h (by decide +kernel)), if_neg (isW_other h (by decide +kernel)), if_neg (isW_other h (by decide +kernel)), if_pos h]
theorem first_yield (h : isW "yield" t = true) : first q (t :: r) = opn q "(" (fun _ r => bind (want ")" r) fun _ r => .ok (.t [w "ask", w "yield", .t []]) r) r := by
  rw [first, if_neg (isW_so h), if_neg (not_is1 h (by decide +kernel)), if_neg (isW_other h (by decide +kernel)), if_neg (not_is1 h (by decide +kernel)), if_neg (isW_other h (by decide +kernel)), if_neg (isW_other h (by decide +kernel)), if_neg (isW_other h (by decide +kernel)), if_neg (isW_other h (by decide +kernel)), if_pos h]
def headS : List String := ["(", "[", "true", "false", "nil", "this", "fun", "super", "new", "yield", "len", "weak", "worth", "number", "spawn", "join"]
theorem first_no (h : ¬ (t.so = .number ∨ t.so = .text ∨ t.so = .name)) (h2 : ∀ s ∈ headS, ¬ isW s t = true) : first q (t :: r) = .bad (t :: r) := by
  rw [first, if_neg h, if_neg (is1_no fun s hs => h2 s (by revert s; decide)), if_neg (h2 _ (by decide)), if_neg (is1_no fun s hs => h2 s (by revert s; decide)), if_neg (h2 _ (by decide)), if_neg (h2 _ (by decide)), if_neg (h2 _ (by decide)), if_neg (h2 _ (by decide)), if_neg (h2 _ (by decide))]
end
theorem bind_bind {σ ρ τ : Type} (x : R Tk σ) (f : σ → Gr.P ρ) (g : ρ → Gr.P τ) : bind (bind x f) g = bind x fun a r => bind (f a r) g := by cases x <;> rfl
theorem opn_bind {σ ρ : Type} (q : Option In) (s : String) (k : In → Gr.P σ) (g : σ → Gr.P ρ) (toks : List Tk) : bind (opn q s k toks) g = opn q s (fun p r => bind (k p r) g) toks := by
  cases toks with
  | nil => rfl
  | cons t r =>
    rw [opn.eq_def, opn.eq_def]
    dsimp only
    by_cases h : isW s t = true
    · rw [if_pos h, if_pos h]
      cases q <;> rfl
    · rw [if_neg h, if_neg h]; rfl
theorem soS_w (so : So) : V.str (soS so) = V.str (S (codes (soW so))) := by cases so <;> exact congrArg V.str (S_of _)
end Wk
set_option maxRecDepth 100000
set_option maxHeartbeats 8000000
namespace Wk
open PySem L2 TL PyProof.Rows Gm Gr
open SX (S S_len)
/-! ### the grammar of what stands behind an operand, without fuel -/
section
variable {q : Option In} (hq : InOk q)
include hq
theorem post_fuel : ∀ (n n' : Nat) (t : Tr) (toks : List Tk), toks.length < n → toks.length < n' → post q n t toks = post q n' t toks := by
  intro n
  induction n with
  | zero => intro n' t toks h; omega
  | succ n ih =>
    intro n' t toks h h'
    obtain ⟨n', rfl⟩ : ∃ k, n' = k + 1 := ⟨n' - 1, by omega⟩
    unfold post
    have two : ∀ {X : Gr.P Tr} {f : Tr → Tr} (toks' : List Tk), (∀ r, Gd true r (X r)) → toks'.length ≤ toks.length → bind (X toks') (fun a r => post q n (f a) r) = bind (X toks') fun a r => post q n' (f a) r := fun {X f} toks' hX hl => by
      have hg := hX toks'
      cases e : X toks' with
      | out => rfl
      | bad b => rfl
      | ok a r =>
        rw [e] at hg
        have := hg.2 rfl
        exact ih n' _ r (by omega) (by omega)
    split
    · exact two toks (gd_args hq) (Nat.le_refl _)
    split
    · exact two toks (X := opn q "[" (fun q r => bind (q.E r) fun e r => bind (want "]" r) fun _ r => .ok e r)) (gd_one hq (f := id)) (Nat.le_refl _)
    split
    · rename_i hh
      have ht := hd_tail hh
      have hg := gd_named toks.tail
      cases e : named toks.tail with
      | out => rfl
      | bad b => rfl
      | ok mm r =>
        rw [e] at hg
        have hl := hg.2 rfl
        show (if hd "(" r = true then _ else _) = (if hd "(" r = true then _ else _)
        split
        · exact two r (gd_args hq) (by omega)
        · exact ih n' _ r (by omega) (by omega)
    · rfl
end
def postF (q : Option In) (t : Tr) : Gr.P Tr := fun toks => post q (toks.length + 1) t toks
section
variable {q : Option In} (hq : InOk q)
include hq
theorem postF_bind {X : Gr.P Tr} {f : Tr → Tr} {n : Nat} {toks : List Tk} (hX : ∀ r, Gd true r (X r)) (h : toks.length ≤ n) : bind (X toks) (fun a r => post q n (f a) r) = bind (X toks) fun a r => postF q (f a) r := by
  have hg := hX toks
  cases e : X toks with
  | out => rfl
  | bad b => rfl
  | ok a r =>
    rw [e] at hg
    have := hg.2 rfl
    exact post_fuel hq _ _ _ _ (by omega) (by omega)
theorem postF_call {t : Tr} {toks : List Tk} (h : hd "(" toks = true) : postF q t toks = bind (args q toks) fun a r => postF q (.t [w "call", t, a]) r := by
  unfold postF
  rw [post, if_pos h]
  exact postF_bind hq (f := fun a => .t [w "call", t, a]) (gd_args hq) (Nat.le_refl _)
theorem postF_item {t : Tr} {toks : List Tk} (h : hd "[" toks = true) : postF q t toks = opn q "[" (fun p r => bind (p.E r) fun e r => bind (want "]" r) fun _ r => postF q (.t [w "item", t, e]) r) toks := by
  have h1 : ¬ hd "(" toks = true := fun z => by
    cases toks with
    | nil => cases h
    | cons t r => exact isW_other (s := "[") (s' := "(") h (by decide +kernel) z
  unfold postF
  rw [post, if_neg h1, if_pos h]
  refine (postF_bind hq (X := opn q "[" (fun q r => bind (q.E r) fun e r => bind (want "]" r) fun _ r => .ok e r)) (f := fun e => .t [w "item", t, e]) (gd_one hq (f := id)) (Nat.le_refl _)).trans ?_
  rw [opn_bind]
  congr 1
  funext p r
  rw [bind_bind]
  congr 1
  funext e r
  rw [bind_bind]; rfl
theorem postF_dot {t : Tr} {toks : List Tk} (h : hd "." toks = true) : postF q t toks = bind (named toks.tail) fun m r => if hd "(" r = true then bind (args q r) fun a r => postF q (.t [w "send", t, m, a]) r else postF q (.t [w "field", t, m]) r := by
  have h1 : ∀ s : String, codes "." ≠ codes s → ¬ hd s toks = true := fun s hs z => by
    cases toks with
    | nil => cases h
    | cons t r => exact isW_other (s := ".") h hs z
  unfold postF
  rw [post, if_neg (h1 _ (by decide +kernel)), if_neg (h1 _ (by decide +kernel)), if_pos h]
  have ht := hd_tail h
  have hg := gd_named toks.tail
  cases e : named toks.tail with
  | out => rfl
  | bad b => rfl
  | ok mm r =>
    rw [e] at hg
    have hl := hg.2 rfl
    show (if hd "(" r = true then _ else _) = (if hd "(" r = true then _ else _)
    split
    · exact postF_bind hq (f := fun a => .t [w "send", t, mm, a]) (gd_args hq) (by omega)
    · exact post_fuel hq _ _ _ _ (by omega) (by omega)
omit hq in
theorem postF_end {t : Tr} {toks : List Tk} (h : ¬ hd "(" toks = true) (h2 : ¬ hd "[" toks = true) (h3 : ¬ hd "." toks = true) : postF q t toks = .ok t toks := by
  unfold postF
  rw [post, if_neg h, if_neg h2, if_neg h3]
end
theorem opd_F (q : Option In) (toks : List Tk) : opd q toks = bind (first q toks) fun t r => postF q t r := rfl
def mkMi (a : Tr) : Tr := .t [w "minus", a]
/-- n minus signs were read -/
def hiK (q : Option In) (n : Nat) : Gr.P Tr := fun toks => match (G q).O (minuses (G q) toks).2 with
  | .ok t r => .ok (rep mkMi (n + (minuses (G q) toks).1) t) r
  | .bad b => .bad b
  | .out => .out
theorem hiK_0 (q : Option In) (toks : List Tk) : high (G q) toks = hiK q 0 toks := by
  unfold high hiK
  rw [Nat.zero_add]
  cases (G q).O (minuses (G q) toks).2 <;> rfl
theorem hiK_min {q : Option In} {n : Nat} {t : Tk} {r : List Tk} (h : isW "-" t = true) : hiK q n (t :: r) = hiK q (n + 1) r := by
  have e : minuses (G q) (t :: r) = ((minuses (G q) r).1 + 1, (minuses (G q) r).2) := if_pos h
  unfold hiK
  rw [e]
  have : n + ((minuses (G q) r).1 + 1) = n + 1 + (minuses (G q) r).1 := by omega
  rw [this]
theorem hiK_end {q : Option In} {n : Nat} {toks : List Tk} (h : ¬ hd "-" toks = true) : hiK q n toks = bind (opd q toks) fun t r => .ok (rep mkMi n t) r := by
  have e : minuses (G q) toks = (0, toks) := by
    cases toks with
    | nil => rfl
    | cons t r => exact if_neg h
  unfold hiK
  rw [e]
  show (match opd q toks with | .ok t r => R.ok (rep mkMi (n + 0) t) r | .bad b => .bad b | .out => .out) = _
  cases opd q toks <;> rfl
/-- only where so many words at most are left -/
def lim {σ : Type} (n : Nat) (f : Gr.P σ) : Gr.P σ := fun r => if r.length ≤ n then f r else .out
theorem lim_bind {σ ρ : Type} {X : Gr.P σ} {g : σ → Gr.P ρ} {toks : List Tk} {n : Nat} (hX : ∀ r, Gd true r (X r)) (h : toks.length ≤ n + 1) : bind (X toks) g = bind (X toks) fun a r => lim n (g a) r := by
  have hg := hX toks
  cases e : X toks with
  | out => rfl
  | bad b => rfl
  | ok a r =>
    rw [e] at hg
    have := hg.2 rfl
    show g a r = lim n (g a) r
    unfold lim
    rw [if_pos (by omega)]
theorem lim_in {σ : Type} {n : Nat} {f : Gr.P σ} {r : List Tk} {x : R Tk σ} (h : x = lim n f r) (hx : x ≠ .out) : r.length ≤ n ∧ x = f r := by
  unfold lim at h
  by_cases hl : r.length ≤ n
  · rw [if_pos hl] at h; exact ⟨hl, h⟩
  · rw [if_neg hl] at h; exact absurd h hx
theorem gd_no_out {σ : Type} {s : Bool} {toks : List Tk} {x : R Tk σ} (h : Gd s toks x) : x ≠ .out := fun e => by rw [e] at h; exact h.elim
end Wk
set_option maxRecDepth 100000
set_option maxHeartbeats 8000000
namespace Wk
open PySem L2 TL PyProof.Rows Gm Gr
open SX (S S_len)
/-- seen otherwise -/
theorem Cur.as {σ : Type} {p ws : Addr} {toks : List Tk} {m : Nat} {H0 : Hp} {Q : VK} {oF : Int} {x : R Tk σ} {rel : Hp → σ → V → Prop} {dm : Bool} {o : Int} {f g : Gr.P σ} {as : List Tr} {vs : List V} {H : Hp} (c : Cur p ws toks m H0 Q oF x rel dm o f as vs H) (h : ∀ i, x = f (toks.drop i) → x = g (toks.drop i)) : Cur p ws toks m H0 Q oF x rel dm o g as vs H := by
  refine ⟨c.1, ?_⟩
  rcases c.2 with ⟨i, hi, hp, hr, ex, hq⟩ | h2 | h3
  · exact .inl ⟨i, hi, hp, hr, h i ex, hq⟩
  · exact .inr (.inl h2)
  · exact .inr (.inr h3)
end Wk
set_option maxRecDepth 100000
set_option maxHeartbeats 8000000
namespace Wk
open PySem L2 TL PyProof.Rows Gm Gr
open SX (S S_len)
def lvl (l : List Nat) : Nat := ((levelS.find? fun q => decide (codes q.1 = l)).map Prod.snd).getD 0
section
variable {P : Program} {w : World} {K : PySem.W.Frag} {mg : Str → Option Value} {base : Heap}
def sp_binds : Sp := fun vs H Q _ => ∃ l : List Nat, vs = [.str (S l)] ∧ ∀ H', Same H H' → Q (.int (lvl l : Int)) H'
end
end Wk
set_option maxRecDepth 100000
set_option maxHeartbeats 8000000
namespace Wk
open PySem L2 TL PyProof.Rows Gm Gr
open SX (S S_len)
/-! ### climbing without fuel -/
section
variable {q : Option In} (hq : InOk q)
include hq
end
section
variable {q : Option In} (hq : InOk q)
include hq
end
theorem op_word {t : Tk} (h : level t ≠ 0) : ∃ s : String, s ∈ levelS.map Prod.fst ∧ isW s t = true := by
  unfold level at h
  cases e : levelS.find? fun q => isW q.1 t with
  | none => rw [e] at h; exact absurd rfl h
  | some q => exact ⟨q.1, List.mem_map.mpr ⟨q, List.mem_of_find?_eq_some e, rfl⟩, List.find?_some (p := fun q : String × Nat => isW q.1 t) e⟩
end Wk
set_option maxRecDepth 100000
set_option maxHeartbeats 8000000
namespace Wk
open PySem L2 TL PyProof.Rows Gm Gr
open SX (S S_len)
abbrev spNo : Sp := fun _ _ _ _ => False
end Wk
set_option maxRecDepth 100000
set_option maxHeartbeats 8000000
namespace Wk
open PySem L2 TL PyProof.Rows Gm Gr
open SX (S S_len)
section
variable {P : Program} {w : World} {K : PySem.W.Frag} {mg : Str → Option Value} {base : Heap}
/-- where a def of the top stands -/
structure Here (K : PySem.W.Frag) (mg : Str → Option Value) (x : Str) (ps : List Str) (st : Stmt) where
  f : Addr
  fd : FuncData
  F : Fun K x x st f fd
  g : mg x = some (.ref f)
  k : PySem.W.keepIn K (.ref f) = true
  b : Binds K fd ps []
variable {x : Str} {ps : List Str} {st : Stmt} {n : Nat} {sp : Sp}
def Here.def (h : Here K mg x ps st) (ok : FnOk P w K mg base CX0 n h.f h.fd ps sp) : Def P w K mg base CX0 x ps n sp := ⟨h.f, h.fd, ok, h.g, h.k, h.b⟩
def DefF.up {n n' : Nat} (h : DefF P w K mg base CX0 x ps n sp) (hn : n ≤ n') : DefF P w K mg base CX0 x ps n' sp := ⟨h.f, h.fd, h.ok.mono hn, h.g, h.k, h.b⟩
def Here.no (h : Here K mg x ps st) : DefF P w K mg base CX0 x ps n spNo := ⟨h.f, h.fd, FnF.never, h.g, h.k, h.b⟩
end
end Wk
set_option maxRecDepth 100000
set_option maxHeartbeats 8000000
namespace Wk
open PySem L2 TL PyProof.Rows Gm Gr
open SX (S S_len)
/-! ### a class's members without fuel -/
theorem rels_len {H : Hp} : ∀ {ts : List Tr} {xs : List V}, RelTs H ts xs → ts.length = xs.length
  | [], xs, h => by rw [RelTs] at h; rw [h]; rfl
  | t :: ts, xs, h => by
    rw [RelTs] at h
    obtain ⟨y, ys, rfl, _, h2⟩ := h
    rw [List.length_cons, List.length_cons, rels_len h2]
end Wk
set_option maxRecDepth 100000
set_option maxHeartbeats 8000000
namespace Wk
open PySem L2 TL PyProof.Rows Gm Gr
open SX (S S_len)
/-! ### a dict of the top whose keys are texts -/
def absE (e : DictEntry) : Option (Str × V) := match e.key with
  | .str x _ => (absV e.val).map fun v => (x, v)
  | _ => none
theorem abs_rel {u : Value} {v : V} (h : absV u = some v) : RelV v u := by
  cases u <;> first
    | (cases h; first | rfl | exact ⟨_, rfl⟩)
    | cases h
structure WD (K : PySem.W.Frag) (w : World) (a : Addr) (kvs : List (String × V)) : Prop where
  d : ∃ es n, KDict K w a es n ∧ es.toList.map absE = kvs.map fun q => some (Str.ofString q.1, q.2)
def valD (kvs : List (String × V)) (l : List Nat) : Option V := (kvs.find? fun q => decide (codes q.1 = l)).map Prod.snd
theorem find_abs (l : List Nat) : ∀ {es : List DictEntry} {kvs : List (String × V)}, es.map absE = (kvs.map fun q => some (Str.ofString q.1, q.2)) → es.any (·.refKey) = false ∧
    (match es.find? (·.key.isStr (S l)) with
      | some e => ∃ v, valD kvs l = some v ∧ RelV v e.val
      | none => valD kvs l = none)
  | [], [], _ => ⟨rfl, rfl⟩
  | [], _ :: _, h => by cases h
  | _ :: _, [], h => by cases h
  | e :: es, q :: kvs, h => by
    rw [List.map_cons, List.map_cons] at h
    obtain ⟨h1, h2⟩ := List.cons.inj h
    have ih := find_abs l h2
    obtain ⟨v, hk, hv⟩ := e
    unfold absE at h1
    cases hk with
    | str x t =>
      dsimp only at h1
      cases ea : absV hv with
      | none => rw [ea] at h1; cases h1
      | some u =>
        rw [ea] at h1
        have h1 := Option.some.inj h1
        have e1 : x = Str.ofString q.1 := congrArg Prod.fst h1
        have e2 : u = q.2 := congrArg Prod.snd h1
        refine ⟨?_, ?_⟩
        · rw [List.any_cons, ih.1]; rfl
        · rw [List.find?_cons]
          by_cases he : codes q.1 = l
          · have : (Value.str x t).isStr (S l) = true := by
              show (x == S l) = true
              rw [e1, S_of, he]; exact beq_self_eq_true _
            rw [show ({ hash := v, key := Value.str x t, val := hv } : DictEntry).key.isStr (S l) = true from this]
            refine ⟨q.2, ?_, ?_⟩
            · unfold valD
              rw [List.find?_cons, decide_eq_true he]; rfl
            · rw [← e2]; exact abs_rel ea
          · have : (Value.str x t).isStr (S l) = false := by
              show (x == S l) = false
              rw [e1, S_of]
              exact beq_eq_false_iff_ne.mpr fun z => he (S_inj z)
            rw [show ({ hash := v, key := Value.str x t, val := hv } : DictEntry).key.isStr (S l) = false from this]
            have e3 : valD (q :: kvs) l = valD kvs l := by
              unfold valD
              rw [List.find?_cons, decide_eq_false he]
            rw [e3]
            exact ih.2
    | _ => cases h1
theorem WD.ns {K : PySem.W.Frag} {w : World} {a : Addr} {kvs : List (String × V)} (D : WD K w a kvs) (l : List Nat) : ∃ es n, KDict K w a es n ∧ ∃ r, PySem.W.nsIn K a (S l) = some r ∧ (match r with
    | some u => ∃ v, valD kvs l = some v ∧ RelV v u
    | none => valD kvs l = none) := by
  obtain ⟨es, n, kd, e⟩ := D.d
  have h := find_abs l e
  refine ⟨es, n, kd, ?_⟩
  unfold PySem.W.nsIn
  rw [kd.at_]
  dsimp only
  cases ef : es.toList.find? (·.key.isStr (S l)) with
  | some d =>
    rw [ef] at h
    exact ⟨some d.val, rfl, h.2⟩
  | none =>
    rw [ef] at h
    dsimp only
    rw [if_neg (by rw [h.1]; exact Bool.false_ne_true)]
    exact ⟨none, rfl, h.2⟩
section
variable {X : Cx} {d : Addr} {kvs : List (String × V)}
theorem op_in_wd (D : WD X.K X.w d kvs) : OpR X (compareOp .In) (fun x y H Q => ∃ l, x = .str (S l) ∧ y = .ref d ∧ Q (.bl (valD kvs l).isSome) H) := by
  intro pins s σ H x y v u Q I rx ry h
  obtain ⟨l, rfl, rfl, q⟩ := h
  obtain ⟨es, n, kd, r, hr, hv⟩ := D.ns l
  refine op_in_kd kd pins s σ H _ _ v u Q I rx ry ⟨S l, r, rfl, rfl, hr, ?_⟩
  cases r with
  | none => rw [hv] at q; exact q
  | some u => obtain ⟨v, e, _⟩ := hv; rw [e] at q; exact q
theorem op_notIn_wd (D : WD X.K X.w d kvs) : OpR X (compareOp .NotIn) (fun x y H Q => ∃ l, x = .str (S l) ∧ y = .ref d ∧ Q (.bl (!(valD kvs l).isSome)) H) := by
  intro pins s σ H x y v u Q I rx ry h
  obtain ⟨l, rfl, rfl, q⟩ := h
  obtain ⟨es, n, kd, r, hr, hv⟩ := D.ns l
  refine op_notIn_kd kd pins s σ H _ _ v u Q I rx ry ⟨S l, r, rfl, rfl, hr, ?_⟩
  cases r with
  | none => rw [hv] at q; exact q
  | some u => obtain ⟨v, e, _⟩ := hv; rw [e] at q; exact q
theorem ix_wd (D : WD X.K X.w d kvs) : IxR X (fun x y H Q => ∃ l v, x = .ref d ∧ y = .str (S l) ∧ valD kvs l = some v ∧ Q v H) := by
  intro value slice pins s σ H x y v u Q I rx ry h hs
  obtain ⟨l, v0, rfl, rfl, hv0, q⟩ := h
  obtain ⟨es, n, kd, r, hr, hv⟩ := D.ns l
  cases r with
  | none => rw [hv] at hv0; cases hv0
  | some u0 =>
    obtain ⟨v1, e, ru⟩ := hv
    rw [hv0] at e
    cases e
    exact ix_kdict value slice pins s σ H _ _ v u Q I rx ry ⟨d, S l, v0, rfl, rfl, ⟨es, n, u0, kd.at_, kd.lit, hr, ru⟩, q⟩ hs
def tWGet (d : Addr) (kvs : List (String × V)) (td ty tx : TE) : TE := fun σ H Q => td σ H fun x H1 => x = .ref d ∧ ty σ H1 fun y H2 => tx σ H2 fun z H3 => ∃ l, y = .str (S l) ∧ Q ((valD kvs l).getD z) H3
theorem pe_wget2 {o e f : Expr} {apos cpos : Pos} {td ty tx : TE} (D : WD X.K X.w d kvs) (ho : PE X o td) (he : PE X e ty) (hf : PE X f tx) (m : M2 X o "get" apos e f cpos) : PE X (.Call (.Attribute o "get" apos) [e, f] [] cpos) (tWGet d kvs td ty tx) := by
  refine ⟨fun pins s σ H Q I h => ?_⟩
  refine wpAny_Call_method m.base m.few m.line PySem.F.plainAttrs_dict PySem.F.slot_dict_get PySem.F.type_dict_get (thn (ho.run pins s σ H _ I h) fun u s1 ⟨x, H1, I1, rx, ex, q1⟩ => ?_)
  subst ex
  obtain rfl : u = Value.ref d := rx
  obtain ⟨es, n, kd, _⟩ := D.d
  refine ⟨kd_type kd I1, fun b q => ?_, ?_⟩
  · cases q
    exact ⟨_, I1.kIn _ _ kd.at_, rfl⟩
  rw [m.trees]
  refine Calls.callWith_builtin rfl (Calls.evalArgs_plain (Calls.spliced_cons (thn (he.run pins s1 σ H1 _ I1 q1) fun iv s2 ⟨y, H2, I2, ry, q2⟩ =>
    Calls.spliced_cons (thn (hf.run pins s2 σ H2 _ I2 q2) fun fv s3 ⟨z, H3, I3, rz, l, ey, q3⟩ => Calls.spliced_nil ?_))))
  subst ey
  obtain ⟨t, rfl⟩ := ry
  obtain ⟨es2, n2, kd2, r, hr, hv⟩ := D.ns l
  refine call_meetsIn PySem.F.slot_dict_get (kd_type kd2 I3) PySem.F.entry_dict_get (PySem.F.args_dict_get_3 _ _ _) (meets_dict_get_default (PySem.strKind X.prog X.w) d (PySem.strKind_is X.prog X.w (S l) t) kd2.low fv)
    ⟨_, PySem.W.mapOf_K (prog := X.prog) (w := X.w) I3.kIn kd2.at_ kd2.lit, ?_⟩
  rw [PySem.W.find_K kd2.at_ hr]
  refine ⟨_, H3, I3.tok _, ?_, q3⟩
  cases r with
  | none => rw [hv]; exact rz
  | some u => obtain ⟨v, e, ru⟩ := hv; rw [e]; exact ru
end
end Wk
set_option maxRecDepth 100000
set_option maxHeartbeats 8000000
namespace Wk
open PySem L2 TL PyProof.Rows Gm Gr
open SX (S S_len)
/-! ### the program's cursor -/
def markS : List String := ["(", ")", "[", "]", "{", "}", ",", ";", ".", "=", "==", "!=", "<", "<=", ">", ">=", "+", "-", "*", "/"]
def TkG (t : Tk) : Prop := (t.so = .key → ∃ s ∈ keyStrings, t.wd = .s (codes s)) ∧ (t.so = .mark → ∃ s ∈ markS, t.wd = .s (codes s))
theorem TkG.ok {t : Tk} (h : TkG t) : TkOk t := fun hs => by
  rcases hs with hs | hs
  · obtain ⟨s, _, e⟩ := h.1 hs; exact ⟨_, e⟩
  · obtain ⟨s, _, e⟩ := h.2 hs; exact ⟨_, e⟩
def kindN : List Tk → List Nat
  | [] => codes "END"
  | t :: _ => match t.so with
    | .name => codes "NAME"
    | .number => codes "NUMBER"
    | .text => codes "TEXT"
    | _ => match t.wd with
      | .s l => l
      | .n _ => []
theorem kindN_nx {t : Tk} {r : List Tk} (h : t.so = .key ∨ t.so = .mark) : kindN (t :: r) = nx (t :: r) := by
  obtain ⟨so, wd, ln⟩ := t
  rcases h with h | h
  · have h : so = .key := h
    subst h; cases wd <;> rfl
  · have h : so = .mark := h
    subst h; cases wd <;> rfl
def wordsS : List String := keyStrings ++ markS
/-- the kind is a word just where the word stands -/
theorem kind_hd {s : String} (hs : s ∈ wordsS) {toks : List Tk} (hk : ∀ t ∈ toks, TkG t) : hd s toks = true ↔ kindN toks = codes s := by
  have hcap : ∀ s ∈ wordsS, codes s ≠ codes "END" ∧ codes s ≠ codes "NAME" ∧ codes s ≠ codes "NUMBER" ∧ codes s ≠ codes "TEXT" ∧ codes s ≠ [] := by decide +kernel
  have h := hcap s hs
  cases toks with
  | nil => exact ⟨(fun z => by cases z), (fun z => absurd z.symm h.1)⟩
  | cons t r =>
    by_cases hso : t.so = .key ∨ t.so = .mark
    · rw [kindN_nx hso]
      exact hd_nx h.2.2.2.2 (fun t ht => (hk t ht).ok)
    · constructor
      · intro z
        have z : isW s t = true := z
        unfold isW at z
        rw [Bool.and_eq_true, Bool.or_eq_true, decide_eq_true_eq, decide_eq_true_eq] at z
        exact absurd z.1 hso
      · intro z
        obtain ⟨so, wd, ln⟩ := t
        cases so with
        | name => exact absurd z.symm h.2.1
        | number => exact absurd z.symm h.2.2.1
        | text => exact absurd z.symm h.2.2.2.1
        | key => exact absurd (.inl rfl) hso
        | mark => exact absurd (.inr rfl) hso
theorem kind_name {toks : List Tk} (hk : ∀ t ∈ toks, TkG t) : kindN toks = codes "NAME" ↔ ∃ t r, toks = t :: r ∧ t.so = .name := by
  have hcap : ∀ s ∈ wordsS, codes s ≠ codes "NAME" := by decide +kernel
  cases toks with
  | nil => exact ⟨(fun z => absurd z (show codes "END" ≠ codes "NAME" by decide +kernel)), (fun ⟨_, _, z, _⟩ => by cases z)⟩
  | cons t r =>
    constructor
    · intro z
      refine ⟨t, r, rfl, ?_⟩
      have ht := hk t List.mem_cons_self
      obtain ⟨so, wd, ln⟩ := t
      cases so with
      | name => rfl
      | number => exact absurd z (show codes "NUMBER" ≠ codes "NAME" by decide +kernel)
      | text => exact absurd z (show codes "TEXT" ≠ codes "NAME" by decide +kernel)
      | key =>
        obtain ⟨s, hs, e⟩ := ht.1 rfl
        have e : wd = .s (codes s) := e
        subst e
        exact absurd z (hcap s (List.mem_append_left _ hs))
      | mark =>
        obtain ⟨s, hs, e⟩ := ht.2 rfl
        have e : wd = .s (codes s) := e
        subst e
        exact absurd z (hcap s (List.mem_append_right _ hs))
    · rintro ⟨t', r', e, hso⟩
      cases e
      obtain ⟨so, wd, ln⟩ := t
      have hso : so = .name := hso
      subst hso; rfl
/-- the line of what comes next -/
def lineN (el : Nat) : List Tk → Nat
  | [] => el
  | t :: _ => t.ln
def endV (el : Nat) : List Tk → List V
  | [] => [.str "end", .str "", .int (el : Int)]
  | t :: _ => tkV t
def kindsV : List (String × V) := [("name", .str "NAME"), ("number", .str "NUMBER"), ("text", .str "TEXT"), ("end", .str "END")]
def litV (xs : List String) : List V := xs.map fun s => V.str (Str.ofString s)
def formsL : List (String × List String) := [("var", ["NAME", "=", "E", ";"]), ("if", ["E", "BLOCK", "ELSE"]), ("while", ["E", "BLOCK"]), ("break", [";"]), ("continue", [";"]), ("return", ["E", ";"]), ("throw", ["E", ";"]), ("try", ["BLOCK", "catch", "NAME", "BLOCK"]), ("say", ["E", ";"])]
def stShL : List (String × List String) := [("var", ["name", "e"]), ("do", ["e"]), ("set", ["place", "e"]), ("if", ["e", "block", "block"]), ("while", ["e", "block"]), ("break", []), ("continue", []), ("return", ["e"]), ("throw", ["e"]), ("try", ["block", "name", "block"]), ("say", ["e"])]
def exShL : List (String × List String) := [("number", ["number"]), ("text", ["text"]), ("true", []), ("false", []), ("nil", []), ("this", []), ("name", ["name"]), ("list", ["args"]), ("fun", ["names", "block"]), ("call", ["e", "args"]), ("send", ["e", "name", "args"]), ("up", ["name", "args"]), ("new", ["name", "args"]), ("field", ["e", "name"]), ("item", ["e", "e"]), ("or", ["e", "e"]), ("and", ["e", "e"]), ("==", ["e", "e"]), ("!=", ["e", "e"]), ("<", ["e", "e"]), ("<=", ["e", "e"]), (">", ["e", "e"]), (">=", ["e", "e"]), ("+", ["e", "e"]), ("-", ["e", "e"]), ("*", ["e", "e"]), ("/", ["e", "e"]), ("mod", ["e", "e"]), ("not", ["e"]), ("minus", ["e"]), ("ask", ["asked", "args"])]
def levelsV : List (String × V) := [("or", .int 1), ("and", .int 2), ("==", .int 4), ("!=", .int 4), ("<", .int 4), ("<=", .int 4), (">", .int 4), (">=", .int 4), ("+", .int 5), ("-", .int 5), ("*", .int 6), ("/", .int 6), ("mod", .int 6)]
def valuedV : List (String × V) := [("NAME", .str "name"), ("NUMBER", .str "number"), ("TEXT", .str "text")]
/-- rows of texts, by their keys -/
def rowsV (at_ : String → Addr) (l : List (String × List String)) : List (String × V) := l.map fun q => (q.1, .ref (at_ q.1))
/-- what the top has written for the program's reader -/
structure TxtP (K : PySem.W.Frag) (w : World) (mg : Str → Option Value) where
  aKINDS : Addr
  mKINDS : mg "KINDS" = some (.ref aKINDS)
  dKINDS : WD K w aKINDS kindsV
  aLEVELS : Addr
  mLEVELS : mg "LEVELS" = some (.ref aLEVELS)
  dLEVELS : WD K w aLEVELS levelsV
  aVALUED : Addr
  mVALUED : mg "VALUED" = some (.ref aVALUED)
  dVALUED : WD K w aVALUED valuedV
  aSTATEMENT_FORMS : Addr
  mSTATEMENT_FORMS : mg "STATEMENT_FORMS" = some (.ref aSTATEMENT_FORMS)
  bSTATEMENT_FORMS : String → Addr
  dSTATEMENT_FORMS : WD K w aSTATEMENT_FORMS (rowsV bSTATEMENT_FORMS formsL)
  kSTATEMENT_FORMS : ∀ q ∈ formsL, ∀ H, SqT K H (bSTATEMENT_FORMS q.1) (litV q.2)
  aSTATEMENTS : Addr
  mSTATEMENTS : mg "STATEMENTS" = some (.ref aSTATEMENTS)
  bSTATEMENTS : String → Addr
  dSTATEMENTS : WD K w aSTATEMENTS (rowsV bSTATEMENTS stShL)
  kSTATEMENTS : ∀ q ∈ stShL, ∀ H, SqT K H (bSTATEMENTS q.1) (litV q.2)
  aEXPRESSIONS : Addr
  mEXPRESSIONS : mg "EXPRESSIONS" = some (.ref aEXPRESSIONS)
  bEXPRESSIONS : String → Addr
  dEXPRESSIONS : WD K w aEXPRESSIONS (rowsV bEXPRESSIONS exShL)
  kEXPRESSIONS : ∀ q ∈ exShL, ∀ H, SqT K H (bEXPRESSIONS q.1) (litV q.2)
  aOPENING : Addr
  mOPENING : mg "OPENING" = some (.ref aOPENING)
  kOPENING : ∀ H, SqT K H aOPENING (litV ["(", "[", "{"])
  aCLOSING : Addr
  mCLOSING : mg "CLOSING" = some (.ref aCLOSING)
  kCLOSING : ∀ H, SqT K H aCLOSING (litV [")", "]", "}"])
  aALONE : Addr
  mALONE : mg "ALONE" = some (.ref aALONE)
  kALONE : ∀ H, SqT K H aALONE (litV ["true", "false", "nil", "this"])
  aPLACES : Addr
  mPLACES : mg "PLACES" = some (.ref aPLACES)
  kPLACES : ∀ H, SqT K H aPLACES (litV ["name", "field", "item"])
  aASKED : Addr
  mASKED : mg "ASKED" = some (.ref aASKED)
  kASKED : ∀ H, SqT K H aASKED (litV ["len", "weak", "worth", "number", "spawn", "join"])
  tMOST_OPEN : Tok
  mMOST_OPEN : mg "MOST_OPEN" = some (.int 60 tMOST_OPEN)
  tMOST_DEPTH : Tok
  mMOST_DEPTH : mg "MOST_DEPTH" = some (.int 50 tMOST_DEPTH)
  tNOT_LEVEL : Tok
  mNOT_LEVEL : mg "NOT_LEVEL" = some (.int 3 tNOT_LEVEL)
  tCOMPARING_LEVEL : Tok
  mCOMPARING_LEVEL : mg "COMPARING_LEVEL" = some (.int 4 tCOMPARING_LEVEL)
  tMINUS_LEVEL : Tok
  mMINUS_LEVEL : mg "MINUS_LEVEL" = some (.int 7 tMINUS_LEVEL)
/-- the class of the cursor -/
structure CurT (K : PySem.W.Frag) where
  C : Addr
  cl : Cls K C
  nf : NoAttr K C "found"
  na : NoAttr K C "at"
  nb : NoAttr K C "brackets"
/-- a method of it -/
structure MD (P : Program) (w : World) (K : PySem.W.Frag) (mg : Str → Option Value) (base : Heap) (CX : CXT) (C : Addr) (m : Str) (ps : List Str) (k : Nat) (sp : Sp) where
  f : Addr
  fd : FuncData
  ok : FnOk P w K mg base CX k f fd ps sp
  m : Meth K C m f
  b : Binds K fd ps []
/-- what is read: the words, and the end behind them -/
structure Sr (H : Hp) (q : Addr) (vs : List V) (toks : List Tk) (el : Nat) : Prop where
  q : H q = some (.lst vs)
  l : ∃ us e, vs = us ++ [.ref e] ∧ Toks H us toks ∧ H e = some (.tup [.str "end", .str "", .int (el : Int)])
  n : toks.length ≤ 100000
  k : ∀ t ∈ toks, TkG t
def SA (C : Addr) (H : Hp) (a dx q : Addr) (i : Nat) (b : Int) : Prop := H a = some (.ins C dx [("found", .ref q), ("at", .int (i : Int)), ("brackets", .int b)])
/-- nothing but a has changed -/
def On (a : Addr) (H H' : Hp) : Prop := ∀ b o, b ≠ a → H b = some o → H' b = some o
theorem On.refl (a : Addr) (H : Hp) : On a H H := fun _ _ _ h => h
theorem On.trans {a : Addr} {H H1 H2 : Hp} (x : On a H H1) (y : On a H1 H2) : On a H H2 := fun b o n h => y b o n (x b o n h)
theorem On.same {a : Addr} {H H1 : Hp} (g : Same H H1) : On a H H1 := fun b o _ h => g b o h
theorem On.upd {a : Addr} {H : Hp} {o : HO} : On a H (upd H a o) := fun b u n h => by rw [upd_ne n]; exact h
theorem toks_on {a : Addr} {H H' : Hp} {C dx : Addr} {fs : List (Str × V)} (g : On a H H') (ha : H a = some (.ins C dx fs)) : ∀ {us : List V} {ts : List Tk}, Toks H us ts → Toks H' us ts
  | [], [], _ => trivial
  | _ :: _, _ :: _, ⟨⟨p, e, h⟩, r⟩ => ⟨⟨p, e, g _ _ (by rintro rfl; rw [h] at ha; cases ha) h⟩, toks_on g ha r⟩
  | [], _ :: _, h => h.elim
  | _ :: _, [], h => h.elim
theorem Sr.on {a q : Addr} {H H' : Hp} {C dx : Addr} {fs : List (Str × V)} {vs : List V} {toks : List Tk} {el : Nat} (s : Sr H q vs toks el) (g : On a H H') (ha : H a = some (.ins C dx fs)) : Sr H' q vs toks el := by
  obtain ⟨us, e, hv, ht, he⟩ := s.l
  refine ⟨g _ _ (by rintro rfl; rw [s.q] at ha; cases ha) s.q, ⟨us, e, hv, toks_on g ha ht, g _ _ (by rintro rfl; rw [he] at ha; cases ha) he⟩, s.n, s.k⟩
theorem Sr.at_ {H : Hp} {q : Addr} {vs : List V} {toks : List Tk} {el : Nat} (s : Sr H q vs toks el) {i : Nat} (hi : i ≤ toks.length) : ∃ c, vs[i]? = some (.ref c) ∧ H c = some (.tup (endV el (toks.drop i))) := by
  obtain ⟨us, e, hv, ht, he⟩ := s.l
  have hl := toks_size ht
  by_cases h : i < toks.length
  · obtain ⟨c, ec, hc⟩ := toks_at ht (List.getElem?_eq_getElem h)
    refine ⟨c, ?_, ?_⟩
    · rw [hv, List.getElem?_append_left (by omega)]; exact ec
    · rw [drop_at h]; exact hc
  · have : i = toks.length := by omega
    subst this
    refine ⟨e, ?_, ?_⟩
    · rw [hv, List.getElem?_append_right (by omega), hl, Nat.sub_self]; rfl
    · rw [List.drop_eq_nil_of_le (Nat.le_refl _)]; exact he
theorem Sr.len {H : Hp} {q : Addr} {vs : List V} {toks : List Tk} {el : Nat} (s : Sr H q vs toks el) : vs.length = toks.length + 1 := by
  obtain ⟨us, e, hv, ht, he⟩ := s.l
  rw [hv, List.length_append, toks_size ht]; rfl
/-- BadText of a line is raised -/
def RaiseQ (BC a : Addr) (l : Nat) (H : Hp) (E : XK) : Prop := ∀ H' d, On a H H' → H' d = some (.xd [("line", .int (l : Int))]) → E (.ref BC) (some d) H'
theorem RaiseQ.on {BC a : Addr} {l : Nat} {H H1 : Hp} {E : XK} (r : RaiseQ BC a l H E) (g : On a H H1) : RaiseQ BC a l H1 E := fun H' d g' h => r H' d (g.trans g') h
section
variable {P : Program} {w : World} {K : PySem.W.Frag} {mg : Str → Option Value} {base : Heap}
theorem kind_val {t : Tk} (h : TkG t) : (valD kindsV (codes (soW t.so))).getD (wdV t.wd) = .str (S (kindN [t])) := by
  obtain ⟨so, wd, ln⟩ := t
  cases so with
  | name => show (valD kindsV (codes "name")).getD _ = V.str (S (codes "NAME")); rw [show valD kindsV (codes "name") = some (.str "NAME") from by decide +kernel]; exact congrArg V.str (S_of _)
  | number => show (valD kindsV (codes "number")).getD _ = V.str (S (codes "NUMBER")); rw [show valD kindsV (codes "number") = some (.str "NUMBER") from by decide +kernel]; exact congrArg V.str (S_of _)
  | text => show (valD kindsV (codes "text")).getD _ = V.str (S (codes "TEXT")); rw [show valD kindsV (codes "text") = some (.str "TEXT") from by decide +kernel]; exact congrArg V.str (S_of _)
  | key =>
    obtain ⟨s, _, e⟩ := h.1 rfl
    have e : wd = .s (codes s) := e
    subst e
    show (valD kindsV (codes "key")).getD _ = _
    rw [show valD kindsV (codes "key") = none from by decide +kernel]; rfl
  | mark =>
    obtain ⟨s, _, e⟩ := h.2 rfl
    have e : wd = .s (codes s) := e
    subst e
    show (valD kindsV (codes "mark")).getD _ = _
    rw [show valD kindsV (codes "mark") = none from by decide +kernel]; rfl
abbrev s_Cursor__kind : Stmt := inClass (top 10) 1
theorem sc_Cursor__kind : FnScope ["self", "sort", "word", "_"] ["self"] (defScope s_Cursor__kind) := ⟨rfl, rfl, rfl, by decide +kernel, rfl, by decide +kernel, by decide +kernel⟩
def sp_kind (C : Addr) : Sp := fun vs H Q _ => ∃ (a dx q : Addr) (us : List V) (toks : List Tk) (el i : Nat) (b : Int), vs = [.ref a] ∧ Sr H q us toks el ∧ i ≤ toks.length ∧ SA C H a dx q i b ∧ Q (.str (S (kindN (toks.drop i)))) H
theorem ok_kind (TP : TxtP K w mg) (CC : CurT K) {f : Addr} {fd : FuncData} (F : Fun K "kind" "Cursor.kind" s_Cursor__kind f fd) : FnOk P w K mg base CX0 1 f fd ["self"] (sp_kind CC.C) := by
  refine F.ok sc_Cursor__kind (fun vs H Q E h => ?_) (fun cdv A outer s H vs Q E hr h => ?_)
  · obtain ⟨a, _, _, _, _, _, _, _, rfl, _⟩ := h; rfl
  obtain ⟨a, dx, q, us, toks, el, i, b, rfl, R, hi, ha, hq⟩ := h
  refine ⟨_, (pss_cons (ps_asg (pe_ix ix_list (pe_fld (pv 0) rfl) (pe_fld (pv 0) rfl) (fun _ _ => rfl)) (pg_tup rfl (pgs_cons (pg_name (i := 1) sc_Cursor__kind.nd rfl (Or.inl rfl)) (pgs_cons (pg_name (i := 2) sc_Cursor__kind.nd rfl (Or.inl rfl)) (pgs_cons (pg_name (i := 3) sc_Cursor__kind.nd rfl (Or.inl rfl)) pgs_nil)))))
    (pss_one (ps_ret (pe_wget2 TP.dKINDS (pe_glob (v := .ref TP.aKINDS) rfl TP.mKINDS rfl) (pv 1) (pv 2) ⟨rfl, rfl, rfl, rfl⟩)))), ?_⟩
  have ha : H a = some (.ins CC.C dx [("found", .ref q), ("at", .int (i : Int)), ("brackets", .int b)]) := ha
  obtain ⟨c, ec, hc⟩ := R.at_ hi
  refine ⟨_, rfl, a, CC.C, dx, _, _, rfl, ha, CC.cl, CC.nf, rfl, _, rfl, a, CC.C, dx, _, _, rfl, ha, CC.cl, CC.na, rfl, q, us, _, _, rfl, rfl, SqL.of R.q, atI_nat ec, ?_⟩
  by_cases h : i < toks.length
  · rw [drop_at h] at hq hc
    have hg := R.k _ (List.getElem_mem h)
    generalize toks[i] = t at *
    refine ⟨c, _, rfl, SqT.of hc, rfl, _, _, rfl, _, _, rfl, _, _, rfl, rfl, ?_⟩
    refine ⟨rfl, _, rfl, _, rfl, codes (soW t.so), soS_w _, ?_⟩
    rw [kind_val hg]
    exact hq
  · rw [List.drop_eq_nil_of_le (by omega)] at hq hc
    refine ⟨c, _, rfl, SqT.of hc, rfl, _, _, rfl, _, _, rfl, _, _, rfl, rfl, ?_⟩
    refine ⟨rfl, _, rfl, _, rfl, codes "end", congrArg V.str (S_of _), ?_⟩
    rw [show valD kindsV (codes "end") = some (.str "END") from by decide +kernel]
    rw [show (V.str (S (kindN []))) = V.str "END" from congrArg V.str (S_of _).symm] at hq
    exact hq
abbrev s_Cursor__kind_behind : Stmt := inClass (top 10) 2
theorem sc_Cursor__kind_behind : FnScope ["self", "sort", "word", "_"] ["self"] (defScope s_Cursor__kind_behind) := ⟨rfl, rfl, rfl, by decide +kernel, rfl, by decide +kernel, by decide +kernel⟩
/-- of the word behind the next one -/
def sp_kindb (C : Addr) : Sp := fun vs H Q _ => ∃ (a dx q : Addr) (us : List V) (toks : List Tk) (el i : Nat) (b : Int), vs = [.ref a] ∧ Sr H q us toks el ∧ i < toks.length ∧ SA C H a dx q i b ∧ Q (.str (S (kindN (toks.drop (i + 1))))) H
theorem ok_kindb (TP : TxtP K w mg) (CC : CurT K) {f : Addr} {fd : FuncData} (F : Fun K "kind_behind" "Cursor.kind_behind" s_Cursor__kind_behind f fd) : FnOk P w K mg base CX0 1 f fd ["self"] (sp_kindb CC.C) := by
  refine F.ok sc_Cursor__kind_behind (fun vs H Q E h => ?_) (fun cdv A outer s H vs Q E hr h => ?_)
  · obtain ⟨a, _, _, _, _, _, _, _, rfl, _⟩ := h; rfl
  obtain ⟨a, dx, q, us, toks, el, i, b, rfl, R, hi, ha, hq⟩ := h
  refine ⟨_, (pss_cons (ps_asg (pe_ix ix_list (pe_fld (pv 0) rfl) (pe_op op_add (pe_fld (pv 0) rfl) pe_int) (fun _ _ => rfl)) (pg_tup rfl (pgs_cons (pg_name (i := 1) sc_Cursor__kind_behind.nd rfl (Or.inl rfl)) (pgs_cons (pg_name (i := 2) sc_Cursor__kind_behind.nd rfl (Or.inl rfl)) (pgs_cons (pg_name (i := 3) sc_Cursor__kind_behind.nd rfl (Or.inl rfl)) pgs_nil)))))
    (pss_one (ps_ret (pe_wget2 TP.dKINDS (pe_glob (v := .ref TP.aKINDS) rfl TP.mKINDS rfl) (pv 1) (pv 2) ⟨rfl, rfl, rfl, rfl⟩)))), ?_⟩
  have ha : H a = some (.ins CC.C dx [("found", .ref q), ("at", .int (i : Int)), ("brackets", .int b)]) := ha
  obtain ⟨c, ec, hc⟩ := R.at_ (i := i + 1) hi
  refine ⟨_, rfl, a, CC.C, dx, _, _, rfl, ha, CC.cl, CC.nf, rfl, _, rfl, a, CC.C, dx, _, _, rfl, ha, CC.cl, CC.na, rfl, _, _, rfl, rfl, q, us, _, _, rfl, rfl, SqL.of R.q, (show atI us (((i + 1 : Nat) : Int)) = _ from atI_nat ec), ?_⟩
  by_cases h : i + 1 < toks.length
  · rw [drop_at h] at hq hc
    have hg := R.k _ (List.getElem_mem h)
    generalize toks[i + 1] = t at *
    refine ⟨c, _, rfl, SqT.of hc, rfl, _, _, rfl, _, _, rfl, _, _, rfl, rfl, ?_⟩
    refine ⟨rfl, _, rfl, _, rfl, codes (soW t.so), soS_w _, ?_⟩
    rw [kind_val hg]
    exact hq
  · rw [List.drop_eq_nil_of_le (by omega)] at hq hc
    refine ⟨c, _, rfl, SqT.of hc, rfl, _, _, rfl, _, _, rfl, _, _, rfl, rfl, ?_⟩
    refine ⟨rfl, _, rfl, _, rfl, codes "end", congrArg V.str (S_of _), ?_⟩
    rw [show valD kindsV (codes "end") = some (.str "END") from by decide +kernel]
    rw [show (V.str (S (kindN []))) = V.str "END" from congrArg V.str (S_of _).symm] at hq
    exact hq
abbrev s_Cursor__refuse : Stmt := inClass (top 10) 3
theorem sc_Cursor__refuse : FnScope ["self"] ["self"] (defScope s_Cursor__refuse) := ⟨rfl, rfl, rfl, by decide +kernel, rfl, by decide +kernel, by decide +kernel⟩
def sp_refuse (C BC : Addr) : Sp := fun vs H Q E => ∃ (a dx q : Addr) (us : List V) (toks : List Tk) (el i : Nat) (b : Int), vs = [.ref a] ∧ Sr H q us toks el ∧ i ≤ toks.length ∧ SA C H a dx q i b ∧ RaiseQ BC a (lineN el (toks.drop i)) H E
theorem ok_refuse (CC : CurT K) (B : ExcT P w K mg base "BadText" ["self", "line"] sp_bad_init) {f : Addr} {fd : FuncData} (F : Fun K "refuse" "Cursor.refuse" s_Cursor__refuse f fd) : FnOk P w K mg base (L2.CX P w) 3 f fd ["self"] (sp_refuse CC.C B.C) := by
  refine F.okX sc_Cursor__refuse (fun vs H Q E h => ?_) (fun cdv A outer s H vs Q E hr h => ?_)
  · obtain ⟨a, _, _, _, _, _, _, _, rfl, _⟩ := h; rfl
  obtain ⟨a, dx, q, us, toks, el, i, b, rfl, R, hi, ha, hq⟩ := h
  refine ⟨_, (pss_one (ps_raise rfl (takes_of rfl rfl rfl rfl) (pmk_bad B (hr.mono (by decide)) rfl (pe_ix ix_tup (pe_ix ix_list (pe_fld (pv 0) rfl) (pe_fld (pv 0) rfl) (fun _ _ => rfl)) pe_int (fun _ _ => rfl))))), ?_⟩
  have ha : H a = some (.ins CC.C dx [("found", .ref q), ("at", .int (i : Int)), ("brackets", .int b)]) := ha
  obtain ⟨c, ec, hc⟩ := R.at_ hi
  have e2 : atI (endV el (toks.drop i)) 2 = some (.int (lineN el (toks.drop i) : Int)) := by
    cases toks.drop i with
    | nil => exact atI_nat (j := 2) rfl
    | cons t r => exact atI_nat (j := 2) rfl
  refine ⟨_, rfl, a, CC.C, dx, _, _, rfl, ha, CC.cl, CC.nf, rfl, _, rfl, a, CC.C, dx, _, _, rfl, ha, CC.cl, CC.na, rfl, q, us, _, _, rfl, rfl, SqL.of R.q, atI_nat ec, c, _, _, _, rfl, rfl, SqT.of hc, e2, ?_⟩
  exact bad_ok fun d hd => hq _ d (On.same (same_new hd _)) upd_same
end
end Wk
set_option maxRecDepth 100000
set_option maxHeartbeats 8000000
namespace Wk
open PySem L2 TL PyProof.Rows Gm Gr
open SX (S S_len)
/-- behind take at the word that stands at i -/
def TakeQ (C BC a dx q : Addr) (toks : List Tk) (el i : Nat) (b : Int) (H : Hp) (Q : VK) (E : XK) : Prop :=
  ∀ hi : i < toks.length, if kindN (toks.drop i) ∈ opens then (if b = 60 then RaiseQ BC a (lineN el (toks.drop i)) H E else ∀ H', On a H H' → SA C H' a dx q (i + 1) (b + 1) → Q (wdV toks[i].wd) H')
    else if kindN (toks.drop i) ∈ closes then ∀ H', On a H H' → SA C H' a dx q (i + 1) (b - 1) → Q (wdV toks[i].wd) H'
    else ∀ H', On a H H' → SA C H' a dx q (i + 1) b → Q (wdV toks[i].wd) H'
section
variable {P : Program} {w : World} {K : PySem.W.Frag} {mg : Str → Option Value} {base : Heap}
theorem open_litV : litV ["(", "[", "{"] = opens.map fun l => V.str (S l) := open_lit
theorem close_litV : litV [")", "]", "}"] = closes.map fun l => V.str (S l) := close_lit
abbrev s_Cursor__take : Stmt := inClass (top 10) 4
theorem sc_Cursor__take : FnScope ["self", "kind"] ["self"] (defScope s_Cursor__take) := ⟨rfl, rfl, rfl, by decide +kernel, rfl, by decide +kernel, by decide +kernel⟩
def sp_take (C BC : Addr) : Sp := fun vs H Q E => ∃ (a dx q : Addr) (us : List V) (toks : List Tk) (el i : Nat) (b : Int), vs = [.ref a] ∧ Sr H q us toks el ∧ i < toks.length ∧ SA C H a dx q i b ∧ TakeQ C BC a dx q toks el i b H Q E
theorem ok_take (TP : TxtP K w mg) (CC : CurT K) {BC : Addr} {f : Addr} {fd : FuncData} (F : Fun K "take" "Cursor.take" s_Cursor__take f fd) (M_kind : MD P w K mg base CX0 CC.C "kind" ["self"] 1 (sp_kind CC.C))
    (M_refuse : MD P w K mg base (L2.CX P w) CC.C "refuse" ["self"] 3 (sp_refuse CC.C BC)) : FnOk P w K mg base (L2.CX P w) 4 f fd ["self"] (sp_take CC.C BC) := by
  refine F.okX sc_Cursor__take (fun vs H Q E h => ?_) (fun cdv A outer s H vs Q E hr h => ?_)
  · obtain ⟨a, _, _, _, _, _, _, _, rfl, _⟩ := h; rfl
  obtain ⟨a, dx, q, us, toks, el, i, b, rfl, R, hi, ha, hq⟩ := h
  refine ⟨_, (pss_cons (ps_set (i := 1) sc_Cursor__take.nd rfl (Or.inl rfl) (pe_meth0 (pv 0) CC.cl M_kind.m M_kind.ok (hr.mono (by omega)) M_kind.b .nil pass0))
    (pss_cons (ps_if (pt_cmpR op_in_seq (pv 1) (pe_glob (v := .ref TP.aOPENING) rfl TP.mOPENING rfl) rfl) (pss_cons (ps_if (pt_cmpR op_eq (pe_fld (pv 0) rfl) (pe_glob (v := .int 60) rfl TP.mMOST_OPEN ⟨_, rfl⟩) (nomark _)) (pss_one (ps_expr (pe_meth0 (pv 0) CC.cl M_refuse.m M_refuse.ok (hr.mono (by omega)) M_refuse.b .nil (passes_call (takes_of rfl rfl rfl rfl) (fun _ _ _ _ h => h))))) pss_nil)
      (pss_one (ps_fldaug (pv 0) pe_int in_add))) (pss_one (ps_if (pt_cmpR op_in_seq (pv 1) (pe_glob (v := .ref TP.aCLOSING) rfl TP.mCLOSING rfl) rfl) (pss_one (ps_fldaug (pv 0) pe_int in_sub)) pss_nil)))
    (pss_cons (ps_fldaug (pv 0) pe_int in_add)
    (pss_one (ps_ret (pe_ix ix_tup (pe_ix ix_list (pe_fld (pv 0) rfl) (pe_op op_sub (pe_fld (pv 0) rfl) pe_int) (fun _ _ => rfl)) pe_int (fun _ _ => rfl))))))), ?_⟩
  generalize hσ : L2.start _ _ = σ0
  have hσ : σ0 = [some (.ref a), none] := hσ.symm
  subst hσ
  have hq := hq hi
  have ha' : H a = some (.ins CC.C dx [("found", .ref q), ("at", .int (i : Int)), ("brackets", .int b)]) := ha
  refine seq_set ?_
  refine ⟨_, rfl, a, dx, _, rfl, ha', rfl, ?_⟩
  dsimp only [tNil, tCons]
  refine ⟨a, dx, q, us, toks, el, i, b, rfl, R, Nat.le_of_lt hi, ha, ?_⟩
  generalize kindN (toks.drop i) = l at hq ⊢
  have dis : ∀ {l : List Nat}, l ∈ opens → l ∉ closes := fun {l} h h2 => by
    have : ∀ l ∈ opens, l ∉ closes := by decide +kernel
    exact this l h h2
  refine seq_join (fun σ H' => ∃ b', σ = [some (.ref a), some (.str (S l))] ∧ On a H H' ∧ SA CC.C H' a dx q i b' ∧ (∀ H'', On a H H'' → SA CC.C H'' a dx q (i + 1) b' → Q (wdV toks[i].wd) H'')) ?_ ?_
  · rintro σ H1 ⟨b', rfl, g1, ha1, hq1⟩
    have ha1' : H1 a = some (.ins CC.C dx [("found", .ref q), ("at", .int (i : Int)), ("brackets", .int b')]) := ha1
    have R1 := R.on g1 ha'
    refine ⟨_, rfl, a, CC.C, dx, _, _, rfl, ha1', CC.cl, CC.na, rfl, _, _, rfl, rfl, ?_⟩
    refine ⟨dx, _, ha1', (by show 3 < 1000; omega), ?_⟩
    have ha2 : (upd H1 a (.ins CC.C dx (putF "at" (.int ((i : Int) + 1)) [("found", .ref q), ("at", .int (i : Int)), ("brackets", .int b')]))) a = some (.ins CC.C dx [("found", .ref q), ("at", .int ((i + 1 : Nat) : Int)), ("brackets", .int b')]) := by
      rw [upd_same]; rfl
    have g2 : On a H (upd H1 a (.ins CC.C dx (putF "at" (.int ((i : Int) + 1)) [("found", .ref q), ("at", .int (i : Int)), ("brackets", .int b')]))) := g1.trans On.upd
    have R2 := R.on g2 ha'
    generalize upd H1 a (.ins CC.C dx (putF "at" (.int ((i : Int) + 1)) [("found", .ref q), ("at", .int (i : Int)), ("brackets", .int b')])) = H2 at ha2 g2 R2 ⊢
    obtain ⟨c, ec, hc⟩ := R2.at_ (Nat.le_of_lt hi)
    have hm : (V.int ((((i + 1 : Nat) : Int)) - 1)) = V.int (i : Int) := congrArg V.int (by omega)
    rw [drop_at hi] at hc
    refine ⟨_, rfl, a, CC.C, dx, _, _, rfl, ha2, CC.cl, CC.nf, rfl, _, rfl, a, CC.C, dx, _, _, rfl, ha2, CC.cl, CC.na, rfl, _, _, rfl, rfl, q, us, (i : Int), .ref c, rfl, hm, SqL.of R2.q, atI_nat ec, c, _, _, _, rfl, rfl, SqT.of hc, atI_nat (j := 1) rfl, ?_⟩
    exact hq1 _ g2 ha2
  intro NX nx
  refine ⟨_, rfl, _, _, rfl, .inr (TP.kOPENING H), rfl, rfl, _, rfl, ?_⟩
  rw [open_litV, inV_keys]
  refine ited (fun h1 => ?_) (fun h1 => ?_)
  · rw [if_pos h1] at hq
    refine ⟨_, rfl, a, CC.C, dx, _, _, rfl, ha', CC.cl, CC.nb, rfl, rfl, _, rfl, ?_⟩
    refine ited (fun h2 => ?_) (fun h2 => go_next ?_)
    · rw [if_pos (V.int.inj h2)] at hq
      refine ⟨_, rfl, a, dx, _, rfl, ha', rfl, ?_⟩
      dsimp only [tNil, tCons]
      exact ⟨a, dx, q, us, toks, el, i, b, rfl, R, Nat.le_of_lt hi, ha, hq⟩
    · rw [if_neg (fun e => h2 (congrArg V.int e))] at hq
      refine ⟨_, rfl, a, CC.C, dx, _, _, rfl, ha', CC.cl, CC.nb, rfl, _, _, rfl, rfl, ?_⟩
      refine ⟨dx, _, ha', (by show 3 < 1000; omega), ?_⟩
      exact nx _ _ ⟨b + 1, rfl, On.upd, upd_same, hq⟩
  · rw [if_neg h1] at hq
    refine ⟨_, rfl, _, _, rfl, .inr (TP.kCLOSING H), rfl, rfl, _, rfl, ?_⟩
    rw [close_litV, inV_keys]
    refine ited (fun h2 => ?_) (fun h2 => ?_)
    · rw [if_pos h2] at hq
      refine ⟨_, rfl, a, CC.C, dx, _, _, rfl, ha', CC.cl, CC.nb, rfl, _, _, rfl, rfl, ?_⟩
      refine ⟨dx, _, ha', (by show 3 < 1000; omega), ?_⟩
      exact nx _ _ ⟨b - 1, rfl, On.upd, upd_same, hq⟩
    · rw [if_neg h2] at hq
      exact go_next (nx _ _ ⟨b, rfl, On.refl _ _, ha, hq⟩)
abbrev s_Cursor__expect : Stmt := inClass (top 10) 5
theorem sc_Cursor__expect : FnScope ["self", "kind"] ["self", "kind"] (defScope s_Cursor__expect) := ⟨rfl, rfl, rfl, by decide +kernel, rfl, by decide +kernel, by decide +kernel⟩
def sp_expect (C BC : Addr) : Sp := fun vs H Q E => ∃ (a dx q : Addr) (us : List V) (toks : List Tk) (el i : Nat) (b : Int) (l : List Nat), vs = [.ref a, .str (S l)] ∧ l ≠ codes "END" ∧ Sr H q us toks el ∧ i ≤ toks.length ∧ SA C H a dx q i b ∧
  (if kindN (toks.drop i) = l then TakeQ C BC a dx q toks el i b H Q E else RaiseQ BC a (lineN el (toks.drop i)) H E)
theorem ok_expect (CC : CurT K) {BC : Addr} {f : Addr} {fd : FuncData} (F : Fun K "expect" "Cursor.expect" s_Cursor__expect f fd) (M_kind : MD P w K mg base CX0 CC.C "kind" ["self"] 1 (sp_kind CC.C))
    (M_refuse : MD P w K mg base (L2.CX P w) CC.C "refuse" ["self"] 3 (sp_refuse CC.C BC)) (M_take : MD P w K mg base (L2.CX P w) CC.C "take" ["self"] 4 (sp_take CC.C BC)) : FnOk P w K mg base (L2.CX P w) 5 f fd ["self", "kind"] (sp_expect CC.C BC) := by
  refine F.okX sc_Cursor__expect (fun vs H Q E h => ?_) (fun cdv A outer s H vs Q E hr h => ?_)
  · obtain ⟨a, _, _, _, _, _, _, _, _, rfl, _⟩ := h; rfl
  obtain ⟨a, dx, q, us, toks, el, i, b, l, rfl, hl, R, hi, ha, hq⟩ := h
  refine ⟨_, (pss_cons (ps_if (pt_cmpR op_ne (pe_meth0 (pv 0) CC.cl M_kind.m M_kind.ok (hr.mono (by omega)) M_kind.b .nil pass0) (pv 1) (nomark _)) (pss_one (ps_expr (pe_meth0 (pv 0) CC.cl M_refuse.m M_refuse.ok (hr.mono (by omega)) M_refuse.b .nil (passes_call (takes_of rfl rfl rfl rfl) (fun _ _ _ _ h => h))))) pss_nil)
    (pss_one (ps_ret (pe_meth0 (pv 0) CC.cl M_take.m M_take.ok (hr.mono (by omega)) M_take.b .nil (passes_call (takes_of rfl rfl rfl rfl) (fun _ _ _ _ h => h)))))), ?_⟩
  generalize hσ : L2.start _ _ = σ0
  have hσ : σ0 = [some (.ref a), some (.str (S l))] := hσ.symm
  subst hσ
  have ha' : H a = some (.ins CC.C dx [("found", .ref q), ("at", .int (i : Int)), ("brackets", .int b)]) := ha
  refine ⟨_, rfl, a, dx, _, rfl, ha', rfl, ?_⟩
  dsimp only [tNil, tCons]
  refine ⟨a, dx, q, us, toks, el, i, b, rfl, R, hi, ha, ?_⟩
  refine ⟨_, rfl, rfl, _, rfl, ?_⟩
  refine itedn (fun h1 => ?_) (fun h1 => go_next ?_)
  · rw [if_neg (fun e => h1 (by rw [e]))] at hq
    refine ⟨_, rfl, a, dx, _, rfl, ha', rfl, ?_⟩
    dsimp only [tNil, tCons]
    exact ⟨a, dx, q, us, toks, el, i, b, rfl, R, hi, ha, hq⟩
  · have h1 : kindN (toks.drop i) = l := S_inj (V.str.inj h1)
    rw [if_pos h1] at hq
    have hlt : i < toks.length := by
      rcases Nat.lt_or_ge i toks.length with h | h
      · exact h
      · rw [List.drop_eq_nil_of_le h] at h1; exact absurd h1.symm hl
    refine ⟨_, rfl, a, dx, _, rfl, ha', rfl, ?_⟩
    dsimp only [tNil, tCons]
    exact ⟨a, dx, q, us, toks, el, i, b, rfl, R, hlt, ha, hq⟩
abbrev s_Cursor____init__ : Stmt := inClass (top 10) 0
theorem sc_Cursor____init__ : FnScope ["self", "found", "end_line"] ["self", "found", "end_line"] (defScope s_Cursor____init__) := ⟨rfl, rfl, rfl, by decide +kernel, rfl, by decide +kernel, by decide +kernel⟩
def sp_cinit (C : Addr) : Sp := fun vs H Q _ => ∃ (a dx p : Addr) (us : List V) (el : Nat), vs = [.ref a, .ref p, .int (el : Int)] ∧ H a = some (.ins C dx []) ∧ H p = some (.lst us) ∧ us.length ≤ 1000000 ∧
  ∀ H' q e, On a H H' → H q = none → H e = none → H' q = some (.lst (us ++ [.ref e])) → H' e = some (.tup [.str "end", .str "", .int (el : Int)]) → SA C H' a dx q 0 0 → Q .non H'
theorem ok_cinit (CC : CurT K) {f : Addr} {fd : FuncData} (F : Fun K "__init__" "Cursor.__init__" s_Cursor____init__ f fd) : FnOk P w K mg base CX0 1 f fd ["self", "found", "end_line"] (sp_cinit CC.C) := by
  refine F.ok sc_Cursor____init__ (fun vs H Q E h => ?_) (fun cdv A outer s H vs Q E hr h => ?_)
  · obtain ⟨a, _, _, _, _, rfl, _⟩ := h; rfl
  obtain ⟨a, dx, p, us, el, rfl, ha, hp, hl, hq⟩ := h
  refine ⟨_, (pss_cons (ps_fld (pv 0) (pe_lst (StX.pa_star (pv 1) (pa_cons (pe_tup (pa_cons pe_str (pa_cons pe_str (pa_cons (pv 2) pa_nil)))) pa_nil))) rfl)
    (pss_cons (ps_fld (pv 0) pe_int rfl)
    (pss_one (ps_fld (pv 0) pe_int rfl)))), ?_⟩
  have hz := line_eq
  have npa : p ≠ a := fun e => by rw [e, ha] at hp; cases hp
  refine ⟨_, rfl, p, us, rfl, .inr (SqL.of hp), _, rfl, (by show 3 ≤ _; omega), fun e ne => ?_⟩
  have ge := same_new ne (.tup [V.str "end", V.str "", V.int (el : Int)])
  refine ⟨(by rw [List.length_append]; show _ + 1 ≤ _; omega), fun q nq => ?_⟩
  have gq := same_new nq (.lst (us ++ [V.ref e]))
  have hqn : H q = none := by
    have : (upd H e (.tup [V.str "end", V.str "", V.int (el : Int)])) q = none := nq
    have n : q ≠ e := fun z => by rw [z, upd_same] at this; cases this
    rw [upd_ne n] at this; exact this
  have nqa : q ≠ a := fun z => by rw [z, ha] at hqn; cases hqn
  have nea : e ≠ a := fun z => by rw [z, ha] at ne; cases ne
  have neq : e ≠ q := fun z => by
    have : (upd H e (.tup [V.str "end", V.str "", V.int (el : Int)])) q = none := nq
    rw [← z, upd_same] at this; cases this
  have ha1 := gq _ _ (ge _ _ ha)
  refine ⟨_, rfl, a, CC.C, dx, [], rfl, ha1, CC.cl, CC.nf, by decide, ?_⟩
  refine ⟨_, rfl, a, CC.C, dx, _, rfl, upd_same, CC.cl, CC.na, (by show 1 < 1000; omega), ?_⟩
  refine ⟨_, rfl, a, CC.C, dx, _, rfl, upd_same, CC.cl, CC.nb, (by show 2 < 1000; omega), ?_⟩
  refine hq _ q e ((On.same (ge.trans gq)).trans ((On.upd.trans On.upd).trans On.upd)) hqn ne ?_ ?_ upd_same
  · rw [upd_ne nqa, upd_ne nqa, upd_ne nqa, upd_same]
  · rw [upd_ne nea, upd_ne nea, upd_ne nea, upd_ne neq, upd_same]
end
end Wk
set_option maxRecDepth 100000
set_option maxHeartbeats 4000000
/-! Calls counted one by one, of defs that may raise. -/
namespace Wk
open PySem L2 TL PyProof.Rows
section
variable {P : Program} {w : World} {K : PySem.W.Frag} {mg : Str → Option Value} {base : Heap}
theorem okFX {x qual : Str} {st : Stmt} {f : Addr} {fd : FuncData} {N ps : List Str} {k : Nat} {sp : Sp} (F : Fun K x qual st f fd) (S : FnScope N ps (defScope st)) (len : ∀ vs H Q E, sp vs H Q E → vs.length = ps.length)
    (hbody : ∀ (cdv : Value) (A : Around) (outer : List Env) (s : Shared) (H : Hp) (vs : List V) (Q : VK) (E : XK), Room 12 (A.deeper (envOfC qual (defScope st) s.heap.objs.size f cdv)) → RoomF k (A.deeper (envOfC qual (defScope st) s.heap.objs.size f cdv)) → sp vs H Q E →
      ∃ t, PSs (cxOf (L2.CX P w) P w K mg base N qual (defScope st) f cdv A outer s H E) (defBody st) t ∧ t { nx := fun _ H' => Q .non H', rt := Q } (start N vs) H) : FnF P w K mg base (L2.CX P w) (k + 1) f fd ps sp := by
  obtain ⟨oc, od, kV, doc, pm, an, cdv, ct, osl, rfl, lk, hcd⟩ := F.ex
  exact fn_ofF lk hcd S len fun A outer s H vs Q E hr hsp => hbody cdv A outer s H vs Q E hr.room hr hsp
end
section
variable {X : Cx} {CX : CXT} {k i : Nat} {f : Addr} {fd : FuncData} {ps : List Str} {sp : Sp} {x : Str} {p pos : Pos} {e : Expr} {es : List Expr} {t : TA}
theorem run_fnSF {pins : List (Addr × Obj)} {σ : L2.St} {H : Hp} {s : Shared} {Q : VK} {us : List Value} {vs : List V} {E : L2.St → XK} (F : FnF X.prog X.w X.K X.mg X.base CX k f fd ps sp) (hr : RoomF k X.A) (hb : Binds X.K fd ps []) (hx : PassesAt CX X σ (E σ))
    (I : L2.Inv X pins σ H s) (r : Vals vs us) (h : sp vs H Q (E σ)) : wpAny (model X.prog X.w) X.A (call (.ref f) us) (EP X pins σ Q) X.xe s := by
  have hl : us.length = ps.length := by rw [← r.length]; exact F.len _ _ _ _ h
  have b := hb s us I.kIn (by rw [List.append_nil]; exact hl)
  rw [List.append_nil] at b
  refine wpAny_call (codeAny_mono (F.run X.A X.stack s H ⟨us, []⟩ us vs Q (E σ) hr I.env0 b r h) fun r s' hq => ?_)
  cases r with
  | error e => exact hx pins H s e s' I hq
  | ok fl =>
    cases fl with
    | ret u => exact I.after hq
    | next => exact False.elim hq
    | brk => exact False.elim hq
    | cont => exact False.elim hq
theorem pe_callSF {E : L2.St → XK} (F : FnF X.prog X.w X.K X.mg X.base CX k f fd ps sp) (hr : RoomF k X.A) (hg : Gl X x) (hm : X.mg x = some (.ref f)) (hk : PySem.W.keepIn X.K (.ref f) = true) (hb : Binds X.K fd ps []) (hx : ∀ σ, PassesAt CX X σ (E σ))
    (ha : PA X (e :: es) t) (hdb : (x == ("__debug__" : Str)) = false := by decide) (he : starEach (e :: es) X.env = (false, eval e X.env) :: starEach es X.env := by rfl) (hpl : (backTo pos (starEach es X.env)).any (·.1) = false := by rfl) :
    PE X (.Call (.Name x p) (e :: es) [] pos) (tCallS sp E t) := by
  refine ⟨fun pins s σ H Q I h => ?_⟩
  refine wpAny_Call_Name_kw (ld_glob I hg hm ?_ hdb)
  refine PySem.W.callWith_K (h₀ := X.base) I.ok.mod.kin hk (thn (ha.run pos pins s σ H _ I h) fun us s1 ⟨vs, H1, I1, r, q⟩ => ⟨I1.kIn, ?_⟩) he hpl
  exact run_fnSF F hr hb (hx σ) I1 r q
theorem pe_callLF {dvs : List V} {ds : List Value} {E : XK} (F : FnF X.prog X.w X.K X.mg X.base CX k f fd ps sp) (hr : RoomF k X.A) (hN : X.N[i]? = some x) (hv : Vis X.env.scope x) (hk : PySem.W.keepIn X.K (.ref f) = true) (hb : Binds X.K fd ps ds) (hd : Vals dvs ds) (hx : Passes CX X E) (ha : PA X (e :: es) t)
    (hdb : (x == ("__debug__" : Str)) = false := by decide) (hcd : (x == ("__classdict__" : Str)) = false := by decide)
    (he : starEach (e :: es) X.env = (false, eval e X.env) :: starEach es X.env := by rfl) (hpl : (backTo pos (starEach es X.env)).any (·.1) = false := by rfl) : PE X (.Call (.Name x p) (e :: es) [] pos) (tCallL i f sp dvs E t) := by
  refine ⟨fun pins s σ H Q I h => ?_⟩
  obtain ⟨hs, ht⟩ := h
  refine wpAny_Call_Name_kw (thn ((pe_var (pos := p) hN hv hdb hcd).run pins s σ H (fun v H1 => v = .ref f ∧ H1 = H) I ⟨.ref f, hs, rfl, rfl⟩) fun u s1 ⟨v, H1, I1, r1, q1⟩ => ?_)
  obtain ⟨rfl, rfl⟩ := q1
  cases r1
  refine PySem.W.callWith_K (h₀ := X.base) I.ok.mod.kin hk (thn (ha.run pos pins s1 σ _ _ I1 ht) fun us s2 ⟨vs, H2, I2, r, q⟩ => ⟨I2.kIn, ?_⟩) he hpl
  exact run_fnF F hr hb hd hx I2 r q
end
end Wk
set_option maxRecDepth 100000
set_option maxHeartbeats 8000000
namespace Wk
open PySem L2 TL PyProof.Rows Gm Gr
open SX (S S_len)
/-! ### the promise of a def of the program that reads -/
def RdQ {σ : Type} (C BC a dx q : Addr) (toks : List Tk) (el : Nat) (b : Int) (x : R Tk σ) (rel : Hp → σ → V → Prop) (H : Hp) (Q : VK) (E : XK) : Prop := match x with
  | .ok t r => ∀ H' v, On a H H' → SA C H' a dx q (toks.length - r.length) b → rel H' t v → Q v H'
  | .bad r => RaiseQ BC a (lineN el r) H E
  | .out => True
def sp_rd {σ : Type} (C BC : Addr) (d : Nat) (X : Gr.P σ) (rel : Hp → σ → V → Prop) : Sp := fun vs H Q E => ∃ (a dx q : Addr) (us : List V) (toks : List Tk) (el i : Nat), vs = [.ref a] ∧ Sr H q us toks el ∧ i ≤ toks.length ∧ SA C H a dx q i (60 - (d : Int)) ∧
  RdQ C BC a dx q toks el (60 - (d : Int)) (X (toks.drop i)) rel H Q E
theorem RdQ.on {σ : Type} {C BC a dx q : Addr} {toks : List Tk} {el : Nat} {b : Int} {x : R Tk σ} {rel : Hp → σ → V → Prop} {H H1 : Hp} {Q : VK} {E : XK} (h : RdQ C BC a dx q toks el b x rel H Q E) (g : On a H H1) : RdQ C BC a dx q toks el b x rel H1 Q E := by
  cases x with
  | out => exact h
  | bad r => exact RaiseQ.on h g
  | ok t r => exact fun H' v g' => h H' v (g.trans g')
theorem TupK.on {a C dx : Addr} {fs : List (Str × V)} {H H' : Hp} (g : On a H H') (ha : H a = some (.ins C dx fs)) : TupK H H' := fun p xs h => g _ _ (by rintro rfl; rw [h] at ha; cases ha) h
/-- where the cursor is, what was read so far, what is left to do -/
def PC {σ : Type} (C a dx q : Addr) (toks : List Tk) (H0 : Hp) (x : R Tk σ) (b : Int) (f : Gr.P σ) (as : List Tr) (vs : List V) (H : Hp) : Prop :=
  On a H0 H ∧ ∃ i, i ≤ toks.length ∧ SA C H a dx q i b ∧ RelTs H as vs ∧ x = f (toks.drop i)
section
variable {σ : Type} {C BC a dx q : Addr} {us : List V} {toks : List Tk} {el : Nat} {H0 : Hp} {Q : VK} {E : XK} {b b0 : Int} {x : R Tk σ} {rel : Hp → σ → V → Prop} {f : Gr.P σ} {as : List Tr} {vs : List V} {H : Hp} {fs0 : List (Str × V)}
theorem PC.begin {i : Nat} {X : Gr.P σ} (hi : i ≤ toks.length) (ha : SA C H a dx q i b) : PC C a dx q toks H (X (toks.drop i)) b X [] [] H := ⟨On.refl _ _, i, hi, ha, by rw [RelTs], rfl⟩
theorem PC.same {H' : Hp} (c : PC C a dx q toks H0 x b f as vs H) (g : Same H H') : PC C a dx q toks H0 x b f as vs H' := by
  obtain ⟨b, i, h1, h2, h3, h4⟩ := c
  exact ⟨b.trans (On.same g), i, h1, g _ _ h2, h3.keep (TupK.same g), h4⟩
theorem PC.swap {as' : List Tr} {vs' : List V} (c : PC C a dx q toks H0 x b f as vs H) (h : RelTs H as vs → RelTs H as' vs') : PC C a dx q toks H0 x b f as' vs' H := by
  obtain ⟨b, i, h1, h2, h3, h4⟩ := c
  exact ⟨b, i, h1, h2, h h3, h4⟩
theorem PC.re {g : Gr.P σ} (c : PC C a dx q toks H0 x b f as vs H) (h : ∀ i, x = f (toks.drop i) → x = g (toks.drop i)) : PC C a dx q toks H0 x b g as vs H := by
  obtain ⟨b, i, h1, h2, h3, h4⟩ := c
  exact ⟨b, i, h1, h2, h3, h i h4⟩
theorem PC.ins (c : PC C a dx q toks H0 x b f as vs H) : ∃ fs, H a = some (.ins C dx fs) := by
  obtain ⟨_, i, _, h, _⟩ := c
  exact ⟨_, h⟩
theorem kd_of (R : Sr H0 q us toks el) (i : Nat) : ∀ t ∈ toks.drop i, TkG t := fun t ht => R.k t (List.mem_of_mem_drop ht)
/-- source.kind() -/
theorem PC.kind {Rk : VK} {E' : XK} (R : Sr H0 q us toks el) (ha0 : H0 a = some (.ins C dx fs0)) (c : PC C a dx q toks H0 x b f as vs H)
    (k : ∀ i, i ≤ toks.length → SA C H a dx q i b → RelTs H as vs → x = f (toks.drop i) → Rk (.str (S (kindN (toks.drop i)))) H) : sp_kind C [.ref a] H Rk E' := by
  obtain ⟨g, i, h1, h2, h3, h4⟩ := c
  exact ⟨a, dx, q, us, toks, el, i, b, rfl, R.on g ha0, h1, h2, k i h1 h2 h3 h4⟩
theorem SA.fs {i : Nat} (h : SA C H a dx q i b) : ∃ fs, H a = some (.ins C dx fs) ∧ fs.lookup ("kind" : Str) = none ∧ fs.lookup ("take" : Str) = none ∧ fs.lookup ("expect" : Str) = none ∧ fs.lookup ("refuse" : Str) = none ∧ fs.lookup ("kind_behind" : Str) = none :=
  ⟨_, h, rfl, rfl, rfl, rfl, rfl⟩
theorem PC.fs (c : PC C a dx q toks H0 x b f as vs H) : ∃ fs, H a = some (.ins C dx fs) ∧ fs.lookup ("kind" : Str) = none ∧ fs.lookup ("take" : Str) = none ∧ fs.lookup ("expect" : Str) = none ∧ fs.lookup ("refuse" : Str) = none ∧ fs.lookup ("kind_behind" : Str) = none := by
  obtain ⟨_, i, _, h, _⟩ := c
  exact SA.fs h
/-- where a word is missing, it is told -/
theorem raise_of {i : Nat} (hq : RdQ C BC a dx q toks el b0 x rel H0 Q E) (g : On a H0 H) (ex : x = .bad (toks.drop i)) : RaiseQ BC a (lineN el (toks.drop i)) H E := by
  rw [ex] at hq
  exact RaiseQ.on hq g
theorem words_ne : ∀ s ∈ wordsS, codes s ≠ codes "END" := by decide +kernel
/-- expect of a word that is no bracket -/
theorem PC.expect {s : String} {g : Gr.P σ} {Rk : VK} (R : Sr H0 q us toks el) (ha0 : H0 a = some (.ins C dx fs0)) (hq : RdQ C BC a dx q toks el b0 x rel H0 Q E) (c : PC C a dx q toks H0 x b (fun r => bind (want s r) fun _ r => g r) as vs H)
    (hs : s ∈ wordsS) (h1 : codes s ∉ opens) (h2 : codes s ∉ closes) (k : ∀ H' v, On a H H' → PC C a dx q toks H0 x b g as vs H' → Rk v H') : sp_expect C BC [.ref a, .str (S (codes s))] H Rk E := by
  obtain ⟨gn, i, hi, hp, hr, ex⟩ := c
  refine ⟨a, dx, q, us, toks, el, i, b, codes s, rfl, words_ne s hs, R.on gn ha0, hi, hp, ?_⟩
  have hop : hd s (toks.drop i) = true ↔ kindN (toks.drop i) = codes s := kind_hd hs (kd_of R i)
  by_cases hn : kindN (toks.drop i) = codes s
  · rw [if_pos hn]
    intro hlt
    rw [hn, if_neg h1, if_neg h2]
    have h4 := hop.mpr hn
    rw [drop_at hlt] at ex h4
    have ex : x = bind (want s (toks[i] :: toks.drop (i + 1))) fun _ r => g r := ex
    rw [want_yes h4] at ex
    intro H' g' hp'
    exact k H' _ g' ⟨gn.trans g', i + 1, hlt, hp', hr.keep (TupK.on g' hp), ex⟩
  · rw [if_neg hn]
    have ex : x = bind (want s (toks.drop i)) fun _ r => g r := ex
    rw [want_no (fun z => hn (hop.mp z))] at ex
    exact raise_of hq gn ex
/-- expect of a bracket that closes -/
theorem PC.expectC {s : String} {g : Gr.P σ} {Rk : VK} (R : Sr H0 q us toks el) (ha0 : H0 a = some (.ins C dx fs0)) (hq : RdQ C BC a dx q toks el b0 x rel H0 Q E) (c : PC C a dx q toks H0 x (b + 1) (fun r => bind (want s r) fun _ r => g r) as vs H)
    (hs : s ∈ wordsS) (h2 : codes s ∈ closes) (k : ∀ H' v, On a H H' → PC C a dx q toks H0 x b g as vs H' → Rk v H') : sp_expect C BC [.ref a, .str (S (codes s))] H Rk E := by
  obtain ⟨gn, i, hi, hp, hr, ex⟩ := c
  have h1 : codes s ∉ opens := fun z => by
    have : ∀ l ∈ opens, l ∉ closes := by decide +kernel
    exact this _ z h2
  refine ⟨a, dx, q, us, toks, el, i, b + 1, codes s, rfl, words_ne s hs, R.on gn ha0, hi, hp, ?_⟩
  have hop : hd s (toks.drop i) = true ↔ kindN (toks.drop i) = codes s := kind_hd hs (kd_of R i)
  by_cases hn : kindN (toks.drop i) = codes s
  · rw [if_pos hn]
    intro hlt
    rw [hn, if_neg h1, if_pos h2]
    have h4 := hop.mpr hn
    rw [drop_at hlt] at ex h4
    have ex : x = bind (want s (toks[i] :: toks.drop (i + 1))) fun _ r => g r := ex
    rw [want_yes h4] at ex
    intro H' g' hp'
    rw [show b + 1 - 1 = b by omega] at hp'
    exact k H' _ g' ⟨gn.trans g', i + 1, hlt, hp', hr.keep (TupK.on g' hp), ex⟩
  · rw [if_neg hn]
    have ex : x = bind (want s (toks.drop i)) fun _ r => g r := ex
    rw [want_no (fun z => hn (hop.mp z))] at ex
    exact raise_of hq gn ex
/-- a bracket that opens is taken -/
theorem takeO {d i : Nat} {s : String} {kk : In → Gr.P σ} {Rk : VK} (R : Sr H0 q us toks el) (hq : RdQ C BC a dx q toks el b0 x rel H0 Q E) (gn : On a H0 H) (hp : SA C H a dx q i (60 - (d : Int))) (hr : RelTs H as vs) (ex : x = opn (inn d) s kk (toks.drop i)) (hn : kindN (toks.drop i) = codes s) (hs : s ∈ wordsS) (h1 : codes s ∈ opens)
    (k : ∀ H' v e, d = e + 1 → On a H H' → PC C a dx q toks H0 x (60 - (e : Int)) (kk (mk (inn e))) as vs H' → Rk v H') : TakeQ C BC a dx q toks el i (60 - (d : Int)) H Rk E := by
  intro hlt
  rw [hn, if_pos h1]
  have hw : hd s (toks.drop i) = true := (kind_hd hs (kd_of R i)).mpr hn
  have hw' : isW s toks[i] = true := by rw [drop_at hlt] at hw; exact hw
  cases d with
  | zero =>
    rw [if_pos (by omega)]
    refine raise_of hq gn ?_
    rw [ex, drop_at hlt]
    show opn none s _ _ = _
    rw [opn.eq_def]
    exact if_pos hw'
  | succ e =>
    rw [if_neg (by omega)]
    intro H' g' hp'
    refine k H' _ e rfl g' ⟨gn.trans g', i + 1, hlt, ?_, hr.keep (TupK.on g' hp), ?_⟩
    · rw [show (60 - ((e + 1 : Nat) : Int)) + 1 = 60 - (e : Int) by omega] at hp'; exact hp'
    · rw [ex, drop_at hlt]
      show opn (some (mk (inn e))) s _ _ = _
      rw [opn.eq_def]
      exact if_pos hw'
/-- expect of a bracket that opens -/
theorem PC.expectO {d : Nat} {s : String} {kk : In → Gr.P σ} {Rk : VK} (R : Sr H0 q us toks el) (ha0 : H0 a = some (.ins C dx fs0)) (hq : RdQ C BC a dx q toks el b0 x rel H0 Q E) (c : PC C a dx q toks H0 x (60 - (d : Int)) (opn (inn d) s kk) as vs H)
    (hs : s ∈ wordsS) (h1 : codes s ∈ opens) (k : ∀ H' v e, d = e + 1 → On a H H' → PC C a dx q toks H0 x (60 - (e : Int)) (kk (mk (inn e))) as vs H' → Rk v H') : sp_expect C BC [.ref a, .str (S (codes s))] H Rk E := by
  obtain ⟨gn, i, hi, hp, hr, ex⟩ := c
  refine ⟨a, dx, q, us, toks, el, i, _, codes s, rfl, words_ne s hs, R.on gn ha0, hi, hp, ?_⟩
  by_cases hn : kindN (toks.drop i) = codes s
  · rw [if_pos hn]
    exact takeO R hq gn hp hr ex hn hs h1 k
  · rw [if_neg hn]
    refine raise_of hq gn ?_
    have hw : ¬ hd s (toks.drop i) = true := fun z => hn ((kind_hd hs (kd_of R i)).mp z)
    rw [ex]
    cases e : toks.drop i with
    | nil => rfl
    | cons t r =>
      rw [e] at hw
      rw [opn.eq_def]
      exact if_neg hw
/-- expect("NAME") -/
theorem PC.name {g : Tr → Gr.P σ} {Rk : VK} (R : Sr H0 q us toks el) (ha0 : H0 a = some (.ins C dx fs0)) (hq : RdQ C BC a dx q toks el b0 x rel H0 Q E) (c : PC C a dx q toks H0 x b (fun r => bind (named r) g) as vs H)
    (k : ∀ H' v t, On a H H' → PC C a dx q toks H0 x b (g t) (as ++ [t]) (vs ++ [v]) H' → Rk v H') : sp_expect C BC [.ref a, .str (S (codes "NAME"))] H Rk E := by
  obtain ⟨gn, i, hi, hp, hr, ex⟩ := c
  refine ⟨a, dx, q, us, toks, el, i, b, codes "NAME", rfl, by decide +kernel, R.on gn ha0, hi, hp, ?_⟩
  have hop := kind_name (kd_of R i)
  have ex : x = bind (named (toks.drop i)) g := ex
  by_cases hn : kindN (toks.drop i) = codes "NAME"
  · rw [if_pos hn]
    intro hlt
    rw [hn, if_neg (by decide +kernel), if_neg (by decide +kernel)]
    obtain ⟨t, r, e, hso⟩ := hop.mp hn
    rw [drop_at hlt] at ex e
    have et : toks[i] = t := (List.cons.inj e).1
    rw [show named (toks[i] :: toks.drop (i + 1)) = .ok (wdT toks[i].wd) (toks.drop (i + 1)) from if_pos (by rw [et]; exact hso)] at ex
    intro H' g' hp'
    exact k H' _ _ g' ⟨gn.trans g', i + 1, hlt, hp', (hr.keep (TupK.on g' hp)).snoc (wd_rel _), ex⟩
  · rw [if_neg hn]
    refine raise_of hq gn ?_
    rw [ex]
    cases e : toks.drop i with
    | nil => rfl
    | cons t r => rw [show named (t :: r) = .bad (t :: r) from if_neg fun z => hn (hop.mpr ⟨t, r, e, z⟩)]; rfl
/-- take of a word that is no bracket -/
theorem PC.take {s : String} {i : Nat} {Rk : VK} (R : Sr H0 q us toks el) (ha0 : H0 a = some (.ins C dx fs0)) (gn : On a H0 H) (hp : SA C H a dx q i b) (hr : RelTs H as vs) (hn : kindN (toks.drop i) = codes s) (hs : s ∈ wordsS) (h1 : codes s ∉ opens) (h2 : codes s ∉ closes)
    (k : ∀ (hlt : i < toks.length) H', isW s toks[i] = true → On a H H' → SA C H' a dx q (i + 1) b → RelTs H' as vs → Rk (.str (S (codes s))) H') : sp_take C BC [.ref a] H Rk E := by
  have hw : hd s (toks.drop i) = true := (kind_hd hs (kd_of R i)).mpr hn
  have hlt : i < toks.length := by
    rcases Nat.lt_or_ge i toks.length with h | h
    · exact h
    · rw [List.drop_eq_nil_of_le h] at hw; cases hw
  refine ⟨a, dx, q, us, toks, el, i, b, rfl, R.on gn ha0, hlt, hp, fun _ => ?_⟩
  rw [hn, if_neg h1, if_neg h2]
  rw [drop_at hlt] at hw
  have hw : isW s toks[i] = true := hw
  have ew : wdV toks[i].wd = .str (S (codes s)) := by
    unfold isW at hw
    rw [Bool.and_eq_true, decide_eq_true_eq] at hw
    rw [hw.2]; rfl
  intro H' g' hp'
  rw [ew]
  exact k hlt H' hw g' hp' (hr.keep (TupK.on g' hp))
/-- a def that reads -/
theorem PC.call {d : Nat} {X : Gr.P Tr} {g : Tr → Gr.P σ} {Rk : VK} (R : Sr H0 q us toks el) (ha0 : H0 a = some (.ins C dx fs0)) (hq : RdQ C BC a dx q toks el b0 x rel H0 Q E) (hX : ∀ r, Gd true r (X r)) (c : PC C a dx q toks H0 x (60 - (d : Int)) (fun r => bind (X r) g) as vs H)
    (k : ∀ H' v t, On a H H' → PC C a dx q toks H0 x (60 - (d : Int)) (g t) (as ++ [t]) (vs ++ [v]) H' → Rk v H') : sp_rd C BC d X RelT [.ref a] H Rk E := by
  obtain ⟨gn, i, hi, hp, hr, ex⟩ := c
  refine ⟨a, dx, q, us, toks, el, i, rfl, R.on gn ha0, hi, hp, ?_⟩
  have ex : x = bind (X (toks.drop i)) g := ex
  rcases par_three (e := d) (i := i) hX toks with ⟨t, i2, ec, l1, l2⟩ | ⟨i2, ec, l2⟩
  · rw [ec] at ex ⊢
    intro H' v g' hp' hr'
    exact k H' v t g' ⟨gn.trans g', i2, l2, by rw [drop_len_pos l2] at hp'; exact hp', (hr.keep (TupK.on g' hp)).snoc hr', ex⟩
  · rw [ec] at ex ⊢
    exact raise_of hq gn ex
/-- it is told -/
theorem PC.done {t : σ} {v : V} (hq : RdQ C BC a dx q toks el b x rel H0 Q E) (c : PC C a dx q toks H0 x b (fun r => .ok t r) as vs H) (hr : RelTs H as vs → rel H t v) : Q v H := by
  obtain ⟨gn, i, hi, hp, h3, ex⟩ := c
  rw [ex] at hq
  exact hq H v gn (by rw [drop_len_pos hi]; exact hp) (hr h3)
end
theorem sp_expect_lit {C BC p : Addr} {s : String} {H : Hp} {R : VK} {E : XK} (h : sp_expect C BC [.ref p, .str (S (codes s))] H R E) : sp_expect C BC [.ref p, .str (Str.ofString s)] H R E := by
  rw [S_of s]; exact h
end Wk
set_option maxRecDepth 100000
set_option maxHeartbeats 8000000
namespace Wk
open PySem L2 TL PyProof.Rows Gm Gr
open SX (S S_len)
/-- the methods of the cursor -/
structure MT (P : Program) (w : World) (K : PySem.W.Frag) (mg : Str → Option Value) (base : Heap) (CC : CurT K) (BC : Addr) where
  kind : MD P w K mg base CX0 CC.C "kind" ["self"] 1 (sp_kind CC.C)
  kindb : MD P w K mg base CX0 CC.C "kind_behind" ["self"] 1 (sp_kindb CC.C)
  refuse : MD P w K mg base (L2.CX P w) CC.C "refuse" ["self"] 3 (sp_refuse CC.C BC)
  take : MD P w K mg base (L2.CX P w) CC.C "take" ["self"] 4 (sp_take CC.C BC)
  expect : MD P w K mg base (L2.CX P w) CC.C "expect" ["self", "kind"] 5 (sp_expect CC.C BC)
section
variable {P : Program} {w : World} {K : PySem.W.Frag} {mg : Str → Option Value} {base : Heap}
abbrev s_name_of_param : Stmt := top 53
theorem sc_name_of_param : FnScope ["source"] ["source"] (defScope s_name_of_param) := ⟨rfl, rfl, rfl, by decide +kernel, rfl, by decide +kernel, by decide +kernel⟩
theorem ok_name_of_param {d : Nat} (CC : CurT K) {BC : Addr} (M : MT P w K mg base CC BC) {f : Addr} {fd : FuncData} (F : Fun K "name_of_param" "name_of_param" s_name_of_param f fd) : FnOk P w K mg base (L2.CX P w) 6 f fd ["source"] (sp_rd CC.C BC d named RelT) := by
  refine F.okX sc_name_of_param (fun vs H Q E h => ?_) (fun cdv A outer s H vs Q E hr h => ?_)
  · obtain ⟨a, _, _, _, _, _, _, rfl, _⟩ := h; rfl
  obtain ⟨a, dx, q, us, toks, el, i, rfl, R, hi, ha, hq⟩ := h
  have M_expect := M.expect
  refine ⟨_, (pss_one (ps_ret (pe_meth (pv 0) CC.cl M_expect.m M_expect.ok (hr.mono (by omega)) M_expect.b .nil (passes_call (takes_of rfl rfl rfl rfl) (fun _ _ _ _ h => h)) (pa_cons pe_str pa_nil)))), ?_⟩
  have c0 := PC.begin (X := named) hi ha
  generalize named (toks.drop i) = x at hq c0
  obtain ⟨fs, hfs, lk, lt, le, lr, lb⟩ := c0.fs
  refine ⟨_, rfl, a, dx, fs, rfl, hfs, le, ?_⟩
  dsimp only [tNil, tCons]
  have c1 : PC CC.C a dx q toks H x (60 - (d : Int)) (fun r => bind (named r) fun t r => .ok t r) [] [] H := c0.re fun i e => by
    rw [e]
    cases named (toks.drop i) <;> rfl
  refine sp_expect_lit (PC.name R hfs hq c1 fun H' v t g c2 => ?_)
  exact c2.done hq fun hr => rels_last hr
def sp_listed (C BC fr : Addr) (e : Nat) (X : Gr.P Tr) : Sp := fun vs H Q E => ∃ (a dx q : Addr) (us : List V) (toks : List Tk) (el i : Nat) (cl : String), vs = [.ref a, .ref fr, .str (S (codes cl))] ∧ cl ∈ wordsS ∧ codes cl ∈ closes ∧ Sr H q us toks el ∧ i ≤ toks.length ∧ SA C H a dx q i (60 - (e : Int)) ∧
  RdQ C BC a dx q toks el (60 - (e : Int) - 1) (listed X cl (toks.drop i)) (fun H ts v => RelT H (.t ts) v) H Q E
def sp_listed1 (C BC fr : Addr) (X : Nat → Gr.P Tr) : Nat → Sp
  | 0 => fun _ _ _ _ => False
  | e + 1 => sp_listed C BC fr e (X e)
theorem many_eq (X : Gr.P Tr) (n : Nat) (acc : List Tr) (r : List Tk) : many X (n + 1) acc r = bind (X r) fun t r => contM X n (acc ++ [t]) r := rfl
abbrev s_listed : Stmt := top 55
theorem sc_listed : FnScope ["source", "reader", "closing", "found"] ["source", "reader", "closing"] (defScope s_listed) := ⟨rfl, rfl, rfl, by decide +kernel, rfl, by decide +kernel, by decide +kernel⟩
theorem ok_listed {e lv : Nat} {X : Gr.P Tr} {xr : Str} (T : Txt K mg) (CC : CurT K) {BC : Addr} (M : MT P w K mg base CC BC) (hX : ∀ r, Gd true r (X r)) (hlv : 5 ≤ lv) {f : Addr} {fd : FuncData} (F : Fun K "listed" "listed" s_listed f fd)
    (D_reader : DefF P w K mg base (L2.CX P w) xr ["source"] lv (sp_rd CC.C BC e X RelT)) : FnF P w K mg base (L2.CX P w) (lv + 1) f fd ["source", "reader", "closing"] (sp_listed CC.C BC D_reader.f e X) := by
  refine okFX F sc_listed (fun vs H Q E h => ?_) (fun cdv A outer s H vs Q E hr hf h => ?_)
  · obtain ⟨a, _, _, _, _, _, _, _, rfl, _⟩ := h; rfl
  obtain ⟨a, dx, q, us, toks, el, i, cl, rfl, hcl, hcc, R, hi, ha, hq⟩ := h
  have M_expect := M.expect
  have M_kind := M.kind
  have M_take := M.take
  refine ⟨_, (pss_cons (ps_set (i := 3) sc_listed.nd rfl (Or.inl rfl) (pe_lst pa_nil))
    (pss_cons (ps_if (pt_cmpR op_ne (pe_meth0 (pv 0) CC.cl M_kind.m M_kind.ok (hr.mono (by omega)) M_kind.b .nil pass0) (pv 2) (nomark _)) (pss_cons (ps_expr (pe_bm PySem.F.plainAttrs_list PySem.F.slot_list_append PySem.F.type_list_append mt_append (pv 3) (pa_cons (pe_callLF (i := 1) D_reader.ok (hf.mono (by omega)) rfl (Or.inl rfl) D_reader.k D_reader.b .nil (passes_call (takes_of rfl rfl rfl rfl) (fun _ _ _ _ h => h)) (pa_cons (pv 0) pa_nil)) pa_nil)))
      (pss_one (ps_while (passes_of rfl) (pt_cmpR op_eq (pe_meth0 (pv 0) CC.cl M_kind.m M_kind.ok (hr.mono (by omega)) M_kind.b .nil pass0) pe_str (nomark _)) (pss_cons (ps_expr (pe_meth0 (pv 0) CC.cl M_take.m M_take.ok (hr.mono (by omega)) M_take.b .nil (passes_call (takes_of rfl rfl rfl rfl) (fun _ _ _ _ h => h))))
        (pss_one (ps_expr (pe_bm PySem.F.plainAttrs_list PySem.F.slot_list_append PySem.F.type_list_append mt_append (pv 3) (pa_cons (pe_callLF (i := 1) D_reader.ok (hf.mono (by omega)) rfl (Or.inl rfl) D_reader.k D_reader.b .nil (passes_call (takes_of rfl rfl rfl rfl) (fun _ _ _ _ h => h)) (pa_cons (pv 0) pa_nil)) pa_nil)))))))) pss_nil)
    (pss_cons (ps_expr (pe_meth (pv 0) CC.cl M_expect.m M_expect.ok (hr.mono (by omega)) M_expect.b .nil (passes_call (takes_of rfl rfl rfl rfl) (fun _ _ _ _ h => h)) (pa_cons (pv 2) pa_nil)))
    (pss_one (ps_ret (pe_tupleOf rfl T.n_tuple (pv 3))))))), ?_⟩
  generalize hσ : L2.start _ _ = σ0
  have hσ : σ0 = [some (.ref a), some (.ref D_reader.f), some (.str (S (codes cl))), none] := hσ.symm
  subst hσ
  have hz := line_eq
  have ha0 : H a = some (.ins CC.C dx [("found", .ref q), ("at", .int (i : Int)), ("brackets", .int (60 - (e : Int)))]) := ha
  have hno : listed X cl (toks.drop i) ≠ .out := gd_no_out (gd_listed hX _)
  have c0 := PC.begin (X := listed X cl) hi ha
  generalize listed X cl (toks.drop i) = x at hq c0 hno
  have hln := R.n
  refine seq_set ?_
  refine ⟨Nat.zero_le _, fun p np => ?_⟩
  have npa : p ≠ a := (ne_of_none ha0 np).symm
  have gp := same_new np (.lst [])
  have c1 := c0.same gp
  -- a list of one's own changes
  have mutp : ∀ {b : Int} {f : Gr.P (List Tr)} {as : List Tr} {vs : List V} {H1 : Hp} {zs ws : List V}, PC CC.C a dx q toks H x b f as vs H1 → H1 p = some (.lst zs) → PC CC.C a dx q toks H x b f as vs (upd H1 p (.lst ws)) := fun {b f as vs H1 zs ws} c hp => by
    obtain ⟨g, i1, h1, h2, h3, h4⟩ := c
    refine ⟨fun b' o nb hb => ?_, i1, h1, ?_, h3.keep (TupK.set hp), h4⟩
    · have n : b' ≠ p := fun z => by rw [z, np] at hb; cases hb
      rw [upd_ne n]; exact g b' o nb hb
    · show (upd H1 p (.lst ws)) a = _
      rw [upd_ne npa.symm]; exact h2
  refine seq_join (fun σ H' => ∃ (acc : List Tr) (xs : List V), σ = [some (.ref a), some (.ref D_reader.f), some (.str (S (codes cl))), some (.ref p)] ∧ H' p = some (.lst xs) ∧ xs.length ≤ 1000000 ∧ PC CC.C a dx q toks H x (60 - (e : Int)) (fun r => bind (want cl r) fun _ r => .ok acc r) acc xs H') ?_ ?_
  · rintro σ H2 ⟨acc, xs, rfl, hp2, hlx, c2⟩
    obtain ⟨fs, hfs, lk, lt, le, lr, lb⟩ := c2.fs
    refine ⟨_, rfl, a, dx, fs, rfl, hfs, le, _, rfl, ?_⟩
    dsimp only [tNil, tCons]
    have c2' : PC CC.C a dx q toks H x (60 - (e : Int) - 1 + 1) (fun r => bind (want cl r) fun _ r => .ok acc r) acc xs H2 := by rw [show 60 - (e : Int) - 1 + 1 = 60 - (e : Int) by omega]; exact c2
    refine PC.expectC R ha0 hq c2' hcl hcc fun H3 v g3 c3 => ?_
    have hp3 := g3 _ _ npa hp2
    refine ⟨_, rfl, .inl ⟨p, xs, rfl, SqL.of hp3, fun t nt => ?_⟩⟩
    have gt := same_new nt (.tup xs)
    refine (c3.same gt).done hq fun hr => ?_
    rw [RelT]
    exact ⟨t, xs, rfl, upd_same, hr⟩
  intro NX nx
  obtain ⟨fs, hfs, lk, lt, le, lr, lb⟩ := c1.fs
  refine ⟨_, rfl, a, dx, fs, rfl, hfs, lk, ?_⟩
  dsimp only [tNil, tCons]
  refine PC.kind (E' := E0) R ha0 c1 fun i1 hi1 ha1 hr1 ex1 => ?_
  refine ⟨_, rfl, rfl, _, rfl, ?_⟩
  have hop : hd cl (toks.drop i1) = true ↔ kindN (toks.drop i1) = codes cl := kind_hd hcl (kd_of R i1)
  refine itedn (fun h1 => ?_) (fun h1 => ?_)
  rotate_left
  · have h1 : kindN (toks.drop i1) = codes cl := S_inj (V.str.inj h1)
    have h2 := hop.mpr h1
    refine go_next (nx _ _ ⟨[], [], rfl, upd_same, Nat.zero_le _, c1.1, i1, hi1, ha1, hr1, ?_⟩)
    rw [ex1]
    unfold listed
    rw [if_pos h2]
    cases e3 : toks.drop i1 with
    | nil => rw [e3] at h2; cases h2
    | cons t r =>
      rw [e3] at h2
      show _ = bind (want cl (t :: r)) _
      rw [want_yes h2]; rfl
  have h1 : ¬ kindN (toks.drop i1) = codes cl := fun z => h1 (by rw [z])
  have h2 : ¬ hd cl (toks.drop i1) = true := fun z => h1 (hop.mp z)
  have hgd : ∀ (n : Nat) (acc : List Tr) (r : List Tk), r.length ≤ n → bind (X r) (fun t r => bind (contM X n (acc ++ [t]) r) fun ts r => bind (want cl r) fun _ r => .ok ts r) = bind (X r) (fun t r => lim n (fun r => bind (contM X n (acc ++ [t]) r) fun ts r => bind (want cl r) fun _ r => .ok ts r) r) := fun n acc r h => lim_bind hX (by omega)
  have c2 : PC CC.C a dx q toks H x (60 - (e : Int)) (fun r => bind (X r) fun t r => lim (toks.drop i1).length (fun r => bind (contM X (toks.drop i1).length ([] ++ [t]) r) fun ts r => bind (want cl r) fun _ r => .ok ts r) r) [] [] (upd H p (.lst [])) := by
    refine ⟨c1.1, i1, hi1, ha1, hr1, ?_⟩
    rw [ex1]
    unfold listed
    rw [if_neg h2, many_eq, bind_bind]
    exact hgd _ [] _ (Nat.le_refl _)
  refine ⟨_, rfl, .inl ⟨rfl, _, SqL.of upd_same⟩, ?_⟩
  refine ⟨rfl, _, rfl, ?_⟩
  dsimp only [tNil, tCons]
  refine PC.call R ha0 hq hX c2 fun H3 v3 t3 g3 c3 => ?_
  have hp3 := g3 _ _ npa upd_same
  refine ⟨p, [], _, rfl, rfl, hp3, (by show 0 < _; omega), ?_⟩
  have c4 := mutp (ws := [] ++ [v3]) c3 hp3
  try dsimp only
  refine while_of (fun σ H' => ∃ (acc : List Tr) (xs : List V), σ = [some (.ref a), some (.ref D_reader.f), some (.str (S (codes cl))), some (.ref p)] ∧ H' p = some (.lst xs) ∧ xs.length ≤ 1000000 ∧ PC CC.C a dx q toks H x (60 - (e : Int)) (fun r => bind (want cl r) fun _ r => .ok acc r) acc xs H')
    (fun m σ H' => ∃ (acc : List Tr) (xs : List V), σ = [some (.ref a), some (.ref D_reader.f), some (.str (S (codes cl))), some (.ref p)] ∧ H' p = some (.lst xs) ∧ xs.length + m ≤ 200000 ∧ PC CC.C a dx q toks H x (60 - (e : Int)) (lim m (fun r => bind (contM X m acc r) fun ts r => bind (want cl r) fun _ r => .ok ts r)) acc xs H')
    (toks.drop i1).length ⟨_, _, rfl, upd_same, by rw [List.length_drop]; show 1 + _ ≤ _; omega, c4⟩ (fun σ H' h => nx _ _ h) ?_
  rintro NX2 nx2 m σ H5 ⟨acc, xs, rfl, hp5, hlx, c5⟩
  obtain ⟨fs5, hfs5, lk5, lt5, le5, lr5, lb5⟩ := c5.fs
  refine ⟨_, rfl, a, dx, fs5, rfl, hfs5, lk5, ?_⟩
  dsimp only [tNil, tCons]
  refine PC.kind (E' := E0) R ha0 c5 fun i6 hi6 ha6 hr6 ex6 => ?_
  refine ⟨rfl, _, rfl, ?_⟩
  have hx6 := lim_in ex6 hno
  have hcm : hd "," (toks.drop i6) = true ↔ kindN (toks.drop i6) = codes "," := kind_hd (by decide) (kd_of R i6)
  refine ited (fun h6 => ?_) (fun h6 => ?_)
  rotate_left
  · have h6 : ¬ kindN (toks.drop i6) = codes "," := fun z => h6 (eq_lit.mpr z)
    refine nx2 _ _ ⟨acc, xs, rfl, hp5, by omega, c5.1, i6, hi6, ha6, hr6, ?_⟩
    rw [hx6.2]
    unfold contM
    rw [if_neg (fun z => h6 (hcm.mp z))]; rfl
  have h6 := eq_lit.mp h6
  have hd6 := hcm.mpr h6
  have hlt6 : i6 < toks.length := by
    rcases Nat.lt_or_ge i6 toks.length with h | h
    · exact h
    · rw [List.drop_eq_nil_of_le h] at hd6; cases hd6
  have tl6 : (toks.drop i6).tail = toks.drop (i6 + 1) := by rw [drop_at hlt6]; rfl
  obtain ⟨m', rfl⟩ : ∃ m', m = m' + 1 := ⟨m - 1, by have := hx6.1; rw [drop_at hlt6, List.length_cons] at this; omega⟩
  have ex7 : x = bind (X (toks.drop (i6 + 1))) fun t r => lim m' (fun r => bind (contM X m' (acc ++ [t]) r) fun ts r => bind (want cl r) fun _ r => .ok ts r) r := by
    rw [hx6.2]
    unfold contM
    rw [if_pos hd6, tl6, many_eq, bind_bind]
    exact hgd _ _ _ (by have := hx6.1; rw [drop_at hlt6, List.length_cons] at this; omega)
  refine ⟨fun σ H' => ∃ (acc : List Tr) (xs : List V), σ = [some (.ref a), some (.ref D_reader.f), some (.str (S (codes cl))), some (.ref p)] ∧ H' p = some (.lst xs) ∧ xs.length + m' ≤ 200000 ∧ PC CC.C a dx q toks H x (60 - (e : Int)) (lim m' (fun r => bind (contM X m' acc r) fun ts r => bind (want cl r) fun _ r => .ok ts r)) acc xs H', fun σ' H' h => ⟨m', by omega, h⟩, ?_⟩
  refine ⟨_, rfl, a, dx, fs5, rfl, hfs5, lt5, ?_⟩
  dsimp only [tNil, tCons]
  refine PC.take R ha0 c5.1 ha6 hr6 h6 (by decide) (by decide +kernel) (by decide +kernel) fun _ H7 hw7 g7 ha7 hr7 => ?_
  have hp7 := g7 _ _ npa hp5
  have c7 : PC CC.C a dx q toks H x (60 - (e : Int)) (fun r => bind (X r) fun t r => lim m' (fun r => bind (contM X m' (acc ++ [t]) r) fun ts r => bind (want cl r) fun _ r => .ok ts r) r) acc xs H7 := ⟨c5.1.trans g7, i6 + 1, hlt6, ha7, hr7, ex7⟩
  refine ⟨_, rfl, .inl ⟨rfl, _, SqL.of hp7⟩, ?_⟩
  refine ⟨rfl, _, rfl, ?_⟩
  dsimp only [tNil, tCons]
  refine PC.call R ha0 hq hX c7 fun H8 v8 t8 g8 c8 => ?_
  have hp8 := g8 _ _ npa hp7
  refine ⟨p, xs, _, rfl, rfl, hp8, by omega, ?_⟩
  exact ⟨acc ++ [t8], xs ++ [v8], rfl, upd_same, by rw [List.length_append, List.length_singleton]; omega, mutp c8 hp8⟩
end
end Wk
set_option maxRecDepth 100000
set_option maxHeartbeats 8000000
namespace Wk
open PySem L2 TL PyProof.Rows Gm Gr
open SX (S S_len)
theorem par_two {i : Nat} {X : Gr.P Tr} (hX : ∀ r, Gd false r (X r)) (toks : List Tk) (hi : i ≤ toks.length) :
    (∃ t i2, X (toks.drop i) = .ok t (toks.drop i2) ∧ i2 ≤ toks.length) ∨ (∃ i2, X (toks.drop i) = .bad (toks.drop i2) ∧ i2 ≤ toks.length) := by
  have hg := hX (toks.drop i)
  have hsuf : toks.drop i <:+ toks := List.drop_suffix i toks
  cases ec : X (toks.drop i) with
  | out => rw [ec] at hg; exact hg.elim
  | bad r =>
    rw [ec] at hg
    have hr : r <:+ toks := List.IsSuffix.trans hg hsuf
    exact .inr ⟨toks.length - r.length, by rw [← suf_drop hr], by omega⟩
  | ok t r =>
    rw [ec] at hg
    have hr : r <:+ toks := List.IsSuffix.trans hg.1 hsuf
    exact .inl ⟨t, toks.length - r.length, by rw [← suf_drop hr], by omega⟩
section
variable {σ : Type} {C BC a dx q : Addr} {us : List V} {toks : List Tk} {el : Nat} {H0 : Hp} {Q : VK} {E : XK} {b b0 : Int} {x : R Tk σ} {rel : Hp → σ → V → Prop} {as : List Tr} {vs : List V} {H : Hp} {fs0 : List (Str × V)}
theorem PC.callW {d : Nat} {X : Gr.P Tr} {g : Tr → Gr.P σ} {Rk : VK} (R : Sr H0 q us toks el) (ha0 : H0 a = some (.ins C dx fs0)) (hq : RdQ C BC a dx q toks el b0 x rel H0 Q E) (hX : ∀ r, Gd false r (X r)) (c : PC C a dx q toks H0 x (60 - (d : Int)) (fun r => bind (X r) g) as vs H)
    (k : ∀ H' v t, On a H H' → PC C a dx q toks H0 x (60 - (d : Int)) (g t) (as ++ [t]) (vs ++ [v]) H' → Rk v H') : sp_rd C BC d X RelT [.ref a] H Rk E := by
  obtain ⟨gn, i, hi, hp, hr, ex⟩ := c
  refine ⟨a, dx, q, us, toks, el, i, rfl, R.on gn ha0, hi, hp, ?_⟩
  have ex : x = bind (X (toks.drop i)) g := ex
  rcases par_two (i := i) hX toks hi with ⟨t, i2, ec, l2⟩ | ⟨i2, ec, l2⟩
  · rw [ec] at ex ⊢
    intro H' v g' hp' hr'
    exact k H' v t g' ⟨gn.trans g', i2, l2, by rw [drop_len_pos l2] at hp'; exact hp', (hr.keep (TupK.on g' hp)).snoc hr', ex⟩
  · rw [ec] at ex ⊢
    exact raise_of hq gn ex
/-- listed(source, .., closing) -/
theorem PC.listed {e : Nat} {X : Gr.P Tr} {fr : Addr} {cl : String} {g : List Tr → Gr.P σ} {Rk : VK} (R : Sr H0 q us toks el) (ha0 : H0 a = some (.ins C dx fs0)) (hq : RdQ C BC a dx q toks el b0 x rel H0 Q E) (hX : ∀ r, Gd true r (X r)) (hcl : cl ∈ wordsS) (hcc : codes cl ∈ closes)
    (c : PC C a dx q toks H0 x (60 - (e : Int)) (fun r => bind (Gr.listed X cl r) g) as vs H) (k : ∀ H' v ts, On a H H' → PC C a dx q toks H0 x (60 - (e : Int) - 1) (g ts) (as ++ [.t ts]) (vs ++ [v]) H' → Rk v H') : sp_listed C BC fr e X [.ref a, .ref fr, .str (S (codes cl))] H Rk E := by
  obtain ⟨gn, i, hi, hp, hr, ex⟩ := c
  refine ⟨a, dx, q, us, toks, el, i, cl, rfl, hcl, hcc, R.on gn ha0, hi, hp, ?_⟩
  have ex : x = bind (Gr.listed X cl (toks.drop i)) g := ex
  have hg := gd_listed (c := cl) hX (toks.drop i)
  have hsuf : toks.drop i <:+ toks := List.drop_suffix i toks
  cases ec : Gr.listed X cl (toks.drop i) with
  | out => rw [ec] at hg; exact hg.elim
  | bad r =>
    rw [ec] at hg ex
    have hr' : r <:+ toks := List.IsSuffix.trans hg hsuf
    have := raise_of (i := toks.length - r.length) hq gn (by rw [← suf_drop hr']; exact ex)
    rw [← suf_drop hr'] at this
    exact this
  | ok ts r =>
    rw [ec] at hg ex
    have hr' : r <:+ toks := List.IsSuffix.trans hg.1 hsuf
    intro H' v g' hp' hrel
    refine k H' v ts g' ⟨gn.trans g', toks.length - r.length, by omega, hp', (hr.keep (TupK.on g' hp)).snoc hrel, ?_⟩
    rw [← suf_drop hr']; exact ex
/-- take of a bracket that closes -/
theorem PC.takeC {s : String} {i : Nat} {Rk : VK} (R : Sr H0 q us toks el) (ha0 : H0 a = some (.ins C dx fs0)) (gn : On a H0 H) (hp : SA C H a dx q i (b + 1)) (hr : RelTs H as vs) (hn : kindN (toks.drop i) = codes s) (hs : s ∈ wordsS) (h2 : codes s ∈ closes)
    (k : ∀ (hlt : i < toks.length) H' v, isW s toks[i] = true → On a H H' → SA C H' a dx q (i + 1) b → RelTs H' as vs → Rk v H') : sp_take C BC [.ref a] H Rk E := by
  have hw : hd s (toks.drop i) = true := (kind_hd hs (kd_of R i)).mpr hn
  have h1 : codes s ∉ opens := fun z => by
    have : ∀ l ∈ opens, l ∉ closes := by decide +kernel
    exact this _ z h2
  have hlt : i < toks.length := by
    rcases Nat.lt_or_ge i toks.length with h | h
    · exact h
    · rw [List.drop_eq_nil_of_le h] at hw; cases hw
  refine ⟨a, dx, q, us, toks, el, i, b + 1, rfl, R.on gn ha0, hlt, hp, fun _ => ?_⟩
  rw [hn, if_neg h1, if_pos h2]
  rw [drop_at hlt] at hw
  intro H' g' hp'
  rw [show b + 1 - 1 = b by omega] at hp'
  exact k hlt H' _ hw g' hp' (hr.keep (TupK.on g' hp))
/-- a list of one's own changes -/
theorem PC.mutp {f : Gr.P σ} {p : Addr} {ob : HO} {zs : List V} (ha0 : H0 a = some (.ins C dx fs0)) (c : PC C a dx q toks H0 x b f as vs H) (np : H0 p = none) (hp : H p = some (.lst zs)) : PC C a dx q toks H0 x b f as vs (upd H p ob) := by
  obtain ⟨g, i1, h1, h2, h3, h4⟩ := c
  have npa : p ≠ a := (ne_of_none ha0 np).symm
  refine ⟨fun b' o nb hb => ?_, i1, h1, ?_, h3.keep (TupK.set hp), h4⟩
  · have n : b' ≠ p := fun z => by rw [z, np] at hb; cases hb
    rw [upd_ne n]; exact g b' o nb hb
  · show (upd H p ob) a = _
    rw [upd_ne npa.symm]; exact h2
/-- what is new now was not there at the begin -/
theorem PC.fresh {f : Gr.P σ} {p : Addr} (ha0 : H0 a = some (.ins C dx fs0)) (c : PC C a dx q toks H0 x b f as vs H) (np : H p = none) : H0 p = none ∧ p ≠ a := by
  obtain ⟨g, i1, h1, h2, h3, h4⟩ := c
  have npa : p ≠ a := fun z => by
    have h2 : H a = some (.ins C dx _) := h2
    rw [z, h2] at np; cases np
  refine ⟨?_, npa⟩
  cases e : H0 p with
  | none => rfl
  | some o => rw [g p o npa e] at np; cases np
end
theorem sp_listed_lit {C BC fr e p fr'} {X : Gr.P Tr} {cl : String} {H : Hp} {R : VK} {E : XK} (h : sp_listed C BC fr e X [.ref p, .ref fr', .str (S (codes cl))] H R E) : sp_listed C BC fr e X [.ref p, .ref fr', .str (Str.ofString cl)] H R E := by
  rw [S_of cl]; exact h
section
variable {P : Program} {w : World} {K : PySem.W.Frag} {mg : Str → Option Value} {base : Heap}
abbrev s_params : Stmt := top 52
theorem sc_params : FnScope ["source"] ["source"] (defScope s_params) := ⟨rfl, rfl, rfl, by decide +kernel, rfl, by decide +kernel, by decide +kernel⟩
theorem ok_pparams {d lv : Nat} (T : Txt K mg) (CC : CurT K) {BC : Addr} (M : MT P w K mg base CC BC) (hlv : 6 ≤ lv) {f : Addr} {fd : FuncData} (F : Fun K "params" "params" s_params f fd)
    (D_name_of_param : Def P w K mg base (L2.CX P w) "name_of_param" ["source"] 6 (sp_rd CC.C BC d named RelT))
    (D_listed : DefF P w K mg base (L2.CX P w) "listed" ["source", "reader", "closing"] lv (sp_listed1 CC.C BC D_name_of_param.f (fun _ => named) d)) : FnF P w K mg base (L2.CX P w) (lv + 1) f fd ["source"] (sp_rd CC.C BC d (params (inn d)) RelT) := by
  refine okFX F sc_params (fun vs H Q E h => ?_) (fun cdv A outer s H vs Q E hr hf h => ?_)
  · obtain ⟨a, _, _, _, _, _, _, rfl, _⟩ := h; rfl
  obtain ⟨a, dx, q, us, toks, el, i, rfl, R, hi, ha, hq⟩ := h
  have M_expect := M.expect
  refine ⟨_, (pss_cons (ps_expr (pe_meth (pv 0) CC.cl M_expect.m M_expect.ok (hr.mono (by omega)) M_expect.b .nil (passes_call (takes_of rfl rfl rfl rfl) (fun _ _ _ _ h => h)) (pa_cons pe_str pa_nil)))
    (pss_one (ps_ret (pe_callSF D_listed.ok (hf.mono (by omega)) rfl D_listed.g D_listed.k D_listed.b (fun σ => passAt (takes_of rfl rfl rfl rfl) σ) (pa_cons (pv 0) (pa_cons (pe_glob (v := .ref D_name_of_param.f) rfl D_name_of_param.g rfl) (pa_cons pe_str pa_nil))))))), ?_⟩
  have c0 := PC.begin (X := params (inn d)) hi ha
  generalize params (inn d) (toks.drop i) = x at hq c0
  obtain ⟨fs, hfs, lk, lt, le, lr, lb⟩ := c0.fs
  refine ⟨_, rfl, a, dx, fs, rfl, hfs, le, ?_⟩
  dsimp only [tNil, tCons]
  refine sp_expect_lit (PC.expectO R hfs hq (kk := fun _ r => bind (listed named ")" r) fun ts r => .ok (.t ts) r) c0 (by decide) (by decide +kernel) fun H1 v1 e he g1 c1 => ?_)
  subst he
  refine ⟨_, rfl, ?_⟩
  dsimp only [tNil, tCons]
  refine sp_listed_lit (PC.listed R hfs hq gd_named (by decide) (by decide +kernel) c1 fun H2 v2 ts g2 c2 => ?_)
  rw [show 60 - (e : Int) - 1 = 60 - ((e + 1 : Nat) : Int) by omega] at c2
  exact c2.done hq fun hr => rels_last hr
abbrev s_arguments : Stmt := top 54
theorem sc_arguments : FnScope ["source"] ["source"] (defScope s_arguments) := ⟨rfl, rfl, rfl, by decide +kernel, rfl, by decide +kernel, by decide +kernel⟩
theorem ok_parguments {d lv : Nat} (T : Txt K mg) (CC : CurT K) {BC : Addr} (M : MT P w K mg base CC BC) (hlv : 6 ≤ lv) {f : Addr} {fd : FuncData} (F : Fun K "arguments" "arguments" s_arguments f fd) {lx : Nat} {spx : Sp}
    (D_expression : DefF P w K mg base (L2.CX P w) "expression" ["source"] lx spx)
    (D_listed : DefF P w K mg base (L2.CX P w) "listed" ["source", "reader", "closing"] lv (sp_listed1 CC.C BC D_expression.f (fun e => expr (inn e)) d)) : FnF P w K mg base (L2.CX P w) (lv + 1) f fd ["source"] (sp_rd CC.C BC d (args (inn d)) RelT) := by
  refine okFX F sc_arguments (fun vs H Q E h => ?_) (fun cdv A outer s H vs Q E hr hf h => ?_)
  · obtain ⟨a, _, _, _, _, _, _, rfl, _⟩ := h; rfl
  obtain ⟨a, dx, q, us, toks, el, i, rfl, R, hi, ha, hq⟩ := h
  have M_expect := M.expect
  refine ⟨_, (pss_cons (ps_expr (pe_meth (pv 0) CC.cl M_expect.m M_expect.ok (hr.mono (by omega)) M_expect.b .nil (passes_call (takes_of rfl rfl rfl rfl) (fun _ _ _ _ h => h)) (pa_cons pe_str pa_nil)))
    (pss_one (ps_ret (pe_callSF D_listed.ok (hf.mono (by omega)) rfl D_listed.g D_listed.k D_listed.b (fun σ => passAt (takes_of rfl rfl rfl rfl) σ) (pa_cons (pv 0) (pa_cons (pe_glob (v := .ref D_expression.f) rfl D_expression.g rfl) (pa_cons pe_str pa_nil))))))), ?_⟩
  have c0 := PC.begin (X := args (inn d)) hi ha
  generalize args (inn d) (toks.drop i) = x at hq c0
  obtain ⟨fs, hfs, lk, lt, le, lr, lb⟩ := c0.fs
  refine ⟨_, rfl, a, dx, fs, rfl, hfs, le, ?_⟩
  dsimp only [tNil, tCons]
  refine sp_expect_lit (PC.expectO R hfs hq (kk := fun p r => bind (listed p.E ")" r) fun ts r => .ok (.t ts) r) c0 (by decide) (by decide +kernel) fun H1 v1 e he g1 c1 => ?_)
  subst he
  refine ⟨_, rfl, ?_⟩
  dsimp only [tNil, tCons]
  refine sp_listed_lit (PC.listed (X := expr (inn e)) R hfs hq (gd_expr (in_ok e)) (by decide) (by decide +kernel) c1 fun H2 v2 ts g2 c2 => ?_)
  rw [show 60 - (e : Int) - 1 = 60 - ((e + 1 : Nat) : Int) by omega] at c2
  exact c2.done hq fun hr => rels_last hr
def sp_rd1 (C BC : Addr) (X : Nat → Gr.P Tr) : Nat → Sp
  | 0 => fun _ _ _ _ => False
  | e + 1 => sp_rd C BC e (X e) RelT
abbrev s_block : Stmt := top 56
theorem sc_block : FnScope ["source", "found"] ["source"] (defScope s_block) := ⟨rfl, rfl, rfl, by decide +kernel, rfl, by decide +kernel, by decide +kernel⟩
theorem ok_pblock {d lv : Nat} (T : Txt K mg) (CC : CurT K) {BC : Addr} (M : MT P w K mg base CC BC) (hlv : 6 ≤ lv) {f : Addr} {fd : FuncData} (F : Fun K "block" "block" s_block f fd)
    (D_statement : DefF P w K mg base (L2.CX P w) "statement" ["source"] lv (sp_rd1 CC.C BC (fun e => stmt (inn e)) d)) : FnF P w K mg base (L2.CX P w) (lv + 1) f fd ["source"] (sp_rd CC.C BC d (block (inn d)) RelT) := by
  refine okFX F sc_block (fun vs H Q E h => ?_) (fun cdv A outer s H vs Q E hr hf h => ?_)
  · obtain ⟨a, _, _, _, _, _, _, rfl, _⟩ := h; rfl
  obtain ⟨a, dx, q, us, toks, el, i, rfl, R, hi, ha, hq⟩ := h
  have M_expect := M.expect
  have M_kind := M.kind
  have M_take := M.take
  refine ⟨_, (pss_cons (ps_expr (pe_meth (pv 0) CC.cl M_expect.m M_expect.ok (hr.mono (by omega)) M_expect.b .nil (passes_call (takes_of rfl rfl rfl rfl) (fun _ _ _ _ h => h)) (pa_cons pe_str pa_nil)))
    (pss_cons (ps_set (i := 1) sc_block.nd rfl (Or.inl rfl) (pe_lst pa_nil))
    (pss_cons (ps_while (passes_of rfl) (pt_cmpR op_ne (pe_meth0 (pv 0) CC.cl M_kind.m M_kind.ok (hr.mono (by omega)) M_kind.b .nil pass0) pe_str (nomark _)) (pss_one (ps_expr (pe_bm PySem.F.plainAttrs_list PySem.F.slot_list_append PySem.F.type_list_append mt_append (pv 1) (pa_cons (pe_callSF D_statement.ok (hf.mono (by omega)) rfl D_statement.g D_statement.k D_statement.b (fun σ => passAt (takes_of rfl rfl rfl rfl) σ) (pa_cons (pv 0) pa_nil)) pa_nil)))))
    (pss_cons (ps_expr (pe_meth0 (pv 0) CC.cl M_take.m M_take.ok (hr.mono (by omega)) M_take.b .nil (passes_call (takes_of rfl rfl rfl rfl) (fun _ _ _ _ h => h))))
    (pss_one (ps_ret (pe_tupleOf rfl T.n_tuple (pv 1)))))))), ?_⟩
  generalize hσ : L2.start _ _ = σ0
  have hσ : σ0 = [some (.ref a), none] := hσ.symm
  subst hσ
  have hz := line_eq
  have hln := R.n
  have c0 := PC.begin (X := block (inn d)) hi ha
  have hno : block (inn d) (toks.drop i) ≠ .out := gd_no_out (gd_block (in_ok d) _)
  generalize block (inn d) (toks.drop i) = x at hq c0 hno
  obtain ⟨fs, hfs, lk, lt, le, lr, lb⟩ := c0.fs
  refine ⟨_, rfl, a, dx, fs, rfl, hfs, le, ?_⟩
  dsimp only [tNil, tCons]
  refine sp_expect_lit (PC.expectO R hfs hq (kk := fun p r => bind (stmts p.S (r.length + 1) [] r) fun ts r => .ok (.t ts) r) c0 (by decide) (by decide +kernel) fun H1 v1 e he g1 c1 => ?_)
  subst he
  refine seq_set ?_
  refine ⟨Nat.zero_le _, fun p np => ?_⟩
  have gp := same_new np (.lst [])
  obtain ⟨np0, npa⟩ := c1.fresh hfs np
  have c2 : PC CC.C a dx q toks H x (60 - (e : Int)) (lim toks.length fun r => bind (stmts (stmt (inn e)) (toks.length + 1) [] r) fun ts r => .ok (.t ts) r) [] [] (upd H1 p (.lst [])) := (c1.same gp).re fun i1 e1 => by
    rw [e1]
    unfold lim
    rw [if_pos (by rw [List.length_drop]; omega)]
    show bind (stmts (stmt (inn e)) _ [] _) _ = _
    have : ∀ (n n' : Nat) (acc : List Tr) (r : List Tk), r.length < n → r.length < n' → stmts (stmt (inn e)) n acc r = stmts (stmt (inn e)) n' acc r := by
      intro n
      induction n with
      | zero => intro n' acc r h; omega
      | succ n ih =>
        intro n' acc r h h'
        obtain ⟨n', rfl⟩ : ∃ k, n' = k + 1 := ⟨n' - 1, by omega⟩
        unfold stmts
        split
        · rfl
        · have hg := gd_stmt (in_ok e) r
          cases e2 : stmt (inn e) r with
          | out => rfl
          | bad b => rfl
          | ok t r2 =>
            rw [e2] at hg
            have := hg.2 rfl
            exact ih n' _ r2 (by omega) (by omega)
    rw [this _ (toks.length + 1) [] _ (Nat.lt_succ_self _) (by rw [List.length_drop]; omega)]
  refine seq_join (fun σ H' => ∃ (acc : List Tr) (xs : List V) (i3 : Nat), σ = [some (.ref a), some (.ref p)] ∧ H' p = some (.lst xs) ∧ xs.length ≤ 1000000 ∧ On a H H' ∧ SA CC.C H' a dx q i3 (60 - (e : Int)) ∧ RelTs H' acc xs ∧ kindN (toks.drop i3) = codes "}" ∧ x = .ok (.t acc) (toks.drop (i3 + 1))) ?_ ?_
  · rintro σ H3 ⟨acc, xs, i3, rfl, hp3, hlx, g3, ha3, hr3, hk3, ex3⟩
    obtain ⟨fs3, hfs3, lk3, lt3, le3, lr3, lb3⟩ := ha3.fs
    refine ⟨_, rfl, a, dx, fs3, rfl, hfs3, lt3, ?_⟩
    dsimp only [tNil, tCons]
    rw [show 60 - (e : Int) = 60 - ((e + 1 : Nat) : Int) + 1 by omega] at ha3
    refine PC.takeC R hfs g3 ha3 hr3 hk3 (by decide) (by decide +kernel) fun hlt H4 v4 hw4 g4 ha4 hr4 => ?_
    have hp4 := g4 _ _ npa hp3
    refine ⟨_, rfl, .inl ⟨p, xs, rfl, SqL.of hp4, fun t nt => ?_⟩⟩
    have gt := same_new nt (.tup xs)
    have c4 : PC CC.C a dx q toks H x (60 - ((e + 1 : Nat) : Int)) (fun r => .ok (.t acc) r) acc xs H4 := ⟨g3.trans g4, i3 + 1, hlt, ha4, hr4, ex3⟩
    refine (c4.same gt).done hq fun hr => ?_
    rw [RelT]
    exact ⟨t, xs, rfl, upd_same, hr⟩
  intro NX nx
  try dsimp only
  refine while_of (fun σ H' => ∃ (acc : List Tr) (xs : List V) (i3 : Nat), σ = [some (.ref a), some (.ref p)] ∧ H' p = some (.lst xs) ∧ xs.length ≤ 1000000 ∧ On a H H' ∧ SA CC.C H' a dx q i3 (60 - (e : Int)) ∧ RelTs H' acc xs ∧ kindN (toks.drop i3) = codes "}" ∧ x = .ok (.t acc) (toks.drop (i3 + 1)))
    (fun m σ H' => ∃ (acc : List Tr) (xs : List V), σ = [some (.ref a), some (.ref p)] ∧ H' p = some (.lst xs) ∧ xs.length + m ≤ 200000 ∧ PC CC.C a dx q toks H x (60 - (e : Int)) (lim m (fun r => bind (stmts (stmt (inn e)) (m + 1) acc r) fun ts r => .ok (.t ts) r)) acc xs H')
    toks.length ⟨[], [], rfl, upd_same, by show 0 + _ ≤ _; omega, c2⟩ (fun σ H' h => nx _ _ h) ?_
  rintro NX2 nx2 m σ H5 ⟨acc, xs, rfl, hp5, hlx, c5⟩
  obtain ⟨fs5, hfs5, lk5, lt5, le5, lr5, lb5⟩ := c5.fs
  refine ⟨_, rfl, a, dx, fs5, rfl, hfs5, lk5, ?_⟩
  dsimp only [tNil, tCons]
  refine PC.kind (E' := E0) R hfs c5 fun i6 hi6 ha6 hr6 ex6 => ?_
  refine ⟨rfl, _, rfl, ?_⟩
  have hx6 := lim_in ex6 hno
  have hcm : hd "}" (toks.drop i6) = true ↔ kindN (toks.drop i6) = codes "}" := kind_hd (by decide) (kd_of R i6)
  refine itedn (fun h6 => ?_) (fun h6 => ?_)
  rotate_left
  · have h6 := eq_lit.mp h6
    refine nx2 _ _ ⟨acc, xs, i6, rfl, hp5, by omega, c5.1, ha6, hr6, h6, ?_⟩
    have hd6 := hcm.mpr h6
    have hlt6 : i6 < toks.length := by
      rcases Nat.lt_or_ge i6 toks.length with h | h
      · exact h
      · rw [List.drop_eq_nil_of_le h] at hd6; cases hd6
    rw [hx6.2]
    show bind (stmts _ _ _ _) _ = _
    unfold stmts
    rw [if_pos hd6, drop_at hlt6]; rfl
  have h6 : ¬ kindN (toks.drop i6) = codes "}" := fun z => h6 (eq_lit.mpr z)
  have hne : (toks.drop i6).length ≠ 0 ∨ toks.drop i6 = [] := by
    cases toks.drop i6 with
    | nil => exact .inr rfl
    | cons t r => exact .inl (by rw [List.length_cons]; omega)
  -- m is not nought, or the statement fails at once
  have ex7 : ∃ m', m' < m + 1 ∧ (m ≠ 0 → m' < m) ∧ x = bind (stmt (inn e) (toks.drop i6)) fun t r => lim m' (fun r => bind (stmts (stmt (inn e)) (m' + 1) (acc ++ [t]) r) fun ts r => .ok (.t ts) r) r := by
    refine ⟨m - 1, by omega, by omega, ?_⟩
    rw [hx6.2]
    show bind (stmts _ _ _ _) _ = _
    rw [stmts, if_neg (fun z => h6 (hcm.mp z)), bind_bind]
    have hg := gd_stmt (in_ok e) (toks.drop i6)
    cases e2 : stmt (inn e) (toks.drop i6) with
    | out => rfl
    | bad b => rfl
    | ok t r2 =>
      rw [e2] at hg
      have h1 := hg.2 rfl
      have h2 := hx6.1
      obtain ⟨k, rfl⟩ : ∃ k, m = k + 1 := ⟨m - 1, by omega⟩
      show bind (stmts (stmt (inn e)) (k + 1) (acc ++ [t]) r2) (fun ts r => .ok (Tr.t ts) r) = lim (k + 1 - 1) (fun r => bind (stmts (stmt (inn e)) (k + 1 - 1 + 1) (acc ++ [t]) r) fun ts r => .ok (Tr.t ts) r) r2
      unfold lim
      rw [if_pos (by omega)]
      rfl
  obtain ⟨m', _, hm', ex7⟩ := ex7
  by_cases hm0 : m = 0
  · -- nothing is left: the statement is refused
    subst hm0
    have hnil : toks.drop i6 = [] := List.eq_nil_of_length_eq_zero (by have := hx6.1; omega)
    refine ⟨fun _ _ => False, fun _ _ z => z.elim, ?_⟩
    have c7 : PC CC.C a dx q toks H x (60 - (e : Int)) (fun r => bind (stmt (inn e) r) fun t r => .out) acc xs H5 := ⟨c5.1, i6, hi6, ha6, hr6, by
      rw [ex7, hnil]
      rfl⟩
    refine ⟨_, rfl, .inl ⟨rfl, _, SqL.of hp5⟩, ?_⟩
    refine ⟨_, rfl, ?_⟩
    dsimp only [tNil, tCons]
    refine PC.call R hfs hq (gd_stmt (in_ok e)) c7 fun H8 v8 t8 g8 c8 => ?_
    obtain ⟨_, _, _, _, _, z⟩ := c8
    exact absurd z hno
  refine ⟨fun σ H' => ∃ (acc : List Tr) (xs : List V), σ = [some (.ref a), some (.ref p)] ∧ H' p = some (.lst xs) ∧ xs.length + m' ≤ 200000 ∧ PC CC.C a dx q toks H x (60 - (e : Int)) (lim m' (fun r => bind (stmts (stmt (inn e)) (m' + 1) acc r) fun ts r => .ok (.t ts) r)) acc xs H', fun σ' H' h => ⟨m', hm' hm0, h⟩, ?_⟩
  have c7 : PC CC.C a dx q toks H x (60 - (e : Int)) (fun r => bind (stmt (inn e) r) fun t r => lim m' (fun r => bind (stmts (stmt (inn e)) (m' + 1) (acc ++ [t]) r) fun ts r => .ok (.t ts) r) r) acc xs H5 := ⟨c5.1, i6, hi6, ha6, hr6, ex7⟩
  refine ⟨_, rfl, .inl ⟨rfl, _, SqL.of hp5⟩, ?_⟩
  refine ⟨_, rfl, ?_⟩
  dsimp only [tNil, tCons]
  refine PC.call R hfs hq (gd_stmt (in_ok e)) c7 fun H8 v8 t8 g8 c8 => ?_
  have hp8 := g8 _ _ npa hp5
  refine ⟨p, xs, _, rfl, rfl, hp8, by omega, ?_⟩
  exact ⟨acc ++ [t8], xs ++ [v8], rfl, upd_same, by rw [List.length_append, List.length_singleton]; have := hm' hm0; omega, c8.mutp hfs np0 hp8⟩
end
end Wk
set_option maxRecDepth 100000
set_option maxHeartbeats 8000000
namespace Wk
open PySem L2 TL PyProof.Rows Gm Gr
open SX (S S_len)
theorem kindb {s : String} {q : Addr} {us : List V} {H : Hp} {toks : List Tk} {el i : Nat} (R : Sr H q us toks el) (hs : s ∈ wordsS) (h : kindN (toks.drop i) = codes s) : ∃ hi : i < toks.length, isW s toks[i] = true := by
  have hw := (kind_hd hs (kd_of R i)).mpr h
  rcases Nat.lt_or_ge i toks.length with hi | hi
  · rw [drop_at hi] at hw; exact ⟨hi, hw⟩
  · rw [List.drop_eq_nil_of_le hi] at hw; cases hw
def elseS : List String := ["true", "false", "nil", "this", "(", "len", "weak", "worth", "number", "spawn", "join", "[", "fun"]
def valS : List String := ["NAME", "NUMBER", "TEXT"]
theorem elseS_words : ∀ s ∈ elseS, s ∈ wordsS := by decide +kernel
theorem not_val {t : Tk} {r : List Tk} (h : ∀ s ∈ valS, kindN (t :: r) ≠ codes s) : ¬ (t.so = .number ∨ t.so = .text ∨ t.so = .name) := fun z => by
  obtain ⟨so, wd, ln⟩ := t
  rcases z with z | z | z <;> (have z : so = _ := z; subst z)
  · exact h "NUMBER" (by decide) rfl
  · exact h "TEXT" (by decide) rfl
  · exact h "NAME" (by decide) rfl
theorem no_word {s : String} {q : Addr} {us : List V} {H : Hp} {toks : List Tk} {el i : Nat} (R : Sr H q us toks el) (hs : s ∈ wordsS) (hi : i < toks.length) (h : kindN (toks.drop i) ≠ codes s) : ¬ isW s toks[i] = true := fun z => by
  refine h ((kind_hd hs (kd_of R i)).mp ?_)
  rw [drop_at hi]; exact z
theorem first_yield' {q : Addr} {us : List V} {H : Hp} {toks : List Tk} {el i : Nat} {p : Option In} (R : Sr H q us toks el) (h : ∀ s ∈ elseS, kindN (toks.drop i) ≠ codes s) (hv : ∀ s ∈ valS, kindN (toks.drop i) ≠ codes s) (h1 : kindN (toks.drop i) ≠ codes "super") (h2 : kindN (toks.drop i) ≠ codes "new") :
    first p (toks.drop i) = bind (want "yield" (toks.drop i)) fun _ r => opn p "(" (fun _ r => bind (want ")" r) fun _ r => .ok (.t [Gr.w "ask", Gr.w "yield", .t []]) r) r := by
  rcases Nat.lt_or_ge i toks.length with hi | hi
  · by_cases hy : isW "yield" toks[i] = true
    · rw [drop_at hi, first_yield hy, want_yes hy]; rfl
    · have hn : first p (toks.drop i) = .bad (toks.drop i) := by
        have hv2 : ¬ (toks[i].so = .number ∨ toks[i].so = .text ∨ toks[i].so = .name) := by
          rw [drop_at hi] at hv
          exact not_val hv
        rw [drop_at hi]
        refine first_no hv2 fun s hs => ?_
        have hc : ∀ s ∈ headS, s ∈ elseS ∨ s = "super" ∨ s = "new" ∨ s = "yield" := by decide +kernel
        rcases hc s hs with hs | rfl | rfl | rfl
        · exact no_word R (elseS_words s hs) hi (h s hs)
        · exact no_word R (by decide +kernel) hi h1
        · exact no_word R (by decide +kernel) hi h2
        · exact hy
      have hw : want "yield" (toks.drop i) = .bad (toks.drop i) := want_no (by rw [drop_at hi]; exact hy)
      rw [hn, hw]; rfl
  · rw [List.drop_eq_nil_of_le hi]; rfl
def sp_bykey (C BC : Addr) (d : Nat) : Sp := fun vs H Q E => ∃ (a dx q : Addr) (us : List V) (toks : List Tk) (el i : Nat), vs = [.ref a] ∧ Sr H q us toks el ∧ i ≤ toks.length ∧ SA C H a dx q i (60 - (d : Int)) ∧ (∀ s ∈ elseS, kindN (toks.drop i) ≠ codes s) ∧ (∀ s ∈ valS, kindN (toks.drop i) ≠ codes s) ∧
  RdQ C BC a dx q toks el (60 - (d : Int)) (first (inn d) (toks.drop i)) RelT H Q E
theorem litW (s : String) : V.str (Str.ofString s) = V.str (S (codes s)) := congrArg V.str (S_of s)
section
variable {P : Program} {w : World} {K : PySem.W.Frag} {mg : Str → Option Value} {base : Heap}
abbrev s_called_by_key : Stmt := top 67
theorem sc_called_by_key : FnScope ["source", "kind"] ["source"] (defScope s_called_by_key) := ⟨rfl, rfl, rfl, by decide +kernel, rfl, by decide +kernel, by decide +kernel⟩
theorem ok_pbykey {d lv : Nat} (T : Txt K mg) (CC : CurT K) {BC : Addr} (M : MT P w K mg base CC BC) (hlv : 6 ≤ lv) {f : Addr} {fd : FuncData} (F : Fun K "called_by_key" "called_by_key" s_called_by_key f fd)
    (D_arguments : DefF P w K mg base (L2.CX P w) "arguments" ["source"] lv (sp_rd CC.C BC d (args (inn d)) RelT)) : FnF P w K mg base (L2.CX P w) (lv + 1) f fd ["source"] (sp_bykey CC.C BC d) := by
  refine okFX F sc_called_by_key (fun vs H Q E h => ?_) (fun cdv A outer s H vs Q E hr hf h => ?_)
  · obtain ⟨a, _, _, _, _, _, _, rfl, _⟩ := h; rfl
  obtain ⟨a, dx, q, us, toks, el, i, rfl, R, hi, ha, hel, hva, hq⟩ := h
  have M_expect := M.expect
  have M_kind := M.kind
  have M_take := M.take
  refine ⟨_, (pss_cons (ps_set (i := 1) sc_called_by_key.nd rfl (Or.inl rfl) (pe_meth0 (pv 0) CC.cl M_kind.m M_kind.ok (hr.mono (by omega)) M_kind.b .nil pass0))
    (pss_cons (ps_if (pt_cmpR op_eq (pv 1) pe_str (nomark _)) (pss_cons (ps_expr (pe_meth0 (pv 0) CC.cl M_take.m M_take.ok (hr.mono (by omega)) M_take.b .nil (passes_call (takes_of rfl rfl rfl rfl) (fun _ _ _ _ h => h))))
      (pss_cons (ps_expr (pe_meth (pv 0) CC.cl M_expect.m M_expect.ok (hr.mono (by omega)) M_expect.b .nil (passes_call (takes_of rfl rfl rfl rfl) (fun _ _ _ _ h => h)) (pa_cons pe_str pa_nil)))
      (pss_one (ps_ret (pe_tup (pa_cons pe_str (pa_cons (pe_meth (pv 0) CC.cl M_expect.m M_expect.ok (hr.mono (by omega)) M_expect.b .nil (passes_call (takes_of rfl rfl rfl rfl) (fun _ _ _ _ h => h)) (pa_cons pe_str pa_nil)) (pa_cons (pe_callSF D_arguments.ok (hf.mono (by omega)) rfl D_arguments.g D_arguments.k D_arguments.b (fun σ => passAt (takes_of rfl rfl rfl rfl) σ) (pa_cons (pv 0) pa_nil)) pa_nil)))))))) pss_nil)
    (pss_cons (ps_if (pt_cmpR op_eq (pv 1) pe_str (nomark _)) (pss_cons (ps_expr (pe_meth0 (pv 0) CC.cl M_take.m M_take.ok (hr.mono (by omega)) M_take.b .nil (passes_call (takes_of rfl rfl rfl rfl) (fun _ _ _ _ h => h))))
      (pss_one (ps_ret (pe_tup (pa_cons pe_str (pa_cons (pe_meth (pv 0) CC.cl M_expect.m M_expect.ok (hr.mono (by omega)) M_expect.b .nil (passes_call (takes_of rfl rfl rfl rfl) (fun _ _ _ _ h => h)) (pa_cons pe_str pa_nil)) (pa_cons (pe_callSF D_arguments.ok (hf.mono (by omega)) rfl D_arguments.g D_arguments.k D_arguments.b (fun σ => passAt (takes_of rfl rfl rfl rfl) σ) (pa_cons (pv 0) pa_nil)) pa_nil))))))) pss_nil)
    (pss_cons (ps_expr (pe_meth (pv 0) CC.cl M_expect.m M_expect.ok (hr.mono (by omega)) M_expect.b .nil (passes_call (takes_of rfl rfl rfl rfl) (fun _ _ _ _ h => h)) (pa_cons pe_str pa_nil)))
    (pss_cons (ps_expr (pe_meth (pv 0) CC.cl M_expect.m M_expect.ok (hr.mono (by omega)) M_expect.b .nil (passes_call (takes_of rfl rfl rfl rfl) (fun _ _ _ _ h => h)) (pa_cons pe_str pa_nil)))
    (pss_cons (ps_expr (pe_meth (pv 0) CC.cl M_expect.m M_expect.ok (hr.mono (by omega)) M_expect.b .nil (passes_call (takes_of rfl rfl rfl rfl) (fun _ _ _ _ h => h)) (pa_cons pe_str pa_nil)))
    (pss_one (ps_ret (pe_tup (pa_cons pe_str (pa_cons pe_str (pa_cons (pe_tup pa_nil) pa_nil)))))))))))), ?_⟩
  generalize hσ : L2.start _ _ = σ0
  have hσ : σ0 = [some (.ref a), none] := hσ.symm
  subst hσ
  have hz := line_eq
  have c0 := PC.begin (X := first (inn d)) hi ha
  have hx : first (inn d) (toks.drop i) = first (inn d) (toks.drop i) := rfl
  generalize hxx : first (inn d) (toks.drop i) = x at hq c0
  obtain ⟨fs, hfs, lk, lt, le, lr, lb⟩ := c0.fs
  have rel0 : RelTs H [] [] := by rw [RelTs]
  refine seq_set ?_
  refine ⟨_, rfl, a, dx, fs, rfl, hfs, lk, ?_⟩
  dsimp only [tNil, tCons]
  refine ⟨a, dx, q, us, toks, el, i, _, rfl, R, hi, ha, ?_⟩
  refine ⟨_, rfl, rfl, _, rfl, ?_⟩
  refine ited (fun h1 => ?_) (fun h1 => go_next ?_)
  · have h1 := eq_lit.mp h1
    obtain ⟨hlt, hw⟩ := kindb R (by decide +kernel) h1
    rw [drop_at hlt, first_super hw] at hxx
    refine ⟨_, rfl, a, dx, fs, rfl, hfs, lt, ?_⟩
    dsimp only [tNil, tCons]
    refine PC.take R hfs (On.refl _ _) ha rel0 h1 (by decide +kernel) (by decide +kernel) (by decide +kernel) fun _ H1 _ g1 ha1 hr1 => ?_
    have c1 : PC CC.C a dx q toks H x (60 - (d : Int)) (fun r => bind (want "." r) fun _ r => bind (named r) fun n r => bind (args (inn d) r) fun a r => .ok (.t [Gr.w "up", n, a]) r) [] [] H1 := ⟨g1, i + 1, hlt, ha1, hr1, hxx.symm⟩
    obtain ⟨fs1, hfs1, lk1, lt1, le1, lr1, lb1⟩ := c1.fs
    refine ⟨_, rfl, a, dx, fs1, rfl, hfs1, le1, ?_⟩
    dsimp only [tNil, tCons]
    refine sp_expect_lit (PC.expect R hfs hq c1 (by decide +kernel) (by decide +kernel) (by decide +kernel) fun H2 v2 g2 c2 => ?_)
    obtain ⟨fs2, hfs2, lk2, lt2, le2, lr2, lb2⟩ := c2.fs
    refine ⟨_, rfl, a, dx, fs2, rfl, hfs2, le2, ?_⟩
    dsimp only [tNil, tCons]
    refine sp_expect_lit (PC.name R hfs hq c2 fun H3 v3 t3 g3 c3 => ?_)
    refine ⟨_, rfl, ?_⟩
    dsimp only [tNil, tCons]
    refine PC.call R hfs hq (gd_args (in_ok d)) c3 fun H4 v4 t4 g4 c4 => ?_
    refine ⟨(by show 3 ≤ _; omega), fun a9 n9 => ?_⟩
    have g9 := same_new n9 (.tup [V.str "up", v3, v4])
    refine (c4.same g9).done hq fun hr => rels_last (rel_tup upd_same ?_)
    rw [litW]
    exact rel_word hr
  refine ⟨_, rfl, rfl, _, rfl, ?_⟩
  refine ited (fun h2 => ?_) (fun h2 => go_next ?_)
  · have h2 := eq_lit.mp h2
    obtain ⟨hlt, hw⟩ := kindb R (by decide +kernel) h2
    rw [drop_at hlt, first_new hw] at hxx
    refine ⟨_, rfl, a, dx, fs, rfl, hfs, lt, ?_⟩
    dsimp only [tNil, tCons]
    refine PC.take R hfs (On.refl _ _) ha rel0 h2 (by decide +kernel) (by decide +kernel) (by decide +kernel) fun _ H1 _ g1 ha1 hr1 => ?_
    have c2 : PC CC.C a dx q toks H x (60 - (d : Int)) (fun r => bind (named r) fun n r => bind (args (inn d) r) fun a r => .ok (.t [Gr.w "new", n, a]) r) [] [] H1 := ⟨g1, i + 1, hlt, ha1, hr1, hxx.symm⟩
    obtain ⟨fs2, hfs2, lk2, lt2, le2, lr2, lb2⟩ := c2.fs
    refine ⟨_, rfl, a, dx, fs2, rfl, hfs2, le2, ?_⟩
    dsimp only [tNil, tCons]
    refine sp_expect_lit (PC.name R hfs hq c2 fun H3 v3 t3 g3 c3 => ?_)
    refine ⟨_, rfl, ?_⟩
    dsimp only [tNil, tCons]
    refine PC.call R hfs hq (gd_args (in_ok d)) c3 fun H4 v4 t4 g4 c4 => ?_
    refine ⟨(by show 3 ≤ _; omega), fun a9 n9 => ?_⟩
    have g9 := same_new n9 (.tup [V.str "new", v3, v4])
    refine (c4.same g9).done hq fun hr => rels_last (rel_tup upd_same ?_)
    rw [litW]
    exact rel_word hr
  have h1' : kindN (toks.drop i) ≠ codes "super" := fun z => h1 (eq_lit.mpr z)
  have h2' : kindN (toks.drop i) ≠ codes "new" := fun z => h2 (eq_lit.mpr z)
  have c1 : PC CC.C a dx q toks H x (60 - (d : Int)) (fun r => bind (want "yield" r) fun _ r => opn (inn d) "(" (fun _ r => bind (want ")" r) fun _ r => .ok (.t [Gr.w "ask", Gr.w "yield", .t []]) r) r) [] [] H := ⟨On.refl _ _, i, hi, ha, rel0, by rw [← hxx]; exact first_yield' R hel hva h1' h2'⟩
  refine ⟨_, rfl, a, dx, fs, rfl, hfs, le, ?_⟩
  dsimp only [tNil, tCons]
  refine sp_expect_lit (PC.expect R hfs hq c1 (by decide +kernel) (by decide +kernel) (by decide +kernel) fun H2 v2 g2 c2 => ?_)
  obtain ⟨fs2, hfs2, lk2, lt2, le2, lr2, lb2⟩ := c2.fs
  refine ⟨_, rfl, a, dx, fs2, rfl, hfs2, le2, ?_⟩
  dsimp only [tNil, tCons]
  refine sp_expect_lit (PC.expectO R hfs hq c2 (by decide +kernel) (by decide +kernel) fun H3 v3 e he g3 c3 => ?_)
  subst he
  obtain ⟨fs3, hfs3, lk3, lt3, le3, lr3, lb3⟩ := c3.fs
  refine ⟨_, rfl, a, dx, fs3, rfl, hfs3, le3, ?_⟩
  dsimp only [tNil, tCons]
  have c3' : PC CC.C a dx q toks H x (60 - ((e + 1 : Nat) : Int) + 1) (fun r => bind (want ")" r) fun _ r => .ok (.t [Gr.w "ask", Gr.w "yield", .t []]) r) [] [] H3 := by rw [show 60 - ((e + 1 : Nat) : Int) + 1 = 60 - (e : Int) by omega]; exact c3
  refine sp_expect_lit (PC.expectC R hfs hq c3' (by decide +kernel) (by decide +kernel) fun H4 v4 g4 c4 => ?_)
  refine ⟨(by show 0 ≤ _; omega), fun a7 n7 => ⟨(by show 3 ≤ _; omega), fun a8 n8 => ?_⟩⟩
  have g7 := same_new n7 (.tup [])
  have g8 := same_new n8 (.tup [V.str "ask", V.str "yield", .ref a7])
  refine (c4.same (g7.trans g8)).done hq fun hr => rels_last (rel_tup upd_same ?_)
  rw [litW, litW]
  refine rel_word (rel_word ?_)
  rw [RelTs]
  refine ⟨_, [], rfl, ?_, by rw [RelTs]⟩
  rw [RelT]
  exact ⟨a7, [], rfl, g8 _ _ upd_same, by rw [RelTs]⟩
def sp_inpar (C BC : Addr) (d : Nat) : Sp := fun vs H Q E => ∃ (a dx q : Addr) (us : List V) (toks : List Tk) (el i : Nat), vs = [.ref a] ∧ Sr H q us toks el ∧ i ≤ toks.length ∧ SA C H a dx q i (60 - (d : Int)) ∧ (kindN (toks.drop i) = codes "(" ∨ ∃ s ∈ askedS, kindN (toks.drop i) = codes s) ∧
  RdQ C BC a dx q toks el (60 - (d : Int)) (first (inn d) (toks.drop i)) RelT H Q E
def askR (l : List Nat) (e : Tr) : Tr := if l = [] then e else .t [Gr.w "ask", .s l, .t [e]]
abbrev s_in_parentheses : Stmt := top 66
theorem sc_in_parentheses : FnScope ["source", "key", "value"] ["source"] (defScope s_in_parentheses) := ⟨rfl, rfl, rfl, by decide +kernel, rfl, by decide +kernel, by decide +kernel⟩
theorem ok_pinpar {d lv : Nat} (T : Txt K mg) (CC : CurT K) {BC : Addr} (M : MT P w K mg base CC BC) (hlv : 6 ≤ lv) {f : Addr} {fd : FuncData} (F : Fun K "in_parentheses" "in_parentheses" s_in_parentheses f fd)
    (D_expression : DefF P w K mg base (L2.CX P w) "expression" ["source"] lv (sp_rd1 CC.C BC (fun e => expr (inn e)) d)) : FnF P w K mg base (L2.CX P w) (lv + 1) f fd ["source"] (sp_inpar CC.C BC d) := by
  refine okFX F sc_in_parentheses (fun vs H Q E h => ?_) (fun cdv A outer s H vs Q E hr hf h => ?_)
  · obtain ⟨a, _, _, _, _, _, _, rfl, _⟩ := h; rfl
  obtain ⟨a, dx, q, us, toks, el, i, rfl, R, hi, ha, hk, hq⟩ := h
  have M_expect := M.expect
  have M_kind := M.kind
  have M_take := M.take
  refine ⟨_, (pss_cons (ps_set (i := 1) sc_in_parentheses.nd rfl (Or.inl rfl) (pe_ifExp (pt_cmpR op_eq (pe_meth0 (pv 0) CC.cl M_kind.m M_kind.ok (hr.mono (by omega)) M_kind.b .nil pass0) pe_str (nomark _)) pe_str (pe_meth0 (pv 0) CC.cl M_take.m M_take.ok (hr.mono (by omega)) M_take.b .nil (passes_call (takes_of rfl rfl rfl rfl) (fun _ _ _ _ h => h)))))
    (pss_cons (ps_expr (pe_meth (pv 0) CC.cl M_expect.m M_expect.ok (hr.mono (by omega)) M_expect.b .nil (passes_call (takes_of rfl rfl rfl rfl) (fun _ _ _ _ h => h)) (pa_cons pe_str pa_nil)))
    (pss_cons (ps_set (i := 2) sc_in_parentheses.nd rfl (Or.inl rfl) (pe_callSF D_expression.ok (hf.mono (by omega)) rfl D_expression.g D_expression.k D_expression.b (fun σ => passAt (takes_of rfl rfl rfl rfl) σ) (pa_cons (pv 0) pa_nil)))
    (pss_cons (ps_expr (pe_meth (pv 0) CC.cl M_expect.m M_expect.ok (hr.mono (by omega)) M_expect.b .nil (passes_call (takes_of rfl rfl rfl rfl) (fun _ _ _ _ h => h)) (pa_cons pe_str pa_nil)))
    (pss_one (ps_ret (pe_ifExp (pt_truth (pv 1) (fun _ => rfl)) (pe_tup (pa_cons pe_str (pa_cons (pv 1) (pa_cons (pe_tup (pa_cons (pv 2) pa_nil)) pa_nil)))) (pv 2)))))))), ?_⟩
  generalize hσ : L2.start _ _ = σ0
  have hσ : σ0 = [some (.ref a), none, none] := hσ.symm
  subst hσ
  have hz := line_eq
  have c0 := PC.begin (X := first (inn d)) hi ha
  generalize hxx : first (inn d) (toks.drop i) = x at hq c0
  obtain ⟨fs, hfs, lk, lt, le, lr, lb⟩ := c0.fs
  have rel0 : RelTs H [] [] := by rw [RelTs]
  refine seq_join (fun σ H1 => ∃ l : List Nat, l.length ≤ 10 ∧ σ = [some (.ref a), some (.str (S l)), none] ∧ PC CC.C a dx q toks H x (60 - (d : Int)) (opn (inn d) "(" (fun q r => bind (q.E r) fun e r => bind (want ")" r) fun _ r => .ok (askR l e) r)) [] [] H1) ?_ ?_
  rotate_left
  · intro NX nx
    refine ⟨_, rfl, a, dx, fs, rfl, hfs, lk, ?_⟩
    dsimp only [tNil, tCons]
    refine ⟨a, dx, q, us, toks, el, i, _, rfl, R, hi, ha, ?_⟩
    refine ⟨rfl, _, rfl, ?_⟩
    refine ited (fun h1 => ?_) (fun h1 => ?_)
    · have h1 := eq_lit.mp h1
      obtain ⟨hlt, hw⟩ := kindb R (by decide +kernel) h1
      refine nx _ _ ⟨[], Nat.zero_le _, rfl, On.refl _ _, i, hi, ha, rel0, ?_⟩
      rw [← hxx, drop_at hlt, first_par hw]; rfl
    · have h1 : kindN (toks.drop i) ≠ codes "(" := fun z => h1 (eq_lit.mpr z)
      obtain ⟨s, hs, e⟩ := hk.resolve_left h1
      have hcap : ∀ s ∈ askedS, s ∈ wordsS ∧ codes s ∉ opens ∧ codes s ∉ closes ∧ codes s ≠ [] ∧ (codes s).length ≤ 10 := by decide +kernel
      obtain ⟨hlt, hw⟩ := kindb R (hcap s hs).1 e
      refine ⟨_, rfl, a, dx, fs, rfl, hfs, lt, ?_⟩
      dsimp only [tNil, tCons]
      refine PC.take R hfs (On.refl _ _) ha rel0 e (hcap s hs).1 (hcap s hs).2.1 (hcap s hs).2.2.1 fun _ H1 _ g1 ha1 hr1 => ?_
      refine nx _ _ ⟨codes s, (hcap s hs).2.2.2.2, rfl, g1, i + 1, hlt, ha1, hr1, ?_⟩
      rw [← hxx, drop_at hlt, first_ask hs hw]
      unfold askR
      simp only [if_neg (hcap s hs).2.2.2.1]
  rintro σ H1 ⟨l, hll, rfl, c1⟩
  obtain ⟨fs1, hfs1, lk1, lt1, le1, lr1, lb1⟩ := c1.fs
  refine ⟨_, rfl, a, dx, fs1, rfl, hfs1, le1, ?_⟩
  dsimp only [tNil, tCons]
  refine sp_expect_lit (PC.expectO R hfs hq c1 (by decide +kernel) (by decide +kernel) fun H2 v2 e he g2 c2 => ?_)
  subst he
  refine seq_set ?_
  refine ⟨_, rfl, ?_⟩
  dsimp only [tNil, tCons]
  refine PC.call (X := expr (inn e)) R hfs hq (gd_expr (in_ok e)) c2 fun H3 v3 t3 g3 c3 => ?_
  obtain ⟨fs3, hfs3, lk3, lt3, le3, lr3, lb3⟩ := c3.fs
  refine ⟨_, rfl, a, dx, fs3, rfl, hfs3, le3, ?_⟩
  dsimp only [tNil, tCons]
  have c3' : PC CC.C a dx q toks H x (60 - ((e + 1 : Nat) : Int) + 1) (fun r => bind (want ")" r) fun _ r => .ok (askR l t3) r) [t3] [v3] H3 := by rw [show 60 - ((e + 1 : Nat) : Int) + 1 = 60 - (e : Int) by omega]; exact c3
  refine sp_expect_lit (PC.expectC R hfs hq c3' (by decide +kernel) (by decide +kernel) fun H4 v4 g4 c4 => ?_)
  cases l with
  | nil =>
    refine ⟨_, rfl, false, ⟨(by show 0 ≤ _; omega), rfl⟩, iteF ?_⟩
    refine ⟨_, rfl, ?_⟩
    exact c4.done hq fun hr => rels_last hr
  | cons ch l =>
    refine ⟨_, rfl, true, ⟨(by rw [S_len]; omega), ?_⟩, iteT ?_⟩
    · rw [S_len, List.length_cons]
      exact (bne_iff_ne.mpr (by omega)).symm
    refine ⟨_, rfl, _, rfl, (by show 1 ≤ _; omega), fun a9 n9 => ⟨(by show 3 ≤ _; omega), fun a10 n10 => ?_⟩⟩
    rw [show askR (ch :: l) t3 = .t [Gr.w "ask", .s (ch :: l), .t [t3]] from if_neg (by intro z; cases z)] at c4
    have g9 := same_new n9 (.tup [v3])
    have g10 := same_new n10 (.tup [V.str "ask", V.str (S (ch :: l)), .ref a9])
    refine (c4.same (g9.trans g10)).done hq fun hr => rels_last (rel_tup upd_same ?_)
    rw [litW]
    refine rel_word ?_
    rw [RelTs]
    exact ⟨_, _, rfl, by rw [RelT], rel_tup (g10 _ _ upd_same) hr⟩
end
end Wk
set_option maxRecDepth 100000
set_option maxHeartbeats 8000000
namespace Wk
open PySem L2 TL PyProof.Rows Gm Gr
open SX (S S_len)
theorem valued_no {l : List Nat} (h : ∀ s ∈ valS, l ≠ codes s) : valD valuedV l = none := by
  unfold valD
  have : valuedV.find? (fun q => decide (codes q.1 = l)) = none := by
    rw [List.find?_eq_none]
    intro q hq z
    have hc : ∀ q ∈ valuedV, q.1 ∈ valS := by decide +kernel
    exact h q.1 (hc q hq) (of_decide_eq_true z).symm
  rw [this]; rfl
theorem capOk : ∀ s ∈ valS, codes s ∉ opens ∧ codes s ∉ closes ∧ ∀ y ∈ wordsS, codes y ≠ codes s := by decide +kernel
/-- the kinds of a value, and what it is called -/
def valN : List (String × String) := [("NAME", "name"), ("NUMBER", "number"), ("TEXT", "text")]
theorem valN_val : ∀ q ∈ valN, valD valuedV (codes q.1) = some (.str (Str.ofString q.2)) := by decide +kernel
theorem val_word {q : String × String} (hq : q ∈ valN) {p : Addr} {us : List V} {H : Hp} {toks : List Tk} {el i : Nat} (R : Sr H p us toks el) (h : kindN (toks.drop i) = codes q.1) : ∃ hi : i < toks.length, (toks[i].so = .number ∨ toks[i].so = .text ∨ toks[i].so = .name) ∧ soW toks[i].so = q.2 := by
  have hne : ∀ q ∈ valN, codes q.1 ≠ codes "END" ∧ ∀ y ∈ wordsS, codes y ≠ codes q.1 := by decide +kernel
  rcases Nat.lt_or_ge i toks.length with hi | hi
  · refine ⟨hi, ?_⟩
    rw [drop_at hi] at h
    have ht := R.k _ (List.getElem_mem hi)
    generalize toks[i] = t at *
    obtain ⟨so, wd, ln⟩ := t
    have hab : ∀ q ∈ valN, ∀ s ∈ valN, codes q.1 = codes s.1 → q = s := by decide +kernel
    cases so with
    | number => have := hab q hq ("NUMBER", "number") (by decide) h.symm; rw [this]; exact ⟨.inl rfl, rfl⟩
    | text => have := hab q hq ("TEXT", "text") (by decide) h.symm; rw [this]; exact ⟨.inr (.inl rfl), rfl⟩
    | name => have := hab q hq ("NAME", "name") (by decide) h.symm; rw [this]; exact ⟨.inr (.inr rfl), rfl⟩
    | key =>
      obtain ⟨s, hs, e⟩ := ht.1 rfl
      have e : wd = .s (codes s) := e
      subst e
      exact absurd h ((hne q hq).2 s (List.mem_append_left _ hs))
    | mark =>
      obtain ⟨s, hs, e⟩ := ht.2 rfl
      have e : wd = .s (codes s) := e
      subst e
      exact absurd h ((hne q hq).2 s (List.mem_append_right _ hs))
  · rw [List.drop_eq_nil_of_le hi] at h
    exact absurd h.symm (hne q hq).1
section
variable {C BC a dx q : Addr} {us : List V} {toks : List Tk} {el : Nat} {H0 : Hp} {Q : VK} {E : XK} {b : Int} {as : List Tr} {vs : List V} {H : Hp} {fs0 : List (Str × V)}
/-- take of any word that is no bracket -/
theorem PC.takeV {i : Nat} {Rk : VK} (R : Sr H0 q us toks el) (ha0 : H0 a = some (.ins C dx fs0)) (gn : On a H0 H) (hlt : i < toks.length) (hp : SA C H a dx q i b) (hr : RelTs H as vs) (h1 : kindN (toks.drop i) ∉ opens) (h2 : kindN (toks.drop i) ∉ closes)
    (k : ∀ H', On a H H' → SA C H' a dx q (i + 1) b → RelTs H' as vs → Rk (wdV toks[i].wd) H') : sp_take C BC [.ref a] H Rk E := by
  refine ⟨a, dx, q, us, toks, el, i, b, rfl, R.on gn ha0, hlt, hp, fun _ => ?_⟩
  rw [if_neg h1, if_neg h2]
  intro H' g' hp'
  exact k H' g' hp' (hr.keep (TupK.on g' hp))
end
theorem rel_two {H : Hp} {s : String} {wd : Wd} : RelTs H [Gr.w s, wdT wd] [V.str (Str.ofString s), wdV wd] := by
  rw [litW]
  refine rel_word ?_
  rw [RelTs]
  exact ⟨_, [], rfl, wd_rel _, by rw [RelTs]⟩
section
variable {P : Program} {w : World} {K : PySem.W.Frag} {mg : Str → Option Value} {base : Heap}
abbrev s_first : Stmt := top 65
theorem sc_first : FnScope ["source", "kind"] ["source"] (defScope s_first) := ⟨rfl, rfl, rfl, by decide +kernel, rfl, by decide +kernel, by decide +kernel⟩
theorem ok_pfirst {d lv lx : Nat} {spx : Sp} (T : Txt K mg) (TP : TxtP K w mg) (CC : CurT K) {BC : Addr} (M : MT P w K mg base CC BC) (hlv : 6 ≤ lv) {f : Addr} {fd : FuncData} (F : Fun K "first" "first" s_first f fd)
    (D_in_parentheses : DefF P w K mg base (L2.CX P w) "in_parentheses" ["source"] lv (sp_inpar CC.C BC d)) (D_expression : DefF P w K mg base (L2.CX P w) "expression" ["source"] lx spx)
    (D_listed : DefF P w K mg base (L2.CX P w) "listed" ["source", "reader", "closing"] lv (sp_listed1 CC.C BC D_expression.f (fun e => expr (inn e)) d))
    (D_params : DefF P w K mg base (L2.CX P w) "params" ["source"] lv (sp_rd CC.C BC d (params (inn d)) RelT)) (D_block : DefF P w K mg base (L2.CX P w) "block" ["source"] lv (sp_rd CC.C BC d (block (inn d)) RelT))
    (D_called_by_key : DefF P w K mg base (L2.CX P w) "called_by_key" ["source"] lv (sp_bykey CC.C BC d)) : FnF P w K mg base (L2.CX P w) (lv + 1) f fd ["source"] (sp_rd CC.C BC d (first (inn d)) RelT) := by
  refine okFX F sc_first (fun vs H Q E h => ?_) (fun cdv A outer s H vs Q E hr hf h => ?_)
  · obtain ⟨a, _, _, _, _, _, _, rfl, _⟩ := h; rfl
  obtain ⟨a, dx, q, us, toks, el, i, rfl, R, hi, ha, hq⟩ := h
  have M_expect := M.expect
  have M_kind := M.kind
  have M_take := M.take
  refine ⟨_, (pss_cons (ps_set (i := 1) sc_first.nd rfl (Or.inl rfl) (pe_meth0 (pv 0) CC.cl M_kind.m M_kind.ok (hr.mono (by omega)) M_kind.b .nil pass0))
    (pss_cons (ps_if (pt_cmpR (op_in_wd TP.dVALUED) (pv 1) (pe_glob (v := .ref TP.aVALUED) rfl TP.mVALUED rfl) rfl) (pss_one (ps_ret (pe_tup (pa_cons (pe_ix (ix_wd TP.dVALUED) (pe_glob (v := .ref TP.aVALUED) rfl TP.mVALUED rfl) (pv 1) (fun _ _ => rfl)) (pa_cons (pe_meth0 (pv 0) CC.cl M_take.m M_take.ok (hr.mono (by omega)) M_take.b .nil (passes_call (takes_of rfl rfl rfl rfl) (fun _ _ _ _ h => h))) pa_nil))))) pss_nil)
    (pss_cons (ps_if (pt_cmpR op_in_seq (pv 1) (pe_glob (v := .ref TP.aALONE) rfl TP.mALONE rfl) rfl) (pss_one (ps_ret (pe_tup (pa_cons (pe_meth0 (pv 0) CC.cl M_take.m M_take.ok (hr.mono (by omega)) M_take.b .nil (passes_call (takes_of rfl rfl rfl rfl) (fun _ _ _ _ h => h))) pa_nil)))) pss_nil)
    (pss_cons (ps_if (PW.pt (pw_or (pt_cmpR op_eq (pv 1) pe_str (nomark _)) (pw_or1 (pt_cmpR op_in_seq (pv 1) (pe_glob (v := .ref TP.aASKED) rfl TP.mASKED rfl) rfl)))) (pss_one (ps_ret (pe_callSF D_in_parentheses.ok (hf.mono (by omega)) rfl D_in_parentheses.g D_in_parentheses.k D_in_parentheses.b (fun σ => passAt (takes_of rfl rfl rfl rfl) σ) (pa_cons (pv 0) pa_nil)))) pss_nil)
    (pss_cons (ps_if (pt_cmpR op_eq (pv 1) pe_str (nomark _)) (pss_cons (ps_expr (pe_meth0 (pv 0) CC.cl M_take.m M_take.ok (hr.mono (by omega)) M_take.b .nil (passes_call (takes_of rfl rfl rfl rfl) (fun _ _ _ _ h => h))))
      (pss_one (ps_ret (pe_tup (pa_cons pe_str (pa_cons (pe_callSF D_listed.ok (hf.mono (by omega)) rfl D_listed.g D_listed.k D_listed.b (fun σ => passAt (takes_of rfl rfl rfl rfl) σ) (pa_cons (pv 0) (pa_cons (pe_glob (v := .ref D_expression.f) rfl D_expression.g rfl) (pa_cons pe_str pa_nil)))) pa_nil)))))) pss_nil)
    (pss_cons (ps_if (pt_cmpR op_eq (pv 1) pe_str (nomark _)) (pss_cons (ps_expr (pe_meth0 (pv 0) CC.cl M_take.m M_take.ok (hr.mono (by omega)) M_take.b .nil (passes_call (takes_of rfl rfl rfl rfl) (fun _ _ _ _ h => h))))
      (pss_one (ps_ret (pe_tup (pa_cons pe_str (pa_cons (pe_callSF D_params.ok (hf.mono (by omega)) rfl D_params.g D_params.k D_params.b (fun σ => passAt (takes_of rfl rfl rfl rfl) σ) (pa_cons (pv 0) pa_nil)) (pa_cons (pe_callSF D_block.ok (hf.mono (by omega)) rfl D_block.g D_block.k D_block.b (fun σ => passAt (takes_of rfl rfl rfl rfl) σ) (pa_cons (pv 0) pa_nil)) pa_nil))))))) pss_nil)
    (pss_one (ps_ret (pe_callSF D_called_by_key.ok (hf.mono (by omega)) rfl D_called_by_key.g D_called_by_key.k D_called_by_key.b (fun σ => passAt (takes_of rfl rfl rfl rfl) σ) (pa_cons (pv 0) pa_nil)))))))))), ?_⟩
  generalize hσ : L2.start _ _ = σ0
  have hσ : σ0 = [some (.ref a), none] := hσ.symm
  subst hσ
  have hz := line_eq
  obtain ⟨fs, hfs, lk, lt, le, lr, lb⟩ := SA.fs ha
  have rel0 : RelTs H [] [] := by rw [RelTs]
  refine seq_set ?_
  refine ⟨_, rfl, a, dx, fs, rfl, hfs, lk, ?_⟩
  dsimp only [tNil, tCons]
  refine ⟨a, dx, q, us, toks, el, i, _, rfl, R, hi, ha, ?_⟩
  -- a value
  refine ⟨_, rfl, _, rfl, rfl, _, rfl, ?_⟩
  by_cases hv : ∃ s ∈ valS, kindN (toks.drop i) = codes s
  · obtain ⟨s, hs, e⟩ := hv
    have hc : ∀ s ∈ valS, ∃ q ∈ valN, q.1 = s := by decide +kernel
    obtain ⟨qq, hqq, rfl⟩ := hc s hs
    obtain ⟨hlt, hso, hsn⟩ := val_word hqq R e
    rw [e, valN_val qq hqq]
    refine iteT ?_
    refine ⟨_, rfl, _, _, rfl, rfl, valN_val qq hqq, ?_⟩
    refine ⟨_, rfl, a, dx, fs, rfl, hfs, lt, ?_⟩
    dsimp only [tNil, tCons]
    refine PC.takeV R hfs (On.refl _ _) hlt ha rel0 (by rw [e]; exact (capOk _ hs).1) (by rw [e]; exact (capOk _ hs).2.1) fun H1 g1 ha1 hr1 => ?_
    refine ⟨(by show 2 ≤ _; omega), fun a9 n9 => ?_⟩
    have g9 := same_new n9 (.tup [V.str (Str.ofString qq.2), wdV toks[i].wd])
    rw [drop_at hlt, first_val hso] at hq
    refine hq _ _ (g1.trans (On.same g9)) ?_ ?_
    · rw [drop_len_pos hlt]; exact g9 _ _ ha1
    · refine rels_last (rel_tup upd_same ?_)
      rw [hsn]
      exact rel_two
  have hva : ∀ s ∈ valS, kindN (toks.drop i) ≠ codes s := fun s hs e => hv ⟨s, hs, e⟩
  rw [valued_no hva]
  refine iteF (go_next ?_)
  -- true, false, nil, this
  refine ⟨_, rfl, _, _, rfl, .inr (TP.kALONE H), rfl, rfl, _, rfl, ?_⟩
  rw [show inV (.str (S (kindN (toks.drop i)))) (litV ["true", "false", "nil", "this"]) = decide (kindN (toks.drop i) ∈ aloneS.map codes) from in_lits _ aloneS]
  refine ited (fun h2 => ?_) (fun h2 => go_next ?_)
  · obtain ⟨s, hs, e⟩ := List.mem_map.mp h2
    have hcap : ∀ s ∈ aloneS, s ∈ wordsS ∧ codes s ∉ opens ∧ codes s ∉ closes := by decide +kernel
    obtain ⟨hlt, hw⟩ := kindb R (hcap s hs).1 e.symm
    refine ⟨_, rfl, a, dx, fs, rfl, hfs, lt, ?_⟩
    dsimp only [tNil, tCons]
    refine PC.take R hfs (On.refl _ _) ha rel0 e.symm (hcap s hs).1 (hcap s hs).2.1 (hcap s hs).2.2 fun _ H1 _ g1 ha1 hr1 => ?_
    refine ⟨(by show 1 ≤ _; omega), fun a9 n9 => ?_⟩
    have g9 := same_new n9 (.tup [V.str (S (codes s))])
    rw [drop_at hlt, first_alone hs hw] at hq
    refine hq _ _ (g1.trans (On.same g9)) ?_ (rels_last (rel_tup upd_same (rel_word (by rw [RelTs]))))
    rw [drop_len_pos hlt]; exact g9 _ _ ha1
  have h2' : ∀ s ∈ aloneS, kindN (toks.drop i) ≠ codes s := fun s hs e => h2 (List.mem_map.mpr ⟨s, hs, e.symm⟩)
  -- parentheses
  try dsimp only
  refine seq_join (fun σ H1 => σ = [some (.ref a), some (.str (S (kindN (toks.drop i))))] ∧ H1 = H ∧ kindN (toks.drop i) ≠ codes "(" ∧ ∀ s ∈ askedS, kindN (toks.drop i) ≠ codes s) ?_ ?_
  rotate_left
  · intro NX nx
    refine ⟨_, rfl, rfl, _, rfl, ?_⟩
    refine ited (fun h3 => ?_) (fun h3 => ?_)
    · refine ⟨_, rfl, ?_⟩
      dsimp only [tNil, tCons]
      exact ⟨a, dx, q, us, toks, el, i, rfl, R, hi, ha, .inl (eq_lit.mp h3), hq⟩
    refine ⟨_, rfl, _, _, rfl, .inr (TP.kASKED H), rfl, rfl, _, rfl, ?_⟩
    rw [show inV (.str (S (kindN (toks.drop i)))) (litV ["len", "weak", "worth", "number", "spawn", "join"]) = decide (kindN (toks.drop i) ∈ askedS.map codes) from in_lits _ askedS]
    refine ited (fun h4 => ?_) (fun h4 => ?_)
    · obtain ⟨s, hs, e⟩ := List.mem_map.mp h4
      refine ⟨_, rfl, ?_⟩
      dsimp only [tNil, tCons]
      exact ⟨a, dx, q, us, toks, el, i, rfl, R, hi, ha, .inr ⟨s, hs, e.symm⟩, hq⟩
    · exact go_next (nx _ _ ⟨rfl, rfl, fun z => h3 (eq_lit.mpr z), fun s hs e => h4 (List.mem_map.mpr ⟨s, hs, e.symm⟩)⟩)
  rintro σ H1 ⟨rfl, rfl, h3, h4⟩
  have c0 := PC.begin (X := first (inn d)) hi ha
  generalize hxx : first (inn d) (toks.drop i) = x at hq c0
  -- a list
  refine ⟨_, rfl, rfl, _, rfl, ?_⟩
  refine ited (fun h5 => ?_) (fun h5 => go_next ?_)
  · have h5 := eq_lit.mp h5
    obtain ⟨hlt, hw⟩ := kindb R (by decide +kernel) h5
    rw [drop_at hlt, first_list hw, ← drop_at hlt] at hxx
    refine ⟨_, rfl, a, dx, fs, rfl, hfs, lt, ?_⟩
    dsimp only [tNil, tCons]
    refine ⟨a, dx, q, us, toks, el, i, _, rfl, R, hlt, ha, ?_⟩
    refine takeO R hq (On.refl _ _) ha rel0 hxx.symm h5 (by decide +kernel) (by decide +kernel) fun H2 v2 e he g2 c2 => ?_
    subst he
    refine ⟨_, rfl, ?_⟩
    dsimp only [tNil, tCons]
    refine sp_listed_lit (PC.listed (X := expr (inn e)) R hfs hq (gd_expr (in_ok e)) (by decide +kernel) (by decide +kernel) c2 fun H3 v3 ts g3 c3 => ?_)
    rw [show 60 - (e : Int) - 1 = 60 - ((e + 1 : Nat) : Int) by omega] at c3
    refine ⟨(by show 2 ≤ _; omega), fun a9 n9 => ?_⟩
    have g9 := same_new n9 (.tup [V.str "list", v3])
    refine (c3.same g9).done hq fun hr => rels_last (rel_tup upd_same ?_)
    rw [litW]
    exact rel_word hr
  -- a function
  refine ⟨_, rfl, rfl, _, rfl, ?_⟩
  refine ited (fun h6 => ?_) (fun h6 => go_next ?_)
  · have h6 := eq_lit.mp h6
    obtain ⟨hlt, hw⟩ := kindb R (by decide +kernel) h6
    rw [drop_at hlt, first_fun hw] at hxx
    refine ⟨_, rfl, a, dx, fs, rfl, hfs, lt, ?_⟩
    dsimp only [tNil, tCons]
    refine PC.take R hfs (On.refl _ _) ha rel0 h6 (by decide +kernel) (by decide +kernel) (by decide +kernel) fun _ H2 _ g2 ha2 hr2 => ?_
    have c2 : PC CC.C a dx q toks H1 x (60 - (d : Int)) (fun r => bind (params (inn d) r) fun ps r => bind (block (inn d) r) fun b r => .ok (.t [Gr.w "fun", ps, b]) r) [] [] H2 := ⟨g2, i + 1, hlt, ha2, hr2, hxx.symm⟩
    refine ⟨_, rfl, ?_⟩
    dsimp only [tNil, tCons]
    refine PC.call R hfs hq gd_params c2 fun H3 v3 t3 g3 c3 => ?_
    refine ⟨_, rfl, ?_⟩
    dsimp only [tNil, tCons]
    refine PC.call R hfs hq (gd_block (in_ok d)) c3 fun H4 v4 t4 g4 c4 => ?_
    refine ⟨(by show 3 ≤ _; omega), fun a9 n9 => ?_⟩
    have g9 := same_new n9 (.tup [V.str "fun", v3, v4])
    refine (c4.same g9).done hq fun hr => rels_last (rel_tup upd_same ?_)
    rw [litW]
    exact rel_word hr
  -- a key
  refine ⟨_, rfl, ?_⟩
  dsimp only [tNil, tCons]
  refine ⟨a, dx, q, us, toks, el, i, rfl, R, hi, ha, ?_, hva, hxx ▸ hq⟩
  have hc : ∀ s ∈ elseS, s ∈ aloneS ∨ s = "(" ∨ s ∈ askedS ∨ s = "[" ∨ s = "fun" := by decide +kernel
  intro s hs
  rcases hc s hs with h | rfl | h | rfl | rfl
  · exact h2' s h
  · exact h3
  · exact h4 s h
  · exact fun z => h5 (eq_lit.mpr z)
  · exact fun z => h6 (eq_lit.mpr z)
end
end Wk
set_option maxRecDepth 100000
set_option maxHeartbeats 8000000
namespace Wk
open PySem L2 TL PyProof.Rows Gm Gr
open SX (S S_len)
/-- a message or a field -/
def dotP (q : Option In) (t : Tr) : Gr.P Tr := fun r => bind (want "." r) fun _ r => bind (named r) fun m r => if hd "(" r = true then bind (args q r) fun a r => .ok (.t [w "send", t, m, a]) r else .ok (.t [w "field", t, m]) r
theorem gd_dotP {q : Option In} (hq : InOk q) (t : Tr) (r : List Tk) : Gd true r (dotP q t r) :=
  (gd_want "." r).bind (s2 := true) (fun _ r _ _ _ => (gd_named r).bind (s2 := false) (fun m r _ _ _ => by
    split
    · exact (gd_args hq r).bind (s2 := false) (fun _ _ _ _ _ => gd_ok) (fun z => by cases z)
    · exact gd_ok) (fun _ => .inl rfl)) (fun _ => .inl rfl)
def sp_dot (C BC : Addr) (d : Nat) : Sp := fun vs H Q E => ∃ (a dx q : Addr) (us : List V) (toks : List Tk) (el i : Nat) (t : Tr) (v : V), vs = [.ref a, v] ∧ RelT H t v ∧ Sr H q us toks el ∧ i ≤ toks.length ∧ SA C H a dx q i (60 - (d : Int)) ∧
  RdQ C BC a dx q toks el (60 - (d : Int)) (dotP (inn d) t (toks.drop i)) RelT H Q E
/-- what stands behind -/
def sp_behind (C BC : Addr) (d : Nat) : Sp := fun vs H Q E => ∃ (a dx q : Addr) (us : List V) (toks : List Tk) (el i : Nat) (t : Tr) (v : V), vs = [.ref a, v] ∧ RelT H t v ∧ Sr H q us toks el ∧ i ≤ toks.length ∧ SA C H a dx q i (60 - (d : Int)) ∧
  RdQ C BC a dx q toks el (60 - (d : Int)) (postF (inn d) t (toks.drop i)) RelT H Q E
theorem rels_one {H : Hp} {t : Tr} {v : V} (h : RelT H t v) : RelTs H [t] [v] := by
  rw [RelTs]
  exact ⟨_, [], rfl, h, by rw [RelTs]⟩
theorem gd_postF {q : Option In} (hq : InOk q) (t : Tr) (r : List Tk) : Gd false r (postF q t r) := gd_post hq _ t r (Nat.lt_succ_self _)
theorem postF_dotP {q : Option In} (hq : InOk q) {t : Tr} {toks : List Tk} (h : hd "." toks = true) : postF q t toks = bind (dotP q t toks) fun t r => postF q t r := by
  rw [postF_dot hq h]
  unfold dotP
  cases toks with
  | nil => cases h
  | cons x r =>
    rw [want_yes h]
    show bind (named r) _ = bind (bind (bind (.ok () r) _) _) _
    show _ = bind (bind (named r) _) _
    rw [bind_bind]
    congr 1
    funext m r
    by_cases hp : hd "(" r = true
    · rw [if_pos hp, if_pos hp, bind_bind]; rfl
    · rw [if_neg hp, if_neg hp]; rfl
section
variable {σ : Type} {C BC a dx q : Addr} {us : List V} {toks : List Tk} {el : Nat} {H0 : Hp} {Q : VK} {E : XK} {b b0 : Int} {x : R Tk σ} {rel : Hp → σ → V → Prop} {as : List Tr} {vs : List V} {H : Hp} {fs0 : List (Str × V)}
/-- named_behind(source, value) -/
theorem PC.dot {d : Nat} {t : Tr} {v : V} {g : Tr → Gr.P σ} {Rk : VK} (R : Sr H0 q us toks el) (ha0 : H0 a = some (.ins C dx fs0)) (hq : RdQ C BC a dx q toks el b0 x rel H0 Q E) (c : PC C a dx q toks H0 x (60 - (d : Int)) (fun r => bind (dotP (inn d) t r) g) [t] [v] H)
    (k : ∀ H' v t', On a H H' → PC C a dx q toks H0 x (60 - (d : Int)) (g t') [t'] [v] H' → Rk v H') : sp_dot C BC d [.ref a, v] H Rk E := by
  obtain ⟨gn, i, hi, hp, hr, ex⟩ := c
  refine ⟨a, dx, q, us, toks, el, i, t, v, rfl, rels_last hr, R.on gn ha0, hi, hp, ?_⟩
  have ex : x = bind (dotP (inn d) t (toks.drop i)) g := ex
  rcases par_three (e := d) (i := i) (gd_dotP (in_ok d) t) toks with ⟨t, i2, ec, l1, l2⟩ | ⟨i2, ec, l2⟩
  · rw [ec] at ex ⊢
    intro H' v g' hp' hr'
    exact k H' v t g' ⟨gn.trans g', i2, l2, by rw [drop_len_pos l2] at hp'; exact hp', rels_one hr', ex⟩
  · rw [ec] at ex ⊢
    exact raise_of hq gn ex
theorem PC.behind {d : Nat} {t : Tr} {v : V} {g : Tr → Gr.P σ} {Rk : VK} (R : Sr H0 q us toks el) (ha0 : H0 a = some (.ins C dx fs0)) (hq : RdQ C BC a dx q toks el b0 x rel H0 Q E) (c : PC C a dx q toks H0 x (60 - (d : Int)) (fun r => bind (postF (inn d) t r) g) (as ++ [t]) (vs ++ [v]) H)
    (hl : as.length = vs.length) (k : ∀ H' v t', On a H H' → PC C a dx q toks H0 x (60 - (d : Int)) (g t') (as ++ [t']) (vs ++ [v]) H' → Rk v H') : sp_behind C BC d [.ref a, v] H Rk E := by
  obtain ⟨gn, i, hi, hp, hr, ex⟩ := c
  have hsplit : ∀ {as : List Tr} {vs : List V}, as.length = vs.length → RelTs H (as ++ [t]) (vs ++ [v]) → RelTs H as vs ∧ RelT H t v := by
    intro as
    induction as with
    | nil =>
      intro vs hl h
      obtain rfl : vs = [] := List.eq_nil_of_length_eq_zero hl.symm
      exact ⟨by rw [RelTs], rels_last h⟩
    | cons z as ih =>
      intro vs hl h
      cases vs with
      | nil => cases hl
      | cons u vs =>
        have h : RelTs H (z :: (as ++ [t])) (u :: (vs ++ [v])) := h
        rw [RelTs] at h
        obtain ⟨x1, ys, e, h1, h2⟩ := h
        cases e
        have := ih (Nat.succ.inj hl) h2
        exact ⟨by rw [RelTs]; exact ⟨_, _, rfl, h1, this.1⟩, this.2⟩
  obtain ⟨hr1, hr2⟩ := hsplit hl hr
  refine ⟨a, dx, q, us, toks, el, i, t, v, rfl, hr2, R.on gn ha0, hi, hp, ?_⟩
  have ex : x = bind (postF (inn d) t (toks.drop i)) g := ex
  rcases par_two (i := i) (gd_postF (in_ok d) t) toks hi with ⟨t, i2, ec, l2⟩ | ⟨i2, ec, l2⟩
  · rw [ec] at ex ⊢
    intro H' v g' hp' hr'
    exact k H' v t g' ⟨gn.trans g', i2, l2, by rw [drop_len_pos l2] at hp'; exact hp', (hr1.keep (TupK.on g' hp)).snoc hr', ex⟩
  · rw [ec] at ex ⊢
    exact raise_of hq gn ex
end
section
variable {P : Program} {w : World} {K : PySem.W.Frag} {mg : Str → Option Value} {base : Heap}
abbrev s_named_behind : Stmt := top 64
theorem sc_named_behind : FnScope ["source", "value", "name"] ["source", "value"] (defScope s_named_behind) := ⟨rfl, rfl, rfl, by decide +kernel, rfl, by decide +kernel, by decide +kernel⟩
theorem ok_pnamed {d lv : Nat} (T : Txt K mg) (CC : CurT K) {BC : Addr} (M : MT P w K mg base CC BC) (hlv : 6 ≤ lv) {f : Addr} {fd : FuncData} (F : Fun K "named_behind" "named_behind" s_named_behind f fd)
    (D_arguments : DefF P w K mg base (L2.CX P w) "arguments" ["source"] lv (sp_rd CC.C BC d (args (inn d)) RelT)) : FnF P w K mg base (L2.CX P w) (lv + 1) f fd ["source", "value"] (sp_dot CC.C BC d) := by
  refine okFX F sc_named_behind (fun vs H Q E h => ?_) (fun cdv A outer s H vs Q E hr hf h => ?_)
  · obtain ⟨a, _, _, _, _, _, _, _, _, rfl, _⟩ := h; rfl
  obtain ⟨a, dx, q, us, toks, el, i, t, v, rfl, hrv, R, hi, ha, hq⟩ := h
  have M_expect := M.expect
  have M_kind := M.kind
  refine ⟨_, (pss_cons (ps_expr (pe_meth (pv 0) CC.cl M_expect.m M_expect.ok (hr.mono (by omega)) M_expect.b .nil (passes_call (takes_of rfl rfl rfl rfl) (fun _ _ _ _ h => h)) (pa_cons pe_str pa_nil)))
    (pss_cons (ps_set (i := 2) sc_named_behind.nd rfl (Or.inl rfl) (pe_meth (pv 0) CC.cl M_expect.m M_expect.ok (hr.mono (by omega)) M_expect.b .nil (passes_call (takes_of rfl rfl rfl rfl) (fun _ _ _ _ h => h)) (pa_cons pe_str pa_nil)))
    (pss_cons (ps_if (pt_cmpR op_eq (pe_meth0 (pv 0) CC.cl M_kind.m M_kind.ok (hr.mono (by omega)) M_kind.b .nil pass0) pe_str (nomark _)) (pss_one (ps_ret (pe_tup (pa_cons pe_str (pa_cons (pv 1) (pa_cons (pv 2) (pa_cons (pe_callSF D_arguments.ok (hf.mono (by omega)) rfl D_arguments.g D_arguments.k D_arguments.b (fun σ => passAt (takes_of rfl rfl rfl rfl) σ) (pa_cons (pv 0) pa_nil)) pa_nil))))))) pss_nil)
    (pss_one (ps_ret (pe_tup (pa_cons pe_str (pa_cons (pv 1) (pa_cons (pv 2) pa_nil))))))))), ?_⟩
  generalize hσ : L2.start _ _ = σ0
  have hσ : σ0 = [some (.ref a), some v, none] := hσ.symm
  subst hσ
  have hz := line_eq
  have c0 : PC CC.C a dx q toks H (dotP (inn d) t (toks.drop i)) (60 - (d : Int)) (dotP (inn d) t) [t] [v] H := ⟨On.refl _ _, i, hi, ha, rels_one hrv, rfl⟩
  generalize dotP (inn d) t (toks.drop i) = x at hq c0
  obtain ⟨fs, hfs, lk, lt, le, lr, lb⟩ := c0.fs
  refine ⟨_, rfl, a, dx, fs, rfl, hfs, le, ?_⟩
  dsimp only [tNil, tCons]
  refine sp_expect_lit (PC.expect R hfs hq c0 (by decide +kernel) (by decide +kernel) (by decide +kernel) fun H1 v1 g1 c1 => ?_)
  obtain ⟨fs1, hfs1, lk1, lt1, le1, lr1, lb1⟩ := c1.fs
  refine seq_set ?_
  refine ⟨_, rfl, a, dx, fs1, rfl, hfs1, le1, ?_⟩
  dsimp only [tNil, tCons]
  refine sp_expect_lit (PC.name R hfs hq c1 fun H2 v2 m g2 c2 => ?_)
  obtain ⟨fs2, hfs2, lk2, lt2, le2, lr2, lb2⟩ := c2.fs
  refine ⟨_, rfl, a, dx, fs2, rfl, hfs2, lk2, ?_⟩
  dsimp only [tNil, tCons]
  refine PC.kind (E' := E0) R hfs c2 fun i3 hi3 ha3 hr3 ex3 => ?_
  refine ⟨rfl, _, rfl, ?_⟩
  have hcm : hd "(" (toks.drop i3) = true ↔ kindN (toks.drop i3) = codes "(" := kind_hd (by decide +kernel) (kd_of R i3)
  refine ited (fun h3 => ?_) (fun h3 => go_next ?_)
  · have h3 := hcm.mpr (eq_lit.mp h3)
    have c3 : PC CC.C a dx q toks H x (60 - (d : Int)) (fun r => bind (args (inn d) r) fun a r => .ok (.t [Gr.w "send", t, m, a]) r) [t, m] [v, v2] H2 := ⟨c2.1, i3, hi3, ha3, hr3, by rw [ex3, if_pos h3]⟩
    refine ⟨_, rfl, _, rfl, _, rfl, ?_⟩
    dsimp only [tNil, tCons]
    refine PC.call R hfs hq (gd_args (in_ok d)) c3 fun H4 v4 t4 g4 c4 => ?_
    refine ⟨(by show 4 ≤ _; omega), fun a9 n9 => ?_⟩
    have g9 := same_new n9 (.tup [V.str "send", v, v2, v4])
    refine (c4.same g9).done hq fun hr => rels_last (rel_tup upd_same ?_)
    rw [litW]
    exact rel_word hr
  · have h3 : ¬ hd "(" (toks.drop i3) = true := fun z => h3 (eq_lit.mpr (hcm.mp z))
    have c3 : PC CC.C a dx q toks H x (60 - (d : Int)) (fun r => .ok (.t [Gr.w "field", t, m]) r) [t, m] [v, v2] H2 := ⟨c2.1, i3, hi3, ha3, hr3, by rw [ex3, if_neg h3]⟩
    refine ⟨_, rfl, _, rfl, (by show 3 ≤ _; omega), fun a9 n9 => ?_⟩
    have g9 := same_new n9 (.tup [V.str "field", v, v2])
    refine (c3.same g9).done hq fun hr => rels_last (rel_tup upd_same ?_)
    rw [litW]
    exact rel_word hr
abbrev s_behind : Stmt := top 63
theorem sc_behind : FnScope ["source", "value"] ["source", "value"] (defScope s_behind) := ⟨rfl, rfl, rfl, by decide +kernel, rfl, by decide +kernel, by decide +kernel⟩
theorem ok_pbehind {d lv : Nat} (T : Txt K mg) (CC : CurT K) {BC : Addr} (M : MT P w K mg base CC BC) (hlv : 6 ≤ lv) {f : Addr} {fd : FuncData} (F : Fun K "behind" "behind" s_behind f fd)
    (D_arguments : DefF P w K mg base (L2.CX P w) "arguments" ["source"] lv (sp_rd CC.C BC d (args (inn d)) RelT)) (D_named_behind : DefF P w K mg base (L2.CX P w) "named_behind" ["source", "value"] lv (sp_dot CC.C BC d))
    (D_expression : DefF P w K mg base (L2.CX P w) "expression" ["source"] lv (sp_rd1 CC.C BC (fun e => expr (inn e)) d)) : FnF P w K mg base (L2.CX P w) (lv + 1) f fd ["source", "value"] (sp_behind CC.C BC d) := by
  refine okFX F sc_behind (fun vs H Q E h => ?_) (fun cdv A outer s H vs Q E hr hf h => ?_)
  · obtain ⟨a, _, _, _, _, _, _, _, _, rfl, _⟩ := h; rfl
  obtain ⟨a, dx, q, us, toks, el, i, t, v, rfl, hrv, R, hi, ha, hq⟩ := h
  have M_expect := M.expect
  have M_kind := M.kind
  have M_take := M.take
  refine ⟨_, (pss_cons (ps_while (passes_of rfl) (pt_cmpR op_in_seq (pe_meth0 (pv 0) CC.cl M_kind.m M_kind.ok (hr.mono (by omega)) M_kind.b .nil pass0) (pe_tup (pa_cons pe_str (pa_cons pe_str (pa_cons pe_str pa_nil)))) rfl) (pss_one (ps_if (pt_cmpR op_eq (pe_meth0 (pv 0) CC.cl M_kind.m M_kind.ok (hr.mono (by omega)) M_kind.b .nil pass0) pe_str (nomark _)) (pss_one (ps_set (i := 1) sc_behind.nd rfl (Or.inl rfl) (pe_tup (pa_cons pe_str (pa_cons (pv 1) (pa_cons (pe_callSF D_arguments.ok (hf.mono (by omega)) rfl D_arguments.g D_arguments.k D_arguments.b (fun σ => passAt (takes_of rfl rfl rfl rfl) σ) (pa_cons (pv 0) pa_nil)) pa_nil)))))) (pss_one (ps_if (pt_cmpR op_eq (pe_meth0 (pv 0) CC.cl M_kind.m M_kind.ok (hr.mono (by omega)) M_kind.b .nil pass0) pe_str (nomark _)) (pss_one (ps_set (i := 1) sc_behind.nd rfl (Or.inl rfl) (pe_callSF D_named_behind.ok (hf.mono (by omega)) rfl D_named_behind.g D_named_behind.k D_named_behind.b (fun σ => passAt (takes_of rfl rfl rfl rfl) σ) (pa_cons (pv 0) (pa_cons (pv 1) pa_nil))))) (pss_cons (ps_expr (pe_meth0 (pv 0) CC.cl M_take.m M_take.ok (hr.mono (by omega)) M_take.b .nil (passes_call (takes_of rfl rfl rfl rfl) (fun _ _ _ _ h => h))))
          (pss_cons (ps_set (i := 1) sc_behind.nd rfl (Or.inl rfl) (pe_tup (pa_cons pe_str (pa_cons (pv 1) (pa_cons (pe_callSF D_expression.ok (hf.mono (by omega)) rfl D_expression.g D_expression.k D_expression.b (fun σ => passAt (takes_of rfl rfl rfl rfl) σ) (pa_cons (pv 0) pa_nil)) pa_nil)))))
          (pss_one (ps_expr (pe_meth (pv 0) CC.cl M_expect.m M_expect.ok (hr.mono (by omega)) M_expect.b .nil (passes_call (takes_of rfl rfl rfl rfl) (fun _ _ _ _ h => h)) (pa_cons pe_str pa_nil)))))))))))
    (pss_one (ps_ret (pv 1)))), ?_⟩
  generalize hσ : L2.start _ _ = σ0
  have hσ : σ0 = [some (.ref a), some v] := hσ.symm
  subst hσ
  have hz := line_eq
  have c0 : PC CC.C a dx q toks H (postF (inn d) t (toks.drop i)) (60 - (d : Int)) (lim toks.length (fun r => postF (inn d) t r)) [t] [v] H := ⟨On.refl _ _, i, hi, ha, rels_one hrv, by
    unfold lim
    rw [if_pos (by rw [List.length_drop]; omega)]⟩
  have hno : postF (inn d) t (toks.drop i) ≠ .out := gd_no_out (gd_postF (in_ok d) t _)
  generalize postF (inn d) t (toks.drop i) = x at hq c0 hno
  obtain ⟨fs, hfs, lk, lt, le, lr, lb⟩ := c0.fs
  refine seq_join (fun σ H' => ∃ (t : Tr) (v : V), σ = [some (.ref a), some v] ∧ PC CC.C a dx q toks H x (60 - (d : Int)) (fun r => .ok t r) [t] [v] H') ?_ ?_
  · rintro σ H1 ⟨t1, v1, rfl, c1⟩
    refine ⟨_, rfl, ?_⟩
    exact c1.done hq fun hr => rels_last hr
  intro NX nx
  refine while_of (fun σ H' => ∃ (t : Tr) (v : V), σ = [some (.ref a), some v] ∧ PC CC.C a dx q toks H x (60 - (d : Int)) (fun r => .ok t r) [t] [v] H')
    (fun m σ H' => ∃ (t : Tr) (v : V), σ = [some (.ref a), some v] ∧ PC CC.C a dx q toks H x (60 - (d : Int)) (lim m (fun r => postF (inn d) t r)) [t] [v] H')
    toks.length ⟨_, _, rfl, c0⟩ (fun σ H' h => nx _ _ h) ?_
  rintro NX2 nx2 m σ H5 ⟨t5, v5, rfl, c5⟩
  obtain ⟨fs5, hfs5, lk5, lt5, le5, lr5, lb5⟩ := c5.fs
  refine ⟨_, rfl, a, dx, fs5, rfl, hfs5, lk5, ?_⟩
  dsimp only [tNil, tCons]
  refine PC.kind (E' := E0) R hfs c5 fun i6 hi6 ha6 hr6 ex6 => ?_
  have hx6 := lim_in ex6 hno
  have hcm : ∀ s ∈ wordsS, (hd s (toks.drop i6) = true ↔ kindN (toks.drop i6) = codes s) := fun s hs => kind_hd hs (kd_of R i6)
  refine ⟨(by show 3 ≤ _; omega), fun a7 n7 => ?_⟩
  have g7 := same_new n7 (.tup [V.str "(", V.str ".", V.str "["])
  refine ⟨a7, _, rfl, .inr (SqT.of upd_same), rfl, rfl, _, rfl, ?_⟩
  rw [show inV (V.str (S (kindN (toks.drop i6)))) [V.str "(", V.str ".", V.str "["] = decide (kindN (toks.drop i6) ∈ ["(", ".", "["].map codes) from in_lits _ ["(", ".", "["]]
  have c7 := c5.same g7
  have ha7 := g7 _ _ ha6
  have hr7 : RelTs _ [t5] [v5] := hr6.keep (TupK.same g7)
  generalize upd H5 a7 (.tup [V.str "(", V.str ".", V.str "["]) = H7 at g7 c7 ha7 hr7 ⊢
  obtain ⟨fs7, hfs7, lk7, lt7, le7, lr7, lb7⟩ := SA.fs ha7
  refine ited (fun h7 => ?_) (fun h7 => ?_)
  rotate_left
  · refine nx2 _ _ ⟨t5, v5, rfl, c7.1, i6, hi6, ha7, hr7, ?_⟩
    have h : ∀ s ∈ ["(", ".", "["], ¬ hd s (toks.drop i6) = true := fun s hs z => h7 (List.mem_map.mpr ⟨s, hs, ((hcm s ((show ∀ s ∈ ["(", ".", "["], s ∈ wordsS by decide +kernel) s hs)).mp z).symm⟩)
    rw [hx6.2, postF_end (h _ (by decide)) (h _ (by decide)) (h _ (by decide))]
  refine ⟨fun σ H' => ∃ m' < m, ∃ (t : Tr) (v : V), σ = [some (.ref a), some v] ∧ PC CC.C a dx q toks H x (60 - (d : Int)) (lim m' (fun r => postF (inn d) t r)) [t] [v] H', fun σ' H' ⟨m', h1, h2⟩ => ⟨m', h1, h2⟩, ?_⟩
  have hmp : ∀ s ∈ wordsS, kindN (toks.drop i6) = codes s → ∃ m', m = m' + 1 := fun s hs e => by
    obtain ⟨hlt, _⟩ := kindb R hs e
    have := hx6.1
    rw [List.length_drop] at this
    exact ⟨m - 1, by omega⟩
  refine ⟨_, rfl, a, dx, fs7, rfl, hfs7, lk7, ?_⟩
  dsimp only [tNil, tCons]
  refine ⟨a, dx, q, us, toks, el, i6, _, rfl, R.on c7.1 hfs, hi6, ha7, ?_⟩
  refine ⟨rfl, _, rfl, ?_⟩
  refine ited (fun h8 => ?_) (fun h8 => ?_)
  · -- a call
    have h8 := eq_lit.mp h8
    obtain ⟨m', rfl⟩ := hmp _ (by decide +kernel) h8
    have hx8 := hx6.2
    rw [postF_call (in_ok d) ((hcm _ (by decide +kernel)).mpr h8), lim_bind (gd_args (in_ok d)) hx6.1] at hx8
    have c8 : PC CC.C a dx q toks H x (60 - (d : Int)) (fun r => bind (args (inn d) r) fun a r => lim m' (fun r => postF (inn d) (.t [Gr.w "call", t5, a]) r) r) [t5] [v5] H7 := ⟨c7.1, i6, hi6, ha7, hr7, hx8⟩
    refine ⟨_, rfl, _, rfl, ?_⟩
    dsimp only [tNil, tCons]
    refine PC.call R hfs hq (gd_args (in_ok d)) c8 fun H9 v9 t9 g9 c9 => ?_
    refine ⟨(by show 3 ≤ _; omega), fun a10 n10 => ?_⟩
    have g10 := same_new n10 (.tup [V.str "call", v5, v9])
    refine ⟨m', by omega, _, _, rfl, (c9.same g10).swap fun hr => rel_tup upd_same ?_⟩
    rw [litW]
    exact rel_word hr
  refine ⟨_, rfl, a, dx, fs7, rfl, hfs7, lk7, ?_⟩
  dsimp only [tNil, tCons]
  refine ⟨a, dx, q, us, toks, el, i6, _, rfl, R.on c7.1 hfs, hi6, ha7, ?_⟩
  refine ⟨rfl, _, rfl, ?_⟩
  refine ited (fun h9 => ?_) (fun h9 => ?_)
  · -- a dot
    have h9 := eq_lit.mp h9
    obtain ⟨m', rfl⟩ := hmp _ (by decide +kernel) h9
    have hx8 := hx6.2
    rw [postF_dotP (in_ok d) ((hcm _ (by decide +kernel)).mpr h9), lim_bind (gd_dotP (in_ok d) t5) hx6.1] at hx8
    have c8 : PC CC.C a dx q toks H x (60 - (d : Int)) (fun r => bind (dotP (inn d) t5 r) fun t r => lim m' (fun r => postF (inn d) t r) r) [t5] [v5] H7 := ⟨c7.1, i6, hi6, ha7, hr7, hx8⟩
    refine ⟨_, rfl, _, rfl, ?_⟩
    dsimp only [tNil, tCons]
    refine PC.dot R hfs hq c8 fun H9 v9 t9 g9 c9 => ?_
    exact ⟨m', by omega, _, _, rfl, c9⟩
  -- an item
  have h10 : kindN (toks.drop i6) = codes "[" := by
    obtain ⟨s, hs, e⟩ := List.mem_map.mp h7
    have hc : ∀ s ∈ ["(", ".", "["], s = "(" ∨ s = "." ∨ s = "[" := by decide
    rcases hc s hs with rfl | rfl | rfl
    · exact absurd (eq_lit.mpr e.symm) h8
    · exact absurd (eq_lit.mpr e.symm) h9
    · exact e.symm
  obtain ⟨m', rfl⟩ := hmp _ (by decide +kernel) h10
  obtain ⟨hlt, hw⟩ := kindb R (by decide +kernel) h10
  have hx8 : x = opn (inn d) "[" (fun q r => bind (q.E r) fun e r => bind (want "]" r) fun _ r => lim m' (fun r => postF (inn d) (.t [Gr.w "item", t5, e]) r) r) (toks.drop i6) := by
    rw [hx6.2, postF_item (in_ok d) ((hcm _ (by decide +kernel)).mpr h10), drop_at hlt, opn.eq_def, opn.eq_def]
    dsimp only
    rw [if_pos hw, if_pos hw]
    cases eq : inn d with
    | none => rfl
    | some qq =>
      dsimp only
      have hg := (in_ok d qq eq).1 (toks.drop (i6 + 1))
      have hl := hx6.1
      rw [drop_at hlt, List.length_cons] at hl
      cases e1 : qq.E (toks.drop (i6 + 1)) with
      | out => rfl
      | bad b => rfl
      | ok a1 r1 =>
        rw [e1] at hg
        have h1 := hg.2 rfl
        show bind (want "]" r1) _ = bind (want "]" r1) _
        exact lim_bind (gd_want "]") (by omega)
  refine ⟨_, rfl, a, dx, fs7, rfl, hfs7, lt7, ?_⟩
  dsimp only [tNil, tCons]
  refine ⟨a, dx, q, us, toks, el, i6, _, rfl, R.on c7.1 hfs, hlt, ha7, ?_⟩
  refine takeO R hq c7.1 ha7 hr7 hx8 h10 (by decide +kernel) (by decide +kernel) fun H8 v8 e he g8 c8 => ?_
  subst he
  refine seq_set ?_
  refine ⟨_, rfl, _, rfl, ?_⟩
  dsimp only [tNil, tCons]
  refine PC.call (X := expr (inn e)) R hfs hq (gd_expr (in_ok e)) c8 fun H9 v9 t9 g9 c9 => ?_
  refine ⟨(by show 3 ≤ _; omega), fun a10 n10 => ?_⟩
  have g10 := same_new n10 (.tup [V.str "item", v5, v9])
  have c10 := (c9.same g10).swap (as' := [.t [Gr.w "item", t5, t9]]) (vs' := [.ref a10]) fun hr => rel_tup upd_same (by
    rw [litW]
    exact rel_word hr)
  obtain ⟨fs3, hfs3, lk3, lt3, le3, lr3, lb3⟩ := c10.fs
  refine ⟨_, rfl, a, dx, fs3, rfl, hfs3, le3, ?_⟩
  dsimp only [tNil, tCons]
  rw [show 60 - (e : Int) = 60 - ((e + 1 : Nat) : Int) + 1 by omega] at c10
  refine sp_expect_lit (PC.expectC R hfs hq c10 (by decide +kernel) (by decide +kernel) fun H11 v11 g11 c11 => ?_)
  exact ⟨m', by omega, _, _, rfl, c11⟩
end
end Wk
set_option maxRecDepth 100000
set_option maxHeartbeats 8000000
namespace Wk
open PySem L2 TL PyProof.Rows Gm Gr
open SX (S S_len)
/-! ### what waits: words that want one more on their right; none is a minus sign -/
abbrev Fq := Option (Fr Tk Tr)
def pairQ : Fq → Nat × V
  | some (.bin w _) => (level w, wdV w.wd)
  | some .no => (3, .str (Str.ofString "not"))
  | none => (7, .str (Str.ofString "minus"))
def waitsOf : List Fq → List (Nat × V)
  | [] => []
  | f :: fs => waitsOf fs ++ [pairQ f]
def valsOf : List Fq → List Tr
  | [] => []
  | some (.bin _ l) :: fs => valsOf fs ++ [l]
  | _ :: fs => valsOf fs
def putQ (f : Fq) (t : Tr) : Tr := match f with
  | some (.bin w l) => .t [wdT w.wd, l, t]
  | some .no => .t [Gr.w "not", t]
  | none => .t [Gr.w "minus", t]
def popQ (l : Nat) : List Fq → Tr → List Fq × Tr
  | [], t => ([], t)
  | f :: fs, t => if l ≤ (pairQ f).1 then popQ l fs (putQ f t) else (f :: fs, t)
def FqOk (f : Fq) : Prop := match f with
  | some (.bin w _) => level w ≠ 0
  | _ => True
def WtR (H : Hp) : List (Nat × V) → List V → Prop
  | [], vs => vs = []
  | p :: ps, vs => ∃ a us, vs = .ref a :: us ∧ H a = some (.tup [.int (p.1 : Int), p.2]) ∧ WtR H ps us
theorem WtR.len {H : Hp} : ∀ {ps : List (Nat × V)} {vs : List V}, WtR H ps vs → vs.length = ps.length
  | [], _, h => by cases h; rfl
  | _ :: _, _, ⟨a, us, e, _, h⟩ => by subst e; rw [List.length_cons, List.length_cons, h.len]
theorem WtR.keep {H H' : Hp} (g : TupK H H') : ∀ {ps : List (Nat × V)} {vs : List V}, WtR H ps vs → WtR H' ps vs
  | [], _, h => h
  | _ :: _, _, ⟨a, us, e, h1, h⟩ => ⟨a, us, e, g _ _ h1, h.keep g⟩
theorem WtR.snoc {H : Hp} {p : Nat × V} {a : Addr} (ha : H a = some (.tup [.int (p.1 : Int), p.2])) : ∀ {ps : List (Nat × V)} {vs : List V}, WtR H ps vs → WtR H (ps ++ [p]) (vs ++ [.ref a])
  | [], _, h => by cases h; exact ⟨a, [], rfl, ha, rfl⟩
  | _ :: _, _, ⟨b, us, e, h1, h⟩ => by subst e; exact ⟨b, us ++ [.ref a], rfl, h1, h.snoc ha⟩
theorem WtR.last {H : Hp} {p : Nat × V} : ∀ {ps : List (Nat × V)} {vs : List V}, WtR H (ps ++ [p]) vs → ∃ us a, vs = us ++ [.ref a] ∧ H a = some (.tup [.int (p.1 : Int), p.2]) ∧ WtR H ps us
  | [], _, ⟨a, us, e, h1, h⟩ => by cases h; exact ⟨[], a, e, h1, rfl⟩
  | _ :: _, _, ⟨b, us, e, h1, h⟩ => by
    obtain ⟨us', a, e2, h2, h3⟩ := WtR.last h
    subst e2
    exact ⟨.ref b :: us', a, e, h2, b, us', rfl, h1, h3⟩
theorem rels_snoc {H : Hp} {t : Tr} : ∀ {as : List Tr} {vs : List V}, RelTs H (as ++ [t]) vs → ∃ us v, vs = us ++ [v] ∧ RelTs H as us ∧ RelT H t v
  | [], vs, h => by
    have h : RelTs H [t] vs := h
    rw [RelTs] at h
    obtain ⟨x, ys, e, h1, h2⟩ := h
    rw [RelTs] at h2
    subst h2
    exact ⟨[], x, e, by rw [RelTs], h1⟩
  | a :: as, vs, h => by
    have h : RelTs H (a :: (as ++ [t])) vs := h
    rw [RelTs] at h
    obtain ⟨x, ys, e, h1, h2⟩ := h
    obtain ⟨us, v, e2, h3, h4⟩ := rels_snoc h2
    subst e2
    exact ⟨x :: us, v, e, by rw [RelTs]; exact ⟨x, us, rfl, h1, h3⟩, h4⟩
theorem waits_len : ∀ fs : List Fq, (waitsOf fs).length = fs.length
  | [] => rfl
  | f :: fs => by rw [waitsOf, List.length_append, waits_len fs]; rfl
/-- nothing changes but two lists -/
def But2 (p q : Addr) (H H' : Hp) : Prop := ∀ b o, b ≠ p → b ≠ q → H b = some o → H' b = some o
theorem But2.refl (p q : Addr) (H : Hp) : But2 p q H H := fun _ _ _ _ h => h
theorem But2.trans {p q : Addr} {H H1 H2 : Hp} (x : But2 p q H H1) (y : But2 p q H1 H2) : But2 p q H H2 := fun b o n1 n2 h => y b o n1 n2 (x b o n1 n2 h)
theorem But2.same {p q : Addr} {H H1 : Hp} (g : Same H H1) : But2 p q H H1 := fun b o _ _ h => g b o h
theorem But2.l {p q : Addr} {H : Hp} {o : HO} : But2 p q H (upd H p o) := fun b u n _ h => by rw [upd_ne n]; exact h
theorem But2.r {p q : Addr} {H : Hp} {o : HO} : But2 p q H (upd H q o) := fun b u _ n h => by rw [upd_ne n]; exact h
theorem But2.tup {p q : Addr} {H H' : Hp} {xs ys : List V} (g : But2 p q H H') (hp : H p = some (.lst xs)) (hq : H q = some (.lst ys)) : TupK H H' := fun b zs h => g b _ (by rintro rfl; rw [hp] at h; cases h) (by rintro rfl; rw [hq] at h; cases h) h
def sp_bind2 : Sp := fun vs H Q _ => ∃ (pw pz : Addr) (fs : List Fq) (ws us : List V) (v : V) (t : Tr) (l : Nat), vs = [.ref pw, .ref pz, .int (l : Int)] ∧ pw ≠ pz ∧ H pw = some (.lst ws) ∧ WtR H (waitsOf fs) ws ∧ ws.length ≤ 200000 ∧ (∀ f ∈ fs, FqOk f) ∧
  H pz = some (.lst (us ++ [v])) ∧ RelTs H (valsOf fs) us ∧ us.length ≤ 200000 ∧ RelT H t v ∧
  ∀ H' ws' us' v', But2 pw pz H H' → H' pw = some (.lst ws') → WtR H' (waitsOf (popQ l fs t).1) ws' → H' pz = some (.lst (us' ++ [v'])) → RelTs H' (valsOf (popQ l fs t).1) us' → us'.length ≤ us.length → RelT H' (popQ l fs t).2 v' → Q .non H'
theorem op_not_word {w : Tk} (h : level w ≠ 0) : ∃ l, wdV w.wd = .str (S l) ∧ wdT w.wd = .s l ∧ l ≠ codes "not" ∧ l ≠ codes "minus" := by
  obtain ⟨s, hs, hw⟩ := op_word h
  unfold isW at hw
  rw [Bool.and_eq_true, decide_eq_true_eq] at hw
  have : ∀ s ∈ levelS.map Prod.fst, codes s ≠ codes "not" ∧ codes s ≠ codes "minus" := by decide +kernel
  exact ⟨codes s, by rw [hw.2]; rfl, by rw [hw.2]; rfl, (this s hs).1, (this s hs).2⟩
theorem list_push {pw pz : Addr} {H0 H : Hp} {o : HO} {us zs : List V} {q' : Addr} (hne : pw ≠ pz) (b : But2 pw pz H0 H) (hpw : H pw = some o) (hpz : H pz = some (.lst us)) (n4 : H q' = none) :
    But2 pw pz H0 (upd (upd H q' (.tup zs)) pz (.lst (us ++ [.ref q']))) ∧ (upd (upd H q' (.tup zs)) pz (.lst (us ++ [.ref q']))) pw = some o ∧ (upd (upd H q' (.tup zs)) pz (.lst (us ++ [.ref q']))) pz = some (.lst (us ++ [.ref q'])) ∧ TupK H (upd (upd H q' (.tup zs)) pz (.lst (us ++ [.ref q']))) ∧ (upd (upd H q' (.tup zs)) pz (.lst (us ++ [.ref q']))) q' = some (.tup zs) := by
  have g4 := same_new n4 (.tup zs)
  have hpz4 := g4 _ _ hpz
  refine ⟨b.trans ((But2.same g4).trans But2.r), (by rw [upd_ne hne]; exact g4 _ _ hpw), upd_same, fun p xs h => TupK.set hpz4 p xs (g4 p _ h), ?_⟩
  rw [upd_ne (ne_of_none hpz n4).symm]; exact upd_same
section
variable {P : Program} {w : World} {K : PySem.W.Frag} {mg : Str → Option Value} {base : Heap}
abbrev s_bind : Stmt := top 62
theorem sc_bind : FnScope ["waiting", "values", "level", "_", "word", "last"] ["waiting", "values", "level"] (defScope s_bind) := ⟨rfl, rfl, rfl, by decide +kernel, rfl, by decide +kernel, by decide +kernel⟩
theorem ok_pbind (T : Txt K mg) {f : Addr} {fd : FuncData} (F : Fun K "bind" "bind" s_bind f fd) : FnOk P w K mg base (L2.CX P w) 1 f fd ["waiting", "values", "level"] sp_bind2 := by
  refine F.okX sc_bind (fun vs H Q E h => ?_) (fun cdv A outer s H vs Q E hr h => ?_)
  · obtain ⟨_, _, _, _, _, _, _, _, rfl, _⟩ := h; rfl
  obtain ⟨pw, pz, fs, ws, us, v, t, l, rfl, hne, hpw, hws, hwl, hok, hpz, hus, hul, hrt, hq⟩ := h
  refine ⟨_, (pss_one (ps_while (passes_of rfl) (PW.pt (pw_and (pt_truth (pv 0) (fun _ => rfl)) (pw_and1 (pt_cmpR op_ge (pe_ix ix_tup (pe_ix ix_list (pv 0) (pe_un un_neg pe_int) (fun _ _ => rfl)) pe_int (fun _ _ => rfl)) (pv 2) (nomark _))))) (pss_cons (ps_asg (pe_bm0 PySem.F.plainAttrs_list PySem.F.slot_list_pop PySem.F.type_list_pop mt_pop (pv 0)) (pg_tup rfl (pgs_cons (pg_name (i := 3) sc_bind.nd rfl (Or.inl rfl)) (pgs_cons (pg_name (i := 4) sc_bind.nd rfl (Or.inl rfl)) pgs_nil))))
      (pss_cons (ps_set (i := 5) sc_bind.nd rfl (Or.inl rfl) (pe_bm0 PySem.F.plainAttrs_list PySem.F.slot_list_pop PySem.F.type_list_pop mt_pop (pv 1)))
      (pss_one (ps_if (PW.pt (pw_or (pt_cmpR op_eq (pv 4) pe_str (nomark _)) (pw_or1 (pt_cmpR op_eq (pv 4) pe_str (nomark _))))) (pss_one (ps_expr (pe_bm PySem.F.plainAttrs_list PySem.F.slot_list_append PySem.F.type_list_append mt_append (pv 1) (pa_cons (pe_tup (pa_cons (pv 4) (pa_cons (pv 5) pa_nil))) pa_nil)))) (pss_one (ps_expr (pe_bm PySem.F.plainAttrs_list PySem.F.slot_list_append PySem.F.type_list_append mt_append (pv 1) (pa_cons (pe_tup (pa_cons (pv 4) (pa_cons (pe_bm0 PySem.F.plainAttrs_list PySem.F.slot_list_pop PySem.F.type_list_pop mt_pop (pv 1)) (pa_cons (pv 5) pa_nil)))) pa_nil)))))))))), ?_⟩
  generalize hσ : L2.start _ _ = σ0
  have hσ : σ0 = [some (.ref pw), some (.ref pz), some (.int (l : Int)), none, none, none] := hσ.symm
  subst hσ
  have hz := line_eq
  refine while_of (fun σ H' => Q .non H')
    (fun m σ H' => ∃ (fs1 : List Fq) (ws1 us1 : List V) (v1 : V) (t1 : Tr) (x3 x4 x5 : Option V), σ = [some (.ref pw), some (.ref pz), some (.int (l : Int)), x3, x4, x5] ∧ m = fs1.length ∧ But2 pw pz H H' ∧ H' pw = some (.lst ws1) ∧ WtR H' (waitsOf fs1) ws1 ∧ ws1.length ≤ 200000 ∧ (∀ f ∈ fs1, FqOk f) ∧
      H' pz = some (.lst (us1 ++ [v1])) ∧ RelTs H' (valsOf fs1) us1 ∧ us1.length ≤ us.length ∧ RelT H' t1 v1 ∧ popQ l fs1 t1 = popQ l fs t)
    fs.length ⟨fs, ws, us, v, t, _, _, _, rfl, rfl, But2.refl _ _ _, hpw, hws, hwl, hok, hpz, hus, Nat.le_refl _, hrt, rfl⟩ (fun σ H' h => h) ?_
  rintro NX nx m σ H1 ⟨fs1, ws1, us1, v1, t1, x3, x4, x5, rfl, rfl, b1, hpw1, hws1, hwl1, hok1, hpz1, hus1, hul1, hrt1, hpop⟩
  cases fs1 with
  | nil =>
    have e : ws1 = [] := List.eq_nil_of_length_eq_zero (by rw [hws1.len]; rfl)
    subst e
    refine ⟨_, rfl, false, .inl ⟨[], SqL.of hpw1, rfl⟩, ?_⟩
    exact iteF (iteF (nx _ _ (hq H1 [] us1 v1 b1 hpw1 (by rw [← hpop]; exact rfl) hpz1 (by rw [← hpop]; exact hus1) hul1 (by rw [← hpop]; exact hrt1))))
  | cons f fs1 =>
    obtain ⟨ws2, aw, rfl, haw, hws2⟩ := WtR.last hws1
    have hok2 := hok1 f List.mem_cons_self
    refine ⟨_, rfl, true, .inl ⟨_, SqL.of hpw1, (by cases ws2 <;> rfl)⟩, iteT ?_⟩
    refine ⟨_, rfl, _, rfl, pw, _, _, _, rfl, rfl, SqL.of hpw1, atI_last _ _, aw, _, _, _, rfl, rfl, SqT.of haw, atI_nat (j := 0) rfl, ?_⟩
    refine ⟨_, rfl, _, _, rfl, rfl, _, rfl, ?_⟩
    refine ited (fun h1 => ?_) (fun h1 => ?_)
    rotate_left
    · have e : popQ l (f :: fs1) t1 = (f :: fs1, t1) := by
        rw [popQ, if_neg (by omega)]
      rw [e] at hpop
      exact nx _ _ (hq H1 _ us1 v1 b1 hpw1 (by rw [← hpop]; exact hws1) hpz1 (by rw [← hpop]; exact hus1) hul1 (by rw [← hpop]; exact hrt1))
    have e : popQ l (f :: fs1) t1 = popQ l fs1 (putQ f t1) := by
      rw [popQ, if_pos (by omega)]
    rw [e] at hpop
    refine ⟨fun σ' H' => ∃ (ws1 us1 : List V) (v1 : V) (x3 x4 x5 : Option V), σ' = [some (.ref pw), some (.ref pz), some (.int (l : Int)), x3, x4, x5] ∧ But2 pw pz H H' ∧ H' pw = some (.lst ws1) ∧ WtR H' (waitsOf fs1) ws1 ∧ ws1.length ≤ 200000 ∧
      H' pz = some (.lst (us1 ++ [v1])) ∧ RelTs H' (valsOf fs1) us1 ∧ us1.length ≤ us.length ∧ RelT H' (putQ f t1) v1, fun σ' H' ⟨ws1, us1, v1, x3, x4, x5, h1, h2, h3, h4, h5, h6, h7, h8, h9⟩ => ⟨fs1.length, Nat.lt_succ_self _, fs1, ws1, us1, v1, putQ f t1, x3, x4, x5, h1, rfl, h2, h3, h4, h5, (fun g hg => hok1 g (List.mem_cons_of_mem _ hg)), h6, h7, h8, h9, hpop⟩, ?_⟩
    have naw : aw ≠ pw := by rintro rfl; rw [hpw1] at haw; cases haw
    have naz : aw ≠ pz := by rintro rfl; rw [hpz1] at haw; cases haw
    refine ⟨_, rfl, .inl ⟨rfl, _, SqL.of hpw1⟩, pw, _, _, rfl, rfl, hpw1, (by rw [List.length_append, List.length_singleton, Nat.add_sub_cancel]; exact List.getElem?_concat_length), ?_⟩
    rw [List.dropLast_concat]
    have b2 : But2 pw pz H1 (upd H1 pw (.lst ws2)) := But2.l
    have hpw2 : (upd H1 pw (.lst ws2)) pw = some (.lst ws2) := upd_same
    have hpz2 : (upd H1 pw (.lst ws2)) pz = some (.lst (us1 ++ [v1])) := by rw [upd_ne (Ne.symm hne)]; exact hpz1
    have haw2 : (upd H1 pw (.lst ws2)) aw = some _ := (upd_ne naw).trans haw
    have k2 : TupK H1 (upd H1 pw (.lst ws2)) := TupK.set hpw1
    have hws3 := hws2.keep k2
    have hus2 := hus1.keep k2
    have hrt2 := hrt1.keep k2
    have b12 := b1.trans b2
    have hwl2 : ws2.length ≤ 200000 := by rw [List.length_append] at hwl1; omega
    generalize upd H1 pw (.lst ws2) = H2 at b2 hpw2 hpz2 haw2 hws3 hus2 hrt2 b12 ⊢
    refine ⟨aw, _, rfl, SqT.of haw2, rfl, _, _, rfl, _, _, rfl, rfl, ?_⟩
    try dsimp only
    refine seq_set ?_
    refine ⟨_, rfl, .inl ⟨rfl, _, SqL.of hpz2⟩, pz, _, _, rfl, rfl, hpz2, (by rw [List.length_append, List.length_singleton, Nat.add_sub_cancel]; exact List.getElem?_concat_length), ?_⟩
    rw [List.dropLast_concat]
    have b3 : But2 pw pz H2 (upd H2 pz (.lst us1)) := But2.r
    have hpw3 : (upd H2 pz (.lst us1)) pw = some (.lst ws2) := by rw [upd_ne hne]; exact hpw2
    have hpz3 : (upd H2 pz (.lst us1)) pz = some (.lst us1) := upd_same
    have k3 : TupK H2 (upd H2 pz (.lst us1)) := TupK.set hpz2
    have hws4 := hws3.keep k3
    have hus3 := hus2.keep k3
    have hrt3 := hrt2.keep k3
    have b13 := b12.trans b3
    generalize upd H2 pz (.lst us1) = H3 at b3 hpw3 hpz3 hws4 hus3 hrt3 b13 ⊢
    have fin : ∀ (q' : Addr) (zs : List V), H3 q' = none → RelTs (upd (upd H3 q' (.tup zs)) pz (.lst (us1 ++ [.ref q']))) [putQ f t1] [.ref q'] → valsOf (f :: fs1) = valsOf fs1 → ∃ (ws5 us5 : List V) (v5 : V) (y3 y4 y5 : Option V), [some (V.ref pw), some (V.ref pz), some (V.int (l : Int)), some (V.int ((pairQ f).1 : Int)), some (pairQ f).2, some v1] = [some (.ref pw), some (.ref pz), some (.int (l : Int)), y3, y4, y5] ∧ But2 pw pz H (upd (upd H3 q' (.tup zs)) pz (.lst (us1 ++ [.ref q']))) ∧ (upd (upd H3 q' (.tup zs)) pz (.lst (us1 ++ [.ref q']))) pw = some (.lst ws5) ∧ WtR (upd (upd H3 q' (.tup zs)) pz (.lst (us1 ++ [.ref q']))) (waitsOf fs1) ws5 ∧ ws5.length ≤ 200000 ∧
        (upd (upd H3 q' (.tup zs)) pz (.lst (us1 ++ [.ref q']))) pz = some (.lst (us5 ++ [v5])) ∧ RelTs (upd (upd H3 q' (.tup zs)) pz (.lst (us1 ++ [.ref q']))) (valsOf fs1) us5 ∧ us5.length ≤ us.length ∧ RelT (upd (upd H3 q' (.tup zs)) pz (.lst (us1 ++ [.ref q']))) (putQ f t1) v5 := fun q' zs n4 hr e3 => by
      obtain ⟨m1, m2, m3, m4, m5⟩ := list_push (zs := zs) hne b13 hpw3 hpz3 n4
      exact ⟨ws2, us1, .ref q', _, _, _, rfl, m1, m2, hws4.keep m4, hwl2, m3, (e3 ▸ hus3).keep m4, hul1, rels_last hr⟩
    have hu1 : us1.length ≤ 200000 := by omega
    rcases f with _ | ⟨w1, l1⟩ | _
    · refine ⟨_, rfl, rfl, _, rfl, ?_⟩
      refine ited (fun z => absurd z (by decide +kernel)) (fun _ => ?_)
      refine ⟨_, rfl, rfl, _, rfl, ?_⟩
      refine ited (fun _ => ?_) (fun z => absurd rfl z)
      refine ⟨_, rfl, .inl ⟨rfl, _, SqL.of hpz3⟩, ?_⟩
      refine ⟨_, rfl, _, rfl, (by show 2 ≤ _; omega), fun a9 n9 => ?_⟩
      have n9p : (upd H3 a9 (.tup [V.str (Str.ofString "minus"), v1])) pz = some (.lst us1) := (upd_ne (ne_of_none hpz3 n9)).trans hpz3
      refine ⟨pz, us1, _, rfl, rfl, n9p, (by show us1.length < _; omega), ?_⟩
      obtain ⟨m1, m2, m3, m4, m5⟩ := list_push (zs := [V.str (Str.ofString "minus"), v1]) hne b13 hpw3 hpz3 n9
      refine fin a9 _ n9 (rel_tup m5 ?_) rfl
      rw [litW]
      exact rel_word (rels_one (hrt3.keep m4))
    · obtain ⟨lw, e1, e2, n1, n2⟩ := op_not_word (show level w1 ≠ 0 from hok2)
      obtain ⟨us2, u2, rfl, hus4, hu2⟩ := rels_snoc (show RelTs H3 (valsOf fs1 ++ [l1]) us1 from hus3)
      rw [show (pairQ (some (.bin w1 l1))).2 = .str (S lw) from e1]
      refine ⟨_, rfl, rfl, _, rfl, ?_⟩
      refine ited (fun z => absurd (eq_lit.mp z) n1) (fun _ => ?_)
      refine ⟨_, rfl, rfl, _, rfl, ?_⟩
      refine ited (fun z => absurd (eq_lit.mp z) n2) (fun _ => ?_)
      refine ⟨_, rfl, .inl ⟨rfl, _, SqL.of hpz3⟩, ?_⟩
      refine ⟨_, rfl, _, rfl, .inl ⟨rfl, _, SqL.of hpz3⟩, pz, _, _, rfl, rfl, hpz3, (by rw [List.length_append, List.length_singleton, Nat.add_sub_cancel]; exact List.getElem?_concat_length), ?_⟩
      rw [List.dropLast_concat]
      have b4 : But2 pw pz H3 (upd H3 pz (.lst us2)) := But2.r
      have hpw4 : (upd H3 pz (.lst us2)) pw = some (.lst ws2) := by rw [upd_ne hne]; exact hpw3
      have hpz4 : (upd H3 pz (.lst us2)) pz = some (.lst us2) := upd_same
      have k4 : TupK H3 (upd H3 pz (.lst us2)) := TupK.set hpz3
      have hws5 := hws4.keep k4
      have hus5 := hus4.keep k4
      have hu5 := hu2.keep k4
      have hrt4 := hrt3.keep k4
      have b14 := b13.trans b4
      have hu6 : us2.length ≤ 200000 ∧ us2.length ≤ us.length := by rw [List.length_append] at hu1 hul1; omega
      clear fin hus3
      generalize upd H3 pz (.lst us2) = H4 at b4 hpw4 hpz4 hws5 hus5 hu5 hrt4 b14 ⊢
      refine ⟨_, rfl, (by show 3 ≤ _; omega), fun a9 n9 => ?_⟩
      have n9p : (upd H4 a9 (.tup [V.str (S lw), u2, v1])) pz = some (.lst us2) := (upd_ne (ne_of_none hpz4 n9)).trans hpz4
      refine ⟨pz, us2, _, rfl, rfl, n9p, (by show us2.length < _; omega), ?_⟩
      obtain ⟨m1, m2, m3, m4, m5⟩ := list_push (zs := [V.str (S lw), u2, v1]) hne b14 hpw4 hpz4 n9
      refine ⟨ws2, us2, .ref a9, _, _, _, rfl, m1, m2, hws5.keep m4, hwl2, m3, hus5.keep m4, hu6.2, rels_last (rel_tup (ts := [wdT w1.wd, l1, t1]) m5 ?_)⟩
      rw [e2, RelTs]
      refine ⟨_, _, rfl, by rw [RelT], ?_⟩
      rw [RelTs]
      exact ⟨_, _, rfl, hu5.keep m4, rels_one (hrt4.keep m4)⟩
    · refine ⟨_, rfl, rfl, _, rfl, ?_⟩
      refine ited (fun _ => ?_) (fun z => absurd rfl z)
      refine ⟨_, rfl, .inl ⟨rfl, _, SqL.of hpz3⟩, ?_⟩
      refine ⟨_, rfl, _, rfl, (by show 2 ≤ _; omega), fun a9 n9 => ?_⟩
      have n9p : (upd H3 a9 (.tup [V.str (Str.ofString "not"), v1])) pz = some (.lst us1) := (upd_ne (ne_of_none hpz3 n9)).trans hpz3
      refine ⟨pz, us1, _, rfl, rfl, n9p, (by show us1.length < _; omega), ?_⟩
      obtain ⟨m1, m2, m3, m4, m5⟩ := list_push (zs := [V.str (Str.ofString "not"), v1]) hne b13 hpw3 hpz3 n9
      refine fin a9 _ n9 (rel_tup m5 ?_) rfl
      rw [litW]
      exact rel_word (rels_one (hrt3.keep m4))
end
end Wk
set_option maxRecDepth 100000
set_option maxHeartbeats 8000000
namespace Wk
open PySem L2 TL PyProof.Rows Gm Gr
open SX (S S_len)
/-- frames with k minus signs on top -/
def emb (fs : List (Fr Tk Tr)) (k : Nat) : List Fq := List.replicate k none ++ fs.map some
/-- an operand with its minus signs has been read -/
def aft (d N : Nat) (fs : List (Fr Tk Tr)) (t : Tr) : Gr.P Tr := fun r => match settleP (Gr.G (inn d)) r fs t with
  | .stop x => x
  | .cont fs2 r4 => runP (Gr.G (inn d)) N fs2 r4
def StH (d N : Nat) (fs : List (Fr Tk Tr)) (k : Nat) : Gr.P Tr := fun toks => if k = 0 then runP (Gr.G (inn d)) (N + 1) fs toks else bind (hiK (inn d) k toks) (aft d N fs)
theorem level_3 (t : Tk) : level t ≠ 3 := by
  unfold level
  cases e : levelS.find? fun q => isW q.1 t with
  | none => show (0 : Nat) ≠ 3; omega
  | some q =>
    have : ∀ q ∈ levelS, q.2 ≠ 3 := by decide +kernel
    exact this q (List.mem_of_find?_eq_some e)
theorem runP_high {d N : Nat} {fs : List (Fr Tk Tr)} {toks : List Tk} (h : ¬ (hd "not" toks = true ∧ cur (Gr.G (inn d)) fs ≤ 3)) : runP (Gr.G (inn d)) (N + 1) fs toks = bind (hiK (inn d) 0 toks) (aft d N fs) := by
  have hn : ¬ (noH (Gr.G (inn d)) toks && decide (cur (Gr.G (inn d)) fs ≤ 3)) = true := by
    rw [Bool.and_eq_true]
    intro z
    refine h ⟨?_, of_decide_eq_true z.2⟩
    cases toks with
    | nil => cases z.1
    | cons t r => exact z.1
  rw [runP, if_neg hn, hiK_0]
  cases hiK (inn d) 0 toks with
  | out => rfl
  | bad b => rfl
  | ok t r =>
    show _ = aft d N fs t r
    unfold aft
    dsimp only
    cases settleP (Gr.G (inn d)) r fs t <;> rfl
theorem StH_not {d N : Nat} {fs : List (Fr Tk Tr)} {t : Tk} {r : List Tk} (h : isW "not" t = true) (hc : cur (Gr.G (inn d)) fs ≤ 3) : StH d N fs 0 (t :: r) = runP (Gr.G (inn d)) N (.no :: fs) r := by
  unfold StH
  have hn : (noH (Gr.G (inn d)) (t :: r) && decide (cur (Gr.G (inn d)) fs ≤ 3)) = true := by
    rw [Bool.and_eq_true]
    exact ⟨h, decide_eq_true hc⟩
  rw [if_pos rfl, runP, if_pos hn]; rfl
theorem StH_bad {d N k : Nat} {fs : List (Fr Tk Tr)} {t : Tk} {r : List Tk} (h : isW "not" t = true) (hc : k ≠ 0 ∨ ¬ cur (Gr.G (inn d)) fs ≤ 3) : StH d N fs k (t :: r) = .bad (t :: r) := by
  have hh : ∀ k, hiK (inn d) k (t :: r) = .bad (t :: r) := fun k => by
    rw [hiK_end (show ¬ hd "-" (t :: r) = true from isW_other h (by decide +kernel)), opd_F]
    have hf : first (inn d) (t :: r) = .bad (t :: r) := first_no (isW_so h) fun s hs => isW_other h (by revert s; decide +kernel)
    rw [hf]; rfl
  unfold StH
  by_cases hk : k = 0
  · rw [if_pos hk, runP_high (fun z => (hc.resolve_left (fun n => n hk)) z.2), hh]; rfl
  · rw [if_neg hk, hh]; rfl
theorem StH_min {d N k : Nat} {fs : List (Fr Tk Tr)} {t : Tk} {r : List Tk} (h : isW "-" t = true) : StH d N fs k (t :: r) = StH d N fs (k + 1) r := by
  unfold StH
  rw [if_neg (Nat.succ_ne_zero k)]
  by_cases hk : k = 0
  · rw [if_pos hk, runP_high (toks := t :: r) (fun z => isW_other (s' := "not") h (by decide +kernel) (show isW "not" t = true from z.1)), hiK_min h, hk]
  · rw [if_neg hk, hiK_min h]
theorem StH_end {d N k : Nat} {fs : List (Fr Tk Tr)} {toks : List Tk} (h : ¬ hd "not" toks = true) (h2 : ¬ hd "-" toks = true) : StH d N fs k toks = bind (opd (inn d) toks) fun t r => aft d N fs (rep mkMi k t) r := by
  unfold StH
  by_cases hk : k = 0
  · rw [if_pos hk, runP_high (fun z => h z.1), hiK_end h2, bind_bind, hk]; rfl
  · rw [if_neg hk, hiK_end h2, bind_bind]; rfl
theorem On.but2 {a pw : Addr} {H0 H H' : Hp} (g : On a H0 H) (n : H0 pw = none) (b : But2 a pw H H') : On a H0 H' := fun b' o n1 h => b b' o n1 (fun z => by rw [z, n] at h; cases h) (g b' o n1 h)
theorem But2.on {a pw : Addr} {H H' : Hp} (g : On a H H') : But2 a pw H H' := fun b o n _ h => g b o n h
theorem top_cond {d : Nat} : ∀ (fs : List (Fr Tk Tr)) (k : Nat), (emb fs k = [] ∧ k = 0 ∧ cur (Gr.G (inn d)) fs ≤ 3) ∨ ∃ g rest, emb fs k = g :: rest ∧ ((3 < (pairQ g).1 ∧ (k ≠ 0 ∨ ¬ cur (Gr.G (inn d)) fs ≤ 3)) ∨ (¬ 3 < (pairQ g).1 ∧ k = 0 ∧ cur (Gr.G (inn d)) fs ≤ 3))
  | fs, k + 1 => .inr ⟨none, emb fs k, rfl, .inl ⟨(by show 3 < 7; omega), .inl (Nat.succ_ne_zero k)⟩⟩
  | [], 0 => .inl ⟨rfl, rfl, (by show 1 ≤ 3; omega)⟩
  | .no :: fs, 0 => .inr ⟨some .no, emb fs 0, rfl, .inr ⟨(by show ¬ 3 < 3; omega), rfl, (by show 3 ≤ 3; omega)⟩⟩
  | .bin w l :: fs, 0 => .inr ⟨some (.bin w l), emb fs 0, rfl, by
    have h3 := level_3 w
    by_cases h : 3 < level w
    · exact .inl ⟨h, .inr (by show ¬ level w + 1 ≤ 3; omega)⟩
    · exact .inr ⟨h, rfl, (by show level w + 1 ≤ 3; omega)⟩⟩
def sp_ahead (C BC : Addr) (d : Nat) : Sp := fun vs H Q E => ∃ (a dx q pw : Addr) (us : List V) (toks : List Tk) (el i : Nat) (H0 : Hp) (fs0 : List (Str × V)) (ws : List V) (fs : List (Fr Tk Tr)) (N : Nat) (x : R Tk Tr), vs = [.ref a, .ref pw] ∧ Sr H0 q us toks el ∧ H0 a = some (.ins C dx fs0) ∧ On a H0 H ∧ H0 pw = none ∧
  i ≤ toks.length ∧ SA C H a dx q i (60 - (d : Int)) ∧ H pw = some (.lst ws) ∧ WtR H (waitsOf (emb fs 0)) ws ∧ ws.length ≤ i ∧ (∀ f ∈ fs, FqOk (some f)) ∧ x ≠ .out ∧ x = runP (Gr.G (inn d)) (N + 1) fs (toks.drop i) ∧ (∀ r, x = .bad r → RaiseQ BC a (lineN el r) H0 E) ∧
  ∀ (H' : Hp) (i' k N' : Nat) (fs' : List (Fr Tk Tr)) (ws' : List V), But2 a pw H H' → i ≤ i' → i' ≤ toks.length → SA C H' a dx q i' (60 - (d : Int)) → H' pw = some (.lst ws') → WtR H' (waitsOf (emb fs' k)) ws' → ws'.length ≤ i' → valsOf (emb fs' k) = valsOf (emb fs 0) → (∀ f ∈ fs', FqOk (some f)) → N' ≤ N →
    x = bind (opd (inn d) (toks.drop i')) (fun t r => aft d N' fs' (rep mkMi k t) r) → Q .non H'
/-- the state between two words ahead -/
def AhW (C a dx q pw : Addr) (toks : List Tk) (d i : Nat) (H : Hp) (fs : List (Fr Tk Tr)) (N : Nat) (x : R Tk Tr) (m : Nat) (σ : L2.St) (H' : Hp) : Prop :=
  ∃ (i1 k N1 : Nat) (fs1 : List (Fr Tk Tr)) (ws1 : List V), m = toks.length - i1 ∧ σ = [some (.ref a), some (.ref pw)] ∧ But2 a pw H H' ∧ i ≤ i1 ∧ i1 ≤ toks.length ∧ SA C H' a dx q i1 (60 - (d : Int)) ∧ H' pw = some (.lst ws1) ∧ WtR H' (waitsOf (emb fs1 k)) ws1 ∧ ws1.length ≤ i1 ∧ valsOf (emb fs1 k) = valsOf (emb fs 0) ∧ (∀ f ∈ fs1, FqOk (some f)) ∧ N1 ≤ N ∧
      x = StH d N1 fs1 k (toks.drop i1)
section
variable {P : Program} {w : World} {K : PySem.W.Frag} {mg : Str → Option Value} {base : Heap}
abbrev s_take_ahead : Stmt := top 61
theorem sc_take_ahead : FnScope ["source", "waiting"] ["source", "waiting"] (defScope s_take_ahead) := ⟨rfl, rfl, rfl, by decide +kernel, rfl, by decide +kernel, by decide +kernel⟩
theorem ok_pahead {d : Nat} (T : Txt K mg) (TP : TxtP K w mg) (CC : CurT K) {BC : Addr} (M : MT P w K mg base CC BC) {f : Addr} {fd : FuncData} (F : Fun K "take_ahead" "take_ahead" s_take_ahead f fd) : FnOk P w K mg base (L2.CX P w) 5 f fd ["source", "waiting"] (sp_ahead CC.C BC d) := by
  refine F.okX sc_take_ahead (fun vs H Q E h => ?_) (fun cdv A outer s H vs Q E hr h => ?_)
  · obtain ⟨_, _, _, _, _, _, _, _, _, _, _, _, _, _, rfl, _⟩ := h; rfl
  obtain ⟨a, dx, q, pw, us, toks, el, i, H0, fs0, ws, fs, N, x, rfl, R, ha0, g0, n0, hi, ha, hpw, hws, hwl, hok, hno, hx, hbad, hq⟩ := h
  have M_kind := M.kind
  have M_take := M.take
  have M_refuse := M.refuse
  refine ⟨_, (pss_one (ps_while (passes_of rfl) (PW.pt (pw_or (pt_cmpR op_eq (pe_meth0 (pv 0) CC.cl M_kind.m M_kind.ok (hr.mono (by omega)) M_kind.b .nil pass0) pe_str (nomark _)) (pw_or1 (pt_cmpR op_eq (pe_meth0 (pv 0) CC.cl M_kind.m M_kind.ok (hr.mono (by omega)) M_kind.b .nil pass0) pe_str (nomark _))))) (pss_cons (ps_if (pt_cmpR op_eq (pe_meth0 (pv 0) CC.cl M_kind.m M_kind.ok (hr.mono (by omega)) M_kind.b .nil pass0) pe_str (nomark _)) (pss_one (ps_expr (pe_bm PySem.F.plainAttrs_list PySem.F.slot_list_append PySem.F.type_list_append mt_append (pv 1) (pa_cons (pe_tup (pa_cons (pe_glob (v := .int 7) rfl TP.mMINUS_LEVEL ⟨_, rfl⟩) (pa_cons pe_str pa_nil))) pa_nil)))) (pss_one (ps_if (PW.pt (pw_and (pt_truth (pv 1) (fun _ => rfl)) (pw_and1 (pt_cmpR op_gt (pe_ix ix_tup (pe_ix ix_list (pv 1) (pe_un un_neg pe_int) (fun _ _ => rfl)) pe_int (fun _ _ => rfl)) (pe_glob (v := .int 3) rfl TP.mNOT_LEVEL ⟨_, rfl⟩) (nomark _))))) (pss_one (ps_expr (pe_meth0 (pv 0) CC.cl M_refuse.m M_refuse.ok (hr.mono (by omega)) M_refuse.b .nil (passes_call (takes_of rfl rfl rfl rfl) (fun _ _ _ _ h => h))))) (pss_one (ps_expr (pe_bm PySem.F.plainAttrs_list PySem.F.slot_list_append PySem.F.type_list_append mt_append (pv 1) (pa_cons (pe_tup (pa_cons (pe_glob (v := .int 3) rfl TP.mNOT_LEVEL ⟨_, rfl⟩) (pa_cons pe_str pa_nil))) pa_nil)))))))
      (pss_one (ps_expr (pe_meth0 (pv 0) CC.cl M_take.m M_take.ok (hr.mono (by omega)) M_take.b .nil (passes_call (takes_of rfl rfl rfl rfl) (fun _ _ _ _ h => h)))))))), ?_⟩
  generalize hσ : L2.start _ _ = σ0
  have hσ : σ0 = [some (.ref a), some (.ref pw)] := hσ.symm
  subst hσ
  have hz := line_eq
  have hln := R.n
  have npa : pw ≠ a := fun z => by rw [z, ha0] at n0; cases n0
  refine while_of (fun σ H' => Q .non H')
    (AhW CC.C a dx q pw toks d i H fs N x)
    (toks.length - i) ⟨i, 0, N, fs, ws, rfl, rfl, But2.refl _ _ _, Nat.le_refl _, hi, ha, hpw, hws, hwl, rfl, hok, Nat.le_refl _, hx⟩ (fun σ H' h => h) ?_
  rintro NX nx m σ H1 ⟨i1, k, N1, fs1, ws1, rfl, rfl, b1, hi1, hl1, ha1, hpw1, hws1, hwl1, hv1, hok1, hN1, hx1⟩
  have g1 := g0.but2 n0 b1
  obtain ⟨fsA, hfs, lk, lt, le, lr, lb⟩ := SA.fs ha1
  have R1 := R.on g1 ha0
  have kind : ∀ {Rk : VK}, Rk (.str (S (kindN (toks.drop i1)))) H1 → sp_kind CC.C [.ref a] H1 Rk E0 := fun h => ⟨a, dx, q, us, toks, el, i1, _, rfl, R1, hl1, ha1, h⟩
  have hcm : ∀ s ∈ wordsS, (hd s (toks.drop i1) = true ↔ kindN (toks.drop i1) = codes s) := fun s hs => kind_hd hs (kd_of R i1)
  refine ⟨_, rfl, a, dx, fsA, rfl, hfs, lk, ?_⟩
  dsimp only [tNil, tCons]
  refine kind ?_
  refine ⟨rfl, _, rfl, ?_⟩
  -- behind the test
  have wordQ : ∀ s : String, s ∈ ["not", "-"] → s ∈ wordsS ∧ codes s ∉ opens ∧ codes s ∉ closes := by decide +kernel
  -- a frame more
  have lay : ∀ (g : Fq) (fs2 : List (Fr Tk Tr)) (k2 : Nat) (a9 : Addr), H1 a9 = none → emb fs2 k2 = g :: emb fs1 k →
      But2 a pw H (upd (upd H1 a9 (.tup [V.int ((pairQ g).1 : Int), (pairQ g).2])) pw (.lst (ws1 ++ [.ref a9]))) ∧ SA CC.C (upd (upd H1 a9 (.tup [V.int ((pairQ g).1 : Int), (pairQ g).2])) pw (.lst (ws1 ++ [.ref a9]))) a dx q i1 (60 - (d : Int)) ∧
      (upd (upd H1 a9 (.tup [V.int ((pairQ g).1 : Int), (pairQ g).2])) pw (.lst (ws1 ++ [.ref a9]))) pw = some (.lst (ws1 ++ [.ref a9])) ∧ WtR (upd (upd H1 a9 (.tup [V.int ((pairQ g).1 : Int), (pairQ g).2])) pw (.lst (ws1 ++ [.ref a9]))) (waitsOf (emb fs2 k2)) (ws1 ++ [.ref a9]) := by
    intro g fs2 k2 a9 n9 he
    obtain ⟨m1, m2, m3, m4, m5⟩ := list_push (pw := a) (pz := pw) (H0 := H) (zs := [V.int ((pairQ g).1 : Int), (pairQ g).2]) npa.symm b1 ha1 hpw1 n9
    refine ⟨m1, m2, m3, ?_⟩
    rw [he]
    exact (hws1.keep m4).snoc m5
  -- what is done in a turn
  have turn : ∀ s : String, s ∈ ["not", "-"] → kindN (toks.drop i1) = codes s → ∀ (tb : TS), (∀ NX2 : L2.St → Hp → Prop, (∀ σ H', (σ = [some (.ref a), some (.ref pw)] ∧ But2 a pw H H' ∧ SA CC.C H' a dx q i1 (60 - (d : Int)) ∧ ∃ (fs2 : List (Fr Tk Tr)) (k2 N2 : Nat) (ws2 : List V), H' pw = some (.lst ws2) ∧ WtR H' (waitsOf (emb fs2 k2)) ws2 ∧ ws2.length ≤ i1 + 1 ∧ valsOf (emb fs2 k2) = valsOf (emb fs 0) ∧ (∀ f ∈ fs2, FqOk (some f)) ∧ N2 ≤ N ∧ x = StH d N2 fs2 k2 (toks.drop (i1 + 1))) → NX2 σ H') → ∀ N' bk, tb { nx := NX2, rt := Q, bk := bk, ct := N' } [some (.ref a), some (.ref pw)] H1) →
      ∃ N' : L2.St → Hp → Prop, (∀ σ' H', N' σ' H' → ∃ m', m' < toks.length - i1 ∧ AhW CC.C a dx q pw toks d i H fs N x m' σ' H') ∧ tSeq tb (tDrop (tMeth CC.C "take" (sp_take CC.C BC) [] E (tVar 0) tNil)) { nx := N', rt := Q, bk := NX, ct := N' } [some (.ref a), some (.ref pw)] H1 := by
    intro s hs hk tb htb
    refine ⟨fun σ' H' => ∃ m', m' < toks.length - i1 ∧ AhW CC.C a dx q pw toks d i H fs N x m' σ' H', fun _ _ h => h, ?_⟩
    refine seq_join _ ?_ (fun NX2 nx2 => htb NX2 nx2 _ _)
    rintro σ H2 ⟨rfl, b2, ha2, fs2, k2, N2, ws2, hpw2, hws2, hwl2, hv2, hok2, hN2, hx2⟩
    obtain ⟨fsB, hfsB, lkB, ltB, leB, lrB, lbB⟩ := SA.fs ha2
    refine ⟨_, rfl, a, dx, fsB, rfl, hfsB, ltB, ?_⟩
    dsimp only [tNil, tCons]
    refine PC.take (as := []) (vs := []) R ha0 (g0.but2 n0 b2) ha2 (by rw [RelTs]) hk (wordQ s hs).1 (wordQ s hs).2.1 (wordQ s hs).2.2 fun hlt H3 hw g3 ha3 _ => ?_
    exact ⟨toks.length - (i1 + 1), by omega, i1 + 1, k2, N2, fs2, ws2, rfl, rfl, b2.trans (But2.on g3), by omega, hlt, ha3, g3 _ _ npa hpw2, hws2.keep (TupK.on g3 hfsB), hwl2, hv2, hok2, hN2, hx2⟩
  refine ited (fun h1 => ?_) (fun h1 => ?_)
  · -- not
    have h1 := eq_lit.mp h1
    obtain ⟨hlt, hw⟩ := kindb R (by decide +kernel) h1
    rw [drop_at hlt] at hx1
    refine iteT (turn "not" (by decide) h1 _ fun NX2 nx2 N' bk => ?_)
    refine ⟨_, rfl, a, dx, fsA, rfl, hfs, lk, ?_⟩
    dsimp only [tNil, tCons]
    refine kind ⟨rfl, _, rfl, ?_⟩
    refine ited (fun z => absurd (h1.symm.trans (eq_lit.mp z)) (by decide +kernel)) (fun _ => ?_)
    -- it is refused
    have refuse : (k ≠ 0 ∨ ¬ cur (Gr.G (inn d)) fs1 ≤ 3) → tDrop (tMeth CC.C "refuse" (sp_refuse CC.C BC) [] E (tVar 0) tNil) { nx := NX2, rt := Q, bk := bk, ct := N' } [some (.ref a), some (.ref pw)] H1 := fun hc => by
      rw [StH_bad hw hc, ← drop_at hlt] at hx1
      refine ⟨_, rfl, a, dx, fsA, rfl, hfs, lr, ?_⟩
      dsimp only [tNil, tCons]
      refine ⟨a, dx, q, us, toks, el, i1, _, rfl, R1, hl1, ha1, ?_⟩
      exact RaiseQ.on (hbad _ hx1) g1
    -- it is laid
    have put : k = 0 → cur (Gr.G (inn d)) fs1 ≤ 3 → (tDrop (tBM (cxOf (CX P w) P w K mg base ["source", "waiting"] "take_ahead" (defScope s_take_ahead) f cdv A outer s H E).K "list" rAppend (tVar 1) (tCons (tTup (tCons (tC (V.int 3)) (tCons (tC (V.str "not")) tNil))) tNil))) { nx := NX2, rt := Q, bk := bk, ct := N' } [some (.ref a), some (.ref pw)] H1 := fun hk0 hc => by
      subst hk0
      rw [StH_not hw hc] at hx1
      have hno1 := hno
      obtain ⟨N2, rfl⟩ : ∃ N2, N1 = N2 + 1 := by
        cases N1 with
        | zero => rw [hx1, runP] at hno1; exact absurd rfl hno1
        | succ n => exact ⟨n, rfl⟩
      refine ⟨_, rfl, .inl ⟨rfl, _, SqL.of hpw1⟩, (by show 2 ≤ _; omega), fun a9 n9 => ?_⟩
      have n9p := (upd_ne (H := H1) (o := .tup [V.int 3, V.str "not"]) (ne_of_none hpw1 n9)).trans hpw1
      refine ⟨pw, ws1, _, rfl, rfl, n9p, (by show ws1.length < _; omega), ?_⟩
      obtain ⟨m1, m2, m3, m4⟩ := lay (some .no) (.no :: fs1) 0 a9 n9 rfl
      exact nx2 _ _ ⟨rfl, m1, m2, .no :: fs1, 0, N2, _, m3, m4, by rw [List.length_append, List.length_singleton]; omega, hv1, (fun f hf => by
        rcases List.mem_cons.mp hf with rfl | hf
        · trivial
        · exact hok1 f hf), by omega, hx1⟩
    rcases top_cond (d := d) fs1 k with ⟨e, hk0, hc⟩ | ⟨g, rest, e, h3⟩
    · rw [e] at hws1
      have e1 : ws1 = [] := hws1
      subst e1
      refine ⟨_, rfl, false, .inl ⟨[], SqL.of hpw1, rfl⟩, iteF (iteF (put hk0 hc))⟩
    · rw [e] at hws1
      obtain ⟨ws2, aw, rfl, haw, hws2⟩ := WtR.last hws1
      refine ⟨_, rfl, true, .inl ⟨_, SqL.of hpw1, (by cases ws2 <;> rfl)⟩, iteT ?_⟩
      refine ⟨_, rfl, _, rfl, pw, _, _, _, rfl, rfl, SqL.of hpw1, atI_last _ _, aw, _, _, _, rfl, rfl, SqT.of haw, atI_nat (j := 0) rfl, ?_⟩
      refine ⟨_, _, rfl, rfl, _, rfl, ?_⟩
      refine ited (fun h4 => ?_) (fun h4 => ?_)
      · rcases h3 with h3 | h3
        · exact refuse h3.2
        · exact absurd h3.1 (by omega)
      · rcases h3 with h3 | h3
        · exact absurd h3.1 (by omega)
        · exact put h3.2.1 h3.2.2
  · have h1 : kindN (toks.drop i1) ≠ codes "not" := fun z => h1 (eq_lit.mpr z)
    refine ⟨_, rfl, a, dx, fsA, rfl, hfs, lk, ?_⟩
    dsimp only [tNil, tCons]
    refine kind ⟨rfl, _, rfl, ?_⟩
    refine ited (fun h2 => ?_) (fun h2 => ?_)
    rotate_left
    · have h2 : kindN (toks.drop i1) ≠ codes "-" := fun z => h2 (eq_lit.mpr z)
      rw [StH_end (fun z => h1 ((hcm _ (by decide +kernel)).mp z)) (fun z => h2 ((hcm _ (by decide +kernel)).mp z))] at hx1
      exact nx _ _ (hq H1 i1 k N1 fs1 ws1 b1 hi1 hl1 ha1 hpw1 hws1 hwl1 hv1 hok1 hN1 hx1)
    have h2 := eq_lit.mp h2
    obtain ⟨hlt, hw⟩ := kindb R (by decide +kernel) h2
    rw [drop_at hlt, StH_min hw] at hx1
    refine turn "-" (by decide) h2 _ fun NX2 nx2 N' bk => ?_
    refine ⟨_, rfl, a, dx, fsA, rfl, hfs, lk, ?_⟩
    dsimp only [tNil, tCons]
    refine kind ⟨rfl, _, rfl, ?_⟩
    refine ited (fun _ => ?_) (fun z => absurd (eq_lit.mpr h2) z)
    refine ⟨_, rfl, .inl ⟨rfl, _, SqL.of hpw1⟩, (by show 2 ≤ _; omega), fun a9 n9 => ?_⟩
    have n9p := (upd_ne (H := H1) (o := .tup [V.int 7, V.str "minus"]) (ne_of_none hpw1 n9)).trans hpw1
    refine ⟨pw, ws1, _, rfl, rfl, n9p, (by show ws1.length < _; omega), ?_⟩
    obtain ⟨m1, m2, m3, m4⟩ := lay none fs1 (k + 1) a9 n9 rfl
    exact nx2 _ _ ⟨rfl, m1, m2, fs1, k + 1, N1, _, m3, m4, by rw [List.length_append, List.length_singleton]; omega, hv1, hok1, hN1, hx1⟩
end
end Wk
set_option maxRecDepth 100000
set_option maxHeartbeats 8000000
namespace Wk
open PySem L2 TL PyProof.Rows Gm Gr
open SX (S S_len)
/-! ### expressions: the mathematics -/
theorem levels_G (p : Option In) : Levels (Gr.G p) := fun w => by
  show level w ≤ 6 ∧ level w ≠ 3
  refine ⟨?_, level_3 w⟩
  unfold level
  cases e : levelS.find? fun q => isW q.1 w with
  | none => exact Nat.zero_le _
  | some q =>
    have : ∀ q ∈ levelS, q.2 ≤ 6 := by decide +kernel
    exact this q (List.mem_of_find?_eq_some e)
theorem expr_run {p : Option In} (hp : InOk p) (toks : List Tk) : ∃ N, runP (Gr.G p) (N + 1) [] toks = expr p toks := by
  have hg := (gd_climb hp (3 * toks.length + 3)).1 1 toks (by omega)
  have hs := same_told (Gr.G p) (levels_G p) (n := 3 * toks.length + 3) (toks := toks)
  have key : ∃ N, runP (Gr.G p) N [] toks = expr p toks := by
    unfold expr
    cases e : climb (Gr.G p) (3 * toks.length + 3) 1 toks with
    | out => rw [e] at hg; exact hg.elim
    | ok t r => exact hs.1 t r e
    | bad b => exact hs.2 b e
  obtain ⟨N, h⟩ := key
  cases N with
  | zero => exact absurd h.symm (gd_no_out (gd_expr hp toks))
  | succ n => exact ⟨n, h⟩
theorem level_mark (wd : Wd) (ln : Nat) : level ⟨.mark, wd, ln⟩ = level ⟨.key, wd, 0⟩ := rfl
theorem level_none {t : Tk} (h : ¬ (t.so = .key ∨ t.so = .mark)) : level t = 0 := by
  unfold level
  have : levelS.find? (fun q => isW q.1 t) = none := by
    refine List.find?_eq_none.mpr fun q _ z => ?_
    unfold isW at z
    rw [Bool.and_eq_true, Bool.or_eq_true, decide_eq_true_eq, decide_eq_true_eq] at z
    exact h z.1
  rw [this]; rfl
def lvI (l : List Nat) : V := (valD levelsV l).getD (.int 0)
theorem lv_val {p : Option In} {toks : List Tk} (hk : ∀ t ∈ toks, TkG t) : lvI (kindN toks) = .int ((lvH (Gr.G p) toks : Nat) : Int) := by
  have hw : ∀ s ∈ wordsS, lvI (codes s) = .int ((level ⟨.key, .s (codes s), 0⟩ : Nat) : Int) := by decide +kernel
  have h0 : ∀ s ∈ ["END", "NAME", "NUMBER", "TEXT"], lvI (codes s) = .int 0 := by decide +kernel
  cases toks with
  | nil => exact h0 "END" (by decide)
  | cons t r =>
    show _ = V.int ((level t : Nat) : Int)
    have ht := hk t List.mem_cons_self
    obtain ⟨so, wd, ln⟩ := t
    cases so with
    | name => rw [level_none (by rintro (z | z) <;> cases z)]; exact h0 "NAME" (by decide)
    | number => rw [level_none (by rintro (z | z) <;> cases z)]; exact h0 "NUMBER" (by decide)
    | text => rw [level_none (by rintro (z | z) <;> cases z)]; exact h0 "TEXT" (by decide)
    | key =>
      obtain ⟨s, hs, e⟩ := ht.1 rfl
      have e : wd = .s (codes s) := e
      subst e
      exact hw s (List.mem_append_left _ hs)
    | mark =>
      obtain ⟨s, hs, e⟩ := ht.2 rfl
      have e : wd = .s (codes s) := e
      subst e
      rw [level_mark]
      exact hw s (List.mem_append_right _ hs)
theorem inV_ints (n : Nat) (ks : List Nat) : inV (.int (n : Int)) (ks.map fun k : Nat => V.int (k : Int)) = decide (n ∈ ks) := by
  rw [Bool.eq_iff_iff]
  unfold inV
  rw [List.any_eq_true, decide_eq_true_eq]
  constructor
  · rintro ⟨y, hy, e⟩
    obtain ⟨k, hk, rfl⟩ := List.mem_map.mp hy
    have : (k : Int) = n := by
      have e' : decide ((k : Int) = n) = true := by simpa [eqV] using e
      exact of_decide_eq_true e'
    have : k = n := by omega
    rw [← this]; exact hk
  · intro h
    exact ⟨_, List.mem_map.mpr ⟨n, h, rfl⟩, by simp [eqV]⟩
theorem flat_ints (ks : List Nat) : (ks.map fun k : Nat => V.int (k : Int)).all flatV = true := by
  rw [List.all_eq_true]
  intro y hy
  obtain ⟨k, _, rfl⟩ := List.mem_map.mp hy
  rfl
theorem emb_len (fs : List (Fr Tk Tr)) (k : Nat) : (emb fs k).length = k + fs.length := by
  unfold emb
  rw [List.length_append, List.length_replicate, List.length_map]
theorem vals_le : ∀ fs : List Fq, (valsOf fs).length ≤ fs.length
  | [] => Nat.le_refl _
  | some (.bin _ _) :: fs => by
    have := vals_le fs
    rw [valsOf, List.length_append]; simp only [List.length_cons, List.length_nil]; omega
  | some .no :: fs => by
    have := vals_le fs
    show (valsOf fs).length ≤ _
    rw [List.length_cons]; omega
  | none :: fs => by
    have := vals_le fs
    show (valsOf fs).length ≤ _
    rw [List.length_cons]; omega
theorem mem_waits {n : Nat} (hn : n ≠ 7) : ∀ (fs : List (Fr Tk Tr)) (k : Nat) {p : Option In}, (n ∈ (waitsOf (emb fs k)).map Prod.fst ↔ n ∈ fs.map (lvF (Gr.G p)))
  | fs, k + 1, p => by
    have ih := mem_waits hn fs k (p := p)
    show n ∈ (waitsOf (emb fs k) ++ [pairQ none]).map Prod.fst ↔ _
    rw [List.map_append, List.mem_append, ih]
    constructor
    · rintro (h | h)
      · exact h
      · exact absurd (List.mem_singleton.mp h) hn
    · exact .inl
  | [], 0, p => Iff.rfl
  | .no :: fs, 0, p => by
    have ih := mem_waits hn fs 0 (p := p)
    show n ∈ (waitsOf (emb fs 0) ++ [pairQ (some .no)]).map Prod.fst ↔ n ∈ 3 :: fs.map (lvF (Gr.G p))
    rw [List.map_append, List.mem_append, ih, List.mem_cons, List.map_cons, List.map_nil, List.mem_singleton]
    exact Or.comm
  | .bin w l :: fs, 0, p => by
    have ih := mem_waits hn fs 0 (p := p)
    show n ∈ (waitsOf (emb fs 0) ++ [pairQ (some (.bin w l))]).map Prod.fst ↔ n ∈ level w :: fs.map (lvF (Gr.G p))
    rw [List.map_append, List.mem_append, ih, List.mem_cons, List.map_cons, List.map_nil, List.mem_singleton]
    exact Or.comm
theorem rep_comm (t : Tr) : ∀ k, rep mkMi k (mkMi t) = rep mkMi (k + 1) t
  | 0 => rfl
  | k + 1 => congrArg mkMi (rep_comm t k)
theorem popQ_some {p : Option In} {l : Nat} : ∀ (fs : List (Fr Tk Tr)) (t : Tr), popQ l (fs.map some) t = ((pop (Gr.G p) l fs t).1.map some, (pop (Gr.G p) l fs t).2)
  | [], t => rfl
  | .bin w u :: fs, t => by
    show (if l ≤ level w then popQ l (fs.map some) (.t [wdT w.wd, u, t]) else _) = _
    rw [pop]
    by_cases h : l ≤ level w
    · rw [if_pos h, if_pos (show l ≤ lvF (Gr.G p) (.bin w u) from h), popQ_some fs _]; rfl
    · rw [if_neg h, if_neg (show ¬ l ≤ lvF (Gr.G p) (.bin w u) from h)]; rfl
  | .no :: fs, t => by
    show (if l ≤ 3 then popQ l (fs.map some) (.t [Gr.w "not", t]) else _) = _
    rw [pop]
    by_cases h : l ≤ 3
    · rw [if_pos h, if_pos (show l ≤ lvF (Gr.G p) (.no : Fr Tk Tr) from h), popQ_some fs _]; rfl
    · rw [if_neg h, if_neg (show ¬ l ≤ lvF (Gr.G p) (.no : Fr Tk Tr) from h)]; rfl
theorem popQ_emb {p : Option In} {l : Nat} (hl : l ≤ 7) : ∀ (k : Nat) (fs : List (Fr Tk Tr)) (t : Tr), popQ l (emb fs k) t = (emb (pop (Gr.G p) l fs (rep mkMi k t)).1 0, (pop (Gr.G p) l fs (rep mkMi k t)).2)
  | 0, fs, t => popQ_some fs t
  | k + 1, fs, t => by
    show (if l ≤ 7 then popQ l (emb fs k) (mkMi t) else _) = _
    rw [if_pos hl, popQ_emb hl k fs _, rep_comm]
theorem FqOk_emb {fs : List (Fr Tk Tr)} (h : ∀ f ∈ fs, FqOk (some f)) (k : Nat) : ∀ f ∈ emb fs k, FqOk f := by
  intro f hf
  unfold emb at hf
  rcases List.mem_append.mp hf with hf | hf
  · rw [(List.mem_replicate.mp hf).2]; trivial
  · obtain ⟨g, hg, rfl⟩ := List.mem_map.mp hf
    exact h g hg
theorem pop_mem {p : Option In} {l : Nat} : ∀ {fs : List (Fr Tk Tr)} {t : Tr}, ∀ f ∈ (pop (Gr.G p) l fs t).1, f ∈ fs
  | [], _, f, h => h
  | g :: fs, t, f, h => by
    rw [pop] at h
    split at h
    · exact List.mem_cons_of_mem _ (pop_mem f h)
    · exact h
theorem pop_len {p : Option In} {l : Nat} : ∀ {fs : List (Fr Tk Tr)} {t : Tr}, (pop (Gr.G p) l fs t).1.length ≤ fs.length
  | [], _ => Nat.le_refl _
  | g :: fs, t => by
    rw [pop]
    split
    · have := pop_len (p := p) (l := l) (fs := fs) (t := put (Gr.G p) g t)
      rw [List.length_cons]; omega
    · exact Nat.le_refl _
end Wk
set_option maxRecDepth 100000
set_option maxHeartbeats 8000000
namespace Wk
open PySem L2 TL PyProof.Rows Gm Gr
open SX (S S_len)
theorem WtR.get {H : Hp} : ∀ {ps : List (Nat × V)} {vs : List V} {i : Nat} {v : V}, WtR H ps vs → vs[i]? = some v → ∃ p a, ps[i]? = some p ∧ v = .ref a ∧ H a = some (.tup [.int (p.1 : Int), p.2])
  | [], vs, i, v, h, e => by
    have h : vs = [] := h
    subst h; cases e
  | p :: ps, vs, i, v, h, e => by
    obtain ⟨a, us, rfl, h1, h2⟩ := h
    cases i with
    | zero => cases e; exact ⟨p, a, rfl, rfl, h1⟩
    | succ i => exact WtR.get (ps := ps) (i := i) h2 e
theorem On.two {a pw pz : Addr} {H0 H H' : Hp} (g : On a H0 H) (n1 : H0 pw = none) (n2 : H0 pz = none) (b : But2 pw pz H H') : On a H0 H' := fun b' o n h => b b' o (fun z => by rw [z, n1] at h; cases h) (fun z => by rw [z, n2] at h; cases h) (g b' o n h)
/-- between two turns -/
def ExW (C a dx q pw pz : Addr) (toks : List Tk) (d : Nat) (H : Hp) (x : R Tk Tr) (m : Nat) (σ : L2.St) (H' : Hp) : Prop :=
  ∃ (i1 : Nat) (fs1 : List (Fr Tk Tr)) (ws1 us1 : List V) (x3 : Option V), σ = [some (.ref a), some (.ref pw), some (.ref pz), x3, none, none] ∧ On a H H' ∧ i1 ≤ toks.length ∧ SA C H' a dx q i1 (60 - (d : Int)) ∧ H' pw = some (.lst ws1) ∧ WtR H' (waitsOf (emb fs1 0)) ws1 ∧ ws1.length ≤ i1 ∧ H' pz = some (.lst us1) ∧ RelTs H' (valsOf (emb fs1 0)) us1 ∧ (∀ f ∈ fs1, FqOk (some f)) ∧ x = runP (Gr.G (inn d)) (m + 1) fs1 (toks.drop i1)
section
variable {σ : Type} {C BC a dx q : Addr} {us : List V} {toks : List Tk} {el : Nat} {H0 : Hp} {Q : VK} {E : XK} {b0 : Int} {x : R Tk σ} {rel : Hp → σ → V → Prop} {as : List Tr} {vs : List V} {H : Hp} {fs0 : List (Str × V)}
/-- as PC.call, and where the cursor is then -/
theorem callAt {d i : Nat} {X : Gr.P Tr} {g : Tr → Gr.P σ} {Rk : VK} (R : Sr H0 q us toks el) (ha0 : H0 a = some (.ins C dx fs0)) (hq : RdQ C BC a dx q toks el b0 x rel H0 Q E) (hX : ∀ r, Gd true r (X r)) (gn : On a H0 H) (hi : i ≤ toks.length) (hp : SA C H a dx q i (60 - (d : Int))) (hr : RelTs H as vs) (ex : x = bind (X (toks.drop i)) g)
    (k : ∀ H' v t i', i < i' → i' ≤ toks.length → On a H H' → SA C H' a dx q i' (60 - (d : Int)) → RelTs H' (as ++ [t]) (vs ++ [v]) → x = g t (toks.drop i') → Rk v H') : sp_rd C BC d X RelT [.ref a] H Rk E := by
  refine ⟨a, dx, q, us, toks, el, i, rfl, R.on gn ha0, hi, hp, ?_⟩
  rcases par_three (e := d) (i := i) hX toks with ⟨t, i2, ec, l1, l2⟩ | ⟨i2, ec, l2⟩
  · rw [ec] at ex ⊢
    intro H' v g' hp' hr'
    exact k H' v t i2 l1 l2 g' (by rw [drop_len_pos l2] at hp'; exact hp') ((hr.keep (TupK.on g' hp)).snoc hr') ex
  · rw [ec] at ex ⊢
    exact raise_of hq gn ex
theorem behindAt {d i : Nat} {t : Tr} {v : V} {g : Tr → Gr.P σ} {Rk : VK} (R : Sr H0 q us toks el) (ha0 : H0 a = some (.ins C dx fs0)) (hq : RdQ C BC a dx q toks el b0 x rel H0 Q E) (gn : On a H0 H) (hi : i ≤ toks.length) (hp : SA C H a dx q i (60 - (d : Int))) (hr1 : RelTs H as vs) (hr2 : RelT H t v) (ex : x = bind (postF (inn d) t (toks.drop i)) g)
    (k : ∀ H' v t' i', i ≤ i' → i' ≤ toks.length → On a H H' → SA C H' a dx q i' (60 - (d : Int)) → RelTs H' (as ++ [t']) (vs ++ [v]) → x = g t' (toks.drop i') → Rk v H') : sp_behind C BC d [.ref a, v] H Rk E := by
  refine ⟨a, dx, q, us, toks, el, i, t, v, rfl, hr2, R.on gn ha0, hi, hp, ?_⟩
  have hg := gd_postF (in_ok d) t (toks.drop i)
  have hsuf : toks.drop i <:+ toks := List.drop_suffix i toks
  cases ec : postF (inn d) t (toks.drop i) with
  | out => rw [ec] at hg; exact hg.elim
  | bad r =>
    rw [ec] at hg ex
    have hr' : r <:+ toks := List.IsSuffix.trans hg hsuf
    have := raise_of (i := toks.length - r.length) hq gn (by rw [← suf_drop hr']; exact ex)
    rw [← suf_drop hr'] at this
    exact this
  | ok t' r =>
    rw [ec] at hg ex
    have hr' : r <:+ toks := List.IsSuffix.trans hg.1 hsuf
    have hlen := List.IsSuffix.length_le hg.1
    rw [List.length_drop] at hlen
    have hlen2 := List.IsSuffix.length_le hr'
    intro H' v g' hp' hrel
    refine k H' v t' (toks.length - r.length) (by omega) (by omega) g' hp' ((hr1.keep (TupK.on g' hp)).snoc hrel) ?_
    rw [← suf_drop hr']; exact ex
theorem rels_split {H : Hp} {t : Tr} {v : V} : ∀ {as : List Tr} {vs : List V}, as.length = vs.length → RelTs H (as ++ [t]) (vs ++ [v]) → RelTs H as vs ∧ RelT H t v := fun {as vs} _ h => by
  obtain ⟨us, u, e, h1, h2⟩ := rels_snoc h
  obtain ⟨rfl, e2⟩ := List.append_inj' e rfl
  cases e2
  exact ⟨h1, h2⟩
end
section
variable {P : Program} {w : World} {K : PySem.W.Frag} {mg : Str → Option Value} {base : Heap}
abbrev s_expression : Stmt := top 60
theorem sc_expression : FnScope ["source", "waiting", "values", "level", "waits", "_"] ["source"] (defScope s_expression) := ⟨rfl, rfl, rfl, by decide +kernel, rfl, by decide +kernel, by decide +kernel⟩
theorem ok_pexpr {d lv lb lf : Nat} (T : Txt K mg) (TP : TxtP K w mg) (CC : CurT K) {BC : Addr} (M : MT P w K mg base CC BC) (hlv : 6 ≤ lv) (hlb : lb ≤ lv) (hlf : lf ≤ lv) {f : Addr} {fd : FuncData} (F : Fun K "expression" "expression" s_expression f fd)
    (D_take_ahead : Def P w K mg base (L2.CX P w) "take_ahead" ["source", "waiting"] 5 (sp_ahead CC.C BC d)) (D_bind : Def P w K mg base (L2.CX P w) "bind" ["waiting", "values", "level"] 1 sp_bind2)
    (D_behind : DefF P w K mg base (L2.CX P w) "behind" ["source", "value"] lb (sp_behind CC.C BC d)) (D_first : DefF P w K mg base (L2.CX P w) "first" ["source"] lf (sp_rd CC.C BC d (first (inn d)) RelT)) :
    FnF P w K mg base (L2.CX P w) (lv + 1) f fd ["source"] (sp_rd CC.C BC d (expr (inn d)) RelT) := by
  refine okFX F sc_expression (fun vs H Q E h => ?_) (fun cdv A outer s H vs Q E hr hf h => ?_)
  · obtain ⟨a, _, _, _, _, _, _, rfl, _⟩ := h; rfl
  obtain ⟨a, dx, q, us, toks, el, i, rfl, R, hi, ha, hq⟩ := h
  have M_kind := M.kind
  have M_take := M.take
  have M_refuse := M.refuse
  refine ⟨_, (pss_cons (ps_set (i := 1) sc_expression.nd rfl (Or.inl rfl) (pe_lst pa_nil))
    (pss_cons (ps_set (i := 2) sc_expression.nd rfl (Or.inl rfl) (pe_lst pa_nil))
    (pss_one (ps_while (passes_of rfl) (pt_val pe_bl) (pss_cons (ps_expr (pe_callS D_take_ahead.ok (hr.mono (by omega)) rfl D_take_ahead.g D_take_ahead.k D_take_ahead.b (fun σ => passAt (takes_of rfl rfl rfl rfl) σ) (pa_cons (pv 0) (pa_cons (pv 1) pa_nil))))
      (pss_cons (ps_expr (pe_bm PySem.F.plainAttrs_list PySem.F.slot_list_append PySem.F.type_list_append mt_append (pv 2) (pa_cons (pe_callSF D_behind.ok (hf.mono (by omega)) rfl D_behind.g D_behind.k D_behind.b (fun σ => passAt (takes_of rfl rfl rfl rfl) σ) (pa_cons (pv 0) (pa_cons (pe_callSF D_first.ok (hf.mono (by omega)) rfl D_first.g D_first.k D_first.b (fun σ => passAt (takes_of rfl rfl rfl rfl) σ) (pa_cons (pv 0) pa_nil)) pa_nil))) pa_nil)))
      (pss_cons (ps_set (i := 3) sc_expression.nd rfl (Or.inl rfl) (pe_wget2 TP.dLEVELS (pe_glob (v := .ref TP.aLEVELS) rfl TP.mLEVELS rfl) (pe_meth0 (pv 0) CC.cl M_kind.m M_kind.ok (hr.mono (by omega)) M_kind.b .nil pass0) pe_int ⟨rfl, rfl, rfl, rfl⟩))
      (pss_cons (ps_if (PW.pt (pw_and (pt_cmpR op_eq (pv 3) (pe_glob (v := .int 4) rfl TP.mCOMPARING_LEVEL ⟨_, rfl⟩) (nomark _)) (pw_and1 (pt_cmpR op_in_seq (pe_glob (v := .int 4) rfl TP.mCOMPARING_LEVEL ⟨_, rfl⟩) (pe_lc (own := [("waits", 4), ("_", 5)]) (g := gTup K 2 (gCons (gName 4) (gCons (gName 5) gNil))) (tt := tYes) rfl sc_expression.nd (pi_list (pv 1)) (blkOk_by (N := ["source", "waiting", "values", "level", "waits", "_"]) (sc := defScope s_expression) (by decide +kernel)) (fun _ _ _ _ _ => (pg_tup rfl (pgs_cons (pg_name (i := 4) sc_expression.nd rfl (Or.inl rfl)) (pgs_cons (pg_name (i := 5) sc_expression.nd rfl (Or.inl rfl)) pgs_nil)))) (fun _ _ _ _ _ => pts_nil) (fun _ _ _ _ _ => (pv 4))) rfl)))) (pss_one (ps_expr (pe_meth0 (pv 0) CC.cl M_refuse.m M_refuse.ok (hr.mono (by omega)) M_refuse.b .nil (passes_call (takes_of rfl rfl rfl rfl) (fun _ _ _ _ h => h))))) pss_nil)
      (pss_cons (ps_expr (pe_callS D_bind.ok (hr.mono (by omega)) rfl D_bind.g D_bind.k D_bind.b (fun σ => passAt (takes_of rfl rfl rfl rfl) σ) (pa_cons (pv 1) (pa_cons (pv 2) (pa_cons (pv 3) pa_nil)))))
      (pss_cons (ps_if (pt_cmpR op_eq (pv 3) pe_int (nomark _)) (pss_one (ps_ret (pe_ix ix_list (pv 2) pe_int (fun _ _ => rfl)))) pss_nil)
      (pss_one (ps_expr (pe_bm PySem.F.plainAttrs_list PySem.F.slot_list_append PySem.F.type_list_append mt_append (pv 1) (pa_cons (pe_tup (pa_cons (pv 3) (pa_cons (pe_meth0 (pv 0) CC.cl M_take.m M_take.ok (hr.mono (by omega)) M_take.b .nil (passes_call (takes_of rfl rfl rfl rfl) (fun _ _ _ _ h => h))) pa_nil))) pa_nil)))))))))))))), ?_⟩
  generalize hσ : L2.start _ _ = σ0
  have hσ : σ0 = [some (.ref a), none, none, none, none, none] := hσ.symm
  subst hσ
  have hz := line_eq
  have hln := R.n
  obtain ⟨fs0, hfs0, _⟩ := SA.fs ha
  have hno : expr (inn d) (toks.drop i) ≠ .out := gd_no_out (gd_expr (in_ok d) _)
  obtain ⟨N0, hx0⟩ := expr_run (in_ok d) (toks.drop i)
  generalize hxx : expr (inn d) (toks.drop i) = x at hq hno hx0
  refine seq_set ?_
  refine ⟨Nat.zero_le _, fun pw npw => ?_⟩
  dsimp only
  refine seq_set ?_
  refine ⟨Nat.zero_le _, fun pz npz => ?_⟩
  have gw := same_new npw (.lst [])
  have gz := same_new npz (.lst [])
  have hwz : pz ≠ pw := (ne_of_none upd_same npz).symm
  have npz0 : H pz = none := by
    have h : (upd H pw (.lst [])) pz = none := npz
    rw [upd_ne hwz] at h; exact h
  have nwa : pw ≠ a := (ne_of_none hfs0 npw).symm
  have nza : pz ≠ a := (ne_of_none hfs0 npz0).symm
  refine while_of (fun _ _ => False) (ExW CC.C a dx q pw pz toks d H x) N0 ⟨i, [], [], [], none, rfl, On.same (gw.trans gz), hi, gz _ _ (gw _ _ ha), gz _ _ upd_same, rfl, Nat.zero_le _, upd_same, by show RelTs _ [] []; rw [RelTs], (fun f hf => by cases hf), hx0.symm⟩ (fun _ _ z => z.elim) ?_
  rintro NX nx m σ H1 ⟨i1, fs1, ws1, us1, x3, rfl, g1, hi1, ha1, hpw1, hws1, hwl1, hpz1, hus1, hok1, hx1⟩
  refine ⟨_, rfl, iteT ?_⟩
  have fs1h := SA.fs ha1
  -- take_ahead(source, waiting)
  refine ⟨fun σ' H' => ∃ m', m' < m ∧ ExW CC.C a dx q pw pz toks d H x m' σ' H', fun _ _ h => h, ?_⟩
  refine ⟨_, rfl, _, rfl, ?_⟩
  dsimp only [tNil, tCons]
  refine ⟨a, dx, q, pw, us, toks, el, i1, H, fs0, ws1, fs1, m, x, rfl, R, hfs0, g1, npw, hi1, ha1, hpw1, hws1, hwl1, hok1, hno, hx1, (fun r er => by rw [er] at hq; exact hq), ?_⟩
  intro H2 i2 k N2 fs2 ws2 b2 hi12 hi2 ha2 hpw2 hws2 hwl2 hv2 hok2 hN2 hx2
  have g2 : On a H H2 := g1.but2 npw b2
  have hpz2 : H2 pz = some (.lst us1) := b2 _ _ nza hwz hpz1
  have hus2 : RelTs H2 (valsOf (emb fs2 k)) us1 := by
    rw [hv2]
    exact hus1.keep fun p xs h => b2 _ _ (by rintro rfl; rw [(show H1 p = some (.ins CC.C dx _) from ha1)] at h; cases h) (by rintro rfl; rw [hpw1] at h; cases h) h
  -- values.append(behind(source, first(source)))
  have hul : us1.length ≤ i2 := by
    have h1 := rels_len hus2
    have h2 := vals_le (emb fs2 k)
    have h3 := hws2.len
    rw [waits_len] at h3
    omega
  refine ⟨_, rfl, .inl ⟨rfl, _, SqL.of hpz2⟩, ?_⟩
  refine ⟨_, rfl, _, rfl, ?_⟩
  dsimp only [tNil, tCons]
  refine callAt R hfs0 hq (gd_first (in_ok d)) g2 hi2 ha2 hus2 (g := fun t r => bind (postF (inn d) t r) fun t r => aft d N2 fs2 (rep mkMi k t) r) (by rw [hx2, opd_F, bind_bind]) fun H3 v3 t3 i3 hi23 hi3 g3 ha3 hr3 hx3 => ?_
  obtain ⟨hr3a, hr3b⟩ := rels_split (rels_len hus2) hr3
  refine behindAt R hfs0 hq (g2.trans g3) hi3 ha3 hr3a hr3b hx3 fun H4 v4 t4 i5 hi35 hi5 g4 ha4 hr4 hx4 => ?_
  have g24 : On a H2 H4 := g3.trans g4
  have hpz4 := g24 _ _ nza hpz2
  have hpw4 := g24 _ _ nwa hpw2
  have hws4 := hws2.keep (TupK.on g24 (show H2 a = some (.ins CC.C dx _) from ha2))
  refine ⟨pz, us1, _, rfl, rfl, hpz4, by omega, ?_⟩
  have c5 : PC CC.C a dx q toks H x (60 - (d : Int)) (fun r => if r = toks.drop i5 then aft d N2 fs2 (rep mkMi k t4) r else .out) (valsOf (emb fs2 k) ++ [t4]) (us1 ++ [v4]) (upd H4 pz (.lst (us1 ++ [v4]))) := PC.mutp (ob := .lst (us1 ++ [v4])) hfs0 ⟨g2.trans g24, i5, hi5, ha4, hr4, by show x = if toks.drop i5 = toks.drop i5 then _ else _; rw [if_pos rfl]; exact hx4⟩ npz0 hpz4
  have ha5 : SA CC.C (upd H4 pz (.lst (us1 ++ [v4]))) a dx q i5 (60 - (d : Int)) := by
    show (upd H4 pz (.lst (us1 ++ [v4]))) a = _
    rw [upd_ne nza.symm]; exact ha4
  have hws5 := hws4.keep (TupK.set (o := .lst (us1 ++ [v4])) hpz4)
  have hpw5 : (upd H4 pz (.lst (us1 ++ [v4]))) pw = some (.lst ws2) := by rw [upd_ne hwz.symm]; exact hpw4
  have hpz5 : (upd H4 pz (.lst (us1 ++ [v4]))) pz = some (.lst (us1 ++ [v4])) := upd_same
  dsimp only
  generalize upd H4 pz (.lst (us1 ++ [v4])) = H5 at c5 ha5 hws5 hpw5 hpz5 ⊢
  obtain ⟨g5, _, _, _, hus5, _⟩ := c5
  have ex5 := hx4
  -- level = LEVELS.get(source.kind(), 0)
  obtain ⟨fs5, hfs5, lk5, lt5, le5, lr5, lb5⟩ := SA.fs ha5
  refine seq_set ?_
  refine ⟨rfl, _, rfl, a, dx, fs5, rfl, hfs5, lk5, ?_⟩
  dsimp only [tNil, tCons]
  refine ⟨a, dx, q, us, toks, el, i5, _, rfl, R.on g5 hfs0, hi5, ha5, ?_⟩
  refine ⟨kindN (toks.drop i5), rfl, ?_⟩
  have hlv : (valD levelsV (kindN (toks.drop i5))).getD (.int 0) = .int ((lvH (Gr.G (inn d)) (toks.drop i5) : Nat) : Int) := lv_val (kd_of R i5)
  rw [hlv]
  have hl6 : lvH (Gr.G (inn d)) (toks.drop i5) ≤ 6 := by
    cases toks.drop i5 with
    | nil => exact Nat.zero_le _
    | cons t r => exact (levels_G (inn d) t).1
  generalize hlL : lvH (Gr.G (inn d)) (toks.drop i5) = L at hl6
  -- if level == COMPARING_LEVEL and ..
  refine seq_join (fun σ H' => σ = [some (.ref a), some (.ref pw), some (.ref pz), some (.int (L : Int)), none, none] ∧ Same H5 H' ∧ ¬ (L = 4 ∧ 4 ∈ fs2.map (lvF (Gr.G (inn d))))) ?_ ?_
  rotate_left
  · intro NX2 nx2
    refine ⟨_, rfl, rfl, _, rfl, ?_⟩
    refine ited (fun h1 => ?_) (fun h1 => ?_)
    rotate_left
    · exact go_next (nx2 _ _ ⟨rfl, Same.refl _, fun z => h1 (by rw [z.1]; rfl)⟩)
    have h1 : L = 4 := by have := V.int.inj h1; omega
    refine ⟨_, rfl, pw, rfl, ⟨_, SqL.of hpw5⟩, fun D hD => ?_⟩
    have hlw := hws5.len
    refine lc_list (K := K) (a := pw) (xs := ws2) (fun j H' => Same H5 H' ∧ H' D = some (.lst ((((waitsOf (emb fs2 k)).map Prod.fst).take j).map fun n : Nat => V.int (n : Int)))) ⟨same_new hD _, upd_same⟩ (fun j H' hj hP => SqL.of (hP.1 _ _ hpw5)) ?_ ?_
    · rintro j y H' ey ⟨gD, hD'⟩
      obtain ⟨pr, aw, epr, rfl, haw⟩ := hws5.get ey
      refine ⟨aw, _, rfl, SqT.of (gD _ _ haw), rfl, _, _, rfl, _, _, rfl, rfl, ?_⟩
      refine ⟨rfl, ?_⟩
      unfold tYes
      dsimp only
      rw [if_pos rfl]
      refine ⟨_, rfl, _, hD', ?_, same_mut gD hD _, ?_⟩
      · rw [List.length_map, List.length_take, List.length_map, ← hlw]
        omega
      · rw [upd_same, List.take_add_one, List.map_append]
        rw [List.getElem?_map, epr]; rfl
    · rintro H' ⟨gD, hD'⟩
      rw [List.take_of_length_le (by rw [List.length_map, hlw]; exact Nat.le_refl _)] at hD'
      refine ⟨D, _, rfl, .inl (SqL.of hD'), rfl, flat_ints _, _, rfl, ?_⟩
      have hin : inV (.int (4 : Int)) (((waitsOf (emb fs2 k)).map Prod.fst).map fun n : Nat => V.int (n : Int)) = decide (4 ∈ (waitsOf (emb fs2 k)).map Prod.fst) := inV_ints 4 _
      rw [hin]
      have hm := mem_waits (n := 4) (by decide) fs2 k (p := inn d)
      refine ited (fun h2 => ?_) (fun h2 => ?_)
      · have h2 := hm.mp h2
        have gg : On a H H' := g5.trans (On.same gD)
        have ha6 := gD _ _ ha5
        obtain ⟨fs6, hfs6, lk6, lt6, le6, lr6, lb6⟩ := SA.fs ha6
        refine ⟨_, rfl, a, dx, fs6, rfl, hfs6, lr6, ?_⟩
        dsimp only [tNil, tCons]
        refine ⟨a, dx, q, us, toks, el, i5, _, rfl, R.on gg hfs0, hi5, ha6, ?_⟩
        refine raise_of hq gg ?_
        rw [ex5]
        show aft d N2 fs2 _ _ = _
        unfold aft settleP
        rw [if_pos ⟨by rw [hlL, h1], h2⟩]
      · exact go_next (nx2 _ _ ⟨rfl, gD, fun z => h2 (hm.mpr z.2)⟩)
  rintro σ H6 ⟨rfl, g56, hn4⟩
  -- bind(waiting, values, level)
  have g6 : On a H H6 := g5.trans (On.same g56)
  have ha6 := g56 _ _ ha5
  have hws6 := hws5.keep (TupK.same g56)
  have hus6 := hus5.keep (TupK.same g56)
  have hpw6 := g56 _ _ hpw5
  have hpz6 := g56 _ _ hpz5
  clear hws5 hus5 hpw5 hpz5
  obtain ⟨us7, v7, e7, hu7, hr7⟩ := rels_snoc hus6
  obtain ⟨rfl, rfl⟩ : us1 = us7 ∧ v4 = v7 := by
    have := List.append_inj' e7 rfl
    exact ⟨this.1, (List.cons.inj this.2).1⟩
  refine ⟨_, rfl, _, rfl, _, rfl, ?_⟩
  dsimp only [tNil, tCons]
  refine ⟨pw, pz, emb fs2 k, ws2, us1, v4, t4, L, rfl, hwz.symm, hpw6, hws6, by omega, FqOk_emb hok2 k, hpz6, hu7, by omega, hr7, ?_⟩
  intro H7 ws7 us7 v7 b7 hpw7 hws7 hpz7 hus7 hul7 hr7'
  have ep := popQ_emb (p := inn d) (l := L) (by omega) k fs2 t4
  rw [ep] at hws7 hus7 hr7'
  dsimp only at hws7 hus7 hr7'
  have g7 : On a H H7 := g6.two npw npz0 b7
  have ha7 : SA CC.C H7 a dx q i5 (60 - (d : Int)) := b7 _ _ nwa.symm nza.symm ha6
  refine ⟨_, rfl, rfl, _, rfl, ?_⟩
  refine ited (fun h1 => ?_) (fun h1 => go_next ?_)
  · -- it is told
    have h1 : L = 0 := by have := V.int.inj h1; omega
    subst h1
    rw [pop0] at hws7 hus7 hr7'
    have e7 : us7 = [] := by
      have := rels_len hus7
      exact List.eq_nil_of_length_eq_zero this.symm
    subst e7
    refine ⟨_, rfl, pz, _, _, _, rfl, rfl, SqL.of hpz7, atI_nat (j := 0) rfl, ?_⟩
    have c7 : PC CC.C a dx q toks H x (60 - (d : Int)) (fun r => .ok (fs2.foldl (fun x f => put (Gr.G (inn d)) f x) (rep mkMi k t4)) r) [_] [v7] H7 := ⟨g7, i5, hi5, ha7, rels_one hr7', by
      rw [ex5]
      show aft d N2 fs2 _ _ = _
      unfold aft settleP
      rw [if_neg (by rw [hlL]; omega), if_pos hlL, pop0]⟩
    exact c7.done hq rels_last
  -- waiting.append((level, source.take()))
  have h1 : L ≠ 0 := fun z => h1 (by rw [z]; rfl)
  have hne : i5 < toks.length := by
    rcases Nat.lt_or_ge i5 toks.length with h | h
    · exact h
    · rw [List.drop_eq_nil_of_le h] at hlL; exact absurd hlL.symm h1
  have hw5 : level toks[i5] = L := by rw [drop_at hne] at hlL; exact hlL
  obtain ⟨sw, hsw, hww⟩ := op_word (t := toks[i5]) (by rw [hw5]; exact h1)
  have hcap : ∀ s ∈ levelS.map Prod.fst, s ∈ wordsS ∧ codes s ∉ opens ∧ codes s ∉ closes := by decide +kernel
  have hk5 : kindN (toks.drop i5) = codes sw := (kind_hd (hcap sw hsw).1 (kd_of R i5)).mp (by rw [drop_at hne]; exact hww)
  obtain ⟨fs7, hfs7, lk7, lt7, le7, lr7, lb7⟩ := SA.fs ha7
  refine ⟨_, rfl, .inl ⟨rfl, _, SqL.of hpw7⟩, ?_⟩
  refine ⟨_, rfl, _, rfl, a, dx, fs7, rfl, hfs7, lt7, ?_⟩
  dsimp only [tNil, tCons]
  refine PC.take R hfs0 g7 ha7 (rels_one hr7') hk5 (hcap sw hsw).1 (hcap sw hsw).2.1 (hcap sw hsw).2.2 fun _ H8 _ g8 ha8 hr8 => ?_
  refine ⟨(by show 2 ≤ _; omega), fun a9 n9 => ?_⟩
  have hpw8 := g8 _ _ nwa hpw7
  have hpz8 := g8 _ _ nza hpz7
  have hws8 := hws7.keep (TupK.on g8 hfs7)
  have hus8 := hus7.keep (TupK.on g8 hfs7)
  have hr8' := rels_last hr8
  have n9p := (upd_ne (H := H8) (o := .tup [V.int (L : Int), V.str (S (codes sw))]) (ne_of_none hpw8 n9)).trans hpw8
  have hl7 := hws7.len
  rw [waits_len, emb_len] at hl7
  have hl8 := pop_len (p := inn d) (l := L) (fs := fs2) (t := rep mkMi k t4)
  have hl9 := hws2.len
  rw [waits_len, emb_len] at hl9
  refine ⟨pw, ws7, _, rfl, rfl, n9p, (by omega), ?_⟩
  obtain ⟨m1, m2, m3, m4, m5⟩ := list_push (pw := a) (pz := pw) (H0 := H8) (zs := [V.int (L : Int), V.str (S (codes sw))]) nwa.symm (But2.refl _ _ _) ha8 hpw8 n9
  have hx8 : x = runP (Gr.G (inn d)) N2 (.bin toks[i5] (pop (Gr.G (inn d)) L fs2 (rep mkMi k t4)).2 :: (pop (Gr.G (inn d)) L fs2 (rep mkMi k t4)).1) (toks.drop (i5 + 1)) := by
    rw [ex5]
    show aft d N2 fs2 _ _ = _
    unfold aft settleP
    rw [if_neg (by rw [hlL]; exact hn4), if_neg (by rw [hlL]; exact h1), drop_at hne]
    dsimp only
    rw [show (Gr.G (inn d)).lv toks[i5] = L from hw5]
  obtain ⟨m', rfl⟩ : ∃ m', N2 = m' + 1 := by
    cases N2 with
    | zero => rw [hx8, runP] at hno; exact absurd rfl hno
    | succ n => exact ⟨n, rfl⟩
  have ew : wdV toks[i5].wd = .str (S (codes sw)) := by
    unfold isW at hww
    rw [Bool.and_eq_true, decide_eq_true_eq] at hww
    rw [hww.2]; rfl
  have nz9 : a9 ≠ pz := fun z => by rw [z, hpz8] at n9; cases n9
  have na9 : a9 ≠ a := fun z => by rw [z, (show H8 a = some (.ins CC.C dx _) from ha8)] at n9; cases n9
  refine ⟨m', by omega, i5 + 1, .bin toks[i5] (pop (Gr.G (inn d)) L fs2 (rep mkMi k t4)).2 :: (pop (Gr.G (inn d)) L fs2 (rep mkMi k t4)).1, ws7 ++ [.ref a9], us7 ++ [v7], _, rfl, ?_, hne, m2, m3, ?_, ?_, ?_, ?_, ?_, hx8⟩
  · exact (g7.trans g8).but2 npw m1
  · show WtR _ (waitsOf (emb _ 0) ++ [(level toks[i5], wdV toks[i5].wd)]) _
    refine (hws8.keep m4).snoc ?_
    rw [hw5, ew]; exact m5
  · rw [List.length_append, List.length_singleton]; omega
  · rw [upd_ne hwz, upd_ne nz9.symm]; exact hpz8
  · show RelTs _ (valsOf (emb _ 0) ++ [_]) _
    exact (hus8.keep m4).snoc (hr8'.keep m4)
  · intro f hf
    rcases List.mem_cons.mp hf with rfl | hf
    · show level toks[i5] ≠ 0
      rw [hw5]; exact h1
    · exact hok2 f (pop_mem f hf)
end
end Wk
set_option maxRecDepth 100000
set_option maxHeartbeats 8000000
namespace Wk
open PySem L2 TL PyProof.Rows Gm Gr
open SX (S S_len)
/-- an expression that is done, or a place that is set -/
def doP (p : Option In) : Gr.P Tr := fun r => bind (expr p r) fun e r' =>
  if hd "=" r' && place e then bind (expr p r'.tail) fun u r => bind (want ";" r) fun _ r => .ok (.t [Gr.w "set", e, u]) r
  else bind (want ";" r') fun _ r => .ok (.t [Gr.w "do", e]) r
theorem gd_doP {p : Option In} (hp : InOk p) (r : List Tk) : Gd true r (doP p r) := by
  have semi : ∀ {a : Tr} (r : List Tk), Gd true r (bind (want ";" r) fun _ r => .ok a r) := fun r => (gd_want ";" r).bind (s2 := false) (fun _ _ _ _ _ => gd_ok) (fun _ => .inl rfl)
  refine (gd_expr hp r).bind (s2 := true) (s := true) (fun e r' _ _ _ => ?_) (fun _ => .inl rfl)
  split
  · rename_i hh
    rw [Bool.and_eq_true] at hh
    have ht := hd_tail hh.1
    exact ((gd_expr hp r'.tail).bind (s2 := true) (s := true) (fun _ r _ _ _ => semi r) (fun _ => .inl rfl)).up ht.1 (fun _ => .inl rfl)
  · exact semi r'
/-- else, and a block, or nothing -/
def elseP (p : Option In) : Gr.P Tr := fun r => if hd "else" r = true then block p r.tail else .ok (.t []) r
theorem gd_elseP {p : Option In} (hp : InOk p) (r : List Tk) : Gd false r (elseP p r) := by
  unfold elseP
  split
  · rename_i hh
    exact ((gd_block hp r.tail).weak (s := false)).up (hd_tail hh).1 (fun z => by cases z)
  · exact gd_ok
section
variable {P : Program} {w : World} {K : PySem.W.Frag} {mg : Str → Option Value} {base : Heap}
abbrev s_else_block : Stmt := top 58
theorem sc_else_block : FnScope ["source"] ["source"] (defScope s_else_block) := ⟨rfl, rfl, rfl, by decide +kernel, rfl, by decide +kernel, by decide +kernel⟩
theorem ok_pelse {d lv : Nat} (CC : CurT K) {BC : Addr} (M : MT P w K mg base CC BC) (hlv : 6 ≤ lv) {f : Addr} {fd : FuncData} (F : Fun K "else_block" "else_block" s_else_block f fd)
    (D_block : DefF P w K mg base (L2.CX P w) "block" ["source"] lv (sp_rd CC.C BC d (block (inn d)) RelT)) : FnF P w K mg base (L2.CX P w) (lv + 1) f fd ["source"] (sp_rd CC.C BC d (elseP (inn d)) RelT) := by
  refine okFX F sc_else_block (fun vs H Q E h => ?_) (fun cdv A outer s H vs Q E hr hf h => ?_)
  · obtain ⟨a, _, _, _, _, _, _, rfl, _⟩ := h; rfl
  obtain ⟨a, dx, q, us, toks, el, i, rfl, R, hi, ha, hq⟩ := h
  have M_kind := M.kind
  have M_take := M.take
  refine ⟨_, (pss_cons (ps_if (pt_cmpR op_ne (pe_meth0 (pv 0) CC.cl M_kind.m M_kind.ok (hr.mono (by omega)) M_kind.b .nil pass0) pe_str (nomark _)) (pss_one (ps_ret (pe_tup pa_nil))) pss_nil)
    (pss_cons (ps_expr (pe_meth0 (pv 0) CC.cl M_take.m M_take.ok (hr.mono (by omega)) M_take.b .nil (passes_call (takes_of rfl rfl rfl rfl) (fun _ _ _ _ h => h))))
    (pss_one (ps_ret (pe_callSF D_block.ok (hf.mono (by omega)) rfl D_block.g D_block.k D_block.b (fun σ => passAt (takes_of rfl rfl rfl rfl) σ) (pa_cons (pv 0) pa_nil)))))), ?_⟩
  obtain ⟨fs, hfs, lk, lt, le, lr, lb⟩ := SA.fs ha
  have hxx : elseP (inn d) (toks.drop i) = elseP (inn d) (toks.drop i) := rfl
  generalize hx : elseP (inn d) (toks.drop i) = x at hq
  have hop : hd "else" (toks.drop i) = true ↔ kindN (toks.drop i) = codes "else" := kind_hd (by decide +kernel) (kd_of R i)
  refine ⟨_, rfl, a, dx, fs, rfl, hfs, lk, ?_⟩
  dsimp only [tNil, tCons]
  refine ⟨a, dx, q, us, toks, el, i, _, rfl, R, hi, ha, ?_⟩
  refine ⟨rfl, _, rfl, ?_⟩
  refine itedn (fun h1 => ?_) (fun h1 => go_next ?_)
  · have h1 : ¬ hd "else" (toks.drop i) = true := fun z => h1 (eq_lit.mpr (hop.mp z))
    refine ⟨Nat.zero_le _, fun t nt => ?_⟩
    have c0 : PC CC.C a dx q toks H x (60 - (d : Int)) (fun r => .ok (.t []) r) [] [] (upd H t (.tup [])) := ⟨On.same (same_new nt _), i, hi, same_new nt _ _ _ ha, by rw [RelTs], by rw [← hx]; unfold elseP; rw [if_neg h1]⟩
    refine c0.done hq fun _ => ?_
    rw [RelT]
    exact ⟨t, [], rfl, upd_same, by rw [RelTs]⟩
  have h1 := eq_lit.mp h1
  obtain ⟨hlt, hw⟩ := kindb R (by decide +kernel) h1
  refine ⟨_, rfl, a, dx, fs, rfl, hfs, lt, ?_⟩
  dsimp only [tNil, tCons]
  refine PC.take (as := []) (vs := []) R hfs (On.refl _ _) ha (by rw [RelTs]) h1 (by decide +kernel) (by decide +kernel) (by decide +kernel) fun _ H1 _ g1 ha1 hr1 => ?_
  have c1 : PC CC.C a dx q toks H x (60 - (d : Int)) (fun r => bind (block (inn d) r) fun t r => .ok t r) [] [] H1 := ⟨g1, i + 1, hlt, ha1, hr1, by
    rw [← hx]
    unfold elseP
    rw [if_pos (hop.mpr h1), drop_at hlt]
    show block (inn d) (toks.drop (i + 1)) = bind (block (inn d) (toks.drop (i + 1))) fun t r => .ok t r
    cases block (inn d) (toks.drop (i + 1)) <;> rfl⟩
  refine ⟨_, rfl, ?_⟩
  dsimp only [tNil, tCons]
  refine PC.call R hfs hq (gd_block (in_ok d)) c1 fun H2 v2 t2 g2 c2 => ?_
  exact c2.done hq fun hr => rels_last hr
abbrev s_do_or_set : Stmt := top 59
theorem sc_do_or_set : FnScope ["source", "value", "found"] ["source"] (defScope s_do_or_set) := ⟨rfl, rfl, rfl, by decide +kernel, rfl, by decide +kernel, by decide +kernel⟩
theorem ok_pdo {d lv : Nat} (T : Txt K mg) (TP : TxtP K w mg) (CC : CurT K) {BC : Addr} (M : MT P w K mg base CC BC) (hlv : 6 ≤ lv) {f : Addr} {fd : FuncData} (F : Fun K "do_or_set" "do_or_set" s_do_or_set f fd)
    (D_expression : DefF P w K mg base (L2.CX P w) "expression" ["source"] lv (sp_rd CC.C BC d (expr (inn d)) RelT)) : FnF P w K mg base (L2.CX P w) (lv + 1) f fd ["source"] (sp_rd CC.C BC d (doP (inn d)) RelT) := by
  refine okFX F sc_do_or_set (fun vs H Q E h => ?_) (fun cdv A outer s H vs Q E hr hf h => ?_)
  · obtain ⟨a, _, _, _, _, _, _, rfl, _⟩ := h; rfl
  obtain ⟨a, dx, q, us, toks, el, i, rfl, R, hi, ha, hq⟩ := h
  have M_kind := M.kind
  have M_take := M.take
  have M_expect := M.expect
  refine ⟨_, (pss_cons (ps_set (i := 1) sc_do_or_set.nd rfl (Or.inl rfl) (pe_callSF D_expression.ok (hf.mono (by omega)) rfl D_expression.g D_expression.k D_expression.b (fun σ => passAt (takes_of rfl rfl rfl rfl) σ) (pa_cons (pv 0) pa_nil)))
    (pss_cons (ps_set (i := 2) sc_do_or_set.nd rfl (Or.inl rfl) (pe_tup (pa_cons pe_str (pa_cons (pv 1) pa_nil))))
    (pss_cons (ps_if (PW.pt (pw_and (pt_cmpR op_eq (pe_meth0 (pv 0) CC.cl M_kind.m M_kind.ok (hr.mono (by omega)) M_kind.b .nil pass0) pe_str (nomark _)) (pw_and1 (pt_cmpR op_in_seq (pe_ix ix_tup (pv 1) pe_int (fun _ _ => rfl)) (pe_glob (v := .ref TP.aPLACES) rfl TP.mPLACES rfl) rfl)))) (pss_cons (ps_expr (pe_meth0 (pv 0) CC.cl M_take.m M_take.ok (hr.mono (by omega)) M_take.b .nil (passes_call (takes_of rfl rfl rfl rfl) (fun _ _ _ _ h => h))))
      (pss_one (ps_set (i := 2) sc_do_or_set.nd rfl (Or.inl rfl) (pe_tup (pa_cons pe_str (pa_cons (pv 1) (pa_cons (pe_callSF D_expression.ok (hf.mono (by omega)) rfl D_expression.g D_expression.k D_expression.b (fun σ => passAt (takes_of rfl rfl rfl rfl) σ) (pa_cons (pv 0) pa_nil)) pa_nil))))))) pss_nil)
    (pss_cons (ps_expr (pe_meth (pv 0) CC.cl M_expect.m M_expect.ok (hr.mono (by omega)) M_expect.b .nil (passes_call (takes_of rfl rfl rfl rfl) (fun _ _ _ _ h => h)) (pa_cons pe_str pa_nil)))
    (pss_one (ps_ret (pv 2))))))), ?_⟩
  generalize hσ : L2.start _ _ = σ0
  have hσ : σ0 = [some (.ref a), none, none] := hσ.symm
  subst hσ
  have hz := line_eq
  obtain ⟨fs, hfs, lk, lt, le, lr, lb⟩ := SA.fs ha
  generalize hx : doP (inn d) (toks.drop i) = x at hq
  -- value = expression(source)
  refine seq_set ?_
  refine ⟨_, rfl, ?_⟩
  dsimp only [tNil, tCons]
  have hhd := hd_expr (in_s d) (toks.drop i)
  have hxx : x = bind (expr (inn d) (toks.drop i)) fun e r' => if hd "=" r' && place e then bind (expr (inn d) r'.tail) fun u r => bind (want ";" r) fun _ r => .ok (.t [Gr.w "set", e, u]) r
    else bind (want ";" r') fun _ r => .ok (.t [Gr.w "do", e]) r := hx.symm
  refine ⟨a, dx, q, us, toks, el, i, rfl, R, hi, ha, ?_⟩
  rcases par_three (e := d) (i := i) (gd_expr (in_ok d)) toks with ⟨t, i2, ec, l1, l2⟩ | ⟨i2, ec, l2⟩
  rotate_left
  · rw [ec] at hxx ⊢
    exact raise_of hq (On.refl _ _) hxx
  have hht : HdT t := hhd t _ ec
  rw [ec] at hxx ⊢
  intro H1 v1 g1 ha1 hr1
  rw [drop_len_pos l2] at ha1
  have hxx : x = if hd "=" (toks.drop i2) && place t then bind (expr (inn d) (toks.drop i2).tail) fun u r => bind (want ";" r) fun _ r => .ok (.t [Gr.w "set", t, u]) r
    else bind (want ";" (toks.drop i2)) fun _ r => .ok (.t [Gr.w "do", t]) r := hxx
  -- found = ("do", value)
  refine seq_set ?_
  refine ⟨_, rfl, (by show 2 ≤ _; omega), fun p np => ?_⟩
  have gp := same_new np (.tup [V.str "do", v1])
  have gq := g1.trans (On.same gp)
  have ha2 := gp _ _ ha1
  have hr2 := hr1.keep (TupK.same gp)
  have hp2 : (upd H1 p (.tup [V.str "do", v1])) p = _ := upd_same
  dsimp only
  generalize upd H1 p (.tup [V.str "do", v1]) = H2 at gp gq ha2 hr2 hp2 ⊢
  have hop : hd "=" (toks.drop i2) = true ↔ kindN (toks.drop i2) = codes "=" := kind_hd (by decide +kernel) (kd_of R i2)
  refine seq_join (fun σ H' => ∃ (tf : Tr) (vf : V) (pf : Addr), σ = [some (.ref a), some v1, some vf] ∧ vf = .ref pf ∧ PC CC.C a dx q toks H x (60 - (d : Int)) (fun r => bind (want ";" r) fun _ r => .ok tf r) [tf] [vf] H') ?_ ?_
  · rintro σ H3 ⟨tf, vf, pf, rfl, rfl, c3⟩
    obtain ⟨fs3, hfs3, lk3, lt3, le3, lr3, lb3⟩ := c3.fs
    refine ⟨_, rfl, a, dx, fs3, rfl, hfs3, le3, ?_⟩
    dsimp only [tNil, tCons]
    refine sp_expect_lit (PC.expect R hfs hq c3 (by decide +kernel) (by decide +kernel) (by decide +kernel) fun H4 v4 g4 c4 => ?_)
    exact ⟨_, rfl, c4.done hq fun hr => rels_last hr⟩
  intro NX nx
  obtain ⟨fs2, hfs2, lk2, lt2, le2, lr2, lb2⟩ := SA.fs ha2
  have hdo : ¬ (hd "=" (toks.drop i2) && place t) = true → NX [some (.ref a), some v1, some (.ref p)] H2 := fun hn => nx _ _ ⟨.t [Gr.w "do", t], _, p, rfl, rfl, gq, i2, l2, ha2, by
    refine rel_tup hp2 ?_
    rw [litW]
    exact rel_word (rels_one hr2), by rw [hxx, if_neg hn]⟩
  refine ⟨_, rfl, a, dx, fs2, rfl, hfs2, lk2, ?_⟩
  dsimp only [tNil, tCons]
  refine ⟨a, dx, q, us, toks, el, i2, _, rfl, R.on gq hfs, l2, ha2, ?_⟩
  refine ⟨rfl, _, rfl, ?_⟩
  refine ited (fun h1 => ?_) (fun h1 => go_next (hdo fun z => h1 ?_))
  rotate_left
  · rw [Bool.and_eq_true] at z
    exact eq_lit.mpr (hop.mp z.1)
  have h1 := eq_lit.mp h1
  obtain ⟨q', l, ts, xs, rfl, rfl, hq'⟩ := rel_head hr2 hht
  refine ⟨_, rfl, q', _, _, _, rfl, rfl, SqT.of hq', atI_nat (j := 0) rfl, _, _, rfl, .inr (TP.kPLACES H2), rfl, rfl, _, rfl, ?_⟩
  rw [show litV ["name", "field", "item"] = ["name", "field", "item"].map fun s => V.str (Str.ofString s) from rfl, place_in (ts := ts)]
  cases hpl : place (.t (.s l :: ts)) with
  | false => exact go_next (hdo (by rw [hpl, Bool.and_false]; exact Bool.false_ne_true))
  | true =>
    rw [if_pos (by rw [hop.mpr h1, hpl]; rfl)] at hxx
    obtain ⟨hlt, hw⟩ := kindb R (by decide +kernel) h1
    refine iteT ?_
    refine ⟨_, rfl, a, dx, fs2, rfl, hfs2, lt2, ?_⟩
    dsimp only [tNil, tCons]
    refine PC.take (as := [Tr.t (.s l :: ts)]) (vs := [.ref q']) R hfs gq ha2 (rels_one hr2) h1 (by decide +kernel) (by decide +kernel) (by decide +kernel) fun _ H3 _ g3 ha3 hr3 => ?_
    have c3 : PC CC.C a dx q toks H x (60 - (d : Int)) (fun r => bind (expr (inn d) r) fun u r => bind (want ";" r) fun _ r => .ok (.t [Gr.w "set", .t (.s l :: ts), u]) r) [Tr.t (.s l :: ts)] [.ref q'] H3 := ⟨gq.trans g3, i2 + 1, hlt, ha3, hr3, by rw [hxx, drop_at hlt]; rfl⟩
    refine ⟨_, rfl, _, rfl, ?_⟩
    dsimp only [tNil, tCons]
    refine PC.call R hfs hq (gd_expr (in_ok d)) c3 fun H4 v4 t4 g4 c4 => ?_
    refine ⟨(by show 3 ≤ _; omega), fun p5 n5 => ?_⟩
    refine nx _ _ ⟨_, _, p5, rfl, rfl, ((c4.same (same_new n5 _)).swap fun hr => ?_)⟩
    refine rel_tup upd_same ?_
    rw [litW]
    exact rel_word hr
end
end Wk
set_option maxRecDepth 100000
set_option maxHeartbeats 8000000
namespace Wk
open PySem L2 TL PyProof.Rows Gm Gr
open SX (S S_len)
/-- what stands behind the key of a statement -/
def formP (p : Option In) : List String → List Tr → Gr.P Tr
  | [], acc => fun r => .ok (.t acc) r
  | s :: fs, acc => fun r =>
    if s = "E" then bind (expr p r) fun t r => formP p fs (acc ++ [t]) r
    else if s = "BLOCK" then bind (block p r) fun t r => formP p fs (acc ++ [t]) r
    else if s = "ELSE" then bind (elseP p r) fun t r => formP p fs (acc ++ [t]) r
    else if s = "NAME" then bind (named r) fun t r => formP p fs (acc ++ [t]) r
    else bind (want s r) fun _ r => formP p fs acc r
theorem form_w {p : Option In} {s : String} {fs : List String} {acc : List Tr} (h : s ≠ "E" ∧ s ≠ "BLOCK" ∧ s ≠ "ELSE" ∧ s ≠ "NAME") : formP p (s :: fs) acc = fun r => bind (want s r) fun _ r => formP p fs acc r := by
  rw [formP]
  simp only [if_neg h.1, if_neg h.2.1, if_neg h.2.2.1, if_neg h.2.2.2]
theorem stmt_form {p : Option In} {t : Tk} {r : List Tk} : ∀ q ∈ formsL, isW q.1 t = true → stmt p (t :: r) = formP p q.2 [Gr.w q.1] r := by
  intro q hq h
  simp only [formsL, List.mem_cons, List.not_mem_nil, or_false] at hq
  rcases hq with rfl | rfl | rfl | rfl | rfl | rfl | rfl | rfl | rfl
  · exact stmt_var h
  · rw [stmt_if h]
    show _ = bind (expr p r) fun e r => bind (block p r) fun b r => bind (elseP p r) fun c r => Gm.R.ok (Tr.t [Gr.w "if", e, b, c]) r
    congr 1
    funext e r
    congr 1
    funext b r
    unfold elseP
    split
    · rfl
    · rfl
  · exact stmt_while h
  · exact stmt_stop (.inl rfl) h
  · exact stmt_stop (.inr rfl) h
  · exact stmt_give (.inl rfl) h
  · exact stmt_give (.inr (.inl rfl)) h
  · exact stmt_try h
  · exact stmt_give (.inr (.inr rfl)) h
theorem rows_find {b : String → Addr} {l : List Nat} : ∀ {fl : List (String × List String)}, valD (rowsV b fl) l = (fl.find? fun q => decide (codes q.1 = l)).map fun q => V.ref (b q.1)
  | [] => rfl
  | q :: fl => by
    have ih := rows_find (b := b) (l := l) (fl := fl)
    unfold valD rowsV at ih ⊢
    rw [List.map_cons, List.find?_cons, List.find?_cons]
    by_cases h : codes q.1 = l
    · rw [decide_eq_true h]; rfl
    · rw [decide_eq_false h]; exact ih
theorem forms_find : ∀ q ∈ formsL, (formsL.find? fun y => decide (codes y.1 = codes q.1)) = some q := by decide +kernel
theorem forms_cap : ∀ q ∈ formsL, q.1 ∈ wordsS ∧ codes q.1 ∉ opens ∧ codes q.1 ∉ closes := by decide +kernel
def formW : List String := ["=", ";", "catch"]
theorem forms_word : ∀ q ∈ formsL, ∀ s ∈ q.2, s = "E" ∨ s = "BLOCK" ∨ s = "ELSE" ∨ s = "NAME" ∨ s ∈ formW := by decide +kernel
theorem formW_ne : ∀ s ∈ formW, s ≠ "E" ∧ s ≠ "BLOCK" ∧ s ≠ "ELSE" ∧ s ≠ "NAME" := by decide +kernel
theorem formW_cne : ∀ s ∈ formW, codes s ≠ codes "E" ∧ codes s ≠ codes "BLOCK" ∧ codes s ≠ codes "ELSE" ∧ codes s ≠ codes "NAME" := by decide +kernel
theorem formW_cap : ∀ s ∈ formW, s ∈ wordsS ∧ codes s ∉ opens ∧ codes s ∉ closes := by decide +kernel
theorem forms_len : ∀ q ∈ formsL, q.2.length ≤ 4 := by decide +kernel
theorem forms_keys : ∀ s ∈ stmtS, ∃ q ∈ formsL, q.1 = s := by decide +kernel
section
variable {P : Program} {w : World} {K : PySem.W.Frag} {mg : Str → Option Value} {base : Heap}
abbrev s_statement : Stmt := top 57
theorem sc_statement : FnScope ["source", "kind", "found", "wanted"] ["source"] (defScope s_statement) := ⟨rfl, rfl, rfl, by decide +kernel, rfl, by decide +kernel, by decide +kernel⟩
theorem ok_pstatement {d lv lb le ld : Nat} (T : Txt K mg) (TP : TxtP K w mg) (CC : CurT K) {BC : Addr} (M : MT P w K mg base CC BC) (hlv : 6 ≤ lv) (hlb : lb ≤ lv) (hle : le ≤ lv) (hld : ld ≤ lv) {f : Addr} {fd : FuncData} (F : Fun K "statement" "statement" s_statement f fd)
    (D_expression : DefF P w K mg base (L2.CX P w) "expression" ["source"] lv (sp_rd CC.C BC d (expr (inn d)) RelT)) (D_block : DefF P w K mg base (L2.CX P w) "block" ["source"] lb (sp_rd CC.C BC d (block (inn d)) RelT))
    (D_else_block : DefF P w K mg base (L2.CX P w) "else_block" ["source"] le (sp_rd CC.C BC d (elseP (inn d)) RelT)) (D_do_or_set : DefF P w K mg base (L2.CX P w) "do_or_set" ["source"] ld (sp_rd CC.C BC d (doP (inn d)) RelT)) : FnF P w K mg base (L2.CX P w) (lv + 1) f fd ["source"] (sp_rd CC.C BC d (stmt (inn d)) RelT) := by
  refine okFX F sc_statement (fun vs H Q E h => ?_) (fun cdv A outer s H vs Q E hr hf h => ?_)
  · obtain ⟨a, _, _, _, _, _, _, rfl, _⟩ := h; rfl
  obtain ⟨a, dx, q, us, toks, el, i, rfl, R, hi, ha, hq⟩ := h
  have M_kind := M.kind
  have M_take := M.take
  have M_expect := M.expect
  refine ⟨_, (pss_cons (ps_set (i := 1) sc_statement.nd rfl (Or.inl rfl) (pe_meth0 (pv 0) CC.cl M_kind.m M_kind.ok (hr.mono (by omega)) M_kind.b .nil pass0))
    (pss_cons (ps_if (pt_cmpR (op_notIn_wd TP.dSTATEMENT_FORMS) (pv 1) (pe_glob (v := .ref TP.aSTATEMENT_FORMS) rfl TP.mSTATEMENT_FORMS rfl) rfl) (pss_one (ps_ret (pe_callSF D_do_or_set.ok (hf.mono (by omega)) rfl D_do_or_set.g D_do_or_set.k D_do_or_set.b (fun σ => passAt (takes_of rfl rfl rfl rfl) σ) (pa_cons (pv 0) pa_nil)))) pss_nil)
    (pss_cons (ps_expr (pe_meth0 (pv 0) CC.cl M_take.m M_take.ok (hr.mono (by omega)) M_take.b .nil (passes_call (takes_of rfl rfl rfl rfl) (fun _ _ _ _ h => h))))
    (pss_cons (ps_set (i := 2) sc_statement.nd rfl (Or.inl rfl) (pe_lst (pa_cons (pv 1) pa_nil)))
    (pss_cons (ps_for (passes_of rfl) rfl (pi_tup (pe_ix (ix_wd TP.dSTATEMENT_FORMS) (pe_glob (v := .ref TP.aSTATEMENT_FORMS) rfl TP.mSTATEMENT_FORMS rfl) (pv 1) (fun _ _ => rfl))) (pg_name (i := 3) sc_statement.nd rfl (Or.inl rfl)) (pss_one (ps_if (pt_cmpR op_eq (pv 3) pe_str (nomark _)) (pss_one (ps_expr (pe_bm PySem.F.plainAttrs_list PySem.F.slot_list_append PySem.F.type_list_append mt_append (pv 2) (pa_cons (pe_callSF D_expression.ok (hf.mono (by omega)) rfl D_expression.g D_expression.k D_expression.b (fun σ => passAt (takes_of rfl rfl rfl rfl) σ) (pa_cons (pv 0) pa_nil)) pa_nil)))) (pss_one (ps_if (pt_cmpR op_eq (pv 3) pe_str (nomark _)) (pss_one (ps_expr (pe_bm PySem.F.plainAttrs_list PySem.F.slot_list_append PySem.F.type_list_append mt_append (pv 2) (pa_cons (pe_callSF D_block.ok (hf.mono (by omega)) rfl D_block.g D_block.k D_block.b (fun σ => passAt (takes_of rfl rfl rfl rfl) σ) (pa_cons (pv 0) pa_nil)) pa_nil)))) (pss_one (ps_if (pt_cmpR op_eq (pv 3) pe_str (nomark _)) (pss_one (ps_expr (pe_bm PySem.F.plainAttrs_list PySem.F.slot_list_append PySem.F.type_list_append mt_append (pv 2) (pa_cons (pe_callSF D_else_block.ok (hf.mono (by omega)) rfl D_else_block.g D_else_block.k D_else_block.b (fun σ => passAt (takes_of rfl rfl rfl rfl) σ) (pa_cons (pv 0) pa_nil)) pa_nil)))) (pss_one (ps_if (pt_cmpR op_eq (pv 3) pe_str (nomark _)) (pss_one (ps_expr (pe_bm PySem.F.plainAttrs_list PySem.F.slot_list_append PySem.F.type_list_append mt_append (pv 2) (pa_cons (pe_meth (pv 0) CC.cl M_expect.m M_expect.ok (hr.mono (by omega)) M_expect.b .nil (passes_call (takes_of rfl rfl rfl rfl) (fun _ _ _ _ h => h)) (pa_cons pe_str pa_nil)) pa_nil)))) (pss_one (ps_expr (pe_meth (pv 0) CC.cl M_expect.m M_expect.ok (hr.mono (by omega)) M_expect.b .nil (passes_call (takes_of rfl rfl rfl rfl) (fun _ _ _ _ h => h)) (pa_cons (pv 3) pa_nil)))))))))))))
    (pss_one (ps_ret (pe_tupleOf rfl T.n_tuple (pv 2))))))))), ?_⟩
  generalize hσ : L2.start _ _ = σ0
  have hσ : σ0 = [some (.ref a), none, none, none] := hσ.symm
  subst hσ
  have hz := line_eq
  obtain ⟨fs, hfs, lk, lt, le', lr, lb'⟩ := SA.fs ha
  generalize hx : stmt (inn d) (toks.drop i) = x at hq
  refine seq_set ?_
  refine ⟨_, rfl, a, dx, fs, rfl, hfs, lk, ?_⟩
  dsimp only [tNil, tCons]
  refine ⟨a, dx, q, us, toks, el, i, _, rfl, R, hi, ha, ?_⟩
  refine ⟨_, rfl, _, rfl, rfl, _, rfl, ?_⟩
  rw [rows_find]
  by_cases hf : ∃ q ∈ formsL, codes q.1 = kindN (toks.drop i)
  rotate_left
  · have hn : (formsL.find? fun q => decide (codes q.1 = kindN (toks.drop i))) = none := List.find?_eq_none.mpr fun y hy z => hf ⟨y, hy, of_decide_eq_true z⟩
    rw [hn]
    refine iteT ?_
    refine ⟨_, rfl, ?_⟩
    dsimp only [tNil, tCons]
    have e : stmt (inn d) (toks.drop i) = doP (inn d) (toks.drop i) := stmt_else (fun s hs t r et z => by
      obtain ⟨y, hy, rfl⟩ := forms_keys s hs
      refine hf ⟨y, hy, ?_⟩
      exact ((kind_hd (forms_cap y hy).1 (kd_of R i)).mp (by rw [et]; exact z)).symm) (in_ok d)
    have c0 : PC CC.C a dx q toks H x (60 - (d : Int)) (fun r => bind (doP (inn d) r) fun t r => .ok t r) [] [] H := ⟨On.refl _ _, i, hi, ha, by rw [RelTs], by
      rw [← hx, e]
      show doP (inn d) (toks.drop i) = bind (doP (inn d) (toks.drop i)) _
      cases doP (inn d) (toks.drop i) <;> rfl⟩
    refine PC.call R hfs hq (gd_doP (in_ok d)) c0 fun H2 v2 t2 g2 c2 => ?_
    exact c2.done hq fun hr => rels_last hr
  obtain ⟨y, hy, ey⟩ := hf
  rw [← ey, forms_find y hy]
  refine iteF (go_next ?_)
  obtain ⟨hlt, hw⟩ := kindb R (forms_cap y hy).1 ey.symm
  have hx2 : x = formP (inn d) y.2 [Gr.w y.1] (toks.drop (i + 1)) := by
    rw [← hx, drop_at hlt]; exact stmt_form y hy hw
  refine ⟨_, rfl, a, dx, fs, rfl, hfs, lt, ?_⟩
  dsimp only [tNil, tCons]
  refine PC.take (as := []) (vs := []) R hfs (On.refl _ _) ha (by rw [RelTs]) ey.symm (forms_cap y hy).1 (forms_cap y hy).2.1 (forms_cap y hy).2.2 fun _ H1 _ g1 ha1 _ => ?_
  refine seq_set ?_
  refine ⟨_, rfl, (by show 1 ≤ _; omega), fun pf npf => ?_⟩
  have gf := same_new npf (.lst [V.str (S (codes y.1))])
  have npf0 : H pf = none := by
    cases e : H pf with
    | none => rfl
    | some o => rw [g1 pf o (fun z => by rw [z, (show H1 a = some (.ins CC.C dx _) from ha1)] at npf; cases npf) e] at npf; cases npf
  have nfa : pf ≠ a := (ne_of_none hfs npf0).symm
  dsimp only
  refine seq_join (fun σ H' => ∃ (acc : List Tr) (xs : List V) (x3 : Option V), σ = [some (.ref a), some (.str (S (codes y.1))), some (.ref pf), x3] ∧ H' pf = some (.lst xs) ∧ xs.length ≤ 100 ∧ PC CC.C a dx q toks H x (60 - (d : Int)) (fun r => .ok (.t acc) r) acc xs H') ?_ ?_
  · rintro σ H3 ⟨acc, xs, x3, rfl, hp3, hlx, c3⟩
    refine ⟨_, rfl, .inl ⟨pf, xs, rfl, SqL.of hp3, fun t nt => ?_⟩⟩
    refine (c3.same (same_new nt (.tup xs))).done hq fun hr => ?_
    rw [RelT]
    exact ⟨t, xs, rfl, upd_same, hr⟩
  intro NX nx
  have hsq := TP.kSTATEMENT_FORMS y hy
  have hfl := forms_len y hy
  refine ⟨_, rfl, _, _, rfl, rfl, by rw [rows_find, forms_find y hy]; rfl, _, rfl, ⟨_, hsq _⟩, ?_⟩
  refine for_tup (K := K) (xs := litV y.2) (fun j σ H' => ∃ (acc : List Tr) (xs : List V) (x3 : Option V), σ = [some (.ref a), some (.str (S (codes y.1))), some (.ref pf), x3] ∧ H' pf = some (.lst xs) ∧ xs.length ≤ j + 1 ∧ PC CC.C a dx q toks H x (60 - (d : Int)) (formP (inn d) (y.2.drop j) acc) acc xs H')
    ⟨[Gr.w y.1], _, _, rfl, upd_same, Nat.le_refl _, g1.trans (On.same gf), i + 1, hlt, gf _ _ ha1, rel_word (by rw [RelTs]), by exact hx2⟩ (fun _ _ H' _ _ => hsq H') ?_ ?_
  rotate_left
  · rintro σ H' ⟨acc, xs, x3, rfl, hp', hlx, c⟩
    refine nx _ _ ⟨acc, xs, x3, rfl, hp', ?_, ?_⟩
    · rw [litV, List.length_map] at hlx; omega
    · rw [litV, List.length_map, List.drop_length] at c; exact c
  rintro j sv σ H2 ej ⟨acc, xs, x3, rfl, hp2, hlx, c2⟩
  have ej' : (y.2.map fun s => V.str (Str.ofString s))[j]? = some sv := ej
  rw [List.getElem?_map] at ej'
  cases es : y.2[j]? with
  | none => rw [es] at ej'; cases ej'
  | some s =>
  rw [es] at ej'
  cases ej'
  have hj : j < y.2.length := (List.getElem?_eq_some_iff.mp es).1
  have hdrop : y.2.drop j = s :: y.2.drop (j + 1) := by
    rw [List.drop_eq_getElem_cons hj, (List.getElem?_eq_some_iff.mp es).2]
  rw [hdrop] at c2
  have hsm := forms_word y hy s (List.mem_of_getElem? es)
  -- what a def tells is laid behind
  have lay : ∀ {H3 : Hp} {v : V} {t : Tr}, On a H2 H3 → PC CC.C a dx q toks H x (60 - (d : Int)) (formP (inn d) (y.2.drop (j + 1)) (acc ++ [t])) (acc ++ [t]) (xs ++ [v]) H3 →
      ∃ (p' : Addr) (zs : List V) (v' : V), V.ref pf = .ref p' ∧ [v] = [v'] ∧ H3 p' = some (.lst zs) ∧ zs.length < sizeLine ∧ ∃ (acc' : List Tr) (xs' : List V) (x3 : Option V), [some (V.ref a), some (.str (S (codes y.1))), some (.ref pf), some (.str (Str.ofString s))] = [some (.ref a), some (.str (S (codes y.1))), some (.ref pf), x3] ∧ (upd H3 p' (.lst (zs ++ [v']))) pf = some (.lst xs') ∧ xs'.length ≤ j + 1 + 1 ∧ PC CC.C a dx q toks H x (60 - (d : Int)) (formP (inn d) (y.2.drop (j + 1)) acc') acc' xs' (upd H3 p' (.lst (zs ++ [v']))) := fun {H3 v t} g3 c3 => by
    have hp3 := g3 _ _ nfa hp2
    refine ⟨pf, xs, v, rfl, rfl, hp3, by omega, _, _, _, rfl, upd_same, ?_, c3.mutp hfs npf0 hp3⟩
    rw [List.length_append, List.length_singleton]; omega
  obtain ⟨fs2, hfs2, lk2, lt2, le2, lr2, lb2⟩ := c2.fs
  refine ⟨_, rfl, rfl, _, rfl, ?_⟩
  rcases hsm with rfl | rfl | rfl | rfl | hs
  · refine ited (fun _ => ?_) (fun z => absurd rfl z)
    refine ⟨_, rfl, .inl ⟨rfl, _, SqL.of hp2⟩, ?_⟩
    refine ⟨_, rfl, ?_⟩
    dsimp only [tNil, tCons]
    refine PC.call R hfs hq (gd_expr (in_ok d)) c2 fun H3 v3 t3 g3 c3 => ?_
    exact lay g3 c3
  · refine ited (fun z => absurd z (by decide +kernel)) (fun _ => ?_)
    refine ⟨_, rfl, rfl, _, rfl, ited (fun _ => ?_) (fun z => absurd rfl z)⟩
    refine ⟨_, rfl, .inl ⟨rfl, _, SqL.of hp2⟩, ?_⟩
    refine ⟨_, rfl, ?_⟩
    dsimp only [tNil, tCons]
    refine PC.call R hfs hq (gd_block (in_ok d)) c2 fun H3 v3 t3 g3 c3 => ?_
    exact lay g3 c3
  · refine ited (fun z => absurd z (by decide +kernel)) (fun _ => ?_)
    refine ⟨_, rfl, rfl, _, rfl, ited (fun z => absurd z (by decide +kernel)) (fun _ => ?_)⟩
    refine ⟨_, rfl, rfl, _, rfl, ited (fun _ => ?_) (fun z => absurd rfl z)⟩
    refine ⟨_, rfl, .inl ⟨rfl, _, SqL.of hp2⟩, ?_⟩
    refine ⟨_, rfl, ?_⟩
    dsimp only [tNil, tCons]
    refine PC.callW R hfs hq (gd_elseP (in_ok d)) c2 fun H3 v3 t3 g3 c3 => ?_
    exact lay g3 c3
  · refine ited (fun z => absurd z (by decide +kernel)) (fun _ => ?_)
    refine ⟨_, rfl, rfl, _, rfl, ited (fun z => absurd z (by decide +kernel)) (fun _ => ?_)⟩
    refine ⟨_, rfl, rfl, _, rfl, ited (fun z => absurd z (by decide +kernel)) (fun _ => ?_)⟩
    refine ⟨_, rfl, rfl, _, rfl, ited (fun _ => ?_) (fun z => absurd rfl z)⟩
    refine ⟨_, rfl, .inl ⟨rfl, _, SqL.of hp2⟩, ?_⟩
    refine ⟨_, rfl, a, dx, fs2, rfl, hfs2, le2, ?_⟩
    dsimp only [tNil, tCons]
    refine sp_expect_lit (PC.name R hfs hq c2 fun H3 v3 t3 g3 c3 => ?_)
    exact lay g3 c3
  · have no : ∀ z : String, codes s ≠ codes z → ¬ (V.str (Str.ofString s) = V.str (Str.ofString z)) := fun z hne e => hne (eq_lit.mp ((litW s).symm.trans e))
    obtain ⟨n1, n2, n3, n4⟩ := formW_cne s hs
    refine ited (fun z => absurd z (no _ n1)) (fun _ => ?_)
    refine ⟨_, rfl, rfl, _, rfl, ited (fun z => absurd z (no _ n2)) (fun _ => ?_)⟩
    refine ⟨_, rfl, rfl, _, rfl, ited (fun z => absurd z (no _ n3)) (fun _ => ?_)⟩
    refine ⟨_, rfl, rfl, _, rfl, ited (fun z => absurd z (no _ n4)) (fun _ => ?_)⟩
    refine ⟨_, rfl, a, dx, fs2, rfl, hfs2, le2, _, rfl, ?_⟩
    dsimp only [tNil, tCons]
    rw [form_w (formW_ne s hs)] at c2
    refine sp_expect_lit (PC.expect R hfs hq c2 (formW_cap s hs).1 (formW_cap s hs).2.1 (formW_cap s hs).2.2 fun H3 v3 g3 c3 => ?_)
    exact ⟨acc, xs, _, rfl, g3 _ _ nfa hp2, by omega, c3⟩
end
end Wk
set_option maxRecDepth 100000
set_option maxHeartbeats 8000000
namespace Wk
open PySem L2 TL PyProof.Rows Gm Gr
open SX (S S_len)
def classP (d : Nat) : Gr.P Tr := fun r => bind (want "class" r) fun _ r => classB d r
theorem gd_classP (d : Nat) (r : List Tk) : Gd true r (classP d r) := (gd_want "class" r).bind (s2 := true) (fun _ r _ _ _ => gd_class d r) (fun _ => .inl rfl)
theorem on_mut {a p : Addr} {H0 H : Hp} {o : HO} (g : On a H0 H) (n : H0 p = none) : On a H0 (upd H p o) := fun b u nb h => by
  rw [upd_ne (fun z => by rw [z, n] at h; cases h)]; exact g b u nb h
section
variable {C BC a dx q : Addr} {us : List V} {toks : List Tk} {el : Nat} {H0 : Hp} {Q : VK} {E : XK} {b : Int} {H : Hp} {fs0 : List (Str × V)}
theorem expectAt {s : String} {i : Nat} {Rk : VK} (R : Sr H0 q us toks el) (ha0 : H0 a = some (.ins C dx fs0)) (gn : On a H0 H) (hi : i ≤ toks.length) (hp : SA C H a dx q i b) (hn : kindN (toks.drop i) = codes s) (hs : s ∈ wordsS) (h1 : codes s ∉ opens) (h2 : codes s ∉ closes)
    (k : ∀ H' v, i < toks.length → On a H H' → SA C H' a dx q (i + 1) b → Rk v H') : sp_expect C BC [.ref a, .str (S (codes s))] H Rk E := by
  refine ⟨a, dx, q, us, toks, el, i, b, codes s, rfl, words_ne s hs, R.on gn ha0, hi, hp, ?_⟩
  rw [if_pos hn]
  intro hlt
  rw [hn, if_neg h1, if_neg h2]
  exact fun H' g' hp' => k H' _ hlt g' hp'
end
theorem fields_stop {n : Nat} {acc : List Tr} {toks : List Tk} (h : ∀ t u r, toks = t :: u :: r → ¬ (t.so = .name ∧ isW ";" u = true)) : fields (n + 1) acc toks = .ok acc toks := by
  cases toks with
  | nil => rw [fields]; intro t u r e; cases e
  | cons t r =>
    cases r with
    | nil => rw [fields]; intro t u r e; cases e
    | cons u r => rw [fields]; exact if_neg (h t u r rfl)
theorem methods_stop {p : Option In} {n : Nat} {acc : List Tr} {toks : List Tk} (h : ∀ t r, toks = t :: r → ¬ t.so = .name) : methods p (n + 1) acc toks = .ok acc toks := by
  cases toks with
  | nil => rw [methods]
  | cons t r => rw [methods]; exact if_neg (h t r rfl)
/-- of the class: its fields so far -/
def FlW (C a dx q pf : Addr) (toks : List Tk) (b : Int) (H : Hp) (x : R Tk Tr) (K : List Tr → Gr.P Tr) (keep : Hp → Prop) (m : Nat) (H' : Hp) : Prop :=
  ∃ (i n : Nat) (acc : List Tr) (xs : List V), m = toks.length - i ∧ i ≤ toks.length ∧ toks.length - i < n ∧ On a H H' ∧ SA C H' a dx q i b ∧ H' pf = some (.lst xs) ∧ xs.length ≤ i ∧ RelTs H' acc xs ∧ keep H' ∧ x = bind (fields n acc (toks.drop i)) K
def MtW (C a dx q pm : Addr) (toks : List Tk) (p : Option In) (b : Int) (H : Hp) (x : R Tk Tr) (K : List Tr → Gr.P Tr) (keep : Hp → Prop) (m : Nat) (H' : Hp) : Prop :=
  ∃ (i n : Nat) (acc : List Tr) (xs : List V), m = toks.length - i ∧ i ≤ toks.length ∧ toks.length - i < n ∧ On a H H' ∧ SA C H' a dx q i b ∧ H' pm = some (.lst xs) ∧ xs.length ≤ i ∧ RelTs H' acc xs ∧ keep H' ∧ x = bind (methods p n acc (toks.drop i)) K
section
variable {P : Program} {w : World} {K : PySem.W.Frag} {mg : Str → Option Value} {base : Heap}
abbrev s_class_item : Stmt := top 51
theorem sc_class_item : FnScope ["source", "name", "elder", "fields", "methods"] ["source"] (defScope s_class_item) := ⟨rfl, rfl, rfl, by decide +kernel, rfl, by decide +kernel, by decide +kernel⟩
theorem ok_pclass {d lv lb : Nat} (T : Txt K mg) (CC : CurT K) {BC : Addr} (M : MT P w K mg base CC BC) (hlv : 6 ≤ lv) (hlb : lb ≤ lv) {f : Addr} {fd : FuncData} (F : Fun K "class_item" "class_item" s_class_item f fd)
    (D_params : DefF P w K mg base (L2.CX P w) "params" ["source"] lv (sp_rd1 CC.C BC (fun e => params (inn e)) d)) (D_block : DefF P w K mg base (L2.CX P w) "block" ["source"] lb (sp_rd1 CC.C BC (fun e => block (inn e)) d)) : FnF P w K mg base (L2.CX P w) (lv + 1) f fd ["source"] (sp_rd CC.C BC d (classP d) RelT) := by
  refine okFX F sc_class_item (fun vs H Q E h => ?_) (fun cdv A outer s H vs Q E hr hf h => ?_)
  · obtain ⟨a, _, _, _, _, _, _, rfl, _⟩ := h; rfl
  obtain ⟨a, dx, q, us, toks, el, i, rfl, R, hi, ha, hq⟩ := h
  have M_kind := M.kind
  have M_kind_behind := M.kindb
  have M_take := M.take
  have M_expect := M.expect
  refine ⟨_, (pss_cons (ps_expr (pe_meth (pv 0) CC.cl M_expect.m M_expect.ok (hr.mono (by omega)) M_expect.b .nil (passes_call (takes_of rfl rfl rfl rfl) (fun _ _ _ _ h => h)) (pa_cons pe_str pa_nil)))
    (pss_cons (ps_set (i := 1) sc_class_item.nd rfl (Or.inl rfl) (pe_meth (pv 0) CC.cl M_expect.m M_expect.ok (hr.mono (by omega)) M_expect.b .nil (passes_call (takes_of rfl rfl rfl rfl) (fun _ _ _ _ h => h)) (pa_cons pe_str pa_nil)))
    (pss_cons (ps_set (i := 2) sc_class_item.nd rfl (Or.inl rfl) pe_non)
    (pss_cons (ps_if (pt_cmpR op_eq (pe_meth0 (pv 0) CC.cl M_kind.m M_kind.ok (hr.mono (by omega)) M_kind.b .nil pass0) pe_str (nomark _)) (pss_cons (ps_expr (pe_meth0 (pv 0) CC.cl M_take.m M_take.ok (hr.mono (by omega)) M_take.b .nil (passes_call (takes_of rfl rfl rfl rfl) (fun _ _ _ _ h => h))))
      (pss_one (ps_set (i := 2) sc_class_item.nd rfl (Or.inl rfl) (pe_meth (pv 0) CC.cl M_expect.m M_expect.ok (hr.mono (by omega)) M_expect.b .nil (passes_call (takes_of rfl rfl rfl rfl) (fun _ _ _ _ h => h)) (pa_cons pe_str pa_nil))))) pss_nil)
    (pss_cons (ps_expr (pe_meth (pv 0) CC.cl M_expect.m M_expect.ok (hr.mono (by omega)) M_expect.b .nil (passes_call (takes_of rfl rfl rfl rfl) (fun _ _ _ _ h => h)) (pa_cons pe_str pa_nil)))
    (pss_cons (ps_set (i := 3) sc_class_item.nd rfl (Or.inl rfl) (pe_lst pa_nil))
    (pss_cons (ps_while (passes_of rfl) (PW.pt (pw_and (pt_cmpR op_eq (pe_meth0 (pv 0) CC.cl M_kind.m M_kind.ok (hr.mono (by omega)) M_kind.b .nil pass0) pe_str (nomark _)) (pw_and1 (pt_cmpR op_eq (pe_meth0 (pv 0) CC.cl M_kind_behind.m M_kind_behind.ok (hr.mono (by omega)) M_kind_behind.b .nil pass0) pe_str (nomark _))))) (pss_cons (ps_expr (pe_bm PySem.F.plainAttrs_list PySem.F.slot_list_append PySem.F.type_list_append mt_append (pv 3) (pa_cons (pe_meth0 (pv 0) CC.cl M_take.m M_take.ok (hr.mono (by omega)) M_take.b .nil (passes_call (takes_of rfl rfl rfl rfl) (fun _ _ _ _ h => h))) pa_nil)))
      (pss_one (ps_expr (pe_meth (pv 0) CC.cl M_expect.m M_expect.ok (hr.mono (by omega)) M_expect.b .nil (passes_call (takes_of rfl rfl rfl rfl) (fun _ _ _ _ h => h)) (pa_cons pe_str pa_nil))))))
    (pss_cons (ps_set (i := 4) sc_class_item.nd rfl (Or.inl rfl) (pe_lst pa_nil))
    (pss_cons (ps_while (passes_of rfl) (pt_cmpR op_eq (pe_meth0 (pv 0) CC.cl M_kind.m M_kind.ok (hr.mono (by omega)) M_kind.b .nil pass0) pe_str (nomark _)) (pss_one (ps_expr (pe_bm PySem.F.plainAttrs_list PySem.F.slot_list_append PySem.F.type_list_append mt_append (pv 4) (pa_cons (pe_tup (pa_cons (pe_meth0 (pv 0) CC.cl M_take.m M_take.ok (hr.mono (by omega)) M_take.b .nil (passes_call (takes_of rfl rfl rfl rfl) (fun _ _ _ _ h => h))) (pa_cons (pe_callSF D_params.ok (hf.mono (by omega)) rfl D_params.g D_params.k D_params.b (fun σ => passAt (takes_of rfl rfl rfl rfl) σ) (pa_cons (pv 0) pa_nil)) (pa_cons (pe_callSF D_block.ok (hf.mono (by omega)) rfl D_block.g D_block.k D_block.b (fun σ => passAt (takes_of rfl rfl rfl rfl) σ) (pa_cons (pv 0) pa_nil)) pa_nil)))) pa_nil)))))
    (pss_cons (ps_expr (pe_meth (pv 0) CC.cl M_expect.m M_expect.ok (hr.mono (by omega)) M_expect.b .nil (passes_call (takes_of rfl rfl rfl rfl) (fun _ _ _ _ h => h)) (pa_cons pe_str pa_nil)))
    (pss_one (ps_ret (pe_tup (pa_cons pe_str (pa_cons (pv 1) (pa_cons (pv 2) (pa_cons (pe_tupleOf rfl T.n_tuple (pv 3)) (pa_cons (pe_tupleOf rfl T.n_tuple (pv 4)) pa_nil)))))))))))))))))), ?_⟩
  generalize hσ : L2.start _ _ = σ0
  have hσ : σ0 = [some (.ref a), none, none, none, none] := hσ.symm
  subst hσ
  have hz := line_eq
  have hln := R.n
  have c0 := PC.begin (X := classP d) hi ha
  have hno : classP d (toks.drop i) ≠ .out := gd_no_out (gd_classP d _)
  generalize classP d (toks.drop i) = x at hq c0 hno
  obtain ⟨fs, hfs, lk, lt, le, lr, lb'⟩ := c0.fs
  -- expect("class"), the name
  refine ⟨_, rfl, a, dx, fs, rfl, hfs, le, ?_⟩
  dsimp only [tNil, tCons]
  refine sp_expect_lit (PC.expect R hfs hq (g := classB d) c0 (by decide +kernel) (by decide +kernel) (by decide +kernel) fun H1 v1 g1 c1 => ?_)
  obtain ⟨fs1, hfs1, lk1, lt1, le1, lr1, lb1⟩ := c1.fs
  refine seq_set ?_
  refine ⟨_, rfl, a, dx, fs1, rfl, hfs1, le1, ?_⟩
  dsimp only [tNil, tCons]
  refine sp_expect_lit (PC.name R hfs hq c1 fun H2 v2 tn g2 c2 => ?_)
  refine seq_set ?_
  show tSeq _ _ _ _ _
  -- the elder
  let KO : Tr → Gr.P Tr := fun e r => opn (inn d) "{" (fun _ r => bind (fields (r.length + 1) [] r) fun fs r => bind (methods (inn (d - 1)) (r.length + 1) [] r) fun ms r =>
    bind (want "}" r) fun _ r => .ok (.t [Gr.w "class", tn, e, .t fs, .t ms]) r) r
  refine seq_join (fun σ H' => ∃ (te : Tr) (ve : V), σ = [some (.ref a), some v2, some ve, none, none] ∧ PC CC.C a dx q toks H x (60 - (d : Int)) (KO te) [tn, te] [v2, ve] H') ?_ ?_
  rotate_left
  · intro NX nx
    obtain ⟨fs2, hfs2, lk2, lt2, le2, lr2, lb2⟩ := c2.fs
    refine ⟨_, rfl, a, dx, fs2, rfl, hfs2, lk2, ?_⟩
    dsimp only [tNil, tCons]
    refine PC.kind (E' := E0) R hfs c2 fun i3 hi3 ha3 hr3 ex3 => ?_
    have g03 := c2.1
    have hop : hd "of" (toks.drop i3) = true ↔ kindN (toks.drop i3) = codes "of" := kind_hd (by decide +kernel) (kd_of R i3)
    refine ⟨rfl, _, rfl, ?_⟩
    refine ited (fun h1 => ?_) (fun h1 => go_next (nx _ _ ⟨.z, .non, rfl, g03, i3, hi3, ha3, ?_, ?_⟩))
    · have h1 := eq_lit.mp h1
      refine ⟨_, rfl, a, dx, fs2, rfl, hfs2, lt2, ?_⟩
      dsimp only [tNil, tCons]
      refine PC.take R hfs g03 ha3 hr3 h1 (by decide +kernel) (by decide +kernel) (by decide +kernel) fun hlt H4 hw4 g4 ha4 hr4 => ?_
      have c4 : PC CC.C a dx q toks H x (60 - (d : Int)) (fun r => bind (named r) fun e r => KO e r) [tn] [v2] H4 := ⟨g03.trans g4, i3 + 1, hlt, ha4, hr4, by
        rw [ex3]
        show bind (if hd "of" (toks.drop i3) = true then _ else _) _ = _
        rw [if_pos (hop.mpr h1), drop_at hlt]; rfl⟩
      obtain ⟨fs4, hfs4, lk4, lt4, le4, lr4, lb4⟩ := c4.fs
      refine ⟨_, rfl, a, dx, fs4, rfl, hfs4, le4, ?_⟩
      dsimp only [tNil, tCons]
      refine sp_expect_lit (PC.name R hfs hq c4 fun H5 v5 t5 g5 c5 => ?_)
      exact nx _ _ ⟨t5, v5, rfl, c5⟩
    · rw [RelTs]
      rw [List.nil_append, List.nil_append] at hr3
      rw [RelTs] at hr3
      obtain ⟨y, ys, e, h4, h5⟩ := hr3
      cases e
      exact ⟨_, _, rfl, h4, by rw [RelTs]; exact ⟨_, _, rfl, by rw [RelT], by rw [RelTs]⟩⟩
    · rw [ex3]
      show bind (if hd "of" (toks.drop i3) = true then _ else _) _ = _
      rw [if_neg (fun z => h1 (eq_lit.mpr (hop.mp z)))]; rfl
  rintro σ H3 ⟨te, ve, rfl, c3⟩
  obtain ⟨fs3, hfs3, lk3, lt3, le3, lr3, lb3⟩ := c3.fs
  refine ⟨_, rfl, a, dx, fs3, rfl, hfs3, le3, ?_⟩
  dsimp only [tNil, tCons]
  refine sp_expect_lit (PC.expectO R hfs hq c3 (by decide +kernel) (by decide +kernel) fun H4 v4 e he g4 c4 => ?_)
  subst he
  obtain ⟨g04, i4, hi4, ha4, hr4, ex4⟩ := c4
  have ex4 : x = bind (fields ((toks.drop i4).length + 1) [] (toks.drop i4)) fun fs r => bind (methods (inn e) (r.length + 1) [] r) fun ms r => bind (want "}" r) fun _ r => .ok (.t [Gr.w "class", tn, te, .t fs, .t ms]) r := ex4
  have hr4n : RelT H4 tn v2 ∧ RelT H4 te ve := by
    rw [RelTs] at hr4
    obtain ⟨y, ys, e1, h5, h6⟩ := hr4
    cases e1
    exact ⟨h5, rels_last h6⟩
  -- the fields
  refine seq_set ?_
  refine ⟨Nat.zero_le _, fun pf npf => ?_⟩
  have gf := same_new npf (.lst [])
  have npf0 : H pf = none := by
    cases e1 : H pf with
    | none => rfl
    | some o => rw [g04 pf o (fun z => by rw [z, (show H4 a = some (.ins CC.C dx _) from ha4)] at npf; cases npf) e1] at npf; cases npf
  have nfa : pf ≠ a := (ne_of_none hfs npf0).symm
  let keep : Hp → Prop := fun H' => RelT H' tn v2 ∧ RelT H' te ve
  have keepT : ∀ {H1 H2 : Hp}, TupK H1 H2 → keep H1 → keep H2 := fun t h => ⟨h.1.keep t, h.2.keep t⟩
  let KM : List Tr → Gr.P Tr := fun fs r => bind (methods (inn e) (r.length + 1) [] r) fun ms r => bind (want "}" r) fun _ r => .ok (.t [Gr.w "class", tn, te, .t fs, .t ms]) r
  have capN := (capOk "NAME" (by decide +kernel))
  dsimp only
  refine seq_join (fun σ H' => σ = [some (.ref a), some v2, some ve, some (.ref pf), none] ∧ ∃ (i : Nat) (acc : List Tr) (xs : List V), i ≤ toks.length ∧ On a H H' ∧ SA CC.C H' a dx q i (60 - (e : Int)) ∧ H' pf = some (.lst xs) ∧ xs.length ≤ i ∧ RelTs H' acc xs ∧ keep H' ∧ x = KM acc (toks.drop i)) ?_ ?_
  rotate_left
  · intro NX nx
    refine while_of (fun σ H' => σ = [some (.ref a), some v2, some ve, some (.ref pf), none] ∧ ∃ (i : Nat) (acc : List Tr) (xs : List V), i ≤ toks.length ∧ On a H H' ∧ SA CC.C H' a dx q i (60 - (e : Int)) ∧ H' pf = some (.lst xs) ∧ xs.length ≤ i ∧ RelTs H' acc xs ∧ keep H' ∧ x = KM acc (toks.drop i))
      (fun m σ H' => σ = [some (.ref a), some v2, some ve, some (.ref pf), none] ∧ FlW CC.C a dx q pf toks (60 - (e : Int)) H x KM keep m H') (toks.length - i4)
      ⟨rfl, i4, _, [], [], rfl, hi4, by rw [List.length_drop]; omega, g04.trans (On.same gf), gf _ _ ha4, upd_same, Nat.zero_le _, by rw [RelTs], keepT (TupK.same gf) hr4n, ex4⟩ (fun σ H' h => nx _ _ h) ?_
    rintro NX2 nx2 m σ H5 ⟨rfl, i5, n, acc, xs, rfl, hi5, hn5, g5, ha5, hp5, hl5, hr5, hk5, ex5⟩
    obtain ⟨n, rfl⟩ : ∃ k, n = k + 1 := ⟨n - 1, by omega⟩
    obtain ⟨fs5, hfs5, lk5, lt5, le5, lr5, lb5⟩ := SA.fs ha5
    have hop := kind_name (kd_of R i5)
    refine ⟨_, rfl, a, dx, fs5, rfl, hfs5, lk5, ?_⟩
    dsimp only [tNil, tCons]
    refine ⟨a, dx, q, us, toks, el, i5, _, rfl, R.on g5 hfs, hi5, ha5, ?_⟩
    refine ⟨rfl, _, rfl, ?_⟩
    refine ited (fun h1 => ?_) (fun h1 => ?_)
    rotate_left
    · refine nx2 _ _ ⟨rfl, i5, acc, xs, hi5, g5, ha5, hp5, hl5, hr5, hk5, ?_⟩
      rw [ex5, fields_stop fun t u r et z => h1 (eq_lit.mpr (hop.mpr ⟨t, _, et, z.1⟩))]; rfl
    have h1 := eq_lit.mp h1
    obtain ⟨t5, r5, et5, hso5⟩ := hop.mp h1
    have hlt5 : i5 < toks.length := by
      rcases Nat.lt_or_ge i5 toks.length with h | h
      · exact h
      · rw [List.drop_eq_nil_of_le h] at et5; cases et5
    have hd5 := drop_at hlt5
    have hso5 : toks[i5].so = .name := by rw [hd5] at et5; rw [(List.cons.inj et5).1]; exact hso5
    have hsemi : hd ";" (toks.drop (i5 + 1)) = true ↔ kindN (toks.drop (i5 + 1)) = codes ";" := kind_hd (by decide +kernel) (kd_of R (i5 + 1))
    refine ⟨_, rfl, a, dx, fs5, rfl, hfs5, lb5, ?_⟩
    dsimp only [tNil, tCons]
    refine ⟨a, dx, q, us, toks, el, i5, _, rfl, R.on g5 hfs, hlt5, ha5, ?_⟩
    refine ⟨rfl, _, rfl, ?_⟩
    refine ited (fun h2 => ?_) (fun h2 => ?_)
    rotate_left
    · refine nx2 _ _ ⟨rfl, i5, acc, xs, hi5, g5, ha5, hp5, hl5, hr5, hk5, ?_⟩
      rw [ex5, fields_stop fun t u r et z => h2 (eq_lit.mpr (hsemi.mp ?_))]
      · rfl
      · rw [hd5] at et
        rw [(List.cons.inj et).2]; exact z.2
    have h2 := eq_lit.mp h2
    have h2' := hsemi.mpr h2
    have hlt6 : i5 + 1 < toks.length := by
      rcases Nat.lt_or_ge (i5 + 1) toks.length with h | h
      · exact h
      · rw [List.drop_eq_nil_of_le h] at h2'; cases h2'
    have hd6 := drop_at hlt6
    have ex7 : x = bind (fields n (acc ++ [wdT toks[i5].wd]) (toks.drop (i5 + 1 + 1))) KM := by
      rw [ex5, hd5, hd6]
      rw [hd6] at h2'
      rw [show fields (n + 1) acc (toks[i5] :: toks[i5 + 1] :: toks.drop (i5 + 1 + 1)) = fields n (acc ++ [wdT toks[i5].wd]) (toks.drop (i5 + 1 + 1)) from by rw [fields]; exact if_pos ⟨hso5, h2'⟩]
    refine ⟨fun σ H' => ∃ m', m' < toks.length - i5 ∧ (σ = [some (.ref a), some v2, some ve, some (.ref pf), none] ∧ FlW CC.C a dx q pf toks (60 - (e : Int)) H x KM keep m' H'), fun _ _ h => h, ?_⟩
    refine ⟨_, rfl, .inl ⟨rfl, _, SqL.of hp5⟩, ?_⟩
    refine ⟨_, rfl, a, dx, fs5, rfl, hfs5, lt5, ?_⟩
    dsimp only [tNil, tCons]
    refine PC.takeV R hfs g5 hlt5 ha5 hr5 (by rw [h1]; exact capN.1) (by rw [h1]; exact capN.2.1) fun H7 g7 ha7 hr7 => ?_
    have hp7 := g7 _ _ nfa hp5
    refine ⟨pf, xs, _, rfl, rfl, hp7, by omega, ?_⟩
    have tk7 : TupK H5 (upd H7 pf (.lst (xs ++ [wdV toks[i5].wd]))) := fun p ys h => TupK.set hp7 p ys (TupK.on g7 hfs5 p ys h)
    have g8 : On a H (upd H7 pf (.lst (xs ++ [wdV toks[i5].wd]))) := on_mut (g5.trans g7) npf0
    have ha8 : SA CC.C (upd H7 pf (.lst (xs ++ [wdV toks[i5].wd]))) a dx q (i5 + 1) (60 - (e : Int)) := by
      show (upd H7 pf _) a = _
      rw [upd_ne nfa.symm]; exact ha7
    have hp8 : (upd H7 pf (.lst (xs ++ [wdV toks[i5].wd]))) pf = some (.lst (xs ++ [wdV toks[i5].wd])) := upd_same
    have hr8 := (hr5.keep tk7).snoc (wd_rel (H := upd H7 pf (.lst (xs ++ [wdV toks[i5].wd]))) toks[i5].wd)
    have hk8 := keepT tk7 hk5
    generalize upd H7 pf (.lst (xs ++ [wdV toks[i5].wd])) = H8 at g8 ha8 hp8 hr8 hk8 ⊢
    obtain ⟨fs8, hfs8, lk8, lt8, le8, lr8, lb8⟩ := SA.fs ha8
    refine ⟨_, rfl, a, dx, fs8, rfl, hfs8, le8, ?_⟩
    dsimp only [tNil, tCons]
    refine sp_expect_lit (expectAt R hfs g8 (Nat.le_of_lt hlt6) ha8 h2 (by decide +kernel) (by decide +kernel) (by decide +kernel) fun H9 v9 _ g9 ha9 => ?_)
    exact ⟨toks.length - (i5 + 1 + 1), by omega, rfl, i5 + 1 + 1, n, _, _, rfl, hlt6, by omega, g8.trans g9, ha9, g9 _ _ nfa hp8, by rw [List.length_append, List.length_singleton]; omega, hr8.keep (TupK.on g9 hfs8), keepT (TupK.on g9 hfs8) hk8, ex7⟩
  rintro σ H6 ⟨rfl, i6, accF, xsF, hi6, g6, ha6, hp6, hl6, hr6, hk6, ex6⟩
  -- the methods
  refine seq_set ?_
  refine ⟨Nat.zero_le _, fun pm npm => ?_⟩
  have gm := same_new npm (.lst [])
  have npm0 : H pm = none := by
    cases e1 : H pm with
    | none => rfl
    | some o => rw [g6 pm o (fun z => by rw [z, (show H6 a = some (.ins CC.C dx _) from ha6)] at npm; cases npm) e1] at npm; cases npm
  have nma : pm ≠ a := (ne_of_none hfs npm0).symm
  have nmf : pm ≠ pf := (ne_of_none hp6 npm).symm
  let kp : Hp → Prop := fun H' => keep H' ∧ RelTs H' accF xsF ∧ H' pf = some (.lst xsF)
  have kpT : ∀ {H1 H2 : Hp}, TupK H1 H2 → H2 pf = H1 pf → kp H1 → kp H2 := fun t e h => ⟨keepT t h.1, h.2.1.keep t, by rw [e]; exact h.2.2⟩
  have kpO : ∀ {H1 H2 : Hp} {fs : List (Str × V)}, On a H1 H2 → H1 a = some (.ins CC.C dx fs) → kp H1 → kp H2 := fun g e h => ⟨keepT (TupK.on g e) h.1, h.2.1.keep (TupK.on g e), g _ _ nfa h.2.2⟩
  let KE : List Tr → Gr.P Tr := fun ms r => bind (want "}" r) fun _ r => .ok (.t [Gr.w "class", tn, te, .t accF, .t ms]) r
  dsimp only
  refine seq_join (fun σ H' => σ = [some (.ref a), some v2, some ve, some (.ref pf), some (.ref pm)] ∧ ∃ (i : Nat) (acc : List Tr) (xs : List V), i ≤ toks.length ∧ On a H H' ∧ SA CC.C H' a dx q i (60 - (e : Int)) ∧ H' pm = some (.lst xs) ∧ xs.length ≤ i ∧ RelTs H' acc xs ∧ kp H' ∧ x = KE acc (toks.drop i)) ?_ ?_
  rotate_left
  · intro NX nx
    refine while_of (fun σ H' => σ = [some (.ref a), some v2, some ve, some (.ref pf), some (.ref pm)] ∧ ∃ (i : Nat) (acc : List Tr) (xs : List V), i ≤ toks.length ∧ On a H H' ∧ SA CC.C H' a dx q i (60 - (e : Int)) ∧ H' pm = some (.lst xs) ∧ xs.length ≤ i ∧ RelTs H' acc xs ∧ kp H' ∧ x = KE acc (toks.drop i))
      (fun m σ H' => σ = [some (.ref a), some v2, some ve, some (.ref pf), some (.ref pm)] ∧ MtW CC.C a dx q pm toks (inn e) (60 - (e : Int)) H x KE kp m H') (toks.length - i6)
      ⟨rfl, i6, _, [], [], rfl, hi6, by rw [List.length_drop]; omega, g6.trans (On.same gm), gm _ _ ha6, upd_same, Nat.zero_le _, by rw [RelTs], ⟨keepT (TupK.same gm) hk6, hr6.keep (TupK.same gm), gm _ _ hp6⟩, ex6⟩ (fun σ H' h => nx _ _ h) ?_
    rintro NX2 nx2 m σ H5 ⟨rfl, i5, n, acc, xs, rfl, hi5, hn5, g5, ha5, hp5, hl5, hr5, hk5, ex5⟩
    obtain ⟨n, rfl⟩ : ∃ k, n = k + 1 := ⟨n - 1, by omega⟩
    obtain ⟨fs5, hfs5, lk5, lt5, le5, lr5, lb5⟩ := SA.fs ha5
    have hop := kind_name (kd_of R i5)
    refine ⟨_, rfl, a, dx, fs5, rfl, hfs5, lk5, ?_⟩
    dsimp only [tNil, tCons]
    refine ⟨a, dx, q, us, toks, el, i5, _, rfl, R.on g5 hfs, hi5, ha5, ?_⟩
    refine ⟨rfl, _, rfl, ?_⟩
    refine ited (fun h1 => ?_) (fun h1 => ?_)
    rotate_left
    · refine nx2 _ _ ⟨rfl, i5, acc, xs, hi5, g5, ha5, hp5, hl5, hr5, hk5, ?_⟩
      rw [ex5, methods_stop fun t r et z => h1 (eq_lit.mpr (hop.mpr ⟨t, _, et, z⟩))]; rfl
    have h1 := eq_lit.mp h1
    obtain ⟨t5, r5, et5, hso5⟩ := hop.mp h1
    have hlt5 : i5 < toks.length := by
      rcases Nat.lt_or_ge i5 toks.length with h | h
      · exact h
      · rw [List.drop_eq_nil_of_le h] at et5; cases et5
    have hd5 := drop_at hlt5
    have hso5 : toks[i5].so = .name := by rw [hd5] at et5; rw [(List.cons.inj et5).1]; exact hso5
    have ex7 : x = bind (params (inn e) (toks.drop (i5 + 1))) fun ps r => bind (block (inn e) r) fun b r => bind (methods (inn e) n (acc ++ [.t [wdT toks[i5].wd, ps, b]]) r) KE := by
      rw [ex5, hd5]
      rw [show methods (inn e) (n + 1) acc (toks[i5] :: toks.drop (i5 + 1)) = bind (params (inn e) (toks.drop (i5 + 1))) fun ps r => bind (block (inn e) r) fun b r => methods (inn e) n (acc ++ [.t [wdT toks[i5].wd, ps, b]]) r from by rw [methods]; exact if_pos hso5]
      rw [bind_bind]
      congr 1
      funext ps r
      rw [bind_bind]
    refine ⟨fun σ H' => ∃ m', m' < toks.length - i5 ∧ (σ = [some (.ref a), some v2, some ve, some (.ref pf), some (.ref pm)] ∧ MtW CC.C a dx q pm toks (inn e) (60 - (e : Int)) H x KE kp m' H'), fun _ _ h => h, ?_⟩
    refine ⟨_, rfl, .inl ⟨rfl, _, SqL.of hp5⟩, ?_⟩
    refine ⟨_, rfl, a, dx, fs5, rfl, hfs5, lt5, ?_⟩
    dsimp only [tNil, tCons]
    refine PC.takeV R hfs g5 hlt5 ha5 hr5 (by rw [h1]; exact capN.1) (by rw [h1]; exact capN.2.1) fun H7 g7 ha7 hr7 => ?_
    have hp7 := g7 _ _ nma hp5
    have hk7 := kpO g7 hfs5 hk5
    obtain ⟨fs7, hfs7, _⟩ := SA.fs ha7
    refine ⟨_, rfl, ?_⟩
    refine callAt (d := e) R hfs hq gd_params (g5.trans g7) hlt5 ha7 (rels_one (wd_rel toks[i5].wd)) ex7 fun H8 v8 t8 i8 li8 hi8 g8 ha8 hr8 hx8 => ?_
    obtain ⟨fs8, hfs8, _⟩ := SA.fs ha8
    refine ⟨_, rfl, ?_⟩
    refine callAt (d := e) R hfs hq (gd_block (in_ok e)) ((g5.trans g7).trans g8) hi8 ha8 hr8 hx8 fun H9 v9 t9 i9 li9 hi9 g9 ha9 hr9 hx9 => ?_
    obtain ⟨fs9, hfs9, _⟩ := SA.fs ha9
    have hp9 := g9 _ _ nma (g8 _ _ nma hp7)
    have hk9 := kpO g9 hfs8 (kpO g8 hfs7 hk7)
    have hr5' := ((hr5.keep (TupK.on g7 hfs5)).keep (TupK.on g8 hfs7)).keep (TupK.on g9 hfs8)
    refine ⟨(by show 3 ≤ _; omega), fun pt npt => ?_⟩
    have gt := same_new npt (.tup [wdV toks[i5].wd, v8, v9])
    have hp10 := gt _ _ hp9
    refine ⟨pm, xs, _, rfl, rfl, hp10, by omega, ?_⟩
    have tk : TupK H9 (upd (upd H9 pt (.tup [wdV toks[i5].wd, v8, v9])) pm (.lst (xs ++ [.ref pt]))) := fun p ys h => TupK.set hp10 p ys (gt p _ h)
    have hg : On a H (upd (upd H9 pt (.tup [wdV toks[i5].wd, v8, v9])) pm (.lst (xs ++ [.ref pt]))) := on_mut ((((g5.trans g7).trans g8).trans g9).trans (On.same gt)) npm0
    have hpt : (upd (upd H9 pt (.tup [wdV toks[i5].wd, v8, v9])) pm (.lst (xs ++ [.ref pt]))) pt = some (.tup [wdV toks[i5].wd, v8, v9]) := by
      rw [upd_ne (ne_of_none hp9 npt).symm]; exact upd_same
    refine ⟨toks.length - i9, by omega, rfl, i9, n, _, _, rfl, hi9, by omega, hg, ?_, upd_same, ?_, (hr5'.keep tk).snoc (rels_last (rel_tup hpt (hr9.keep tk))), ?_, hx9⟩
    · show (upd _ pm _) a = _
      rw [upd_ne nma.symm]; exact gt _ _ ha9
    · rw [List.length_append, List.length_singleton]; omega
    · refine kpT tk ?_ hk9
      rw [upd_ne nmf.symm, gt _ _ hk9.2.2, hk9.2.2]
  rintro σ H7 ⟨rfl, i7, accM, xsM, hi7, g7, ha7, hp7, hl7, hr7, hk7, ex7⟩
  have hpf7 := hk7.2.2
  have hrf7 := hk7.2.1
  have c7 : PC CC.C a dx q toks H x (60 - ((e + 1 : Nat) : Int) + 1) (fun r => bind (want "}" r) fun _ r => .ok (.t [Gr.w "class", tn, te, .t accF, .t accM]) r) [tn, te] [v2, ve] H7 := ⟨g7, i7, hi7, by rw [show 60 - ((e + 1 : Nat) : Int) + 1 = 60 - (e : Int) by omega]; exact ha7, by
    rw [RelTs]
    exact ⟨_, _, rfl, hk7.1.1, rels_one hk7.1.2⟩, ex7⟩
  obtain ⟨fs7, hfs7, lk7, lt7, le7, lr7, lb7⟩ := c7.fs
  refine ⟨_, rfl, a, dx, fs7, rfl, hfs7, le7, ?_⟩
  dsimp only [tNil, tCons]
  refine sp_expect_lit (PC.expectC R hfs hq c7 (by decide +kernel) (by decide +kernel) fun H8 v8 g8 c8 => ?_)
  have hpf8 := g8 _ _ nfa hpf7
  have hpm8 := g8 _ _ nma hp7
  have hrf8 := hrf7.keep (TupK.on g8 hfs7)
  have hrm8 := hr7.keep (TupK.on g8 hfs7)
  refine ⟨_, rfl, _, rfl, _, rfl, .inl ⟨pf, xsF, rfl, SqL.of hpf8, fun p1 n1 => ?_⟩⟩
  have k1 := same_new n1 (.tup xsF)
  refine ⟨_, rfl, .inl ⟨pm, xsM, rfl, SqL.of (k1 _ _ hpm8), fun p2 n2 => ?_⟩⟩
  have k2 := same_new n2 (.tup xsM)
  refine ⟨(by show 5 ≤ _; omega), fun p3 n3 => ?_⟩
  have k3 := same_new n3 (.tup [V.str "class", v2, ve, .ref p1, .ref p2])
  have c9 := c8.same ((k1.trans k2).trans k3)
  refine c9.done hq fun hr => rels_last (rel_tup upd_same ?_)
  rw [litW]
  refine rel_word ?_
  rw [RelTs] at hr
  obtain ⟨_, _, e1, h1, h2⟩ := hr
  cases e1
  rw [RelTs]
  refine ⟨_, _, rfl, h1, ?_⟩
  rw [RelTs]
  refine ⟨_, _, rfl, rels_last h2, ?_⟩
  rw [RelTs]
  refine ⟨_, _, rfl, ?_, rels_one ?_⟩
  · rw [RelT]
    exact ⟨p1, xsF, rfl, k3 _ _ (k2 _ _ upd_same), hrf8.keep (TupK.same ((k1.trans k2).trans k3))⟩
  · rw [RelT]
    exact ⟨p2, xsM, rfl, k3 _ _ upd_same, hrm8.keep (TupK.same ((k1.trans k2).trans k3))⟩
end
end Wk
set_option maxRecDepth 100000
set_option maxHeartbeats 8000000
namespace Wk
open PySem L2 TL PyProof.Rows Gm Gr
open SX (S S_len)
theorem pitem_class {d : Nat} {t : Tk} {r : List Tk} (h : isW "class" t = true) : Gr.item d (t :: r) = classP d (t :: r) := by
  unfold classP
  rw [want_yes h, Gr.item.eq_def]
  dsimp only
  rw [if_pos h]; rfl
theorem pitem_fun {d : Nat} {t u : Tk} {r : List Tk} (h : isW "fun" t = true) (hu : u.so = .name) : Gr.item d (t :: u :: r) = bind (params (inn d) r) fun ps r => bind (block (inn d) r) fun b r => .ok (.t [Gr.w "function", wdT u.wd, ps, b]) r := by
  rw [Gr.item.eq_def]
  dsimp only
  rw [if_neg (isW_other h (by decide +kernel)), if_pos ⟨h, hu⟩]
theorem pitem_else {d : Nat} {toks : List Tk} (h1 : ∀ t r, toks = t :: r → ¬ isW "class" t = true) (h2 : ∀ t u r, toks = t :: u :: r → ¬ (isW "fun" t = true ∧ u.so = .name)) : Gr.item d toks = stmt (inn d) toks := by
  cases toks with
  | nil => rw [Gr.item.eq_def, stmt]
  | cons t r =>
    rw [Gr.item.eq_def]
    dsimp only
    rw [if_neg (h1 t r rfl)]
    cases r with
    | nil => rfl
    | cons u r => exact if_neg (h2 t u r rfl)
section
variable {P : Program} {w : World} {K : PySem.W.Frag} {mg : Str → Option Value} {base : Heap}
abbrev s_item : Stmt := top 50
theorem sc_item : FnScope ["source"] ["source"] (defScope s_item) := ⟨rfl, rfl, rfl, by decide +kernel, rfl, by decide +kernel, by decide +kernel⟩
theorem ok_pitem {d lv lc lp lb : Nat} (T : Txt K mg) (CC : CurT K) {BC : Addr} (M : MT P w K mg base CC BC) (hlv : 6 ≤ lv) (hlc : lc ≤ lv) (hlp : lp ≤ lv) (hlb : lb ≤ lv) {f : Addr} {fd : FuncData} (F : Fun K "item" "item" s_item f fd)
    (D_class_item : DefF P w K mg base (L2.CX P w) "class_item" ["source"] lc (sp_rd CC.C BC d (classP d) RelT)) (D_params : DefF P w K mg base (L2.CX P w) "params" ["source"] lp (sp_rd CC.C BC d (params (inn d)) RelT))
    (D_block : DefF P w K mg base (L2.CX P w) "block" ["source"] lb (sp_rd CC.C BC d (block (inn d)) RelT)) (D_statement : DefF P w K mg base (L2.CX P w) "statement" ["source"] lv (sp_rd CC.C BC d (stmt (inn d)) RelT)) : FnF P w K mg base (L2.CX P w) (lv + 1) f fd ["source"] (sp_rd CC.C BC d (Gr.item d) RelT) := by
  refine okFX F sc_item (fun vs H Q E h => ?_) (fun cdv A outer s H vs Q E hr hf h => ?_)
  · obtain ⟨a, _, _, _, _, _, _, rfl, _⟩ := h; rfl
  obtain ⟨a, dx, q, us, toks, el, i, rfl, R, hi, ha, hq⟩ := h
  have M_kind := M.kind
  have M_kind_behind := M.kindb
  have M_take := M.take
  have M_expect := M.expect
  refine ⟨_, (pss_cons (ps_if (pt_cmpR op_eq (pe_meth0 (pv 0) CC.cl M_kind.m M_kind.ok (hr.mono (by omega)) M_kind.b .nil pass0) pe_str (nomark _)) (pss_one (ps_ret (pe_callSF D_class_item.ok (hf.mono (by omega)) rfl D_class_item.g D_class_item.k D_class_item.b (fun σ => passAt (takes_of rfl rfl rfl rfl) σ) (pa_cons (pv 0) pa_nil)))) pss_nil)
    (pss_cons (ps_if (PW.pt (pw_and (pt_cmpR op_eq (pe_meth0 (pv 0) CC.cl M_kind.m M_kind.ok (hr.mono (by omega)) M_kind.b .nil pass0) pe_str (nomark _)) (pw_and1 (pt_cmpR op_eq (pe_meth0 (pv 0) CC.cl M_kind_behind.m M_kind_behind.ok (hr.mono (by omega)) M_kind_behind.b .nil pass0) pe_str (nomark _))))) (pss_cons (ps_expr (pe_meth0 (pv 0) CC.cl M_take.m M_take.ok (hr.mono (by omega)) M_take.b .nil (passes_call (takes_of rfl rfl rfl rfl) (fun _ _ _ _ h => h))))
      (pss_one (ps_ret (pe_tup (pa_cons pe_str (pa_cons (pe_meth (pv 0) CC.cl M_expect.m M_expect.ok (hr.mono (by omega)) M_expect.b .nil (passes_call (takes_of rfl rfl rfl rfl) (fun _ _ _ _ h => h)) (pa_cons pe_str pa_nil)) (pa_cons (pe_callSF D_params.ok (hf.mono (by omega)) rfl D_params.g D_params.k D_params.b (fun σ => passAt (takes_of rfl rfl rfl rfl) σ) (pa_cons (pv 0) pa_nil)) (pa_cons (pe_callSF D_block.ok (hf.mono (by omega)) rfl D_block.g D_block.k D_block.b (fun σ => passAt (takes_of rfl rfl rfl rfl) σ) (pa_cons (pv 0) pa_nil)) pa_nil)))))))) pss_nil)
    (pss_one (ps_ret (pe_callSF D_statement.ok (hf.mono (by omega)) rfl D_statement.g D_statement.k D_statement.b (fun σ => passAt (takes_of rfl rfl rfl rfl) σ) (pa_cons (pv 0) pa_nil)))))), ?_⟩
  have hz := line_eq
  obtain ⟨fs, hfs, lk, lt, le, lr, lb'⟩ := SA.fs ha
  generalize hx : Gr.item d (toks.drop i) = x at hq
  have rel0 : RelTs H [] [] := by rw [RelTs]
  have kind : ∀ {Rk : VK}, Rk (.str (S (kindN (toks.drop i)))) H → sp_kind CC.C [.ref a] H Rk E0 := fun h => ⟨a, dx, q, us, toks, el, i, _, rfl, R, hi, ha, h⟩
  have hcl : hd "class" (toks.drop i) = true ↔ kindN (toks.drop i) = codes "class" := kind_hd (by decide +kernel) (kd_of R i)
  have hfu : hd "fun" (toks.drop i) = true ↔ kindN (toks.drop i) = codes "fun" := kind_hd (by decide +kernel) (kd_of R i)
  have whole : ∀ {X : Gr.P Tr} {g : Nat}, x = X (toks.drop i) → PC CC.C a dx q toks H x (60 - (d : Int)) (fun r => bind (X r) fun t r => .ok t r) [] [] H := fun {X g} e => ⟨On.refl _ _, i, hi, ha, rel0, by
    rw [e]
    show X (toks.drop i) = bind (X (toks.drop i)) _
    cases X (toks.drop i) <;> rfl⟩
  refine ⟨_, rfl, a, dx, fs, rfl, hfs, lk, ?_⟩
  dsimp only [tNil, tCons]
  refine kind ⟨rfl, _, rfl, ?_⟩
  refine ited (fun h1 => ?_) (fun h1 => go_next ?_)
  · have h1 := eq_lit.mp h1
    obtain ⟨hlt, hw⟩ := kindb R (by decide +kernel) h1
    have c1 := whole (X := classP d) (g := 0) (by rw [← hx, drop_at hlt]; exact pitem_class hw)
    refine ⟨_, rfl, ?_⟩
    dsimp only [tNil, tCons]
    refine PC.call R hfs hq (gd_classP d) c1 fun H2 v2 t2 g2 c2 => ?_
    exact c2.done hq fun hr => rels_last hr
  have n1 : ∀ t r, toks.drop i = t :: r → ¬ isW "class" t = true := fun t r e z => h1 (eq_lit.mpr (hcl.mp (by rw [e]; exact z)))
  have other : (∀ t u r, toks.drop i = t :: u :: r → ¬ (isW "fun" t = true ∧ u.so = .name)) → tRet (tCallS (sp_rd CC.C BC d (stmt (inn d)) RelT) (fun σ => WE (fun cls d x H => E cls d H) σ) (tCons (tVar 0) tNil)) { nx := fun _ H' => Q .non H', rt := Q } [some (.ref a)] H := fun n2 => by
    have c1 := whole (X := stmt (inn d)) (g := 0) (by rw [← hx]; exact pitem_else n1 n2)
    refine ⟨_, rfl, ?_⟩
    dsimp only [tNil, tCons]
    refine PC.call R hfs hq (gd_stmt (in_ok d)) c1 fun H2 v2 t2 g2 c2 => ?_
    exact c2.done hq fun hr => rels_last hr
  refine ⟨_, rfl, a, dx, fs, rfl, hfs, lk, ?_⟩
  dsimp only [tNil, tCons]
  refine kind ⟨rfl, _, rfl, ?_⟩
  refine ited (fun h2 => ?_) (fun h2 => go_next (other fun t u r e z => h2 (eq_lit.mpr (hfu.mp (by rw [e]; exact z.1)))))
  have h2 := eq_lit.mp h2
  obtain ⟨hlt, hw⟩ := kindb R (by decide +kernel) h2
  have hd5 := drop_at hlt
  have hop := kind_name (kd_of R (i + 1))
  refine ⟨_, rfl, a, dx, fs, rfl, hfs, lb', ?_⟩
  dsimp only [tNil, tCons]
  refine ⟨a, dx, q, us, toks, el, i, _, rfl, R, hlt, ha, ?_⟩
  refine ⟨rfl, _, rfl, ?_⟩
  refine ited (fun h3 => ?_) (fun h3 => go_next (other fun t u r e z => h3 (eq_lit.mpr (hop.mpr ⟨u, r, by rw [hd5] at e; exact (List.cons.inj e).2, z.2⟩))))
  have h3 := eq_lit.mp h3
  obtain ⟨u, r, eu, hu⟩ := hop.mp h3
  refine ⟨_, rfl, a, dx, fs, rfl, hfs, lt, ?_⟩
  dsimp only [tNil, tCons]
  refine PC.take R hfs (On.refl _ _) ha rel0 h2 (by decide +kernel) (by decide +kernel) (by decide +kernel) fun _ H1 _ g1 ha1 hr1 => ?_
  have c1 : PC CC.C a dx q toks H x (60 - (d : Int)) (fun r => bind (named r) fun n r => bind (params (inn d) r) fun ps r => bind (block (inn d) r) fun b r => .ok (.t [Gr.w "function", n, ps, b]) r) [] [] H1 := ⟨g1, i + 1, hlt, ha1, hr1, by
    rw [← hx, hd5, eu, pitem_fun hw hu]
    show _ = bind (named (u :: r)) _
    rw [show named (u :: r) = .ok (wdT u.wd) r from if_pos hu]; rfl⟩
  obtain ⟨fs1, hfs1, lk1, lt1, le1, lr1, lb1⟩ := c1.fs
  refine ⟨_, rfl, a, dx, fs1, rfl, hfs1, le1, ?_⟩
  dsimp only [tNil, tCons]
  refine sp_expect_lit (PC.name R hfs hq c1 fun H2 v2 t2 g2 c2 => ?_)
  refine ⟨_, rfl, ?_⟩
  refine PC.call R hfs hq gd_params c2 fun H3 v3 t3 g3 c3 => ?_
  refine ⟨_, rfl, ?_⟩
  refine PC.call R hfs hq (gd_block (in_ok d)) c3 fun H4 v4 t4 g4 c4 => ?_
  refine ⟨(by show 4 ≤ _; omega), fun p5 n5 => ?_⟩
  refine (c4.same (same_new n5 _)).done hq fun hr => rels_last (rel_tup upd_same ?_)
  rw [litW]
  exact rel_word hr
end
end Wk
set_option maxRecDepth 100000
set_option maxHeartbeats 4000000
/-! Trees as programs have them: what is within a node, how deep and how great one is. -/
namespace Gr
open Wk Gm
def shapeOf (l : List Nat) : Option (List String) := ((stShL ++ exShL).find? fun q => decide (codes q.1 = l)).map Prod.snd
def isE (s : String) : Bool := decide (s = "e") || decide (s = "place")
def isB (s : String) : Bool := decide (s = "args") || decide (s = "block")
def rowT : Tr → List Tr
  | .t us => us
  | _ => []
def kidsP : List String → List Tr → List Tr
  | s :: sh, t :: ts => (if isE s = true then [t] else if isB s = true then rowT t else []) ++ kidsP sh ts
  | _, _ => []
def kids : Tr → List Tr
  | .t (.s l :: ts) => match shapeOf l with
    | some sh => kidsP sh ts
    | none => []
  | _ => []
theorem row_size {t u : Tr} (h : u ∈ rowT t) : sizeOf u < sizeOf t := by
  cases t with
  | s l => cases h
  | n k => cases h
  | z => cases h
  | t us =>
    have h : u ∈ us := h
    have := List.sizeOf_lt_of_mem h
    simp only [Tr.t.sizeOf_spec]
    omega
theorem kidsP_size : ∀ {sh : List String} {ts : List Tr} {u : Tr}, u ∈ kidsP sh ts → sizeOf u < 1 + sizeOf ts
  | [], [], u, h => by cases h
  | [], _ :: _, u, h => by cases h
  | _ :: _, [], u, h => by cases h
  | s :: sh, t :: ts, u, h => by
    rw [kidsP] at h
    have hs : sizeOf (t :: ts) = 1 + sizeOf t + sizeOf ts := rfl
    rcases List.mem_append.mp h with h | h
    · split at h
      · rw [List.mem_singleton.mp h]; omega
      · split at h
        · have := row_size h; omega
        · cases h
    · have := kidsP_size h; omega
theorem kids_size {t u : Tr} (h : u ∈ kids t) : sizeOf u < sizeOf t := by
  unfold kids at h
  split at h
  · rename_i l ts
    split at h
    · have := kidsP_size h
      simp only [Tr.t.sizeOf_spec, List.cons.sizeOf_spec]
      omega
    · cases h
  · cases h
/-- the greatest of some numbers -/
def maxL (ns : List Nat) : Nat := ns.foldr max 0
theorem maxL_app (a b : List Nat) : maxL (a ++ b) = max (maxL a) (maxL b) := by
  induction a with
  | nil => simp [maxL]
  | cons x a ih => show max x (maxL (a ++ b)) = max (max x (maxL a)) (maxL b); rw [ih]; omega
theorem maxL_cons (x : Nat) (a : List Nat) : maxL (x :: a) = max x (maxL a) := rfl
def dT (t : Tr) : Nat := 1 + maxL ((kids t).attach.map fun u => dT u.1)
termination_by sizeOf t
decreasing_by exact kids_size u.2
def nT (t : Tr) : Nat := 1 + ((kids t).attach.map fun u => nT u.1).sum
termination_by sizeOf t
decreasing_by exact kids_size u.2
theorem dT_eq (t : Tr) : dT t = 1 + maxL ((kids t).map dT) := by
  rw [dT]
  congr 2
  simp
theorem nT_eq (t : Tr) : nT t = 1 + ((kids t).map nT).sum := by
  rw [nT]
  congr 2
  simp
theorem nT_pos (t : Tr) : 1 ≤ nT t := by rw [nT_eq]; omega
def nL (ts : List Tr) : Nat := (ts.map nT).sum
theorem nL_app (a b : List Tr) : nL (a ++ b) = nL a + nL b := by unfold nL; rw [List.map_append, List.sum_append]
theorem nL_cons (a : Tr) (b : List Tr) : nL (a :: b) = nT a + nL b := by unfold nL; rw [List.map_cons, List.sum_cons]
theorem nL_nil : nL [] = 0 := rfl
/-- no row of trees -/
def notR (t : Tr) : Prop := ∀ us, t ≠ .t us
/-- no row of trees, or one of which none is a row -/
def shal (t : Tr) : Prop := ∀ us, t = .t us → ∀ u ∈ us, notR u
theorem shal_of {t : Tr} (h : notR t) : shal t := fun us e => absurd e (h us)
/-- where a row stands, and where none does -/
def FmT (sh : List String) (ts : List Tr) : Prop := ∀ (i : Nat) (s : String) (t : Tr), sh[i]? = some s → ts[i]? = some t → (isB s = true → ∃ us, t = .t us) ∧ (s = "name" → notR t) ∧ (isE s = false → isB s = false → shal t)
/-- a tree of a statement or an expression -/
inductive OkT : Tr → Prop
  | mk (l : List Nat) (sh : List String) (ts : List Tr) (h : shapeOf l = some sh) (len : ts.length = sh.length) (hk : ∀ u ∈ kidsP sh ts, OkT u)
    (hb : FmT sh ts) : OkT (.t (.s l :: ts))
end Gr
set_option maxRecDepth 100000
set_option maxHeartbeats 4000000
/-! What parsers tell are trees, with no more nodes than words were taken. -/
namespace Gr
open Wk Gm
theorem bind_ok {σ ρ : Type} {x : R Tk σ} {f : σ → P ρ} {a : ρ} {r : List Tk} (h : bind x f = .ok a r) : ∃ b r1, x = .ok b r1 ∧ f b r1 = .ok a r := by
  cases x with
  | ok b r1 => exact ⟨b, r1, rfl, h⟩
  | bad r1 => cases h
  | out => cases h
theorem opn_ok {σ : Type} {p : Option In} {x : String} {k : In → P σ} {toks : List Tk} {a : σ} {r : List Tk} (h : opn p x k toks = .ok a r) : ∃ q t r1, p = some q ∧ toks = t :: r1 ∧ k q r1 = .ok a r := by
  cases toks with
  | nil => cases h
  | cons t r1 =>
    rw [opn.eq_def] at h
    dsimp only at h
    split at h
    · cases p with
      | none => cases h
      | some q => exact ⟨q, t, r1, rfl, rfl, h⟩
    · cases h
theorem gd_len {σ : Type} {toks r : List Tk} {x : R Tk σ} {a : σ} (h : Gd true toks x) (e : x = .ok a r) : r.length < toks.length := by
  rw [e] at h; exact h.2 rfl
theorem want_len {s : String} {toks r : List Tk} {a : Unit} (e : want s toks = .ok a r) : r.length < toks.length := gd_len (gd_want s toks) e
theorem named_len {toks r : List Tk} {a : Tr} (e : named toks = .ok a r) : r.length < toks.length := gd_len (gd_named toks) e
def OkL (ts : List Tr) : Prop := ∀ u ∈ ts, OkT u
theorem okL_nil : OkL [] := fun u h => by cases h
theorem okL_cons {a : Tr} {ts : List Tr} (h : OkT a) (h2 : OkL ts) : OkL (a :: ts) := fun u hu => by
  rcases List.mem_cons.mp hu with rfl | hu
  · exact h
  · exact h2 u hu
theorem okL_one {a : Tr} (h : OkT a) : OkL [a] := okL_cons h okL_nil
theorem okL_app {a b : List Tr} (h : OkL a) (h2 : OkL b) : OkL (a ++ b) := fun u hu => by
  rcases List.mem_append.mp hu with hu | hu
  · exact h u hu
  · exact h2 u hu
def OkX (toks : List Tk) (x : R Tk Tr) : Prop := ∀ a r, x = .ok a r → OkT a ∧ nT a + r.length ≤ toks.length
def InK (p : Option In) : Prop := ∀ q, p = some q → (∀ toks, OkX toks (q.E toks)) ∧ (∀ toks, OkX toks (q.S toks))
/-- a node, by its word -/
theorem ok_node {l : List Nat} {sh : List String} {ts : List Tr} (h : shapeOf l = some sh) (len : ts.length = sh.length) {ks : List Tr} (hk : kidsP sh ts = ks) (ok : OkL ks) (hb : FmT sh ts) :
    OkT (.t (.s l :: ts)) ∧ nT (.t (.s l :: ts)) = 1 + nL ks := by
  refine ⟨.mk l sh ts h len (by rw [hk]; exact ok) hb, ?_⟩
  rw [nT_eq]
  have : kids (.t (.s l :: ts)) = ks := by
    show (match shapeOf l with | some sh => kidsP sh ts | none => []) = ks
    rw [h]; exact hk
  rw [this]; rfl
theorem noB {sh : List String} {ts : List Tr} (h : ∀ s ∈ sh, isB s = false) (hw : ∀ t ∈ ts, notR t) : FmT sh ts := fun i s t e e2 =>
  ⟨(fun hb => by rw [h s (List.mem_of_getElem? e)] at hb; cases hb), fun _ => hw t (List.mem_of_getElem? e2), fun _ _ => shal_of (hw t (List.mem_of_getElem? e2))⟩
/-- one node with these parts: «e» parts a, then others -/
theorem ok_leaf {l : List Nat} {sh : List String} {ts : List Tr} (h : shapeOf l = some sh) (len : ts.length = sh.length) (hn : ∀ s ∈ sh, isE s = false ∧ isB s = false) (hw : ∀ t ∈ ts, notR t) : OkT (.t (.s l :: ts)) ∧ nT (.t (.s l :: ts)) = 1 := by
  have hk : ∀ {sh : List String} {ts : List Tr}, (∀ s ∈ sh, isE s = false ∧ isB s = false) → kidsP sh ts = [] := by
    intro sh
    induction sh with
    | nil => intro ts _; cases ts <;> rfl
    | cons s sh ih =>
      intro ts hn
      cases ts with
      | nil => rfl
      | cons t ts =>
        have := hn s List.mem_cons_self
        rw [kidsP, this.1, this.2, ih (fun s hs => hn s (List.mem_cons_of_mem _ hs))]; rfl
  exact ok_node h len (hk hn) okL_nil (noB (fun s hs => (hn s hs).2) hw)
theorem notR_wd : ∀ x : Wd, notR (wdT x)
  | .s _, _, h => by cases h
  | .n _, _, h => by cases h
theorem named_notR {toks r : List Tk} {a : Tr} (e : named toks = .ok a r) : notR a := by
  cases toks with
  | nil => cases e
  | cons t q =>
    rw [named] at e
    split at e
    · cases e; exact notR_wd _
    · cases e
theorem ok_num {t : Tk} (h : t.so = .number ∨ t.so = .text ∨ t.so = .name) : OkT (.t [w (soW t.so), wdT t.wd]) ∧ nT (.t [w (soW t.so), wdT t.wd]) = 1 := by
  rcases h with h | h | h <;> rw [h]
  · exact ok_leaf (l := codes "number") (sh := ["number"]) (by decide +kernel) rfl (by decide +kernel) (fun u hu => by rw [List.mem_singleton.mp hu]; exact notR_wd _)
  · exact ok_leaf (l := codes "text") (sh := ["text"]) (by decide +kernel) rfl (by decide +kernel) (fun u hu => by rw [List.mem_singleton.mp hu]; exact notR_wd _)
  · exact ok_leaf (l := codes "name") (sh := ["name"]) (by decide +kernel) rfl (by decide +kernel) (fun u hu => by rw [List.mem_singleton.mp hu]; exact notR_wd _)
theorem isW_wd {x : String} {t : Tk} (h : isW x t = true) : wdT t.wd = w x := by
  unfold isW at h
  rw [Bool.and_eq_true, decide_eq_true_eq] at h
  rw [h.2]; rfl
theorem is1_ex {xs : List String} {t : Tk} (h : is1 xs t = true) : ∃ s ∈ xs, isW s t = true := List.any_eq_true.mp h
theorem ok_alone {t : Tk} (h : is1 aloneS t = true) : OkT (.t [wdT t.wd]) ∧ nT (.t [wdT t.wd]) = 1 := by
  obtain ⟨s, hs, hw⟩ := is1_ex h
  rw [isW_wd hw]
  have hc : ∀ s ∈ aloneS, shapeOf (codes s) = some [] := by decide +kernel
  exact ok_leaf (l := codes s) (sh := []) (hc s hs) rfl (fun s h => by cases h) (fun u h => by cases h)
theorem kE (s : String) (sh : List String) (t : Tr) (ts : List Tr) (h : isE s = true) : kidsP (s :: sh) (t :: ts) = t :: kidsP sh ts := by rw [kidsP, if_pos h]; rfl
theorem kB (s : String) (sh : List String) (us : List Tr) (ts : List Tr) (h : isE s = false) (h2 : isB s = true) : kidsP (s :: sh) (.t us :: ts) = us ++ kidsP sh ts := by rw [kidsP, if_neg (by rw [h]; exact Bool.false_ne_true), if_pos h2]; rfl
theorem kO (s : String) (sh : List String) (t : Tr) (ts : List Tr) (h : isE s = false) (h2 : isB s = false) : kidsP (s :: sh) (t :: ts) = kidsP sh ts := by rw [kidsP, if_neg (by rw [h]; exact Bool.false_ne_true), if_neg (by rw [h2]; exact Bool.false_ne_true)]; rfl
theorem k0 : kidsP [] [] = [] := rfl
theorem hb2 {sh : List String} {ts : List Tr} (h : FmT sh ts) (s : String) (us : List Tr) (hm : s ≠ "name" := by decide) (hB : isB s = true := by decide) : FmT (s :: sh) (.t us :: ts)
  | 0, _, _, e1, e => by cases e; cases e1; exact ⟨fun _ => ⟨us, rfl⟩, fun z => absurd z hm, fun _ z => by rw [hB] at z; cases z⟩
  | i + 1, s', t, e1, e2 => h i s' t e1 e2
theorem hb1 {sh : List String} {ts : List Tr} (h : FmT sh ts) {s : String} (hs : isB s = false) (t : Tr) (hm : s ≠ "name" := by decide) (hE : isE s = true := by decide) : FmT (s :: sh) (t :: ts)
  | 0, _, _, e1, e => by cases e1; cases e; exact ⟨(fun hb => by rw [hs] at hb; cases hb), fun z => absurd z hm, fun z => by rw [hE] at z; cases z⟩
  | i + 1, s', t, e1, e2 => h i s' t e1 e2
theorem hbS {sh : List String} {ts : List Tr} (h : FmT sh ts) {s : String} (hs : isB s = false) {t : Tr} (ht : shal t) (hm : s ≠ "name" := by decide) : FmT (s :: sh) (t :: ts)
  | 0, _, _, e1, e => by cases e1; cases e; exact ⟨(fun hb => by rw [hs] at hb; cases hb), fun z => absurd z hm, fun _ _ => ht⟩
  | i + 1, s', t, e1, e2 => h i s' t e1 e2
theorem hbN {sh : List String} {ts : List Tr} (h : FmT sh ts) {t : Tr} (ht : notR t) : FmT ("name" :: sh) (t :: ts)
  | 0, _, _, e1, e => by cases e1; cases e; exact ⟨(fun hb => by rw [show isB "name" = false from by decide] at hb; cases hb), fun _ => ht, fun _ _ => shal_of ht⟩
  | i + 1, s', t, e1, e2 => h i s' t e1 e2
theorem hb0 : FmT [] [] := fun i s t e => by cases e
theorem eE : isE "e" = true := by decide
theorem pE : isE "place" = true := by decide
theorem aB : isE "args" = false ∧ isB "args" = true := by decide
theorem bB : isE "block" = false ∧ isB "block" = true := by decide
theorem nN : isE "name" = false ∧ isB "name" = false := by decide
theorem nNs : isE "names" = false ∧ isB "names" = false := by decide
theorem nAsked : isE "asked" = false ∧ isB "asked" = false := by decide
theorem eB : isB "e" = false := by decide
theorem pB : isB "place" = false := by decide
/-- nodes of all kinds -/
theorem ok_e {s : String} (hs : shapeOf (codes s) = some ["e"]) {a : Tr} (h : OkT a) : OkT (.t [w s, a]) ∧ nT (.t [w s, a]) = 1 + nT a := by
  have := ok_node (ts := [a]) hs rfl (by rw [kE _ _ _ _ eE, k0]) (okL_one h) (hb1 hb0 eB a)
  rw [nL_cons] at this; exact this
theorem ok_ee {s : String} (hs : shapeOf (codes s) = some ["e", "e"]) {a b : Tr} (h : OkT a) (h2 : OkT b) : OkT (.t [w s, a, b]) ∧ nT (.t [w s, a, b]) = 1 + (nT a + nT b) := by
  have := ok_node (ts := [a, b]) hs rfl (by rw [kE _ _ _ _ eE, kE _ _ _ _ eE, k0]) (okL_cons h (okL_one h2)) (hb1 (hb1 hb0 eB b) eB a)
  rw [nL_cons, nL_cons] at this; exact this
theorem ok_ask {n : Tr} (hn : shal n) {us : List Tr} (h : OkL us) : OkT (.t [w "ask", n, .t us]) ∧ nT (.t [w "ask", n, .t us]) = 1 + nL us :=
  ok_node (l := codes "ask") (sh := ["asked", "args"]) (ts := [n, .t us]) (by decide +kernel) rfl (by rw [kO _ _ _ _ nAsked.1 nAsked.2, kB _ _ _ _ aB.1 aB.2, k0, List.append_nil]) h (hbS (hb2 hb0 _ us) nAsked.2 hn)
theorem ok_list {us : List Tr} (h : OkL us) : OkT (.t [w "list", .t us]) ∧ nT (.t [w "list", .t us]) = 1 + nL us :=
  ok_node (l := codes "list") (sh := ["args"]) (ts := [.t us]) (by decide +kernel) rfl (by rw [kB _ _ _ _ aB.1 aB.2, k0, List.append_nil]) h (hb2 hb0 _ us)
theorem ok_fun {n : Tr} (hn : shal n) {us : List Tr} (h : OkL us) : OkT (.t [w "fun", n, .t us]) ∧ nT (.t [w "fun", n, .t us]) = 1 + nL us :=
  ok_node (l := codes "fun") (sh := ["names", "block"]) (ts := [n, .t us]) (by decide +kernel) rfl (by rw [kO _ _ _ _ nNs.1 nNs.2, kB _ _ _ _ bB.1 bB.2, k0, List.append_nil]) h (hbS (hb2 hb0 _ us) nNs.2 hn)
theorem ok_na {s : String} (hs : shapeOf (codes s) = some ["name", "args"]) {n : Tr} (hn : notR n) {us : List Tr} (h : OkL us) : OkT (.t [w s, n, .t us]) ∧ nT (.t [w s, n, .t us]) = 1 + nL us :=
  ok_node (ts := [n, .t us]) hs rfl (by rw [kO _ _ _ _ nN.1 nN.2, kB _ _ _ _ aB.1 aB.2, k0, List.append_nil]) h (hbN (hb2 hb0 _ us) hn)
theorem ok_call {a : Tr} {us : List Tr} (ha : OkT a) (h : OkL us) : OkT (.t [w "call", a, .t us]) ∧ nT (.t [w "call", a, .t us]) = 1 + (nT a + nL us) := by
  have := ok_node (l := codes "call") (sh := ["e", "args"]) (ts := [a, .t us]) (by decide +kernel) rfl (by rw [kE _ _ _ _ eE, kB _ _ _ _ aB.1 aB.2, k0, List.append_nil]) (okL_cons ha h) (hb1 (hb2 hb0 _ us) eB a)
  rw [nL_cons] at this; exact this
theorem ok_field {a n : Tr} (hn : notR n) (ha : OkT a) : OkT (.t [w "field", a, n]) ∧ nT (.t [w "field", a, n]) = 1 + nT a := by
  have := ok_node (l := codes "field") (sh := ["e", "name"]) (ts := [a, n]) (by decide +kernel) rfl (by rw [kE _ _ _ _ eE, kO _ _ _ _ nN.1 nN.2, k0]) (okL_one ha) (hb1 (hbN hb0 hn) eB a)
  rw [nL_cons] at this; exact this
theorem ok_send {a n : Tr} (hn : notR n) {us : List Tr} (ha : OkT a) (h : OkL us) : OkT (.t [w "send", a, n, .t us]) ∧ nT (.t [w "send", a, n, .t us]) = 1 + (nT a + nL us) := by
  have := ok_node (l := codes "send") (sh := ["e", "name", "args"]) (ts := [a, n, .t us]) (by decide +kernel) rfl (by rw [kE _ _ _ _ eE, kO _ _ _ _ nN.1 nN.2, kB _ _ _ _ aB.1 aB.2, k0, List.append_nil]) (okL_cons ha h) (hb1 (hbN (hb2 hb0 _ us) hn) eB a)
  rw [nL_cons] at this; exact this
theorem ok_var {n a : Tr} (hn : notR n) (ha : OkT a) : OkT (.t [w "var", n, a]) ∧ nT (.t [w "var", n, a]) = 1 + nT a := by
  have := ok_node (l := codes "var") (sh := ["name", "e"]) (ts := [n, a]) (by decide +kernel) rfl (by rw [kO _ _ _ _ nN.1 nN.2, kE _ _ _ _ eE, k0]) (okL_one ha) (hbN (hb1 hb0 eB a) hn)
  rw [nL_cons] at this; exact this
theorem ok_set {a b : Tr} (ha : OkT a) (hb : OkT b) : OkT (.t [w "set", a, b]) ∧ nT (.t [w "set", a, b]) = 1 + (nT a + nT b) := by
  have := ok_node (l := codes "set") (sh := ["place", "e"]) (ts := [a, b]) (by decide +kernel) rfl (by rw [kE _ _ _ _ pE, kE _ _ _ _ eE, k0]) (okL_cons ha (okL_one hb)) (hb1 (hb1 hb0 eB b) pB a)
  rw [nL_cons, nL_cons] at this; exact this
theorem ok_while {a : Tr} {us : List Tr} (ha : OkT a) (h : OkL us) : OkT (.t [w "while", a, .t us]) ∧ nT (.t [w "while", a, .t us]) = 1 + (nT a + nL us) := by
  have := ok_node (l := codes "while") (sh := ["e", "block"]) (ts := [a, .t us]) (by decide +kernel) rfl (by rw [kE _ _ _ _ eE, kB _ _ _ _ bB.1 bB.2, k0, List.append_nil]) (okL_cons ha h) (hb1 (hb2 hb0 _ us) eB a)
  rw [nL_cons] at this; exact this
theorem ok_if {a : Tr} {us vs : List Tr} (ha : OkT a) (h : OkL us) (h2 : OkL vs) : OkT (.t [w "if", a, .t us, .t vs]) ∧ nT (.t [w "if", a, .t us, .t vs]) = 1 + (nT a + (nL us + nL vs)) := by
  have := ok_node (l := codes "if") (sh := ["e", "block", "block"]) (ts := [a, .t us, .t vs]) (by decide +kernel) rfl (by rw [kE _ _ _ _ eE, kB _ _ _ _ bB.1 bB.2, kB _ _ _ _ bB.1 bB.2, k0, List.append_nil]) (okL_cons ha (okL_app h h2)) (hb1 (hb2 (hb2 hb0 _ vs) _ us) eB a)
  rw [nL_cons, nL_app] at this; exact this
theorem ok_try {n : Tr} (hn : notR n) {us vs : List Tr} (h : OkL us) (h2 : OkL vs) : OkT (.t [w "try", .t us, n, .t vs]) ∧ nT (.t [w "try", .t us, n, .t vs]) = 1 + (nL us + nL vs) := by
  have := ok_node (l := codes "try") (sh := ["block", "name", "block"]) (ts := [.t us, n, .t vs]) (by decide +kernel) rfl (by rw [kB _ _ _ _ bB.1 bB.2, kO _ _ _ _ nN.1 nN.2, kB _ _ _ _ bB.1 bB.2, k0, List.append_nil]) (okL_app h h2) (hb2 (hbN (hb2 hb0 _ vs) hn) _ us)
  rw [nL_app] at this; exact this
theorem notR_w (x : String) : notR (w x) := fun _ h => by cases h
theorem many_shal : ∀ (n : Nat) (acc : List Tr) (toks : List Tk) (ts : List Tr) (r : List Tk), many named n acc toks = .ok ts r → (∀ a ∈ acc, notR a) → ∀ a ∈ ts, notR a
  | 0, _, _, _, _, h, _ => by cases h
  | n + 1, acc, toks, ts, r, h, ha => by
    unfold many at h
    obtain ⟨t, r1, e1, h⟩ := bind_ok h
    have h1 : ∀ a ∈ acc ++ [t], notR a := fun a hm => by
      rcases List.mem_append.mp hm with hm | hm
      · exact ha a hm
      · rw [List.mem_singleton.mp hm]; exact named_notR e1
    split at h
    · exact many_shal n _ _ ts r h h1
    · cases h; exact h1
theorem params_shal {p : Option In} {toks : List Tk} {a : Tr} {r : List Tk} (h : params p toks = .ok a r) : shal a := by
  have h2 : opn p "(" (fun _ r => bind (listed named ")" r) fun ts r => R.ok (Tr.t ts) r) toks = .ok a r := h
  obtain ⟨q, t, r1, e1, et, h'⟩ := opn_ok h2
  obtain ⟨ts, r2, e2, h'⟩ := bind_ok h'
  cases h'
  intro us e
  cases e
  unfold listed at e2
  split at e2
  · cases e2; exact fun u hu => by cases hu
  · obtain ⟨ts', r3, e3, e2⟩ := bind_ok e2
    obtain ⟨_, r4, e4, e2⟩ := bind_ok e2
    cases e2
    exact many_shal _ _ _ _ _ e3 (fun a hm => by cases hm)
end Gr
set_option maxRecDepth 100000
set_option maxHeartbeats 4000000
namespace Gr
open Wk Gm
theorem tail_len {x : String} {r : List Tk} (h : hd x r = true) : r.tail.length + 1 = r.length := by
  cases r with
  | nil => cases h
  | cons t r => rfl
theorem many_ok {X : P Tr} (hX : ∀ toks, OkX toks (X toks)) : ∀ (n : Nat) (acc : List Tr) (toks : List Tk) (ts : List Tr) (r : List Tk), many X n acc toks = .ok ts r → OkL acc → OkL ts ∧ nL ts + r.length ≤ nL acc + toks.length
  | 0, _, _, _, _, h, _ => by cases h
  | n + 1, acc, toks, ts, r, h, ha => by
    unfold many at h
    obtain ⟨t, r1, e1, h⟩ := bind_ok h
    obtain ⟨ht, hn⟩ := hX toks t r1 e1
    split at h
    · rename_i hh
      have := tail_len hh
      obtain ⟨h1, h2⟩ := many_ok hX n _ _ ts r h (okL_app ha (okL_one ht))
      refine ⟨h1, ?_⟩
      rw [nL_app, nL_cons, nL_nil] at h2
      omega
    · cases h
      refine ⟨okL_app ha (okL_one ht), ?_⟩
      rw [nL_app, nL_cons, nL_nil]
      omega
theorem listed_ok {X : P Tr} (hX : ∀ toks, OkX toks (X toks)) {c : String} {toks : List Tk} {ts : List Tr} {r : List Tk} (h : listed X c toks = .ok ts r) : OkL ts ∧ nL ts + r.length ≤ toks.length := by
  unfold listed at h
  split at h
  · rename_i hh
    have := tail_len hh
    cases h
    exact ⟨okL_nil, by rw [nL_nil]; omega⟩
  · obtain ⟨us, r1, e1, h⟩ := bind_ok h
    obtain ⟨_, r2, e2, h⟩ := bind_ok h
    cases h
    obtain ⟨h1, h2⟩ := many_ok hX _ _ _ _ _ e1 okL_nil
    have := want_len e2
    rw [nL_nil] at h2
    exact ⟨h1, by omega⟩
theorem stmts_ok {S : P Tr} (hS : ∀ toks, OkX toks (S toks)) : ∀ (n : Nat) (acc : List Tr) (toks : List Tk) (ts : List Tr) (r : List Tk), stmts S n acc toks = .ok ts r → OkL acc → OkL ts ∧ nL ts + r.length ≤ nL acc + toks.length
  | 0, _, _, _, _, h, _ => by cases h
  | n + 1, acc, toks, ts, r, h, ha => by
    unfold stmts at h
    split at h
    · rename_i hh
      have := tail_len hh
      cases h
      exact ⟨ha, by omega⟩
    · obtain ⟨t, r1, e1, h⟩ := bind_ok h
      obtain ⟨ht, hn⟩ := hS toks t r1 e1
      obtain ⟨h1, h2⟩ := stmts_ok hS n _ _ ts r h (okL_app ha (okL_one ht))
      refine ⟨h1, ?_⟩
      rw [nL_app, nL_cons, nL_nil] at h2
      omega
section
variable {p : Option In} (hp : InK p)
include hp
theorem block_ok {toks : List Tk} {a : Tr} {r : List Tk} (h : block p toks = .ok a r) : ∃ us, a = .t us ∧ OkL us ∧ nL us + r.length < toks.length := by
  obtain ⟨q, t, r1, e1, rfl, h'⟩ := opn_ok h
  obtain ⟨us, r2, e2, h⟩ := bind_ok h'
  cases h
  obtain ⟨h1, h2⟩ := stmts_ok (hp q e1).2 _ _ _ _ _ e2 okL_nil
  rw [nL_nil] at h2
  exact ⟨us, rfl, h1, by rw [List.length_cons]; omega⟩
theorem args_ok {toks : List Tk} {a : Tr} {r : List Tk} (h : args p toks = .ok a r) : ∃ us, a = .t us ∧ OkL us ∧ nL us + r.length < toks.length := by
  obtain ⟨q, t, r1, e1, rfl, h'⟩ := opn_ok h
  obtain ⟨us, r2, e2, h⟩ := bind_ok h'
  cases h
  obtain ⟨h1, h2⟩ := listed_ok (hp q e1).1 e2
  exact ⟨us, rfl, h1, by rw [List.length_cons]; omega⟩
omit hp in
theorem params_len {toks : List Tk} {a : Tr} {r : List Tk} (h : params p toks = .ok a r) : r.length < toks.length := gd_len (gd_params toks) h
/-- one expression between brackets -/
theorem one_ok {x y : String} {f : Tr → Tr} {toks : List Tk} {a : Tr} {r : List Tk} (h : opn p x (fun q r => bind (q.E r) fun e r => bind (want y r) fun _ r => .ok (f e) r) toks = .ok a r) : ∃ e, a = f e ∧ OkT e ∧ nT e + r.length < toks.length := by
  obtain ⟨q, t, r1, e1, rfl, h'⟩ := opn_ok h
  obtain ⟨e, r2, e2, h⟩ := bind_ok h'
  obtain ⟨_, r3, e3, h⟩ := bind_ok h
  cases h
  obtain ⟨h1, h2⟩ := (hp q e1).1 _ _ _ e2
  have := want_len e3
  exact ⟨e, rfl, h1, by rw [List.length_cons]; omega⟩
theorem first_ok : ∀ toks, OkX toks (first p toks)
  | [] => fun a r h => by cases h
  | t :: r0 => fun a r h => by
    rw [first] at h
    rw [List.length_cons]
    split at h
    · rename_i hh
      cases h
      have := ok_num (t := t) (by rcases hh with h | h | h <;> simp [h])
      exact ⟨this.1, by omega⟩
    split at h
    · rename_i hh
      cases h
      have := ok_alone hh
      exact ⟨this.1, by omega⟩
    split at h
    · obtain ⟨e, ea, h1, h2⟩ := one_ok hp (f := id) h
      have ea : a = e := ea
      rw [List.length_cons] at h2
      rw [ea]
      exact ⟨h1, by omega⟩
    split at h
    · obtain ⟨e, rfl, h1, h2⟩ := one_ok hp (f := fun e => .t [w "ask", wdT t.wd, .t [e]]) h
      have := ok_ask (shal_of (notR_wd t.wd)) (okL_one h1)
      rw [nL_cons, nL_nil] at this
      exact ⟨this.1, by show nT (.t [w "ask", wdT t.wd, .t [e]]) + _ ≤ _; omega⟩
    split at h
    · obtain ⟨q, t1, r1, e1, er, h⟩ := opn_ok h
      obtain ⟨us, r2, e2, h⟩ := bind_ok h
      cases h
      cases er
      obtain ⟨h1, h2⟩ := listed_ok (hp q e1).1 e2
      have := ok_list h1
      exact ⟨this.1, by omega⟩
    split at h
    · obtain ⟨ps, r1, e1, h⟩ := bind_ok h
      obtain ⟨b, r2, e2, h⟩ := bind_ok h
      cases h
      obtain ⟨us, rfl, h1, h2⟩ := block_ok hp e2
      have := params_len e1
      have := ok_fun (params_shal e1) h1
      exact ⟨this.1, by omega⟩
    split at h
    · obtain ⟨_, r1, e1, h⟩ := bind_ok h
      obtain ⟨n, r2, e2, h⟩ := bind_ok h
      obtain ⟨b, r3, e3, h⟩ := bind_ok h
      cases h
      obtain ⟨us, rfl, h1, h2⟩ := args_ok hp e3
      have := want_len e1
      have := named_len e2
      have := ok_na (s := "up") (by decide +kernel) (named_notR e2) h1
      exact ⟨this.1, by omega⟩
    split at h
    · obtain ⟨n, r2, e2, h⟩ := bind_ok h
      obtain ⟨b, r3, e3, h⟩ := bind_ok h
      cases h
      obtain ⟨us, rfl, h1, h2⟩ := args_ok hp e3
      have := named_len e2
      have := ok_na (s := "new") (by decide +kernel) (named_notR e2) h1
      exact ⟨this.1, by omega⟩
    split at h
    · obtain ⟨q, t1, r1, e1, rfl, h'⟩ := opn_ok h
      obtain ⟨_, r2, e2, h⟩ := bind_ok h'
      cases h
      have := want_len e2
      have := ok_ask (shal_of (notR_w "yield")) okL_nil
      rw [nL_nil] at this
      rw [List.length_cons]
      exact ⟨this.1, by omega⟩
    · cases h
theorem post_ok : ∀ (n : Nat) (t : Tr) (toks : List Tk), OkT t → ∀ a r, post p n t toks = .ok a r → OkT a ∧ nT a + r.length ≤ nT t + toks.length
  | 0, _, _, _, a, r, h => by cases h
  | n + 1, t, toks, ht, a, r, h => by
    unfold post at h
    split at h
    · obtain ⟨b, r1, e1, h⟩ := bind_ok h
      obtain ⟨us, rfl, h1, h2⟩ := args_ok hp e1
      have hk := ok_call ht h1
      obtain ⟨h3, h4⟩ := post_ok n _ _ hk.1 a r h
      exact ⟨h3, by omega⟩
    split at h
    · obtain ⟨b, r1, e1, h⟩ := bind_ok h
      obtain ⟨e, eb, h1, h2⟩ := one_ok hp (f := id) e1
      have eb : b = e := eb
      rw [eb] at h
      have hk := ok_ee (s := "item") (by decide +kernel) ht h1
      obtain ⟨h3, h4⟩ := post_ok n _ _ hk.1 a r h
      exact ⟨h3, by omega⟩
    split at h
    · rename_i hh
      have hl := tail_len hh
      obtain ⟨m, r1, e1, h⟩ := bind_ok h
      have := named_len e1
      split at h
      · obtain ⟨b, r2, e2, h⟩ := bind_ok h
        obtain ⟨us, rfl, h1, h2⟩ := args_ok hp e2
        have hk := ok_send (named_notR e1) ht h1
        obtain ⟨h3, h4⟩ := post_ok n _ _ hk.1 a r h
        exact ⟨h3, by omega⟩
      · have hk := ok_field (named_notR e1) ht
        obtain ⟨h3, h4⟩ := post_ok n _ _ hk.1 a r h
        exact ⟨h3, by omega⟩
    · cases h
      exact ⟨ht, Nat.le_refl _⟩
theorem opd_ok (toks : List Tk) : OkX toks (opd p toks) := fun a r h => by
  obtain ⟨t, r1, e1, h⟩ := bind_ok h
  obtain ⟨h1, h2⟩ := first_ok hp toks t r1 e1
  obtain ⟨h3, h4⟩ := post_ok hp _ t r1 h1 a r h
  exact ⟨h3, by omega⟩
omit hp in
theorem min_len : ∀ toks : List Tk, (minuses (G p) toks).1 + (minuses (G p) toks).2.length = toks.length
  | [] => rfl
  | t :: r => by
    have := min_len r
    rw [minuses]
    split
    · show (minuses (G p) r).1 + 1 + (minuses (G p) r).2.length = _
      rw [List.length_cons]; omega
    · rw [List.length_cons]; show 0 + (r.length + 1) = _; omega
omit hp in
theorem rep_ok {t : Tr} (h : OkT t) : ∀ n, OkT (rep (G p).mkMi n t) ∧ nT (rep (G p).mkMi n t) = n + nT t
  | 0 => ⟨h, by show nT t = 0 + nT t; omega⟩
  | n + 1 => by
    have ih := rep_ok h n
    have := ok_e (s := "minus") (by decide +kernel) ih.1
    refine ⟨this.1, ?_⟩
    have e : nT (rep (G p).mkMi (n + 1) t) = 1 + nT (rep (G p).mkMi n t) := this.2
    omega
theorem high_ok (toks : List Tk) : OkX toks (high (G p) toks) := fun a r h => by
  unfold high at h
  have hl := min_len (p := p) toks
  cases e : (G p).O (minuses (G p) toks).2 with
  | out => rw [e] at h; cases h
  | bad b => rw [e] at h; cases h
  | ok t r1 =>
    rw [e] at h
    cases h
    obtain ⟨h1, h2⟩ := opd_ok hp _ t r e
    have := rep_ok (p := p) h1 (minuses (G p) toks).1
    exact ⟨this.1, by omega⟩
omit hp in
theorem two_ok {t : Tk} (h : level t ≠ 0) {a b : Tr} (ha : OkT a) (hb : OkT b) : OkT (.t [wdT t.wd, a, b]) ∧ nT (.t [wdT t.wd, a, b]) = 1 + (nT a + nT b) := by
  obtain ⟨s, hs, hw⟩ := op_word h
  rw [isW_wd hw]
  have hc : ∀ s ∈ levelS.map Prod.fst, shapeOf (codes s) = some ["e", "e"] := by decide +kernel
  exact ok_ee (hc s hs) ha hb
theorem climb_ok : ∀ (n : Nat), (∀ (least : Nat) (toks : List Tk), OkX toks (climb (G p) n least toks)) ∧ (∀ (least : Nat) (t : Tr) (held : Nat) (toks : List Tk), OkT t → ∀ a r, loop (G p) n least t held toks = .ok a r → OkT a ∧ nT a + r.length ≤ nT t + toks.length)
  | 0 => ⟨(fun _ _ a r e => by rw [climb] at e; cases e), (fun _ _ _ _ _ a r e => by rw [loop.eq_def] at e; cases e)⟩
  | n + 1 => by
    obtain ⟨ihA, ihB⟩ := climb_ok n
    constructor
    · intro least toks a r h
      rw [climb] at h
      split at h
      · rename_i hn
        cases toks with
        | nil => cases hn
        | cons t r0 =>
          cases e : climb (G p) n 3 (t :: r0).tail with
          | out => rw [e] at h; cases h
          | bad b => rw [e] at h; cases h
          | ok u r1 =>
            rw [e] at h
            obtain ⟨h1, h2⟩ := ihA _ _ _ _ e
            have h2 : nT u + r1.length ≤ r0.length := h2
            have hk := ok_e (s := "not") (by decide +kernel) h1
            obtain ⟨h3, h4⟩ := ihB _ _ _ _ hk.1 a r h
            have h5 : nT ((G p).mkNo u) = 1 + nT u := hk.2
            exact ⟨h3, by rw [List.length_cons]; omega⟩
      · cases e : high (G p) toks with
        | out => rw [e] at h; cases h
        | bad b => rw [e] at h; cases h
        | ok u r1 =>
          rw [e] at h
          obtain ⟨h1, h2⟩ := high_ok hp _ _ _ e
          obtain ⟨h3, h4⟩ := ihB _ _ _ _ h1 a r h
          exact ⟨h3, by omega⟩
    · intro least t held toks ht a r h
      rw [loop.eq_def] at h
      cases toks with
      | nil => cases h; exact ⟨ht, Nat.le_refl _⟩
      | cons y r0 =>
        dsimp only at h
        split at h
        · rename_i hg
          have hl : level y ≠ 0 := (goes_iff.mp hg).1
          cases e : climb (G p) n ((G p).lv y + 1) r0 with
          | out => rw [e] at h; cases h
          | bad b => rw [e] at h; cases h
          | ok u r1 =>
            rw [e] at h
            obtain ⟨h1, h2⟩ := ihA _ _ _ _ e
            have hk := two_ok hl ht h1
            obtain ⟨h3, h4⟩ := ihB _ _ _ _ hk.1 a r h
            have h5 : nT ((G p).two y t u) = 1 + (nT t + nT u) := hk.2
            exact ⟨h3, by rw [List.length_cons]; omega⟩
        · cases h; exact ⟨ht, Nat.le_refl _⟩
theorem expr_ok (toks : List Tk) : OkX toks (expr p toks) := fun a r h => by
  obtain ⟨t, r1, e1, h⟩ := bind_ok h
  obtain ⟨h1, h2⟩ := (climb_ok hp _).1 _ _ _ _ e1
  unfold fin at h
  split at h
  · cases h; exact ⟨h1, h2⟩
  · cases h
theorem stmt_ok : ∀ toks, OkX toks (stmt p toks)
  | [] => fun a r h => by cases h
  | t :: r0 => fun a r h => by
    rw [stmt] at h
    rw [List.length_cons]
    have hE := expr_ok hp
    split at h
    · rename_i hh
      obtain ⟨_, r1, e1, h⟩ := bind_ok h
      cases h
      have := want_len e1
      obtain ⟨s, hs, hw⟩ := is1_ex hh
      rw [isW_wd hw]
      have hc : ∀ s ∈ ["break", "continue"], shapeOf (codes s) = some [] := by decide +kernel
      have := ok_leaf (l := codes s) (sh := []) (ts := []) (hc s hs) rfl (fun s h => by cases h) (fun u h => by cases h)
      exact ⟨this.1, by have h5 : nT (Tr.t [w s]) = 1 := this.2; omega⟩
    split at h
    · obtain ⟨n, r1, e1, h⟩ := bind_ok h
      obtain ⟨_, r2, e2, h⟩ := bind_ok h
      obtain ⟨e, r3, e3, h⟩ := bind_ok h
      obtain ⟨_, r4, e4, h⟩ := bind_ok h
      cases h
      have := named_len e1
      have := want_len e2
      obtain ⟨h1, h2⟩ := hE _ _ _ e3
      have := want_len e4
      have hk := ok_var (named_notR e1) h1
      exact ⟨hk.1, by omega⟩
    split at h
    · rename_i hh
      obtain ⟨e, r3, e3, h⟩ := bind_ok h
      obtain ⟨_, r4, e4, h⟩ := bind_ok h
      cases h
      obtain ⟨h1, h2⟩ := hE _ _ _ e3
      have := want_len e4
      obtain ⟨s, hs, hw⟩ := is1_ex hh
      rw [isW_wd hw]
      have hc : ∀ s ∈ ["return", "throw", "say"], shapeOf (codes s) = some ["e"] := by decide +kernel
      have hk := ok_e (hc s hs) h1
      exact ⟨hk.1, by omega⟩
    split at h
    · obtain ⟨b, r1, e1, h⟩ := bind_ok h
      obtain ⟨_, r2, e2, h⟩ := bind_ok h
      obtain ⟨n, r3, e3, h⟩ := bind_ok h
      obtain ⟨c, r4, e4, h⟩ := bind_ok h
      cases h
      obtain ⟨us, rfl, h1, h2⟩ := block_ok hp e1
      obtain ⟨vs, rfl, h3, h4⟩ := block_ok hp e4
      have := want_len e2
      have := named_len e3
      have hk := ok_try (named_notR e3) h1 h3
      exact ⟨hk.1, by omega⟩
    split at h
    · obtain ⟨e, r1, e1, h⟩ := bind_ok h
      obtain ⟨b, r2, e2, h⟩ := bind_ok h
      cases h
      obtain ⟨h1, h2⟩ := hE _ _ _ e1
      obtain ⟨us, rfl, h3, h4⟩ := block_ok hp e2
      have hk := ok_while h1 h3
      exact ⟨hk.1, by omega⟩
    split at h
    · obtain ⟨e, r1, e1, h⟩ := bind_ok h
      obtain ⟨b, r2, e2, h⟩ := bind_ok h
      obtain ⟨h1, h2⟩ := hE _ _ _ e1
      obtain ⟨us, rfl, h3, h4⟩ := block_ok hp e2
      split at h
      · rename_i hh
        have := tail_len hh
        obtain ⟨c, r3, e3, h⟩ := bind_ok h
        cases h
        obtain ⟨vs, rfl, h5, h6⟩ := block_ok hp e3
        have hk := ok_if h1 h3 h5
        exact ⟨hk.1, by omega⟩
      · cases h
        have hk := ok_if h1 h3 okL_nil
        rw [nL_nil] at hk
        exact ⟨hk.1, by omega⟩
    · obtain ⟨e, r1, e1, h⟩ := bind_ok h
      obtain ⟨h1, h2⟩ := hE _ _ _ e1
      rw [List.length_cons] at h2
      split at h
      · rename_i hh
        rw [Bool.and_eq_true] at hh
        have := tail_len hh.1
        obtain ⟨u, r2, e2, h⟩ := bind_ok h
        obtain ⟨_, r3, e3, h⟩ := bind_ok h
        cases h
        obtain ⟨h3, h4⟩ := hE _ _ _ e2
        have := want_len e3
        have hk := ok_set h1 h3
        exact ⟨hk.1, by omega⟩
      · obtain ⟨_, r3, e3, h⟩ := bind_ok h
        cases h
        have := want_len e3
        have hk := ok_e (s := "do") (by decide +kernel) h1
        exact ⟨hk.1, by omega⟩
end
theorem in_k : ∀ d, InK (inn d)
  | 0 => fun q e => by cases e
  | d + 1 => fun q e => by
    have e : some (mk (inn d)) = some q := e
    cases e
    exact ⟨expr_ok (in_k d), stmt_ok (in_k d)⟩
end Gr
set_option maxRecDepth 100000
set_option maxHeartbeats 8000000
/-! xs.extend(t) of a tuple -/
namespace Wk
open PySem L2 TL PyProof.Rows
open PySem.AutoSeq1 in
theorem extend_tup (l : Addr) (items : Array Value) (n : Nat) (b : Addr) (dc : Option Addr) (sl : Array (Option Value)) (items2 : Array Value) (n2 : Nat) (hs0 : ¬(!items.isEmpty && Builtin.List.listTooLong (items.size + items2.size)) = true) (hs1 : items.size ≤ sizeLine) (hs2 : items.size + items2.size ≤ sizeLine + 1) :
    Meets (Builtin.«list.extend» ⟨[.ref l, .ref b], []⟩) (fun _ R s => s.heap.get? l = some { cls := .type "list", dict := none, data := .seq items n, slots := #[] } ∧ s.heap.get? b = some { cls := .type "tuple", dict := dc, data := .seq items2 n2, slots := sl } ∧ R (.ok (.ret Value.none)) { s with heap := s.heap.update l (Obj.mapSeq fun x => x ++ items2), toks := s.toks }) :=
  .of_wp fun prog w A R s h => by
    obtain ⟨hp, g, d, tk, os⟩ := s; obtain ⟨hl, hb, h⟩ := h; have f1 := PySem.AutoSeq1.idx_int; have f2 := PySem.AutoSeq1.sub_tuple_tuple; have f3 := PySem.AutoSeq1.sub_list_list; have f4 := PySem.AutoSeq1.sub_tuple_list; have f5 := PySem.AutoSeq1.sub_list_tuple;
    have hz' : (items ++ items2).size ≤ sizeLine + 1 := by rw [Array.size_append]; exact hs2
    wp_walk using (wpAny_updateSeq hl rfl (hz := hs1) (_hz' := hz')), wpAny_loadPart' hl, wpAny_loadPart' hb; exact ⟨_, rfl, h⟩
section
variable {X : Cx}
def rExtendT (K : PySem.W.Frag) : V → List V → Hp → VK → Prop := fun x vs H Q => ∃ l b xs zs, x = .ref l ∧ vs = [.ref b] ∧ H l = some (.lst xs) ∧ SqT K H b zs ∧ xs.length + zs.length ≤ sizeLine ∧ Q .non (upd H l (.lst (xs ++ zs)))
theorem mt_extendT : MtM X "list.extend" (rExtendT X.K) := by
  intro pins s σ H x vs v us Q I rx rv h
  obtain ⟨l, b, xs, zs, rfl, rfl, hH, hB, hz, q⟩ := h
  cases rx
  obtain ⟨u, rfl, ru⟩ := rv.one
  cases ru
  obtain ⟨z, its, n, r, hl, e⟩ := I.lstM hH
  obtain ⟨its2, r2, ⟨o2, e2, hc, n2, hd⟩, hz2⟩ := I.tuple hB
  have hl2 := r2.length
  obtain ⟨c2, dc, dt, sl⟩ := o2
  cases hc
  cases hd
  have hsz : its.toArray.size + its2.toArray.size ≤ sizeLine := by rw [List.size_toArray, List.size_toArray]; omega
  have hlong : ¬ (!its.toArray.isEmpty && Builtin.List.listTooLong (its.toArray.size + its2.toArray.size)) = true := by
    rw [notLongL hsz, Bool.and_false]
    exact Bool.false_ne_true
  refine call_meets PySem.F.slot_list_extend ⟨_, e, rfl⟩ PySem.F.entry_list_extend (PySem.F.args_list_extend_2 _ _)
    (extend_tup l its.toArray n b dc sl its2.toArray n2 hlong (by rw [List.size_toArray]; omega) (by omega)) ⟨e, e2, ?_⟩
  refine ⟨.non, _, I.lset (its' := its ++ its2) hH e (by simp) (r.append r2) ?_, rfl, q⟩
  rw [List.length_append]
  omega
end
end Wk
set_option maxRecDepth 100000
set_option maxHeartbeats 4000000
namespace Gr
open Wk Gm
/-- the statements at the top, and in the blocks of functions and methods -/
def methB : Tr → List Tr
  | .t [_, _, .t us] => us
  | _ => []
def clsO : List Tr → List Tr
  | [_, _, _, .t ms] => ms.flatMap methB
  | _ => []
def fnO : List Tr → List Tr
  | [_, _, .t us] => us
  | _ => []
def outI : Tr → List Tr
  | .t (.s l :: ts) => if l = codes "class" then clsO ts else if l = codes "function" then fnO ts else [.t (.s l :: ts)]
  | _ => []
inductive OkI : Tr → Prop
  | cls (n e fs : Tr) (ms : List Tr) (h : ∀ m ∈ ms, ∃ nm ps us, m = .t [nm, ps, .t us] ∧ OkL us) : OkI (.t [w "class", n, e, fs, .t ms])
  | fn (n ps : Tr) (us : List Tr) (h : OkL us) : OkI (.t [w "function", n, ps, .t us])
  | st (l : List Nat) (ts : List Tr) (h : OkT (.t (.s l :: ts))) : OkI (.t (.s l :: ts))
theorem not_item {l : List Nat} {ts : List Tr} (h : OkT (.t (.s l :: ts))) : l ≠ codes "class" ∧ l ≠ codes "function" := by
  cases h with
  | mk l sh ts h len hk hb =>
    constructor
    · rintro rfl
      rw [show shapeOf (codes "class") = none from by decide +kernel] at h; cases h
    · rintro rfl
      rw [show shapeOf (codes "function") = none from by decide +kernel] at h; cases h
theorem out_cls (n e fs : Tr) (ms : List Tr) : outI (.t [w "class", n, e, fs, .t ms]) = ms.flatMap methB := by
  show outI (.t [.s (codes "class"), n, e, fs, .t ms]) = _
  rw [outI, if_pos rfl]; rfl
theorem out_fn (n ps : Tr) (us : List Tr) : outI (.t [w "function", n, ps, .t us]) = us := by
  show outI (.t [.s (codes "function"), n, ps, .t us]) = _
  rw [outI, if_neg (by decide +kernel), if_pos rfl]; rfl
theorem out_st {l : List Nat} {ts : List Tr} (h : OkT (.t (.s l :: ts))) : outI (.t (.s l :: ts)) = [.t (.s l :: ts)] := by
  have := not_item h
  rw [outI, if_neg this.1, if_neg this.2]
theorem out_ok {a : Tr} (h : OkI a) : OkL (outI a) := by
  cases h with
  | cls n e fs ms h =>
    rw [out_cls]
    intro u hu
    obtain ⟨m, hm, hu⟩ := List.mem_flatMap.mp hu
    obtain ⟨nm, ps, us, rfl, hk⟩ := h m hm
    exact hk u hu
  | fn n ps us h => rw [out_fn]; exact h
  | st l ts h => rw [out_st h]; exact okL_one h
theorem nL_flat (f : Tr → List Tr) (xs : List Tr) (a : Tr) : nL ((xs ++ [a]).flatMap f) = nL (xs.flatMap f) + nL (f a) := by
  rw [List.flatMap_append, nL_app]
  simp [List.flatMap_cons]
theorem methods_ok {p : Option In} (hp : InK p) : ∀ (n : Nat) (acc : List Tr) (toks : List Tk) (ms : List Tr) (r : List Tk), methods p n acc toks = .ok ms r → (∀ m ∈ acc, ∃ nm ps us, m = Tr.t [nm, ps, .t us] ∧ OkL us) → (∀ m ∈ ms, ∃ nm ps us, m = Tr.t [nm, ps, .t us] ∧ OkL us) ∧ nL (ms.flatMap methB) + r.length ≤ nL (acc.flatMap methB) + toks.length
  | 0, _, _, _, _, h, _ => by cases h
  | n + 1, acc, [], ms, r, h, ha => by rw [methods] at h; cases h; exact ⟨ha, Nat.le_refl _⟩
  | n + 1, acc, t :: r0, ms, r, h, ha => by
    rw [methods] at h
    split at h
    · obtain ⟨ps, r1, e1, h⟩ := bind_ok h
      obtain ⟨b, r2, e2, h⟩ := bind_ok h
      have := params_len e1
      obtain ⟨us, rfl, h1, h2⟩ := block_ok hp e2
      obtain ⟨h3, h4⟩ := methods_ok hp n _ _ ms r h (fun m hm => by
        rcases List.mem_append.mp hm with hm | hm
        · exact ha m hm
        · rw [List.mem_singleton.mp hm]; exact ⟨_, _, us, rfl, h1⟩)
      refine ⟨h3, ?_⟩
      rw [nL_flat] at h4
      have : nL (methB (.t [wdT t.wd, ps, .t us])) = nL us := rfl
      rw [List.length_cons]
      omega
    · cases h; exact ⟨ha, Nat.le_refl _⟩
theorem item_ok (d : Nat) : ∀ toks a r, Gr.item d toks = .ok a r → OkI a ∧ nL (outI a) + r.length ≤ toks.length := by
  have st : ∀ toks a r, stmt (inn d) toks = .ok a r → OkI a ∧ nL (outI a) + r.length ≤ toks.length := fun toks a r h => by
    obtain ⟨h1, h2⟩ := stmt_ok (in_k d) toks a r h
    have h1' := h1
    cases h1 with
    | mk l sh ts h len hk hb =>
      refine ⟨.st l ts h1', ?_⟩
      rw [out_st h1', nL_cons, nL_nil]; exact h2
  intro toks a r h
  cases toks with
  | nil => rw [Gr.item.eq_def] at h; cases h
  | cons t r0 =>
    rw [Gr.item.eq_def] at h
    dsimp only at h
    split at h
    · obtain ⟨n, r1, e1, h⟩ := bind_ok h
      obtain ⟨e, r2, e2, h⟩ := bind_ok h
      obtain ⟨q, t3, r3, e3, rfl, h'⟩ := opn_ok h
      obtain ⟨fs, r4, e4, h⟩ := bind_ok h'
      obtain ⟨ms, r5, e5, h⟩ := bind_ok h
      obtain ⟨_, r6, e6, h⟩ := bind_ok h
      cases h
      have := named_len e1
      have hl2 : (t3 :: r3).length ≤ r1.length := by
        split at e2
        · rename_i hh
          have := tail_len hh
          have := named_len e2
          omega
        · cases e2; exact Nat.le_refl _
      have hl4 : r4.length ≤ r3.length := by
        have hg := gd_fields (r3.length + 1) [] r3 (Nat.lt_succ_self _)
        rw [e4] at hg
        exact List.IsSuffix.length_le hg.1
      have hl6 := want_len e6
      obtain ⟨h1, h2⟩ := methods_ok (in_k (d - 1)) _ _ _ _ _ e5 (fun m hm => by cases hm)
      refine ⟨.cls _ _ _ ms h1, ?_⟩
      rw [out_cls]
      have h2 : nL (ms.flatMap methB) + r5.length ≤ 0 + r4.length := h2
      rw [List.length_cons] at hl2 ⊢
      omega
    · cases r0 with
      | nil => exact st [t] a r h
      | cons u r' =>
        dsimp only at h
        split at h
        · obtain ⟨ps, r1, e1, h⟩ := bind_ok h
          obtain ⟨b, r2, e2, h⟩ := bind_ok h
          cases h
          have := params_len e1
          obtain ⟨us, rfl, h1, h2⟩ := block_ok (in_k d) e2
          refine ⟨.fn _ _ us h1, ?_⟩
          rw [out_fn, List.length_cons, List.length_cons]
          omega
        · exact st _ a r h
theorem items_ok (d : Nat) : ∀ (n : Nat) (acc : List Tr) (toks : List Tk) (ts : List Tr) (r : List Tk), items d n acc toks = .ok ts r → (∀ a ∈ acc, OkI a) → (∀ a ∈ ts, OkI a) ∧ nL (ts.flatMap outI) + r.length ≤ nL (acc.flatMap outI) + toks.length
  | 0, _, _, _, _, h, _ => by cases h
  | n + 1, acc, toks, ts, r, h, ha => by
    unfold items at h
    split at h
    · cases h; exact ⟨ha, Nat.add_le_add_left (Nat.zero_le _) _⟩
    · obtain ⟨t, r1, e1, h⟩ := bind_ok h
      obtain ⟨h1, h2⟩ := item_ok d _ _ _ e1
      obtain ⟨h3, h4⟩ := items_ok d n _ _ ts r h (fun a hm => by
        rcases List.mem_append.mp hm with hm | hm
        · exact ha a hm
        · rw [List.mem_singleton.mp hm]; exact h1)
      refine ⟨h3, ?_⟩
      rw [nL_flat] at h4
      omega
/-- how deep a program is -/
def deepT (ts : List Tr) : Nat := maxL ((ts.flatMap outI).map dT)
theorem prog_ok {toks : List Tk} {ts : List Tr} {r : List Tk} (h : prog toks = .ok ts r) : (∀ a ∈ ts, OkI a) ∧ nL (ts.flatMap outI) ≤ toks.length := by
  obtain ⟨h1, h2⟩ := items_ok 60 _ _ _ _ _ h (fun a hm => by cases hm)
  have h2 : nL (ts.flatMap outI) + r.length ≤ 0 + toks.length := h2
  exact ⟨h1, by omega⟩
end Gr
set_option maxRecDepth 100000
set_option maxHeartbeats 8000000
namespace Wk
open PySem L2 TL PyProof.Rows Gm Gr
open SX (S S_len)
/-! ### how deep a tree is: the program -/
structure TxtQ (mg : Str → Option Value) where
  n_zip : mg "zip" = none
  n_max : mg "max" = none
theorem shape_cases {l : List Nat} {sh : List String} (h : shapeOf l = some sh) : (∃ q, q ∈ stShL ∧ stShL.find? (fun y => decide (codes y.1 = l)) = some q ∧ q.2 = sh) ∨ (stShL.find? (fun y => decide (codes y.1 = l)) = none ∧ ∃ q, q ∈ exShL ∧ exShL.find? (fun y => decide (codes y.1 = l)) = some q ∧ q.2 = sh) := by
  unfold shapeOf at h
  rw [List.find?_append] at h
  cases e : stShL.find? (fun y => decide (codes y.1 = l)) with
  | some q =>
    rw [e] at h
    exact .inl ⟨q, List.mem_of_find?_eq_some e, rfl, Option.some.inj h⟩
  | none =>
    rw [e] at h
    cases e2 : exShL.find? (fun y => decide (codes y.1 = l)) with
    | some q =>
      rw [e2] at h
      exact .inr ⟨rfl, q, List.mem_of_find?_eq_some e2, rfl, Option.some.inj h⟩
    | none => rw [e2] at h; cases h
section
variable {P : Program} {w : World} {K : PySem.W.Frag} {mg : Str → Option Value} {base : Heap}
abbrev s_shape_within : Stmt := top 16
theorem sc_shape_within : FnScope ["word"] ["word"] (defScope s_shape_within) := ⟨rfl, rfl, rfl, by decide +kernel, rfl, by decide +kernel, by decide +kernel⟩
def sp_shape (K : PySem.W.Frag) : Sp := fun vs H Q _ => ∃ (l : List Nat) (sh : List String), vs = [.str (S l)] ∧ shapeOf l = some sh ∧ ∀ p, (∀ H', SqT K H' p (litV sh)) → Q (.ref p) H
theorem ok_shape (TP : TxtP K w mg) {f : Addr} {fd : FuncData} (F : Fun K "shape_within" "shape_within" s_shape_within f fd) : FnOk P w K mg base CX0 1 f fd ["word"] (sp_shape K) := by
  refine F.ok sc_shape_within (fun vs H Q E h => ?_) (fun cdv A outer s H vs Q E hr h => ?_)
  · obtain ⟨l, _, rfl, _⟩ := h; rfl
  obtain ⟨l, sh, rfl, hs, hq⟩ := h
  refine ⟨_, (pss_one (ps_ret (pe_ifExp (pt_cmpR (op_in_wd TP.dSTATEMENTS) (pv 0) (pe_glob (v := .ref TP.aSTATEMENTS) rfl TP.mSTATEMENTS rfl) rfl) (pe_ix (ix_wd TP.dSTATEMENTS) (pe_glob (v := .ref TP.aSTATEMENTS) rfl TP.mSTATEMENTS rfl) (pv 0) (fun _ _ => rfl)) (pe_ix (ix_wd TP.dEXPRESSIONS) (pe_glob (v := .ref TP.aEXPRESSIONS) rfl TP.mEXPRESSIONS rfl) (pv 0) (fun _ _ => rfl))))), ?_⟩
  refine ⟨_, rfl, _, rfl, rfl, _, rfl, ?_⟩
  rcases shape_cases hs with ⟨q, hm, e, rfl⟩ | ⟨e1, q, hm, e, rfl⟩
  · rw [rows_find, e]
    refine iteT ?_
    refine ⟨_, rfl, _, _, rfl, rfl, by rw [rows_find, e]; rfl, ?_⟩
    exact hq _ (TP.kSTATEMENTS q hm)
  · rw [rows_find, e1]
    refine iteF ?_
    refine ⟨_, rfl, _, _, rfl, rfl, by rw [rows_find, e]; rfl, ?_⟩
    exact hq _ (TP.kEXPRESSIONS q hm)
theorem rels_at {H : Hp} : ∀ {ts : List Tr} {xs : List V} {i : Nat} {x : V}, RelTs H ts xs → xs[i]? = some x → ∃ t, ts[i]? = some t ∧ RelT H t x
  | [], xs, i, x, h, e => by rw [RelTs] at h; subst h; cases e
  | t :: ts, xs, i, x, h, e => by
    rw [RelTs] at h
    obtain ⟨y, ys, rfl, h1, h2⟩ := h
    cases i with
    | zero => cases e; exact ⟨t, rfl, h1⟩
    | succ i => exact rels_at (i := i) h2 e
theorem rels_cat {H : Hp} : ∀ {ts us : List Tr} {xs ys : List V}, RelTs H ts xs → RelTs H us ys → RelTs H (ts ++ us) (xs ++ ys)
  | [], us, xs, ys, h, h2 => by rw [RelTs] at h; subst h; exact h2
  | t :: ts, us, xs, ys, h, h2 => by
    rw [RelTs] at h
    obtain ⟨y, zs, rfl, h1, h3⟩ := h
    show RelTs H (t :: (ts ++ us)) (y :: (zs ++ ys))
    rw [RelTs]
    exact ⟨y, _, rfl, h1, rels_cat h3 h2⟩
theorem kidsP_take : ∀ {sh : List String} {ts : List Tr} {i : Nat} {s : String} {t : Tr}, sh[i]? = some s → ts[i]? = some t → kidsP (sh.take (i + 1)) (ts.take (i + 1)) = kidsP (sh.take i) (ts.take i) ++ (if isE s = true then [t] else if isB s = true then rowT t else [])
  | [], _, i, s, t, e, _ => by cases e
  | _ :: _, [], i, s, t, _, e => by cases e
  | s0 :: sh, t0 :: ts, 0, s, t, e1, e2 => by
    cases e1; cases e2
    show kidsP [s0] [t0] = kidsP [] [] ++ _
    rw [kidsP, k0, List.append_nil, List.nil_append]
  | s0 :: sh, t0 :: ts, i + 1, s, t, e1, e2 => by
    have ih := kidsP_take (sh := sh) (ts := ts) (i := i) e1 e2
    show kidsP (s0 :: sh.take (i + 1)) (t0 :: ts.take (i + 1)) = kidsP (s0 :: sh.take i) (t0 :: ts.take i) ++ _
    rw [kidsP, kidsP, ih, List.append_assoc]
theorem len_nL (us : List Tr) : us.length ≤ nL us := by
  induction us with
  | nil => exact Nat.le_refl _
  | cons u us ih => rw [List.length_cons, nL_cons]; have := nT_pos u; omega
theorem kidsP_split : ∀ (i : Nat) {sh : List String} {ts : List Tr}, sh.length = ts.length → kidsP sh ts = kidsP (sh.take i) (ts.take i) ++ kidsP (sh.drop i) (ts.drop i)
  | 0, sh, ts, _ => by rw [List.take_zero, List.take_zero, List.drop_zero, List.drop_zero, k0]; rfl
  | i + 1, [], [], _ => rfl
  | i + 1, s :: sh, t :: ts, h => by
    have ih := kidsP_split i (sh := sh) (ts := ts) (Nat.succ.inj h)
    show kidsP (s :: sh) (t :: ts) = kidsP (s :: sh.take i) (t :: ts.take i) ++ kidsP (sh.drop i) (ts.drop i)
    rw [kidsP, kidsP, ih, List.append_assoc]
  | i + 1, [], _ :: _, h => by cases h
  | i + 1, _ :: _, [], h => by cases h
theorem nL_take {sh : List String} {ts : List Tr} (h : sh.length = ts.length) (i : Nat) : nL (kidsP (sh.take i) (ts.take i)) ≤ nL (kidsP sh ts) := by
  rw [kidsP_split i h, nL_app]; omega
theorem cut_tail (x : V) (xs : List V) : cutV (x :: xs) (some 1) none = xs := by
  have e1 : HT.sIx (x :: xs).length 0 (some 1) = 1 := by
    rw [show (some (1 : Int)) = some ((1 : Nat) : Int) from rfl, HT.sIx_nat, List.length_cons]; omega
  unfold cutV
  rw [e1, HT.sIx_none, List.drop_one, List.tail_cons, List.length_cons]
  exact List.take_of_length_le (by omega)
theorem not_whole (x : V) (xs : List V) {o : Option Int} : ¬ (HT.sIx (x :: xs).length 0 (some 1) = 0 ∧ HT.sIx (x :: xs).length (x :: xs).length o = (x :: xs).length) := fun z => by
  have e1 : HT.sIx (x :: xs).length 0 (some 1) = 1 := by
    rw [show (some (1 : Int)) = some ((1 : Nat) : Int) from rfl, HT.sIx_nat, List.length_cons]; omega
  rw [e1] at z
  exact absurd z.1 (by omega)
abbrev s_within : Stmt := top 40
theorem sc_within : FnScope ["node", "found", "sort", "part"] ["node"] (defScope s_within) := ⟨rfl, rfl, rfl, by decide +kernel, rfl, by decide +kernel, by decide +kernel⟩
/-- a node's inner nodes, in a new list -/
def sp_within (K : PySem.W.Frag) : Sp := fun vs H Q _ => ∃ (t : Tr) (v : V), vs = [v] ∧ RelT H t v ∧ OkT t ∧ nT t ≤ 1000000 ∧ ∀ H' p xs, Same H H' → H p = none → H' p = some (.lst xs) → RelTs H' (kids t) xs → Q (.ref p) H'
theorem ok_within (T : Txt K mg) (TQ : TxtQ mg) {f : Addr} {fd : FuncData} (F : Fun K "within" "within" s_within f fd) (D_shape_within : Def P w K mg base CX0 "shape_within" ["word"] 1 (sp_shape K)) : FnOk P w K mg base CX0 2 f fd ["node"] (sp_within K) := by
  refine F.ok sc_within (fun vs H Q E h => ?_) (fun cdv A outer s H vs Q E hr h => ?_)
  · obtain ⟨_, v, rfl, _⟩ := h; rfl
  obtain ⟨t, v, rfl, hrel, hok, hn, hq⟩ := h
  refine ⟨_, (pss_cons (ps_set (i := 1) sc_within.nd rfl (Or.inl rfl) (pe_lst pa_nil))
    (pss_cons (ps_for PassesOwn.never rfl (RZ.pi_zipA rfl TQ.n_zip (pa_cons (pe_call D_shape_within.ok (hr.mono (by omega)) rfl D_shape_within.g D_shape_within.k D_shape_within.b .nil pass0 (pa_cons (pe_ix ix_tup (pv 0) pe_int (fun _ _ => rfl)) pa_nil)) (pa_cons (pe_slice sl_tupA (pv 0) (po_some pe_int) po_none) pa_nil))) (pg_tup rfl (pgs_cons (pg_name (i := 2) sc_within.nd rfl (Or.inl rfl)) (pgs_cons (pg_name (i := 3) sc_within.nd rfl (Or.inl rfl)) pgs_nil))) (pss_one (ps_if (PW.pt (pw_or (pt_cmpR op_eq (pv 2) pe_str (nomark _)) (pw_or1 (pt_cmpR op_eq (pv 2) pe_str (nomark _))))) (pss_one (ps_expr (pe_bm PySem.F.plainAttrs_list PySem.F.slot_list_append PySem.F.type_list_append mt_append (pv 1) (pa_cons (pv 3) pa_nil)))) (pss_one (ps_if (PW.pt (pw_or (pt_cmpR op_eq (pv 2) pe_str (nomark _)) (pw_or1 (pt_cmpR op_eq (pv 2) pe_str (nomark _))))) (pss_one (ps_expr (pe_bm PySem.F.plainAttrs_list PySem.F.slot_list_extend PySem.F.type_list_extend mt_extendT (pv 1) (pa_cons (pv 3) pa_nil)))) pss_nil)))))
    (pss_one (ps_ret (pv 1))))), ?_⟩
  generalize hσ : L2.start _ _ = σ0
  have hσ : σ0 = [some v, none, none, none] := hσ.symm
  subst hσ
  have hz := line_eq
  cases hok with
  | mk l sh ts hsh hlen hkok hb =>
  rw [RelT] at hrel
  obtain ⟨pn, xs, rfl, hpn, hrs⟩ := hrel
  rw [RelTs] at hrs
  obtain ⟨x0, xs, rfl, h0, hrs⟩ := hrs
  rw [RelT] at h0
  subst h0
  have hlx := rels_len hrs
  have hkids : kids (.t (.s l :: ts)) = kidsP sh ts := by
    show (match shapeOf l with | some sh => kidsP sh ts | none => []) = _
    rw [hsh]
  rw [hkids] at hq
  have hnk : nL (kidsP sh ts) ≤ 1000000 := by
    rw [nT_eq, hkids] at hn
    have : nL (kidsP sh ts) = ((kidsP sh ts).map nT).sum := rfl
    omega
  refine seq_set ?_
  refine ⟨Nat.zero_le _, fun pf npf => ?_⟩
  have gf := same_new npf (.lst [])
  dsimp only
  refine seq_join (fun σ H' => ∃ x2 x3 xs, σ = [some (.ref pn), some (.ref pf), x2, x3] ∧ Same H H' ∧ H' pf = some (.lst xs) ∧ RelTs H' (kidsP sh ts) xs) ?_ ?_
  · rintro σ H2 ⟨x2, x3, ys, rfl, g2, hp2, hr2⟩
    exact ⟨_, rfl, hq H2 pf ys g2 npf hp2 hr2⟩
  intro NX nx
  refine ⟨_, rfl, pn, _, _, _, rfl, rfl, SqT.of (gf _ _ hpn), atI_nat (j := 0) rfl, ?_⟩
  refine ⟨l, sh, rfl, hsh, fun ps hps => ?_⟩
  refine ⟨_, rfl, 1, rfl, pn, _, rfl, SqT.of (gf _ _ hpn), fun z => absurd z (not_whole _ _), fun _ pt npt => ?_⟩
  rw [cut_tail]
  have gt := same_new npt (.tup xs)
  have hp2 := gt _ _ (upd_same (H := H) (a := pf) (o := .lst []))
  have hpt2 : (upd (upd H pf (.lst [])) pt (.tup xs)) pt = some (.tup xs) := upd_same
  have hrs2 := (hrs.keep (TupK.same gf)).keep (TupK.same gt)
  have g2 := gf.trans gt
  generalize upd (upd H pf (.lst [])) pt (.tup xs) = H2 at gt hp2 hpt2 hrs2 g2 ⊢
  refine ⟨ps, pt, litV sh, xs, rfl, .inr ⟨hps _, SqT.of hpt2, ?_⟩⟩
  have hl : (litV sh).length = xs.length := by rw [litV, List.length_map, ← hlx]; exact hlen.symm
  refine RZ.for_zipT hl (fun i σ H' => ∃ x2 x3 ys, σ = [some (.ref pn), some (.ref pf), x2, x3] ∧ Same H H' ∧ H' pt = some (.tup xs) ∧ H' pf = some (.lst ys) ∧ RelTs H' (kidsP (sh.take i) (ts.take i)) ys)
    ⟨_, _, [], rfl, g2, hpt2, hp2, by show RelTs H2 [] []; rw [RelTs]⟩ (fun i σ H' ⟨_, _, _, _, _, h, _⟩ => ⟨hps _, SqT.of h⟩) ?_ ?_
  rotate_left
  · rintro σ H3 ⟨x2, x3, ys, rfl, g3, hpt3, hp3, hr3⟩
    refine nx _ _ ⟨x2, x3, ys, rfl, g3, hp3, ?_⟩
    rw [List.take_of_length_le (by rw [litV, List.length_map]; exact Nat.le_refl _), List.take_of_length_le (by rw [hl, hlx]; exact Nat.le_refl _)] at hr3
    exact hr3
  rintro i sv pv' Tp σ H3 es ex ⟨x2, x3, ys, rfl, g3, hpt3, hp3, hr3⟩ nT
  have es' : (sh.map fun s => V.str (Str.ofString s))[i]? = some sv := es
  rw [List.getElem?_map] at es'
  cases esh : sh[i]? with
  | none => rw [esh] at es'; cases es'
  | some s =>
  rw [esh] at es'
  cases es'
  have gT := same_new nT (.tup [V.str (Str.ofString s), pv'])
  have g4 := g3.trans gT
  have hrs4 : RelTs (upd H3 Tp (.tup [V.str (Str.ofString s), pv'])) ts xs := hrs.keep (TupK.same g4)
  obtain ⟨t, et, hrt⟩ := rels_at hrs4 ex
  have hp4 := gT _ _ hp3
  have hpt4 := gT _ _ hpt3
  have hr4 := hr3.keep (TupK.same gT)
  have hkt := kidsP_take esh et
  refine ⟨Tp, _, rfl, SqT.of upd_same, rfl, _, _, rfl, _, _, rfl, rfl, ?_⟩
  generalize upd H3 Tp (.tup [V.str (Str.ofString s), pv']) = H4 at gT g4 hrs4 hrt hp4 hpt4 hr4 ⊢
  -- the words of the shape
  have yes : ∀ {z : String}, V.str (Str.ofString s) = V.str (Str.ofString z) → codes s = codes z := fun e => eq_lit.mp ((litW s).symm.trans e)
  have hsm : s ∈ ["name", "e", "place", "block", "args", "number", "text", "names", "asked"] := by
    have hc : ∀ q ∈ stShL ++ exShL, ∀ s ∈ q.2, s ∈ ["name", "e", "place", "block", "args", "number", "text", "names", "asked"] := by decide +kernel
    rcases shape_cases hsh with ⟨q, hm, _, rfl⟩ | ⟨_, q, hm, _, rfl⟩
    · exact hc q (List.mem_append_left _ hm) s (List.mem_of_getElem? esh)
    · exact hc q (List.mem_append_right _ hm) s (List.mem_of_getElem? esh)
  have inj : ∀ s ∈ ["name", "e", "place", "block", "args", "number", "text", "names", "asked"], ∀ z ∈ ["e", "place", "args", "block"], codes s = codes z → s = z := by decide +kernel
  have hly : ys.length ≤ 1000000 := by
    have h1 := rels_len hr3
    have h2 : nL (kidsP (sh.take i) (ts.take i)) ≤ nL (kidsP sh ts) := nL_take hlen.symm i
    have h3 := len_nL (kidsP (sh.take i) (ts.take i))
    omega
  -- it is appended
  have push : isE s = true → ∀ x2 x3 : Option V, ∃ x2' x3' ys', [some (V.ref pn), some (V.ref pf), x2, x3] = [some (V.ref pn), some (V.ref pf), x2', x3'] ∧ Same H (upd H4 pf (.lst (ys ++ [pv']))) ∧ (upd H4 pf (.lst (ys ++ [pv']))) pt = some (.tup xs) ∧ (upd H4 pf (.lst (ys ++ [pv']))) pf = some (.lst ys') ∧ RelTs (upd H4 pf (.lst (ys ++ [pv']))) (kidsP (sh.take (i + 1)) (ts.take (i + 1))) ys' := fun hE x2 x3 => by
    have tk := TupK.set (o := .lst (ys ++ [pv'])) hp4
    refine ⟨x2, x3, _, rfl, same_mut g4 npf _, tk _ _ hpt4, upd_same, ?_⟩
    rw [hkt, if_pos hE]
    exact (hr4.keep tk).snoc (hrt.keep tk)
  have add : isE s = true → tDrop (tBM K "list" rAppend (tVar 1) (tCons (tVar 3) tNil)) { nx := fun σ' H' => ∃ x2 x3 ys, σ' = [some (V.ref pn), some (V.ref pf), x2, x3] ∧ Same H H' ∧ H' pt = some (.tup xs) ∧ H' pf = some (.lst ys) ∧ RelTs H' (kidsP (sh.take (i + 1)) (ts.take (i + 1))) ys, rt := Q, bk := NX, ct := fun σ' H' => ∃ x2 x3 ys, σ' = [some (V.ref pn), some (V.ref pf), x2, x3] ∧ Same H H' ∧ H' pt = some (.tup xs) ∧ H' pf = some (.lst ys) ∧ RelTs H' (kidsP (sh.take (i + 1)) (ts.take (i + 1))) ys } [some (V.ref pn), some (V.ref pf), some (V.str (Str.ofString s)), some pv'] H4 := fun hE => by
    refine ⟨_, rfl, .inl ⟨rfl, _, SqL.of hp4⟩, _, rfl, pf, ys, _, rfl, rfl, hp4, by omega, ?_⟩
    exact push hE _ _
  refine ⟨_, rfl, rfl, _, rfl, ?_⟩
  refine ited (fun h1 => ?_) (fun h1 => ?_)
  · refine iteT ?_
    exact add (by rw [inj _ hsm _ (by decide) (yes h1)]; decide)
  refine ⟨_, rfl, rfl, _, rfl, ?_⟩
  refine ited (fun h2 => ?_) (fun h2 => ?_)
  · exact add (by rw [inj _ hsm _ (by decide) (yes h2)]; decide)
  have hE : isE s = false := by
    cases e : isE s with
    | false => rfl
    | true =>
      unfold isE at e
      rw [Bool.or_eq_true, decide_eq_true_eq, decide_eq_true_eq] at e
      rcases e with rfl | rfl
      · exact absurd rfl h1
      · exact absurd rfl h2
  rw [hE] at hkt
  -- what is extended
  have ext : isB s = true → tDrop (tBM K "list" (rExtendT K) (tVar 1) (tCons (tVar 3) tNil)) { nx := fun σ' H' => ∃ x2 x3 ys, σ' = [some (V.ref pn), some (V.ref pf), x2, x3] ∧ Same H H' ∧ H' pt = some (.tup xs) ∧ H' pf = some (.lst ys) ∧ RelTs H' (kidsP (sh.take (i + 1)) (ts.take (i + 1))) ys, rt := Q, bk := NX, ct := fun σ' H' => ∃ x2 x3 ys, σ' = [some (V.ref pn), some (V.ref pf), x2, x3] ∧ Same H H' ∧ H' pt = some (.tup xs) ∧ H' pf = some (.lst ys) ∧ RelTs H' (kidsP (sh.take (i + 1)) (ts.take (i + 1))) ys } [some (V.ref pn), some (V.ref pf), some (V.str (Str.ofString s)), some pv'] H4 := fun hB => by
    obtain ⟨us, rfl⟩ := (hb i s t esh et).1 hB
    rw [RelT] at hrt
    obtain ⟨pu, zs, rfl, hpu, hus⟩ := hrt
    rw [if_neg Bool.false_ne_true, if_pos hB] at hkt
    have hkt : kidsP (sh.take (i + 1)) (ts.take (i + 1)) = kidsP (sh.take i) (ts.take i) ++ us := hkt
    have hlu : us.length ≤ 1000000 := by
      have h2 := nL_take (sh := sh) (ts := ts) hlen.symm (i + 1)
      rw [hkt, nL_app] at h2
      have h3 := len_nL us
      omega
    rw [rels_len hus] at hlu
    refine ⟨_, rfl, .inl ⟨rfl, _, SqL.of hp4⟩, _, rfl, pf, pu, ys, zs, rfl, rfl, hp4, SqT.of hpu, by omega, ?_⟩
    have tk := TupK.set (o := .lst (ys ++ zs)) hp4
    refine ⟨_, _, _, rfl, same_mut g4 npf _, tk _ _ hpt4, upd_same, ?_⟩
    rw [hkt]
    exact rels_cat (hr4.keep tk) (hus.keep tk)
  refine ⟨_, rfl, rfl, _, rfl, ?_⟩
  refine ited (fun h3 => ?_) (fun h3 => ?_)
  · refine iteT ?_
    exact ext (by rw [inj _ hsm _ (by decide) (yes h3)]; decide)
  refine ⟨_, rfl, rfl, _, rfl, ?_⟩
  refine ited (fun h4 => ?_) (fun h4 => go_next ?_)
  · exact ext (by rw [inj _ hsm _ (by decide) (yes h4)]; decide)
  have hB : isB s = false := by
    cases e : isB s with
    | false => rfl
    | true =>
      unfold isB at e
      rw [Bool.or_eq_true, decide_eq_true_eq, decide_eq_true_eq] at e
      rcases e with rfl | rfl
      · exact absurd rfl h3
      · exact absurd rfl h4
  rw [hB, if_neg Bool.false_ne_true, if_neg Bool.false_ne_true, List.append_nil] at hkt
  exact ⟨_, _, ys, rfl, g4, hpt4, hp4, by rw [hkt]; exact hr4⟩
end
end Wk
set_option maxRecDepth 100000
set_option maxHeartbeats 8000000
namespace Wk
open PySem L2 TL PyProof.Rows Gm Gr
open SX (S S_len)
theorem flat_take {α : Type} (f : α → List Tr) : ∀ {xs : List α} {i : Nat} {x : α}, xs[i]? = some x → (xs.take (i + 1)).flatMap f = (xs.take i).flatMap f ++ f x := fun {xs i x} e => by
  rw [List.take_add_one, e, List.flatMap_append]
  simp [List.flatMap_cons]
theorem nL_flat_take {α : Type} (f : α → List Tr) (xs : List α) (i : Nat) : nL ((xs.take i).flatMap f) ≤ nL (xs.flatMap f) := by
  have : nL (xs.flatMap f) = nL ((xs.take i).flatMap f) + nL ((xs.drop i).flatMap f) := by
    rw [← nL_app, ← List.flatMap_append, List.take_append_drop]
  omega
theorem rel_tuple {H : Hp} {ts : List Tr} {v : V} (h : RelT H (.t ts) v) : ∃ a xs, v = .ref a ∧ H a = some (.tup xs) ∧ RelTs H ts xs := by
  rw [RelT] at h; exact h
theorem rels_uncons {H : Hp} {t : Tr} {ts : List Tr} {xs : List V} (h : RelTs H (t :: ts) xs) : ∃ y ys, xs = y :: ys ∧ RelT H t y ∧ RelTs H ts ys := by
  rw [RelTs] at h; exact h
theorem rels_nil {H : Hp} {xs : List V} (h : RelTs H [] xs) : xs = [] := by
  rw [RelTs] at h; exact h
section
variable {P : Program} {w : World} {K : PySem.W.Frag} {mg : Str → Option Value} {base : Heap}
abbrev s_outermost : Stmt := top 39
theorem sc_outermost : FnScope ["program", "found", "item", "method"] ["program"] (defScope s_outermost) := ⟨rfl, rfl, rfl, by decide +kernel, rfl, by decide +kernel, by decide +kernel⟩
def sp_outer : Sp := fun vs H Q _ => ∃ (p : Addr) (ts : List Tr) (xs : List V), vs = [.ref p] ∧ H p = some (.tup xs) ∧ RelTs H ts xs ∧ (∀ a ∈ ts, OkI a) ∧ nL (ts.flatMap outI) ≤ 1000000 ∧ ∀ H' pl ys, Same H H' → H pl = none → H' pl = some (.lst ys) → RelTs H' (ts.flatMap outI) ys → Q (.ref pl) H'
theorem ok_outermost (T : Txt K mg) {f : Addr} {fd : FuncData} (F : Fun K "outermost" "outermost" s_outermost f fd) : FnOk P w K mg base CX0 1 f fd ["program"] sp_outer := by
  refine F.ok sc_outermost (fun vs H Q E h => ?_) (fun cdv A outer s H vs Q E hr h => ?_)
  · obtain ⟨p, _, _, rfl, _⟩ := h; rfl
  obtain ⟨p, ts, xs, rfl, hp, hrs, hok, hn, hq⟩ := h
  refine ⟨_, (pss_cons (ps_set (i := 1) sc_outermost.nd rfl (Or.inl rfl) (pe_lst pa_nil))
    (pss_cons (ps_for PassesOwn.never rfl (pi_tup (pv 0)) (pg_name (i := 2) sc_outermost.nd rfl (Or.inl rfl)) (pss_one (ps_if (pt_cmpR op_eq (pe_ix ix_tup (pv 2) pe_int (fun _ _ => rfl)) pe_str (nomark _)) (pss_one (ps_for PassesOwn.never rfl (pi_tup (pe_ix ix_tup (pv 2) pe_int (fun _ _ => rfl))) (pg_name (i := 3) sc_outermost.nd rfl (Or.inl rfl)) (pss_one (ps_expr (pe_bm PySem.F.plainAttrs_list PySem.F.slot_list_extend PySem.F.type_list_extend mt_extendT (pv 1) (pa_cons (pe_ix ix_tup (pv 3) pe_int (fun _ _ => rfl)) pa_nil)))))) (pss_one (ps_if (pt_cmpR op_eq (pe_ix ix_tup (pv 2) pe_int (fun _ _ => rfl)) pe_str (nomark _)) (pss_one (ps_expr (pe_bm PySem.F.plainAttrs_list PySem.F.slot_list_extend PySem.F.type_list_extend mt_extendT (pv 1) (pa_cons (pe_ix ix_tup (pv 2) pe_int (fun _ _ => rfl)) pa_nil)))) (pss_one (ps_expr (pe_bm PySem.F.plainAttrs_list PySem.F.slot_list_append PySem.F.type_list_append mt_append (pv 1) (pa_cons (pv 2) pa_nil)))))))))
    (pss_one (ps_ret (pv 1))))), ?_⟩
  generalize hσ : L2.start _ _ = σ0
  have hσ : σ0 = [some (.ref p), none, none, none] := hσ.symm
  subst hσ
  have hz := line_eq
  have hlx := rels_len hrs
  refine seq_set ?_
  refine ⟨Nat.zero_le _, fun pf npf => ?_⟩
  have gf := same_new npf (.lst [])
  dsimp only
  refine seq_join (fun σ H' => ∃ x2 x3 ys, σ = [some (.ref p), some (.ref pf), x2, x3] ∧ Same H H' ∧ H' pf = some (.lst ys) ∧ RelTs H' (ts.flatMap outI) ys) ?_ ?_
  · rintro σ H2 ⟨x2, x3, ys, rfl, g2, hp2, hr2⟩
    exact ⟨_, rfl, hq H2 pf ys g2 npf hp2 hr2⟩
  intro NX nx
  refine ⟨_, rfl, p, rfl, ⟨_, SqT.of (gf _ _ hp)⟩, ?_⟩
  refine for_tup (K := K) (xs := xs) (fun i σ H' => ∃ x2 x3 ys, σ = [some (.ref p), some (.ref pf), x2, x3] ∧ Same H H' ∧ H' pf = some (.lst ys) ∧ RelTs H' ((ts.take i).flatMap outI) ys)
    ⟨_, _, [], rfl, gf, upd_same, by show RelTs _ [] []; rw [RelTs]⟩ (fun i σ H' _ ⟨_, _, _, _, g, _⟩ => SqT.of (g _ _ hp)) ?_ ?_
  rotate_left
  · rintro σ H3 ⟨x2, x3, ys, rfl, g3, hp3, hr3⟩
    refine nx _ _ ⟨x2, x3, ys, rfl, g3, hp3, ?_⟩
    rw [List.take_of_length_le (by omega)] at hr3
    exact hr3
  rintro i x σ H3 ex ⟨x2, x3, ys, rfl, g3, hp3, hr3⟩
  obtain ⟨t, et, hrt⟩ := rels_at (hrs.keep (TupK.same g3)) ex
  have hft := flat_take outI et
  have hb1 := nL_flat_take outI ts (i + 1)
  rw [hft, nL_app] at hb1
  have hly : ys.length ≤ 1000000 := by
    have h1 := rels_len hr3
    have h3 := len_nL ((ts.take i).flatMap outI)
    omega
  have hlo := len_nL (outI t)
  -- a block more
  have ext : ∀ {H4 : Hp} {ys4 zs : List V} {us as4 : List Tr} {pu : Addr}, Same H H4 → H4 pf = some (.lst ys4) → RelTs H4 as4 ys4 → H4 pu = some (.tup zs) → RelTs H4 us zs → Same H (upd H4 pf (.lst (ys4 ++ zs))) ∧ (upd H4 pf (.lst (ys4 ++ zs))) pf = some (.lst (ys4 ++ zs)) ∧ RelTs (upd H4 pf (.lst (ys4 ++ zs))) (as4 ++ us) (ys4 ++ zs) := fun {H4 ys4 zs us as4 pu} g4 h4 hr4 hu hus => by
    have tk := TupK.set (o := .lst (ys4 ++ zs)) h4
    exact ⟨same_mut g4 npf _, upd_same, rels_cat (hr4.keep tk) (hus.keep tk)⟩
  have hokt := hok t (List.mem_of_getElem? et)
  cases hokt with
  | cls n e fs ms hms =>
    obtain ⟨pi, zs, rfl, hpi, hz5⟩ := rel_tuple hrt
    obtain ⟨z0, zs1, rfl, h0, hz5⟩ := rels_uncons hz5
    obtain ⟨z1, zs2, rfl, h1, hz5⟩ := rels_uncons hz5
    obtain ⟨z2, zs3, rfl, h2, hz5⟩ := rels_uncons hz5
    obtain ⟨z3, zs4, rfl, h3, hz5⟩ := rels_uncons hz5
    obtain ⟨z4, zs5, rfl, h4, hz5⟩ := rels_uncons hz5
    obtain rfl := rels_nil hz5
    have h0 : z0 = .str (S (codes "class")) := by rw [show Gr.w "class" = Tr.s (codes "class") from rfl, RelT] at h0; exact h0
    subst h0
    obtain ⟨pm, zm, rfl, hpm, hrm⟩ := rel_tuple h4
    rw [out_cls] at hft hb1 hlo
    refine ⟨_, rfl, pi, _, _, _, rfl, rfl, SqT.of hpi, atI_nat (j := 0) rfl, rfl, _, rfl, ?_⟩
    refine ited (fun _ => ?_) (fun z => absurd (eq_lit.mpr rfl) z)
    refine ⟨_, rfl, pi, _, _, _, rfl, rfl, SqT.of hpi, atI_nat (j := 4) rfl, pm, rfl, ⟨_, SqT.of hpm⟩, ?_⟩
    have hlm := rels_len hrm
    refine for_tup (K := K) (xs := zm) (fun j σ H' => ∃ x2 x3 ys, σ = [some (.ref p), some (.ref pf), x2, x3] ∧ Same H H' ∧ TupK H3 H' ∧ H' pf = some (.lst ys) ∧ RelTs H' ((ts.take i).flatMap outI ++ (ms.take j).flatMap methB) ys)
      ⟨_, _, ys, rfl, g3, fun _ _ h => h, hp3, by rw [List.take_zero]; show RelTs _ (_ ++ []) _; rw [List.append_nil]; exact hr3⟩ (fun j σ H' _ ⟨_, _, _, _, _, g, _⟩ => SqT.of (g _ _ hpm)) ?_ ?_
    · rintro j y σ H4 ey ⟨x2, x3, ys4, rfl, g4, tk4, hp4, hr4⟩
      obtain ⟨m, em, hrm4⟩ := rels_at (hrm.keep tk4) ey
      have hfm := flat_take methB em
      obtain ⟨nm, ps, us, rfl, hus⟩ := hms m (List.mem_of_getElem? em)
      have hfm : (ms.take (j + 1)).flatMap methB = (ms.take j).flatMap methB ++ us := hfm
      have hb2 := nL_flat_take methB ms (j + 1)
      rw [hfm, nL_app] at hb2
      have hlu := len_nL us
      have hlj := len_nL ((ms.take j).flatMap methB)
      have hli := len_nL ((ts.take i).flatMap outI)
      have hl4 := rels_len hr4
      rw [List.length_append] at hl4
      obtain ⟨pq, zq, rfl, hpq, hq3⟩ := rel_tuple hrm4
      obtain ⟨y0, zq1, rfl, k0, hq3⟩ := rels_uncons hq3
      obtain ⟨y1, zq2, rfl, k1, hq3⟩ := rels_uncons hq3
      obtain ⟨y2, zq3, rfl, k2, hq3⟩ := rels_uncons hq3
      obtain rfl := rels_nil hq3
      obtain ⟨pu, zu, rfl, hpu, hru⟩ := rel_tuple k2
      have hlu2 := rels_len hru
      refine ⟨_, rfl, .inl ⟨rfl, _, SqL.of hp4⟩, _, rfl, pq, _, _, _, rfl, rfl, SqT.of hpq, atI_nat (j := 2) rfl, ?_⟩
      refine ⟨pf, pu, ys4, zu, rfl, rfl, hp4, SqT.of hpu, by omega, ?_⟩
      obtain ⟨m1, m2, m3⟩ := ext g4 hp4 hr4 hpu hru
      refine ⟨_, _, _, rfl, m1, fun _ _ h => TupK.set hp4 _ _ (tk4 _ _ h), m2, ?_⟩
      rw [hfm, ← List.append_assoc]
      exact m3
    · rintro σ H4 ⟨x2, x3, ys4, rfl, g4, tk4, hp4, hr4⟩
      refine ⟨x2, x3, ys4, rfl, g4, hp4, ?_⟩
      rw [hft]
      rw [show ms.take zm.length = ms from List.take_of_length_le (by omega)] at hr4
      exact hr4
  | fn n ps us hus =>
    obtain ⟨pi, zs, rfl, hpi, hz5⟩ := rel_tuple hrt
    obtain ⟨z0, zs1, rfl, h0, hz5⟩ := rels_uncons hz5
    obtain ⟨z1, zs2, rfl, h1, hz5⟩ := rels_uncons hz5
    obtain ⟨z2, zs3, rfl, h2, hz5⟩ := rels_uncons hz5
    obtain ⟨z3, zs4, rfl, h3, hz5⟩ := rels_uncons hz5
    obtain rfl := rels_nil hz5
    have h0 : z0 = .str (S (codes "function")) := by rw [show Gr.w "function" = Tr.s (codes "function") from rfl, RelT] at h0; exact h0
    subst h0
    obtain ⟨pu, zu, rfl, hpu, hru⟩ := rel_tuple h3
    have hlu2 := rels_len hru
    rw [out_fn] at hft hb1 hlo
    refine ⟨_, rfl, pi, _, _, _, rfl, rfl, SqT.of hpi, atI_nat (j := 0) rfl, rfl, _, rfl, ?_⟩
    refine ited (fun z => absurd (eq_lit.mp z) (by decide +kernel)) (fun _ => ?_)
    refine ⟨_, rfl, pi, _, _, _, rfl, rfl, SqT.of hpi, atI_nat (j := 0) rfl, rfl, _, rfl, ?_⟩
    refine ited (fun _ => ?_) (fun z => absurd (eq_lit.mpr rfl) z)
    refine ⟨_, rfl, .inl ⟨rfl, _, SqL.of hp3⟩, _, rfl, pi, _, _, _, rfl, rfl, SqT.of hpi, atI_nat (j := 3) rfl, ?_⟩
    refine ⟨pf, pu, ys, zu, rfl, rfl, hp3, SqT.of hpu, by omega, ?_⟩
    obtain ⟨m1, m2, m3⟩ := ext g3 hp3 hr3 hpu hru
    exact ⟨_, _, _, rfl, m1, m2, by rw [hft]; exact m3⟩
  | st l ts' h =>
    have hrt0 := hrt
    obtain ⟨pi, zs, rfl, hpi, hz5⟩ := rel_tuple hrt
    obtain ⟨z0, zs1, rfl, h0, hz5⟩ := rels_uncons hz5
    have h0 : z0 = .str (S l) := by rw [RelT] at h0; exact h0
    subst h0
    obtain ⟨n1, n2⟩ := not_item h
    rw [out_st h] at hft hb1 hlo
    refine ⟨_, rfl, pi, _, _, _, rfl, rfl, SqT.of hpi, atI_nat (j := 0) rfl, rfl, _, rfl, ?_⟩
    refine ited (fun z => absurd (eq_lit.mp z) n1) (fun _ => ?_)
    refine ⟨_, rfl, pi, _, _, _, rfl, rfl, SqT.of hpi, atI_nat (j := 0) rfl, rfl, _, rfl, ?_⟩
    refine ited (fun z => absurd (eq_lit.mp z) n2) (fun _ => ?_)
    refine ⟨_, rfl, .inl ⟨rfl, _, SqL.of hp3⟩, _, rfl, pf, ys, _, rfl, rfl, hp3, by omega, ?_⟩
    have tk := TupK.set (o := .lst (ys ++ [.ref pi])) hp3
    exact ⟨_, _, _, rfl, same_mut g3 npf _, upd_same, by rw [hft]; exact (hr3.keep tk).snoc (hrt0.keep tk)⟩
end
end Wk
set_option maxRecDepth 100000
set_option maxHeartbeats 8000000
namespace Wk
open PySem L2 TL PyProof.Rows Gm Gr
open SX (S S_len)
/-- nodes that wait, each with how deep it stands -/
def NdR (H : Hp) : List (Tr × Nat) → List V → Prop
  | [], vs => vs = []
  | p :: ps, vs => ∃ a v us, vs = .ref a :: us ∧ H a = some (.tup [v, .int (p.2 : Int)]) ∧ RelT H p.1 v ∧ NdR H ps us
theorem NdR.len {H : Hp} : ∀ {ps : List (Tr × Nat)} {vs : List V}, NdR H ps vs → vs.length = ps.length
  | [], _, h => by cases h; rfl
  | _ :: _, _, ⟨_, _, us, e, _, _, h⟩ => by subst e; rw [List.length_cons, List.length_cons, h.len]
theorem NdR.keep {H H' : Hp} (g : TupK H H') : ∀ {ps : List (Tr × Nat)} {vs : List V}, NdR H ps vs → NdR H' ps vs
  | [], _, h => h
  | _ :: _, _, ⟨a, v, us, e, h1, h2, h⟩ => ⟨a, v, us, e, g _ _ h1, h2.keep g, h.keep g⟩
theorem NdR.snoc {H : Hp} {p : Tr × Nat} {a : Addr} {v : V} (ha : H a = some (.tup [v, .int (p.2 : Int)])) (hv : RelT H p.1 v) : ∀ {ps : List (Tr × Nat)} {vs : List V}, NdR H ps vs → NdR H (ps ++ [p]) (vs ++ [.ref a])
  | [], _, h => by cases h; exact ⟨a, v, [], rfl, ha, hv, rfl⟩
  | _ :: _, _, ⟨b, u, us, e, h1, h2, h⟩ => by subst e; exact ⟨b, u, us ++ [.ref a], rfl, h1, h2, h.snoc ha hv⟩
theorem NdR.app {H : Hp} {qs : List (Tr × Nat)} {us : List V} (h2 : NdR H qs us) : ∀ {ps : List (Tr × Nat)} {vs : List V}, NdR H ps vs → NdR H (ps ++ qs) (vs ++ us)
  | [], _, h => by cases h; exact h2
  | _ :: _, _, ⟨b, u, ws, e, h1, h3, h⟩ => by subst e; exact ⟨b, u, ws ++ us, rfl, h1, h3, NdR.app h2 h⟩
theorem NdR.last {H : Hp} {p : Tr × Nat} : ∀ {ps : List (Tr × Nat)} {vs : List V}, NdR H (ps ++ [p]) vs → ∃ us a v, vs = us ++ [.ref a] ∧ H a = some (.tup [v, .int (p.2 : Int)]) ∧ RelT H p.1 v ∧ NdR H ps us
  | [], _, ⟨a, v, us, e, h1, h2, h⟩ => by cases h; exact ⟨[], a, v, e, h1, h2, rfl⟩
  | _ :: _, _, ⟨b, u, us, e, h1, h2, h⟩ => by
    obtain ⟨us', a, v, e2, h3, h4, h5⟩ := NdR.last h
    subst e2
    exact ⟨.ref b :: us', a, v, e, h3, h4, b, u, us', rfl, h1, h2, h5⟩
/-- how deep the deepest of some nodes goes -/
def vN (ws : List (Tr × Nat)) : Nat := maxL (ws.map fun p => p.2 + dT p.1 - 1)
def sN (ws : List (Tr × Nat)) : Nat := (ws.map fun p => nT p.1).sum
theorem vN_app (a b : List (Tr × Nat)) : vN (a ++ b) = max (vN a) (vN b) := by unfold vN; rw [List.map_append, maxL_app]
theorem sN_app (a b : List (Tr × Nat)) : sN (a ++ b) = sN a + sN b := by unfold sN; rw [List.map_append, List.sum_append]
theorem vN_kids (l : Nat) : ∀ us : List Tr, max l (vN (us.map fun u => (u, l + 1))) = l + maxL (us.map dT)
  | [] => by show max l 0 = l + 0; omega
  | u :: us => by
    have ih := vN_kids l us
    have e1 : vN ((u :: us).map fun u => (u, l + 1)) = max (l + 1 + dT u - 1) (vN (us.map fun u => (u, l + 1))) := rfl
    have e2 : maxL ((u :: us).map dT) = max (dT u) (maxL (us.map dT)) := rfl
    rw [e1, e2]
    omega
theorem sN_kids (l : Nat) : ∀ us : List Tr, sN (us.map fun u => (u, l + 1)) = nL us
  | [] => rfl
  | u :: us => by
    have ih := sN_kids l us
    have e1 : sN ((u :: us).map fun u => (u, l + 1)) = nT u + sN (us.map fun u => (u, l + 1)) := rfl
    rw [e1, ih, nL_cons]
theorem vN_top : ∀ us : List Tr, vN (us.map fun u => (u, 1)) = maxL (us.map dT)
  | [] => rfl
  | u :: us => by
    have ih := vN_top us
    have e1 : vN ((u :: us).map fun u => (u, 1)) = max (1 + dT u - 1) (vN (us.map fun u => (u, 1))) := rfl
    have e2 : maxL ((u :: us).map dT) = max (dT u) (maxL (us.map dT)) := rfl
    rw [e1, e2, ih]
    omega
theorem sN_top : ∀ us : List Tr, sN (us.map fun u => (u, 1)) = nL us
  | [] => rfl
  | u :: us => by
    have ih := sN_top us
    have e1 : sN ((u :: us).map fun u => (u, 1)) = nT u + sN (us.map fun u => (u, 1)) := rfl
    rw [e1, ih, nL_cons]
theorem sN_len (ws : List (Tr × Nat)) : ws.length ≤ sN ws := by
  induction ws with
  | nil => exact Nat.le_refl _
  | cons p ws ih =>
    have e1 : sN (p :: ws) = nT p.1 + sN ws := rfl
    have := nT_pos p.1
    rw [e1, List.length_cons]; omega
theorem ok_kids {t : Tr} (h : OkT t) : OkL (kids t) := by
  cases h with
  | mk l sh ts h len hk hb =>
    have e : kids (.t (.s l :: ts)) = kidsP sh ts := by
      show (match shapeOf l with | some sh => kidsP sh ts | none => []) = _
      rw [h]
    rw [e]; exact hk
theorem g_name {i : Nat} {v : V} {σ : L2.St} {H : Hp} {Q : L2.St → Hp → Prop} (h : Q (σ.set i (some v)) H) : gName i v σ H Q := h
section
variable {P : Program} {w : World} {K : PySem.W.Frag} {mg : Str → Option Value} {base : Heap}
abbrev s_deepest : Stmt := top 38
theorem sc_deepest : FnScope ["program", "waiting", "most", "node", "level", "inner"] ["program"] (defScope s_deepest) := ⟨rfl, rfl, rfl, by decide +kernel, rfl, by decide +kernel, by decide +kernel⟩
def sp_deepest : Sp := fun vs H Q _ => ∃ (p : Addr) (ts : List Tr) (xs : List V), vs = [.ref p] ∧ H p = some (.tup xs) ∧ RelTs H ts xs ∧ (∀ a ∈ ts, OkI a) ∧ nL (ts.flatMap outI) ≤ 1000000 ∧ ∀ H', Same H H' → Q (.int (deepT ts : Int)) H'
theorem ok_deepest (T : Txt K mg) (TQ : TxtQ mg) {f : Addr} {fd : FuncData} (F : Fun K "deepest" "deepest" s_deepest f fd) (D_outermost : Def P w K mg base CX0 "outermost" ["program"] 1 sp_outer) (D_within : Def P w K mg base CX0 "within" ["node"] 2 (sp_within K)) : FnOk P w K mg base CX0 3 f fd ["program"] sp_deepest := by
  refine F.ok sc_deepest (fun vs H Q E h => ?_) (fun cdv A outer s H vs Q E hr h => ?_)
  · obtain ⟨p, _, _, rfl, _⟩ := h; rfl
  obtain ⟨p, ts, xs, rfl, hp, hrs, hok, hn, hq⟩ := h
  refine ⟨_, (pss_cons (ps_setLc (i := 1) (own := [("node", 3)]) (g := gName 3) (tt := tYes) rfl sc_deepest.nd rfl rfl (sw_true rfl rfl rfl (by decide +kernel)) (pi_list (pe_call D_outermost.ok (hr.mono (by omega)) rfl D_outermost.g D_outermost.k D_outermost.b .nil pass0 (pa_cons (pv 0) pa_nil))) (blkOk_by (N := ["program", "waiting", "most", "node", "level", "inner"]) (sc := defScope s_deepest) (by decide +kernel)) (fun _ _ _ _ _ => pg_name (i := 3) sc_deepest.nd rfl (Or.inl rfl)) (fun _ _ _ _ _ => pts_nil) (fun _ _ _ _ _ => (pe_tup (pa_cons (pv 3) (pa_cons pe_int pa_nil)))))
    (pss_cons (ps_set (i := 2) sc_deepest.nd rfl (Or.inl rfl) pe_int)
    (pss_cons (ps_while PassesOwn.never (pt_truth (pv 1) (fun _ => rfl)) (pss_cons (ps_asg (pe_bm0 PySem.F.plainAttrs_list PySem.F.slot_list_pop PySem.F.type_list_pop mt_pop (pv 1)) (pg_tup rfl (pgs_cons (pg_name (i := 3) sc_deepest.nd rfl (Or.inl rfl)) (pgs_cons (pg_name (i := 4) sc_deepest.nd rfl (Or.inr rfl)) pgs_nil))))
      (pss_cons (ps_set (i := 2) sc_deepest.nd rfl (Or.inl rfl) (pe_callB (call_max2 rfl) rfl TQ.n_max boot_max (pa_cons (pv 2) (pa_cons (pv 4) pa_nil))))
      (pss_one (ps_expr (pe_bm PySem.F.plainAttrs_list PySem.F.slot_list_extend PySem.F.type_list_extend mt_extend (pv 1) (pa_cons (pe_lc (own := [("inner", 5)]) (g := gName 5) (tt := tYes) rfl sc_deepest.nd (pi_list (pe_call D_within.ok (hr.mono (by omega)) rfl D_within.g D_within.k D_within.b .nil pass0 (pa_cons (pv 3) pa_nil))) (blkOk_by (N := ["program", "waiting", "most", "node", "level", "inner"]) (sc := defScope s_deepest) (by decide +kernel)) (fun _ _ _ _ _ => pg_name (i := 5) sc_deepest.nd rfl (Or.inl rfl)) (fun _ _ _ _ _ => pts_nil) (fun _ _ _ _ _ => (pe_tup (pa_cons (pv 5) (pa_cons (pe_op op_add (pv 4) pe_int) pa_nil))))) pa_nil)))))))
    (pss_one (ps_ret (pv 2)))))), ?_⟩
  generalize hσ : L2.start _ _ = σ0
  have hσ : σ0 = [some (.ref p), none, none, none, none, none] := hσ.symm
  subst hσ
  have hz := line_eq
  have hko : OkL (ts.flatMap outI) := fun u hu => by
    obtain ⟨a, ha, hu⟩ := List.mem_flatMap.mp hu
    exact out_ok (hok a ha) u hu
  refine ⟨_, rfl, ?_⟩
  refine ⟨p, ts, xs, rfl, hp, hrs, hok, hn, fun H1 pl ys g1 npl hpl hrl => ?_⟩
  have hly := rels_len hrl
  have hll := len_nL (ts.flatMap outI)
  refine ⟨pl, rfl, ⟨_, SqL.of hpl⟩, fun D hD => ?_⟩
  have hDH : H D = none := by
    cases e : H D with
    | none => rfl
    | some o => rw [g1 _ _ e] at hD; cases hD
  refine lc_list (K := K) (a := pl) (xs := ys) (fun i H' => Same H1 H' ∧ ∃ acc, H' D = some (.lst acc) ∧ NdR H' (((ts.flatMap outI).take i).map fun u => (u, 1)) acc) ⟨same_new hD _, [], upd_same, rfl⟩ (fun i H' _ h => SqL.of (h.1 _ _ hpl)) ?_ ?_
  · rintro i y H' ey ⟨g, acc, hD', hacc⟩
    obtain ⟨t, et, hrt⟩ := rels_at (hrl.keep (TupK.same g)) ey
    refine ⟨rfl, ?_⟩
    unfold tYes
    dsimp only
    rw [if_pos rfl]
    refine ⟨_, rfl, (by show 2 ≤ _; omega), fun a9 n9 => ?_⟩
    have g9 := same_new n9 (.tup [y, V.int 1])
    have hD9 := g9 _ _ hD'
    have tk : TupK H' (upd (upd H' a9 (.tup [y, V.int 1])) D (.lst (acc ++ [.ref a9]))) := fun q zs h => TupK.set hD9 q zs (g9 q _ h)
    have h9 : (upd (upd H' a9 (.tup [y, V.int 1])) D (.lst (acc ++ [.ref a9]))) a9 = some (.tup [y, V.int 1]) := by
      rw [upd_ne (ne_of_none hD' n9).symm]; exact upd_same
    refine ⟨acc, hD9, ?_, same_mut (g.trans g9) hD _, _, upd_same, ?_⟩
    · have := hacc.len
      rw [List.length_map, List.length_take] at this
      omega
    · rw [List.take_add_one, et, List.map_append]
      exact (hacc.keep tk).snoc (p := (t, 1)) h9 (hrt.keep tk)
  rintro H2 ⟨g2, acc, hD2, hacc⟩
  rw [List.take_of_length_le (by omega)] at hacc
  have g02 := g1.trans g2
  refine g_name ?_
  dsimp only
  refine seq_setC ?_
  refine seq_join (fun σ H' => Same H H' ∧ ∃ x3 x4 x5, σ = [some (.ref p), some (.ref D), some (.int (deepT ts : Int)), x3, x4, x5]) ?_ ?_
  · rintro σ H3 ⟨g3, x3, x4, x5, rfl⟩
    exact ⟨_, rfl, hq H3 g3⟩
  intro NX nx
  refine while_of (fun σ H' => Same H H' ∧ ∃ x3 x4 x5, σ = [some (.ref p), some (.ref D), some (.int (deepT ts : Int)), x3, x4, x5])
    (fun m σ H' => Same H H' ∧ ∃ (ws : List (Tr × Nat)) (vs : List V) (mo : Nat) (x3 x4 x5 : Option V), σ = [some (.ref p), some (.ref D), some (.int (mo : Int)), x3, x4, x5] ∧ m = sN ws ∧ sN ws ≤ 1000000 ∧ H' D = some (.lst vs) ∧ NdR H' ws vs ∧ (∀ q ∈ ws, OkT q.1) ∧ max mo (vN ws) = deepT ts)
    (sN ((ts.flatMap outI).map fun u => (u, 1))) ⟨g02, _, acc, 0, _, _, _, rfl, rfl, by rw [sN_top]; exact hn, hD2, hacc, (fun q hq => by
      obtain ⟨u, hu, rfl⟩ := List.mem_map.mp hq
      exact hko u hu), by rw [vN_top]; show max 0 _ = maxL _; omega⟩ (fun σ H' h => nx _ _ h) ?_
  rintro NX2 nx2 m σ H3 ⟨g3, ws, vs, mo, x3, x4, x5, rfl, rfl, hsw, hD3, hws, hokw, hmo⟩
  rcases List.eq_nil_or_concat ws with rfl | ⟨ws', ⟨t, l⟩, rfl⟩
  · have e : vs = [] := hws
    subst e
    refine ⟨_, rfl, false, .inl ⟨[], SqL.of hD3, rfl⟩, iteF (nx2 _ _ ⟨g3, x3, x4, x5, ?_⟩)⟩
    have e1 : vN [] = 0 := rfl
    rw [e1, Nat.max_zero] at hmo
    rw [hmo]
  rw [List.concat_eq_append] at *
  obtain ⟨vs', aw, v, rfl, haw, hrv, hws'⟩ := NdR.last hws
  have hokt : OkT t := hokw (t, l) (List.mem_append_right _ List.mem_cons_self)
  rw [vN_app] at hmo
  have hv1 : vN [(t, l)] = l + dT t - 1 := by
    show max (l + dT t - 1) 0 = _
    omega
  rw [hv1, dT_eq t] at hmo
  rw [sN_app] at hsw ⊢
  have hs1 : sN [(t, l)] = nT t := by show nT t + 0 = _; omega
  rw [hs1] at hsw ⊢
  have hnt := nT_eq t
  have hnL : nL (kids t) = ((kids t).map nT).sum := rfl
  refine ⟨_, rfl, true, .inl ⟨_, SqL.of hD3, (by cases vs' <;> rfl)⟩, iteT ?_⟩
  refine ⟨fun σ' H' => ∃ m', m' < sN ws' + nT t ∧ (Same H H' ∧ ∃ (ws : List (Tr × Nat)) (vs : List V) (mo : Nat) (x3 x4 x5 : Option V), σ' = [some (.ref p), some (.ref D), some (.int (mo : Int)), x3, x4, x5] ∧ m' = sN ws ∧ sN ws ≤ 1000000 ∧ H' D = some (.lst vs) ∧ NdR H' ws vs ∧ (∀ q ∈ ws, OkT q.1) ∧ max mo (vN ws) = deepT ts), fun _ _ h => h, ?_⟩
  refine ⟨_, rfl, .inl ⟨rfl, _, SqL.of hD3⟩, D, _, _, rfl, rfl, hD3, (by rw [List.length_append, List.length_singleton, Nat.add_sub_cancel]; exact List.getElem?_concat_length), ?_⟩
  rw [List.dropLast_concat]
  have tk4 : TupK H3 (upd H3 D (.lst vs')) := TupK.set hD3
  have haw4 := tk4 _ _ haw
  have hws4 := hws'.keep tk4
  have hrv4 := hrv.keep tk4
  have hD4 : (upd H3 D (.lst vs')) D = some (.lst vs') := upd_same
  have g4 : Same H (upd H3 D (.lst vs')) := same_mut g3 hDH _
  generalize upd H3 D (.lst vs') = H4 at tk4 haw4 hws4 hrv4 hD4 g4 ⊢
  refine ⟨aw, _, rfl, SqT.of haw4, rfl, _, _, rfl, _, _, rfl, rfl, ?_⟩
  -- most = max(most, level)
  try dsimp only
  refine seq_set ?_
  refine ⟨_, rfl, _, rfl, (mo : Int), (l : Int), rfl, ?_⟩
  have hmx : V.int (if (l : Int) > (mo : Int) then (l : Int) else (mo : Int)) = V.int ((max mo l : Nat) : Int) := congrArg V.int (by split <;> omega)
  rw [hmx]
  -- waiting.extend(..)
  refine ⟨_, rfl, .inl ⟨rfl, _, SqL.of hD4⟩, ?_⟩
  refine ⟨_, rfl, ?_⟩
  refine ⟨t, v, rfl, hrv4, hokt, by omega, fun H5 pk ks g5 npk hpk hks => ?_⟩
  have hlk := rels_len hks
  have hlk2 := len_nL (kids t)
  have hws5 := hws4.keep (TupK.same g5)
  have hD5 := g5 _ _ hD4
  refine ⟨pk, rfl, ⟨_, SqL.of hpk⟩, fun D2 hD2 => ?_⟩
  refine lc_list (K := K) (a := pk) (xs := ks) (fun i H' => Same H5 H' ∧ ∃ acc, H' D2 = some (.lst acc) ∧ NdR H' (((kids t).take i).map fun u => (u, l + 1)) acc) ⟨same_new hD2 _, [], upd_same, rfl⟩ (fun i H' _ h => SqL.of (h.1 _ _ hpk)) ?_ ?_
  · rintro i y H' ey ⟨g, acc', hD', hacc'⟩
    obtain ⟨u, et, hrt⟩ := rels_at (hks.keep (TupK.same g)) ey
    refine ⟨rfl, ?_⟩
    unfold tYes
    dsimp only
    rw [if_pos rfl]
    refine ⟨_, rfl, _, rfl, _, _, rfl, rfl, (by show 2 ≤ _; omega), fun a9 n9 => ?_⟩
    have g9 := same_new n9 (.tup [y, V.int ((l + 1 : Nat) : Int)])
    have hD9 := g9 _ _ hD'
    have tk : TupK H' (upd (upd H' a9 (.tup [y, V.int ((l + 1 : Nat) : Int)])) D2 (.lst (acc' ++ [.ref a9]))) := fun q zs h => TupK.set hD9 q zs (g9 q _ h)
    have h9 : (upd (upd H' a9 (.tup [y, V.int ((l + 1 : Nat) : Int)])) D2 (.lst (acc' ++ [.ref a9]))) a9 = some (.tup [y, V.int ((l + 1 : Nat) : Int)]) := by
      rw [upd_ne (ne_of_none hD' n9).symm]; exact upd_same
    refine ⟨acc', hD9, ?_, same_mut (g.trans g9) hD2 _, _, upd_same, ?_⟩
    · have := hacc'.len
      rw [List.length_map, List.length_take] at this
      omega
    · rw [List.take_add_one, et, List.map_append]
      exact (hacc'.keep tk).snoc (p := (u, l + 1)) h9 (hrt.keep tk)
  rintro H6 ⟨g6, acc', hD6, hacc'⟩
  rw [List.take_of_length_le (by omega)] at hacc'
  have hD7 := g6 _ _ hD5
  have hws7 := hws5.keep (TupK.same g6)
  have hlw := hws7.len
  have hls := sN_len ws'
  have hla := hacc'.len
  rw [List.length_map] at hla
  refine ⟨D, D2, vs', acc', rfl, rfl, hD7, hD6, by omega, ?_⟩
  have tk7 : TupK H6 (upd H6 D (.lst (vs' ++ acc'))) := TupK.set hD7
  refine ⟨sN ws' + nL (kids t), by omega, same_mut ((g4.trans g5).trans g6) hDH _, ws' ++ (kids t).map (fun u => (u, l + 1)), vs' ++ acc', max mo l, _, _, _, rfl, by rw [sN_app, sN_kids], by rw [sN_app, sN_kids]; omega, upd_same, NdR.app (hacc'.keep tk7) (hws7.keep tk7), ?_, ?_⟩
  · intro q hq2
    rcases List.mem_append.mp hq2 with hq2 | hq2
    · exact hokw q (List.mem_append_left _ hq2)
    · obtain ⟨u, hu, rfl⟩ := List.mem_map.mp hq2
      exact ok_kids hokt u hu
  · rw [vN_app]
    have := vN_kids l (kids t)
    omega
end
end Wk
set_option maxRecDepth 100000
set_option maxHeartbeats 8000000
namespace Wk
open PySem L2 TL PyProof.Rows Gm Gr
open SX (S S_len)
/-! ### a text is read -/
theorem tok_good {l : List Nat} {so : So} {wd : Wd} {r : List Nat} (h : tok l = some (so, wd, r)) (n : Nat) : TkG ⟨so, wd, n⟩ := by
  cases l with
  | nil => simp [tok] at h
  | cons c r0 =>
    simp only [tok] at h
    split at h
    · cases e : classify (c :: r0.takeWhile isS) with
      | none => rw [e] at h; cases h
      | some p =>
        rw [e] at h
        cases h
        unfold classify at e
        split at e
        · rename_i hk
          cases e
          obtain ⟨s, hs, es⟩ := List.mem_map.mp hk
          exact ⟨fun _ => ⟨s, hs, by rw [es]⟩, (fun z => by cases z)⟩
        · split at e
          · cases e
            exact ⟨(fun z => by cases z), (fun z => by cases z)⟩
          · split at e
            · cases e
              exact ⟨(fun z => by cases z), (fun z => by cases z)⟩
            · cases e
    · split at h
      · cases e : textP [] r0 with
        | none => rw [e] at h; cases h
        | some p =>
          rw [e] at h
          cases h
          exact ⟨(fun z => by cases z), (fun z => by cases z)⟩
      · split at h
        · rename_i ht
          cases h
          unfold two at ht
          rw [Bool.and_eq_true, decide_eq_true_eq] at ht
          have hc : ∀ c ∈ [61, 33, 60, 62], ∃ s ∈ markS, [c, 61] = codes s := by decide +kernel
          obtain ⟨s, hs, e⟩ := hc c ht.1
          exact ⟨(fun z => by cases z), fun _ => ⟨s, hs, by rw [e]⟩⟩
        · split at h
          · rename_i hm
            cases h
            have hc : ∀ c ∈ marksL, ∃ s ∈ markS, [c] = codes s := by decide +kernel
            obtain ⟨s, hs, e⟩ := hc c hm
            exact ⟨(fun z => by cases z), fun _ => ⟨s, hs, by rw [e]⟩⟩
          · cases h
theorem cut_good : ∀ (k n : Nat) (l : List Nat) (ts : List Tk), l.length ≤ k → cutF n l = .ok ts → (∀ t ∈ ts, TkG t) ∧ ts.length ≤ l.length := by
  intro k
  induction k with
  | zero =>
    intro n l ts hl h
    have : l = [] := List.eq_nil_of_length_eq_zero (by omega)
    subst this
    rw [cutF_nil] at h
    cases h
    exact ⟨(fun t ht => by cases ht), Nat.le_refl _⟩
  | succ k ih =>
    intro n l ts hl h
    cases l with
    | nil => rw [cutF_nil] at h; cases h; exact ⟨(fun t ht => by cases ht), Nat.le_refl _⟩
    | cons c r =>
      rw [List.length_cons] at hl ⊢
      by_cases h1 : c = 10
      · subst h1
        rw [cutF_nl] at h
        have := ih _ _ _ (by omega) h
        exact ⟨this.1, by omega⟩
      by_cases h2 : c = 32
      · subst h2
        rw [cutF_sp] at h
        have := ih _ _ _ (by omega) h
        exact ⟨this.1, by omega⟩
      by_cases h3 : c = 35
      · subst h3
        rw [cutF_note] at h
        have hd := drop_len notNl r
        split at h
        · have := ih _ _ _ (by omega) h
          exact ⟨this.1, by omega⟩
        · cases h
      rw [cutF_tok h1 h2 h3] at h
      cases e : tok (c :: r) with
      | none => rw [e] at h; cases h
      | some p =>
        obtain ⟨so, wd, r'⟩ := p
        rw [e] at h
        dsimp only at h
        have hl2 := tok_len e
        rw [List.length_cons] at hl2
        cases e2 : cutF n r' with
        | bad b => rw [e2] at h; cases h
        | ok us =>
          rw [e2] at h
          have h : Res.ok ([⟨so, wd, n⟩] ++ us) = .ok ts := h
          cases h
          have := ih _ _ _ (by omega) e2
          refine ⟨fun t ht => ?_, by rw [List.length_append, List.length_singleton]; omega⟩
          rcases List.mem_append.mp ht with ht | ht
          · rw [List.mem_singleton.mp ht]; exact tok_good e n
          · exact this.1 t ht
/-- the line behind the last line feed -/
def endL (t : List Nat) : Nat := t.count 10 + 1
theorem cnt_nat (c : Nat) : ∀ l : List Nat, PyProof.Rows.cnt c l = ((l.count c : Nat) : Int)
  | [] => rfl
  | n :: r => by
    rw [PyProof.Rows.cnt_cons, cnt_nat c r, List.count_cons]
    by_cases h : n = c
    · subst h; simp; omega
    · simp [h]
theorem count_nl (t : List Nat) : Txt.count (S t) (Str.ofString "\n") = ((t.count 10 : Nat) : Int) := by
  have : Str.ofString "\n" = ⟨#[10]⟩ := rfl
  rw [this, PyProof.Rows.count_cnt, cnt_nat]
theorem none_of_same {H H' : Hp} {a : Addr} (g : Same H H') (h : H' a = none) : H a = none := by
  cases e : H a with
  | none => rfl
  | some o => rw [g _ _ e] at h; cases h
theorem _root_.L2.Same.on_new {H H1 H2 : Hp} {a : Addr} (g : Same H H1) (n : H a = none) (b : On a H1 H2) : Same H H2 := fun p o h => b p o (fun z => by rw [z, n] at h; cases h) (g p o h)
theorem toks_keep {H H' : Hp} (g : TupK H H') : ∀ {us : List V} {ts : List Tk}, Toks H us ts → Toks H' us ts
  | [], [], _ => trivial
  | _ :: _, _ :: _, ⟨⟨p, e, h⟩, r⟩ => ⟨⟨p, e, g _ _ h⟩, toks_keep g r⟩
  | [], _ :: _, h => h.elim
  | _ :: _, [], h => h.elim
/-- what reading a text comes to -/
inductive RdR | told (ts : List Tr) | bad (l : Nat) | deep
def readR (t : List Nat) : RdR := match cutF 1 t with
  | .bad l => .bad l
  | .ok toks => match prog toks with
    | .ok ts _ => if 50 < deepT ts then .deep else .told ts
    | .bad r => .bad (lineN (endL t) r)
    | .out => .deep
/-- the class of the cursor is called -/
structure CurM (P : Program) (w : World) (K : PySem.W.Frag) (mg : Str → Option Value) (base : Heap) (CC : CurT K) where
  g : mg "Cursor" = some (.ref CC.C)
  fI : Addr
  fd : FuncData
  made : Mk K CC.C fI
  ok : FnOk P w K mg base CX0 1 fI fd ["self", "found", "end_line"] (sp_cinit CC.C)
  b : Binds K fd ["self", "found", "end_line"] []
def sp_pread (K : PySem.W.Frag) (C N D : Addr) : Sp := fun vs H Q E =>
  (∃ t : List Nat, vs = [.str (S t)] ∧ t.length ≤ 100000 ∧ (match readR t with
    | .bad l => BadE C l H E
    | .deep => ∀ H', Same H H' → E (.ref D) none H'
    | .told ts => ∀ H' v, Same H H' → RelT H' (.t ts) v → Q v H')) ∨
  ∃ v ty, vs = [v] ∧ TyX K H v ty ∧ PySem.W.kitOne K ty (.type "str") = some false ∧ E (.ref N) none H
section
variable {P : Program} {w : World} {K : PySem.W.Frag} {mg : Str → Option Value} {base : Heap}
abbrev s_read : Stmt := top 49
theorem sc_read : FnScope ["text", "found", "source", "parts", "program"] ["text"] (defScope s_read) := ⟨rfl, rfl, rfl, by decide +kernel, rfl, by decide +kernel, by decide +kernel⟩
theorem ok_pread {lv : Nat} (T : Txt K mg) (TP : TxtP K w mg) (CC : CurT K) (B : ExcT P w K mg base "BadText" ["self", "line"] sp_bad_init) (BNoText : ExcT P w K mg base "NoText" ["self"] (fun _ _ => sp_no_init)) (BTooDeep : ExcT P w K mg base "TooDeep" ["self"] (fun _ _ => sp_no_init))
    (M : MT P w K mg base CC B.C) (CM : CurM P w K mg base CC) (hlv : 6 ≤ lv) {f : Addr} {fd : FuncData} (F : Fun K "read" "read" s_read f fd)
    (D_words : Def P w K mg base (L2.CX P w) "words" ["text"] 6 (sp_words K B.C BNoText.C)) (D_item : DefF P w K mg base (L2.CX P w) "item" ["source"] lv (sp_rd CC.C B.C 60 (Gr.item 60) RelT)) (D_deepest : Def P w K mg base CX0 "deepest" ["program"] 3 sp_deepest) :
    FnF P w K mg base (L2.CX P w) (lv + 1) f fd ["text"] (sp_pread K B.C BNoText.C BTooDeep.C) := by
  refine okFX F sc_read (fun vs H Q E h => ?_) (fun cdv A outer s H vs Q E hr hf h => ?_)
  · rcases h with ⟨a, rfl, _⟩ | ⟨v, ty, rfl, _⟩ <;> rfl
  have M_kind := M.kind
  refine ⟨_, (pss_cons (ps_set (i := 1) sc_read.nd rfl (Or.inl rfl) (pe_callS D_words.ok (hr.mono (by omega)) rfl D_words.g D_words.k D_words.b (fun σ => passAt (takes_of rfl rfl rfl rfl) σ) (pa_cons (pv 0) pa_nil)))
    (pss_cons (ps_set (i := 2) sc_read.nd rfl (Or.inl rfl) (pe_make CM.made CM.ok (hr.mono (by omega)) rfl CM.g CM.b .nil pass0 (pa_cons (pv 1) (pa_cons (pe_op op_add (pe_bm PySem.F.plainAttrs_str PySem.F.slot_str_count PySem.F.type_str_count mt_count (pv 0) (pa_cons pe_str pa_nil)) pe_int) pa_nil))))
    (pss_cons (ps_set (i := 3) sc_read.nd rfl (Or.inl rfl) (pe_lst pa_nil))
    (pss_cons (ps_while (passes_of rfl) (pt_cmpR op_ne (pe_meth0 (pv 2) CC.cl M_kind.m M_kind.ok (hr.mono (by omega)) M_kind.b .nil pass0) pe_str (nomark _)) (pss_one (ps_expr (pe_bm PySem.F.plainAttrs_list PySem.F.slot_list_append PySem.F.type_list_append mt_append (pv 3) (pa_cons (pe_callSF D_item.ok (hf.mono (by omega)) rfl D_item.g D_item.k D_item.b (fun σ => passAt (takes_of rfl rfl rfl rfl) σ) (pa_cons (pv 2) pa_nil)) pa_nil)))))
    (pss_cons (ps_set (i := 4) sc_read.nd rfl (Or.inl rfl) (pe_tupleOf rfl T.n_tuple (pv 3)))
    (pss_cons (ps_if (pt_cmpR op_gt (pe_call D_deepest.ok (hr.mono (by omega)) rfl D_deepest.g D_deepest.k D_deepest.b .nil pass0 (pa_cons (pv 4) pa_nil)) (pe_glob (v := .int 50) rfl TP.mMOST_DEPTH ⟨_, rfl⟩) (nomark _)) (pss_one (ps_raise rfl (takes_of rfl rfl rfl rfl) (pmk_none BTooDeep (hr.mono (by omega)) rfl))) pss_nil)
    (pss_one (ps_ret (pv 4))))))))), ?_⟩
  have hz := line_eq
  rcases h with ⟨t, rfl, hl, hq⟩ | ⟨v, ty, rfl, ht, hk, hq⟩
  rotate_left
  · refine ⟨_, rfl, ?_⟩
    exact .inr ⟨v, ty, rfl, ht, hk, hq⟩
  have hlen := S_len t
  generalize hσ : L2.start _ _ = σ0
  have hσ : σ0 = [some (.str (S t)), none, none, none, none] := hσ.symm
  subst hσ
  refine seq_set ?_
  refine ⟨_, rfl, .inl ⟨t, rfl, by omega, ?_⟩⟩
  unfold readR at hq
  cases ec : cutF 1 t with
  | bad l => rw [ec] at hq; exact hq
  | ok toks =>
  rw [ec] at hq
  dsimp only at hq ⊢
  intro H1 pf us npf g1 hpf htoks
  obtain ⟨hgood, hltok⟩ := cut_good _ 1 t toks (Nat.le_refl _) ec
  have hlu := toks_size htoks
  refine seq_set ?_
  refine ⟨_, rfl, _, rfl, rfl, S t, _, rfl, rfl, _, _, rfl, rfl, ?_⟩
  intro a dx na ndx nda
  have hel : V.int (Txt.count (S t) (Str.ofString "\n") + 1) = V.int ((endL t : Nat) : Int) := by
    rw [count_nl]; rfl
  have g2 : Same H1 (upd (upd H1 dx (.own a)) a (.ins CC.C dx [])) := (same_new ndx _).trans (same_new (by rw [upd_ne nda.symm]; exact na) _)
  have hadx : H a = none ∧ H dx = none := ⟨none_of_same g1 na, none_of_same g1 ndx⟩
  refine ⟨a, dx, pf, us, endL t, by show [V.ref a, V.ref pf, V.int (Txt.count (S t) (Str.ofString "\n") + 1)] = _; rw [hel], upd_same, g2 _ _ hpf, by omega, ?_⟩
  intro H2 q e b2 nq ne hq2 he2 ha2
  refine ⟨rfl, ?_⟩
  have g12 : Same H H2 := (g1.trans g2).on_new hadx.1 b2
  have htoks2 : Toks H2 us toks := toks_keep (fun p xs h => b2 p _ (fun z => by rw [z, upd_same] at h; cases h) h) (htoks.mono g2)
  have R : Sr H2 q (us ++ [.ref e]) toks (endL t) := ⟨hq2, ⟨us, e, rfl, htoks2, he2⟩, by omega, hgood⟩
  obtain ⟨fs2, hfs2, lk2, lt2, le2, lr2, lb2⟩ := SA.fs ha2
  -- parts = []
  dsimp only
  refine seq_set ?_
  refine ⟨Nat.zero_le _, fun pp npp => ?_⟩
  have gp := same_new npp (.lst [])
  have npp0 : H pp = none := none_of_same g12 npp
  have npa : pp ≠ a := (ne_of_none hfs2 npp).symm
  have hno : prog toks ≠ .out := by
    rcases prog_told toks with ⟨ts, e⟩ | ⟨r, e, _⟩ <;> rw [e] <;> (intro z; cases z)
  generalize hxp : prog toks = x at hq hno
  have hxi : x = items 60 (toks.length + 1) [] (toks.drop 0) := by rw [← hxp]; rfl
  have hqr : RdQ CC.C B.C a dx q toks (endL t) 0 x (fun _ (_ : List Tr) _ => False) H2 Q E := by
    cases x with
    | ok ts r => exact fun _ _ _ _ h => h.elim
    | bad r => exact fun H' d' g' h => hq H' d' (g12.on_new hadx.1 g') h
    | out => trivial
  dsimp only
  refine seq_join (fun σ H' => ∃ ts xs, σ = [some (.str (S t)), some (.ref pf), some (.ref a), some (.ref pp), none] ∧ On a H2 H' ∧ H' pp = some (.lst xs) ∧ RelTs H' ts xs ∧ x = .ok ts []) ?_ ?_
  · rintro σ H3 ⟨ts, xs, rfl, g3, hp3, hr3, ex3⟩
    refine seq_set ?_
    refine ⟨_, rfl, .inl ⟨pp, xs, rfl, SqL.of hp3, fun p4 n4 => ?_⟩⟩
    have g4 := same_new n4 (.tup xs)
    obtain ⟨hoki, hnl⟩ := prog_ok (hxp.trans ex3)
    have gh : Same H (upd H3 p4 (.tup xs)) := (g12.on_new hadx.1 g3).trans g4
    have hr4 := hr3.keep (TupK.same g4)
    have h4 : (upd H3 p4 (.tup xs)) p4 = some (.tup xs) := upd_same
    subst ex3
    dsimp only at hq ⊢
    refine ⟨_, rfl, p4, ts, xs, rfl, h4, hr4, hoki, by omega, fun H5 g5 => ?_⟩
    refine ⟨_, _, rfl, rfl, _, rfl, ?_⟩
    refine ited (fun h1 => ?_) (fun h1 => go_next ?_)
    · rw [if_pos (by omega)] at hq
      exact hq H5 (gh.trans g5)
    · rw [if_neg (by omega)] at hq
      refine ⟨_, rfl, hq H5 _ (gh.trans g5) ?_⟩
      rw [RelT]
      exact ⟨p4, xs, rfl, g5 _ _ h4, hr4.keep (TupK.same g5)⟩
  intro NX nx
  have ha2' : SA CC.C H2 a dx q 0 (60 - ((60 : Nat) : Int)) := ha2
  refine while_of (fun σ H' => ∃ ts xs, σ = [some (.str (S t)), some (.ref pf), some (.ref a), some (.ref pp), none] ∧ On a H2 H' ∧ H' pp = some (.lst xs) ∧ RelTs H' ts xs ∧ x = .ok ts [])
    (fun m σ H' => ∃ (i n : Nat) (acc : List Tr) (xs : List V), σ = [some (.str (S t)), some (.ref pf), some (.ref a), some (.ref pp), none] ∧ m = toks.length - i ∧ i ≤ toks.length ∧ toks.length - i < n ∧ On a H2 H' ∧ SA CC.C H' a dx q i (60 - ((60 : Nat) : Int)) ∧ H' pp = some (.lst xs) ∧ xs.length ≤ i ∧ RelTs H' acc xs ∧ x = items 60 n acc (toks.drop i))
    toks.length ⟨0, _, [], [], rfl, rfl, Nat.zero_le _, Nat.lt_succ_self _, On.same gp, gp _ _ ha2', upd_same, Nat.zero_le _, by rw [RelTs], hxi⟩ (fun σ H' h => nx _ _ h) ?_
  rintro NX2 nx2 m σ H5 ⟨i5, n, acc, xs, rfl, rfl, hi5, hn5, g5, ha5, hp5, hl5, hr5, ex5⟩
  obtain ⟨n, rfl⟩ : ∃ k, n = k + 1 := ⟨n - 1, by omega⟩
  obtain ⟨fs5, hfs5, lk5, lt5, le5, lr5, lb5⟩ := SA.fs ha5
  refine ⟨_, rfl, a, dx, fs5, rfl, hfs5, lk5, ?_⟩
  dsimp only [tNil, tCons]
  refine ⟨a, dx, q, us ++ [.ref e], toks, endL t, i5, _, rfl, R.on g5 hfs2, hi5, ha5, ?_⟩
  refine ⟨rfl, _, rfl, ?_⟩
  rcases Nat.lt_or_ge i5 toks.length with hlt | hge
  rotate_left
  · have hnil : toks.drop i5 = [] := List.drop_eq_nil_of_le hge
    rw [hnil] at ex5 ⊢
    refine itedn (fun z => absurd (eq_lit.mpr rfl) z) (fun _ => ?_)
    exact nx2 _ _ ⟨acc, xs, rfl, g5, hp5, hr5, by rw [ex5]; unfold items; exact if_pos rfl⟩
  have hne : kindN (toks.drop i5) ≠ codes "END" := fun z => by
    rw [drop_at hlt] at z
    have hg := hgood _ (List.getElem_mem hlt)
    generalize toks[i5] = t5 at z hg
    obtain ⟨so, wd, ln⟩ := t5
    cases so with
    | name => exact absurd z (show codes "NAME" ≠ codes "END" by decide +kernel)
    | number => exact absurd z (show codes "NUMBER" ≠ codes "END" by decide +kernel)
    | text => exact absurd z (show codes "TEXT" ≠ codes "END" by decide +kernel)
    | key =>
      obtain ⟨s, hs, e⟩ := hg.1 rfl
      have e : wd = .s (codes s) := e
      subst e
      exact absurd z (words_ne s (List.mem_append_left _ hs))
    | mark =>
      obtain ⟨s, hs, e⟩ := hg.2 rfl
      have e : wd = .s (codes s) := e
      subst e
      exact absurd z (words_ne s (List.mem_append_right _ hs))
  refine itedn (fun _ => ?_) (fun z => absurd (eq_lit.mp z) hne)
  have ex6 : x = bind (Gr.item 60 (toks.drop i5)) fun t r => items 60 n (acc ++ [t]) r := by
    rw [ex5]
    rw [items, if_neg (by rw [drop_at hlt]; exact Bool.false_ne_true)]
  refine ⟨fun σ' H' => ∃ m', m' < toks.length - i5 ∧ ∃ (i n : Nat) (acc : List Tr) (xs : List V), σ' = [some (.str (S t)), some (.ref pf), some (.ref a), some (.ref pp), none] ∧ m' = toks.length - i ∧ i ≤ toks.length ∧ toks.length - i < n ∧ On a H2 H' ∧ SA CC.C H' a dx q i (60 - ((60 : Nat) : Int)) ∧ H' pp = some (.lst xs) ∧ xs.length ≤ i ∧ RelTs H' acc xs ∧ x = items 60 n acc (toks.drop i), fun _ _ h => h, ?_⟩
  refine ⟨_, rfl, .inl ⟨rfl, _, SqL.of hp5⟩, ?_⟩
  refine ⟨_, rfl, ?_⟩
  refine callAt (d := 60) R hfs2 hqr (gd_item 60) g5 hi5 ha5 hr5 ex6 fun H6 v6 t6 i6 li6 hi6 g6 ha6 hr6 hx6 => ?_
  have hp6 := g6 _ _ npa hp5
  refine ⟨pp, xs, _, rfl, rfl, hp6, by omega, ?_⟩
  have npp2 : H2 pp = none := npp
  refine ⟨toks.length - i6, by omega, i6, n, acc ++ [t6], xs ++ [v6], rfl, rfl, hi6, by omega, on_mut (g5.trans g6) npp2, ?_, upd_same, by rw [List.length_append, List.length_singleton]; omega, hr6.keep (TupK.set hp6), hx6⟩
  show (upd _ pp _) a = _
  rw [upd_ne npa.symm]; exact ha6
end
end Wk
set_option maxRecDepth 100000
set_option maxHeartbeats 4000000
/-! The program's reader, tied: by the number of brackets that may still be opened. -/
namespace Wk
open PySem L2 TL PyProof.Rows Gm Gr
/-- a def as the top has left it -/
structure DfT (K : PySem.W.Frag) (mg : Str → Option Value) (x : Str) (st : Stmt) (ps : List Str) where
  f : Addr
  fd : FuncData
  F : Fun K x x st f fd
  g : mg x = some (.ref f)
  k : PySem.W.keepIn K (.ref f) = true
  b : Binds K fd ps []
section
variable {P : Program} {w : World} {K : PySem.W.Frag} {mg : Str → Option Value} {base : Heap} {CX : CXT} {x : Str} {st : Stmt} {ps : List Str} {k : Nat} {sp : Sp}
def DfT.fine (I : DfT K mg x st ps) (h : FnF P w K mg base CX k I.f I.fd ps sp) : DefF P w K mg base CX x ps k sp := ⟨I.f, I.fd, h, I.g, I.k, I.b⟩
def DfT.on (I : DfT K mg x st ps) (h : FnOk P w K mg base CX k I.f I.fd ps sp) : Def P w K mg base CX x ps k sp := ⟨I.f, I.fd, h, I.g, I.k, I.b⟩
end
/-- the program's defs that read -/
structure RdI (K : PySem.W.Frag) (mg : Str → Option Value) where
  listed : DfT K mg "listed" s_listed ["source", "reader", "closing"]
  name_of_param : DfT K mg "name_of_param" s_name_of_param ["source"]
  params : DfT K mg "params" s_params ["source"]
  arguments : DfT K mg "arguments" s_arguments ["source"]
  block : DfT K mg "block" s_block ["source"]
  called_by_key : DfT K mg "called_by_key" s_called_by_key ["source"]
  in_parentheses : DfT K mg "in_parentheses" s_in_parentheses ["source"]
  first : DfT K mg "first" s_first ["source"]
  named_behind : DfT K mg "named_behind" s_named_behind ["source", "value"]
  behind : DfT K mg "behind" s_behind ["source", "value"]
  take_ahead : DfT K mg "take_ahead" s_take_ahead ["source", "waiting"]
  bind : DfT K mg "bind" s_bind ["waiting", "values", "level"]
  expression : DfT K mg "expression" s_expression ["source"]
  else_block : DfT K mg "else_block" s_else_block ["source"]
  do_or_set : DfT K mg "do_or_set" s_do_or_set ["source"]
  statement : DfT K mg "statement" s_statement ["source"]
  class_item : DfT K mg "class_item" s_class_item ["source"]
  item : DfT K mg "item" s_item ["source"]
section
variable {P : Program} {w : World} {K : PySem.W.Frag} {mg : Str → Option Value} {base : Heap}
/-- all that calls one another, at a depth -/
structure Kn (P : Program) (w : World) {K : PySem.W.Frag} {mg : Str → Option Value} (base : Heap) (I : RdI K mg) (CC : CurT K) (BC : Addr) (d n : Nat) : Prop where
  e : FnF P w K mg base (L2.CX P w) n I.expression.f I.expression.fd ["source"] (sp_rd CC.C BC d (expr (inn d)) RelT)
  s : FnF P w K mg base (L2.CX P w) n I.statement.f I.statement.fd ["source"] (sp_rd CC.C BC d (stmt (inn d)) RelT)
  p : FnF P w K mg base (L2.CX P w) n I.params.f I.params.fd ["source"] (sp_rd CC.C BC d (params (inn d)) RelT)
  b : FnF P w K mg base (L2.CX P w) n I.block.f I.block.fd ["source"] (sp_rd CC.C BC d (block (inn d)) RelT)
theorem kn_step (T : Txt K mg) (TP : TxtP K w mg) (I : RdI K mg) (CC : CurT K) {BC : Addr} (M : MT P w K mg base CC BC) (d n : Nat) (hn : 12 ≤ n)
    (hE : FnF P w K mg base (L2.CX P w) n I.expression.f I.expression.fd ["source"] (sp_rd1 CC.C BC (fun e => expr (inn e)) d))
    (hS : FnF P w K mg base (L2.CX P w) n I.statement.f I.statement.fd ["source"] (sp_rd1 CC.C BC (fun e => stmt (inn e)) d)) : Kn P w base I CC BC d (n + 7) := by
  have E1 := I.expression.fine hE
  have S1 := I.statement.fine hS
  have hName : FnF P w K mg base (L2.CX P w) n I.name_of_param.f I.name_of_param.fd ["source"] (sp_rd1 CC.C BC (fun _ => named) d) := by
    cases d with
    | zero => exact FnF.never
    | succ e => exact FnF.of (ok_name_of_param (d := e) CC M I.name_of_param.F) (by omega)
  have hLN : FnF P w K mg base (L2.CX P w) (n + 1) I.listed.f I.listed.fd ["source", "reader", "closing"] (sp_listed1 CC.C BC I.name_of_param.f (fun _ => named) d) := by
    cases d with
    | zero => exact FnF.never
    | succ e => exact ok_listed (e := e) T CC M gd_named (by omega) I.listed.F (I.name_of_param.fine hName)
  have hLE : FnF P w K mg base (L2.CX P w) (n + 1) I.listed.f I.listed.fd ["source", "reader", "closing"] (sp_listed1 CC.C BC I.expression.f (fun e => expr (inn e)) d) := by
    cases d with
    | zero => exact FnF.never
    | succ e => exact ok_listed (e := e) T CC M (gd_expr (in_ok e)) (by omega) I.listed.F (I.expression.fine hE)
  have hP := ok_pparams (d := d) T CC M (lv := n + 1) (by omega) I.params.F (I.name_of_param.on (ok_name_of_param (d := d) CC M I.name_of_param.F)) (I.listed.fine hLN)
  have hA := ok_parguments (d := d) T CC M (lv := n + 1) (by omega) I.arguments.F (I.expression.fine hE) (I.listed.fine hLE)
  have hB := ok_pblock (d := d) T CC M (lv := n) (by omega) I.block.F (I.statement.fine hS)
  have hK := ok_pbykey (d := d) T CC M (lv := n + 2) (by omega) I.called_by_key.F (I.arguments.fine hA)
  have hIn := ok_pinpar (d := d) T CC M (lv := n) (by omega) I.in_parentheses.F (I.expression.fine hE)
  have hF := ok_pfirst (d := d) T TP CC M (lv := n + 3) (by omega) I.first.F (I.in_parentheses.fine (hIn.mono (by omega))) (I.expression.fine hE) (I.listed.fine (hLE.mono (by omega))) (I.params.fine (hP.mono (by omega))) (I.block.fine (hB.mono (by omega))) (I.called_by_key.fine hK)
  have hN := ok_pnamed (d := d) T CC M (lv := n + 2) (by omega) I.named_behind.F (I.arguments.fine hA)
  have hBe := ok_pbehind (d := d) T CC M (lv := n + 3) (by omega) I.behind.F (I.arguments.fine (hA.mono (by omega))) (I.named_behind.fine hN) (I.expression.fine (hE.mono (by omega)))
  have hEx := ok_pexpr (d := d) T TP CC M (lv := n + 4) (by omega) (Nat.le_refl _) (Nat.le_refl _) I.expression.F (I.take_ahead.on (ok_pahead (d := d) T TP CC M I.take_ahead.F)) (I.bind.on (ok_pbind T I.bind.F)) (I.behind.fine hBe) (I.first.fine hF)
  have hEl := ok_pelse (d := d) CC M (lv := n + 1) (by omega) I.else_block.F (I.block.fine hB)
  have hDo := ok_pdo (d := d) T TP CC M (lv := n + 5) (by omega) I.do_or_set.F (I.expression.fine hEx)
  have hSt := ok_pstatement (d := d) T TP CC M (lv := n + 6) (lb := n + 6) (le := n + 6) (ld := n + 6) (by omega) (Nat.le_refl _) (Nat.le_refl _) (Nat.le_refl _) I.statement.F (I.expression.fine (hEx.mono (by omega))) (I.block.fine (hB.mono (by omega))) (I.else_block.fine (hEl.mono (by omega))) (I.do_or_set.fine hDo)
  exact ⟨hEx.mono (by omega), hSt, hP.mono (by omega), hB.mono (by omega)⟩
theorem kn_all (T : Txt K mg) (TP : TxtP K w mg) (I : RdI K mg) (CC : CurT K) {BC : Addr} (M : MT P w K mg base CC BC) : ∀ d, Kn P w base I CC BC d (7 * d + 19)
  | 0 => kn_step T TP I CC M 0 12 (Nat.le_refl _) FnF.never FnF.never
  | d + 1 => by
    have h := kn_all T TP I CC M d
    have := kn_step T TP I CC M (d + 1) (7 * d + 19) (by omega) h.e h.s
    rw [show 7 * (d + 1) + 19 = 7 * d + 19 + 7 by omega]
    exact this
theorem kn_item (T : Txt K mg) (TP : TxtP K w mg) (I : RdI K mg) (CC : CurT K) {BC : Addr} (M : MT P w K mg base CC BC) : FnF P w K mg base (L2.CX P w) 500 I.item.f I.item.fd ["source"] (sp_rd CC.C BC 60 (Gr.item 60) RelT) := by
  have h59 := kn_all T TP I CC M 59
  have h60 := kn_all T TP I CC M 60
  have hC := ok_pclass (d := 60) T CC M (lv := 7 * 59 + 19) (lb := 7 * 59 + 19) (by omega) (Nat.le_refl _) I.class_item.F (I.params.fine (sp := sp_rd1 CC.C BC (fun e => params (inn e)) 60) h59.p) (I.block.fine (sp := sp_rd1 CC.C BC (fun e => block (inn e)) 60) h59.b)
  have := ok_pitem (d := 60) T CC M (lv := 7 * 60 + 19) (by omega) (Nat.le_refl _) (Nat.le_refl _) (Nat.le_refl _) I.item.F (I.class_item.fine (hC.mono (by omega))) (I.params.fine h60.p) (I.block.fine h60.b) (I.statement.fine h60.s)
  exact this.mono (by omega)
end
end Wk
set_option maxRecDepth 100000
set_option maxHeartbeats 4000000
/-! No tree is deeper than heavy words were taken, and one. -/
namespace Gr
open Wk Gm
/-- how many nodes have nodes within -/
def hT (t : Tr) : Nat := (if (kids t).isEmpty = true then 0 else 1) + ((kids t).attach.map fun u => hT u.1).sum
termination_by sizeOf t
decreasing_by exact kids_size u.2
def hL (ts : List Tr) : Nat := (ts.map hT).sum
/-! by heavy words -/
end Gr
set_option maxRecDepth 100000
set_option maxHeartbeats 8000000
namespace Wk
open PySem L2 TL PyProof.Rows Gm Gr
open SX (S S_len)
theorem six_nat {n k : Nat} : HT.sIx n 0 (some (k : Int)) = min k n := HT.sIx_nat ..
theorem cut_drop (xs : List V) (k : Nat) : cutV xs (some (k : Int)) none = xs.drop k := by
  unfold cutV
  rw [six_nat, HT.sIx_none]
  by_cases h : k ≤ xs.length
  · rw [Nat.min_eq_left h]
    exact List.take_of_length_le (by rw [List.length_drop]; exact Nat.le_refl _)
  · rw [Nat.min_eq_right (by omega), List.drop_eq_nil_of_le (Nat.le_refl _), List.drop_eq_nil_of_le (by omega), List.take_nil]
theorem le_maxL {n : Nat} : ∀ {ns : List Nat}, n ∈ ns → n ≤ maxL ns
  | [], h => by cases h
  | m :: ns, h => by
    rw [maxL_cons]
    rcases List.mem_cons.mp h with rfl | h
    · omega
    · have := le_maxL h; omega
end Wk
set_option maxRecDepth 100000
set_option maxHeartbeats 4000000
namespace Wk
open PySem L2 TL PyProof.Rows
open SX (S S_len)
def signsL : List Nat := lettersL ++ figsL
theorem isS_mem (c : Nat) : isS c = decide (c ∈ signsL) := by
  unfold isS isL isF signsL
  rw [Bool.eq_iff_iff, Bool.or_eq_true, decide_eq_true_eq, decide_eq_true_eq, decide_eq_true_eq, List.mem_append]
/-- signs of a text of the law's: plain ones and line feeds -/
def Fine (l : List Nat) : Prop := ∀ c ∈ l, c = 10 ∨ plain c = true
theorem Fine.tail {c : Nat} {l : List Nat} (h : Fine (c :: l)) : Fine l := fun d hd => h d (List.mem_cons_of_mem _ hd)
theorem Fine.drop {l : List Nat} (h : Fine l) (k : Nat) : Fine (l.drop k) := fun d hd => h d (List.mem_of_mem_drop hd)
/-! ### what pieces, faults and spaces are -/
/-- what may stand behind a word -/
def okB (so : So) (r : List Nat) : Prop := match so with
  | .mark => r.head? ≠ some 61
  | .text => r.head? ≠ some 34
  | _ => ∀ c, r.head? = some c → isS c = false
structure PieceOk (w : List Nat) (so : So) (wd : Wd) : Prop where
  tk : ∀ r, okB so r → tok (w ++ r) = some (so, wd, r)
  head : ∃ c q, w = c :: q ∧ c ≠ 10 ∧ c ≠ 32 ∧ c ≠ 35 ∧ (so = .mark → isS c = false ∧ c ≠ 34) ∧ (so ≠ .mark → c ≠ 61)
  nn : 10 ∉ w
  fine : Fine w
def SpH (r : List Nat) : Prop := ∃ c q, r = c :: q ∧ (c = 32 ∨ c = 10 ∨ c = 35)
def nls (l : List Nat) : Nat := l.count 10
structure SpaceOk (s : List Nat) : Prop where
  cut : ∀ n r, cutF n (s ++ r) = cutF (n + nls s) r
  head : ∃ c q, s = c :: q ∧ (c = 32 ∨ c = 10 ∨ c = 35)
  fine : Fine s
theorem SpH.ok {r : List Nat} (h : SpH r) (so : So) : okB so r := by
  obtain ⟨c, q, rfl, hc⟩ := h
  cases so with
  | mark => intro e; rcases hc with rfl | rfl | rfl <;> cases e
  | text => intro e; rcases hc with rfl | rfl | rfl <;> cases e
  | name => intro d e; obtain rfl : c = d := Option.some.inj e; rcases hc with rfl | rfl | rfl <;> decide
  | key => intro d e; obtain rfl : c = d := Option.some.inj e; rcases hc with rfl | rfl | rfl <;> decide
  | number => intro d e; obtain rfl : c = d := Option.some.inj e; rcases hc with rfl | rfl | rfl <;> decide
theorem tw_app {p : Nat → Bool} {r : List Nat} (hr : ∀ c, r.head? = some c → p c = false) : ∀ {w : List Nat}, w.all p = true → (w ++ r).takeWhile p = w ∧ (w ++ r).dropWhile p = r
  | [], _ => by
    rw [List.nil_append]
    cases r with
    | nil => exact ⟨rfl, rfl⟩
    | cons c r =>
      have h := hr c rfl
      rw [List.takeWhile_cons, List.dropWhile_cons, if_neg (by rw [h]; exact Bool.false_ne_true), if_neg (by rw [h]; exact Bool.false_ne_true)]
      exact ⟨rfl, rfl⟩
  | a :: w, h => by
    rw [List.all_cons, Bool.and_eq_true] at h
    have ih := tw_app hr h.2
    rw [List.cons_append, List.takeWhile_cons, List.dropWhile_cons, if_pos h.1, if_pos h.1, ih.1]
    exact ⟨rfl, ih.2⟩
theorem stretch_tok {w r : List Nat} (hne : w ≠ []) (h : w.all isS = true) (hr : ∀ c, r.head? = some c → isS c = false) : tok (w ++ r) = (classify w).map fun p => (p.1, p.2, r) := by
  cases w with
  | nil => exact absurd rfl hne
  | cons c w =>
    have hc : isS c = true := by rw [List.all_cons, Bool.and_eq_true] at h; exact h.1
    have hw : w.all isS = true := by rw [List.all_cons, Bool.and_eq_true] at h; exact h.2
    rw [List.cons_append, tok_cons, if_pos hc, (tw_app hr hw).1, (tw_app hr hw).2]
theorem sign_plain : ∀ c ∈ signsL, plain c = true ∧ c ≠ 10 ∧ c ≠ 32 ∧ c ≠ 35 ∧ c ≠ 61 ∧ c ≠ 34 := by decide +kernel
theorem sign_of {c : Nat} (h : isS c = true) : c ∈ signsL := by rw [isS_mem] at h; exact of_decide_eq_true h
theorem fine_of_S {w : List Nat} (h : w.all isS = true) : Fine w ∧ 10 ∉ w := by
  have : ∀ c ∈ w, c ∈ signsL := fun c hc => sign_of (List.all_eq_true.mp h c hc)
  exact ⟨fun c hc => .inr (sign_plain c (this c hc)).1, fun hm => (sign_plain 10 (this 10 hm)).2.1 rfl⟩
theorem stretch_piece {w : List Nat} {so : So} {wd : Wd} (hne : w ≠ []) (h : w.all isS = true) (hs : so = .name ∨ so = .key ∨ so = .number) (hc : classify w = some (so, wd)) : PieceOk w so wd := by
  have f := fine_of_S h
  refine ⟨fun r hr => ?_, ?_, f.2, f.1⟩
  · have hr' : ∀ c, r.head? = some c → isS c = false := by rcases hs with rfl | rfl | rfl <;> exact hr
    rw [stretch_tok hne h hr', hc]; rfl
  · cases w with
    | nil => exact absurd rfl hne
    | cons c q =>
      have hcS : isS c = true := by rw [List.all_cons, Bool.and_eq_true] at h; exact h.1
      have z := sign_plain c (sign_of hcS)
      exact ⟨c, q, rfl, z.2.1, z.2.2.1, z.2.2.2.1, (fun e => by subst e; rcases hs with h | h | h <;> cases h), fun _ => z.2.2.2.2.1⟩
/-! numbers -/
/-! texts -/
theorem textP_dblL (r : List Nat) (hr : r.head? ≠ some 34) : ∀ (l acc : List Nat), l.all plain = true → textP acc (StrLaws.dbl 34 l ++ 34 :: r) = some (acc ++ l, r)
  | [], acc, _ => by
    show textP acc (34 :: r) = _
    rw [textP_end hr, List.append_nil]
  | c :: l, acc, h => by
    rw [List.all_cons, Bool.and_eq_true] at h
    by_cases hc : c = 34
    · subst hc
      have e : StrLaws.dbl 34 (34 :: l) = 34 :: 34 :: StrLaws.dbl 34 l := by simp [StrLaws.dbl]
      rw [e, List.cons_append, List.cons_append, textP_dbl, textP_dblL r hr l _ h.2, List.append_assoc]; rfl
    · have e : StrLaws.dbl 34 (c :: l) = c :: StrLaws.dbl 34 l := by simp [StrLaws.dbl, hc]
      rw [e, List.cons_append, textP_plain hc h.1, textP_dblL r hr l _ h.2, List.append_assoc]; rfl
theorem dbl_plain : ∀ l : List Nat, l.all plain = true → (StrLaws.dbl 34 l).all plain = true ∧ (StrLaws.dbl 34 l).length ≤ 2 * l.length
  | [], _ => ⟨rfl, by simp [StrLaws.dbl]⟩
  | c :: l, h => by
    rw [List.all_cons, Bool.and_eq_true] at h
    have ih := dbl_plain l h.2
    by_cases hc : c = 34
    · subst hc
      have e : StrLaws.dbl 34 (34 :: l) = 34 :: 34 :: StrLaws.dbl 34 l := by simp [StrLaws.dbl]
      rw [e, List.all_cons, List.all_cons, ih.1, h.1]
      exact ⟨rfl, by simp only [List.length_cons]; omega⟩
    · have e : StrLaws.dbl 34 (c :: l) = c :: StrLaws.dbl 34 l := by simp [StrLaws.dbl, hc]
      rw [e, List.all_cons, ih.1, h.1]
      exact ⟨rfl, by simp only [List.length_cons]; omega⟩
theorem plain_no {l : List Nat} (h : l.all plain = true) : 10 ∉ l ∧ Fine l := ⟨fun hm => (by have := List.all_eq_true.mp h 10 hm; cases this), fun c hc => .inr (List.all_eq_true.mp h c hc)⟩
theorem text_piece {l : List Nat} (h : l.all plain = true) : PieceOk (34 :: (StrLaws.dbl 34 l ++ [34])) .text (.s l) := by
  have hp : (34 :: (StrLaws.dbl 34 l ++ [34])).all plain = true := by rw [List.all_cons, List.all_append, (dbl_plain l h).1]; rfl
  refine ⟨fun r hr => ?_, ⟨34, _, rfl, by decide, by decide, by decide, (by intro e; cases e), fun _ => (by decide)⟩, (plain_no hp).1, (plain_no hp).2⟩
  rw [List.cons_append, tok_cons, if_neg (by decide), if_pos rfl, List.append_assoc, List.singleton_append, textP_dblL r hr l [] h]; rfl
/-! marks -/
theorem mark_one {c : Nat} (h : c ∈ marksL) : PieceOk [c] .mark (.s [c]) := by
  have hm : ∀ c ∈ marksL, isS c = false ∧ c ≠ 34 ∧ c ≠ 10 ∧ c ≠ 32 ∧ c ≠ 35 ∧ plain c = true := by decide +kernel
  have z := hm c h
  refine ⟨fun r hr => ?_, ⟨c, [], rfl, z.2.2.1, z.2.2.2.1, z.2.2.2.2.1, fun _ => ⟨z.1, z.2.1⟩, fun e => absurd rfl e⟩, (by simp; exact fun e => z.2.2.1 e.symm), fun d hd => .inr (by rw [List.mem_singleton.mp hd]; exact z.2.2.2.2.2)⟩
  have h2 : two c r = false := by
    unfold two
    cases r with
    | nil => simp
    | cons d r => simp; intro _ e; exact hr (by rw [e]; rfl)
  show tok (c :: r) = _
  rw [tok_cons, if_neg (by rw [z.1]; exact Bool.false_ne_true), if_neg z.2.1, if_neg (by rw [h2]; exact Bool.false_ne_true), if_pos h]
theorem mark_two {c : Nat} (h : c ∈ [61, 33, 60, 62]) : PieceOk [c, 61] .mark (.s [c, 61]) := by
  have hm : ∀ c ∈ [61, 33, 60, 62], isS c = false ∧ c ≠ 34 ∧ c ≠ 10 ∧ c ≠ 32 ∧ c ≠ 35 ∧ plain c = true := by decide +kernel
  have z := hm c h
  refine ⟨fun r hr => ?_, ⟨c, [61], rfl, z.2.2.1, z.2.2.2.1, z.2.2.2.2.1, fun _ => ⟨z.1, z.2.1⟩, fun e => absurd rfl e⟩, (by simp; exact fun e => z.2.2.1 e.symm), fun d hd => .inr ?_⟩
  · have h2 : two c (61 :: r) = true := by
      unfold two; rw [decide_eq_true h]; rfl
    show tok (c :: 61 :: r) = _
    rw [tok_cons, if_neg (by rw [z.1]; exact Bool.false_ne_true), if_neg z.2.1, if_pos h2]; rfl
  · rcases List.mem_cons.mp hd with rfl | hd
    · exact z.2.2.2.2.2
    · rw [List.mem_singleton.mp hd]; decide
/-! spaces -/
theorem cut_note {b : List Nat} (hb : b.all plain = true) (n : Nat) (r : List Nat) : cutF n (35 :: (b ++ 10 :: r)) = cutF (n + 1) r := by
  have h10 := (plain_no hb).1
  rw [cutF_note, (tw_nl (p := notNl) (by decide) r b).1, (tw_nl (p := notNl) (by decide) r b).2, (tw_notNl h10).1, (tw_notNl h10).2, if_pos hb, List.nil_append, cutF_nl]
theorem nls_app (a b : List Nat) : nls (a ++ b) = nls a + nls b := List.count_append
theorem nls_no {a : List Nat} (h : 10 ∉ a) : nls a = 0 := List.count_eq_zero.mpr h
theorem Fine.app {a b : List Nat} (x : Fine a) (y : Fine b) : Fine (a ++ b) := fun c hc => by
  rcases List.mem_append.mp hc with h | h
  · exact x c h
  · exact y c h
theorem SpaceOk.sp {s : List Nat} (h : SpaceOk s) (r : List Nat) : SpH (s ++ r) := by
  obtain ⟨c, q, e, hc⟩ := h.head
  exact ⟨c, q ++ r, by rw [e]; rfl, hc⟩
end Wk
set_option maxRecDepth 100000
set_option maxHeartbeats 4000000
namespace Wk
open PySem L2 TL PyProof.Rows Gm Gr
open SX (S S_len)
theorem okb_hd {so : So} {c : Nat} {r : List Nat} (h : isS c = false ∧ c ≠ 61 ∧ c ≠ 34) : okB so (c :: r) := by
  cases so with
  | mark => intro e; exact h.2.1 (Option.some.inj e)
  | text => intro e; exact h.2.2 (Option.some.inj e)
  | name => intro d e; obtain rfl : c = d := Option.some.inj e; exact h.1
  | key => intro d e; obtain rfl : c = d := Option.some.inj e; exact h.1
  | number => intro d e; obtain rfl : c = d := Option.some.inj e; exact h.1
theorem h59 : isS 59 = false ∧ 59 ≠ 61 ∧ 59 ≠ 34 := by decide
/-! words ahead -/
/-! words behind -/
def HdB (r : List Nat) : Prop := ∃ c q, r = c :: q ∧ isS c = false ∧ c ≠ 61 ∧ c ≠ 34
theorem HdB.ok {r : List Nat} (h : HdB r) (so : So) : okB so r := by
  obtain ⟨c, q, rfl, h⟩ := h
  exact okb_hd h
/-! what is read -/
end Wk
set_option maxRecDepth 100000
set_option maxHeartbeats 4000000
/-! Two things told of one program are alike, to a depth. -/
namespace Wk
open PySem L2 TL PyProof.Rows Gm Gr
open SX (S S_len)
/-- no tuple is greater than a line -/
def HB (H : Hp) : Prop := ∀ a xs, H a = some (.tup xs) → xs.length ≤ 16777216
theorem Alike.up {H : Hp} : ∀ {d e : Nat} {v u : V}, Alike d H v u → d ≤ e → Alike e H v u
  | 0, _, _, _, h, _ => h.elim
  | d + 1, 0, _, _, _, h => by omega
  | d + 1, e + 1, v, u, h, he => by
    rcases h with h | h | ⟨p, q, xs, ys, e1, e2, h, hl, hb, hk⟩ | h
    · exact .inl h
    · exact .inr (.inl h)
    · exact .inr (.inr (.inl ⟨p, q, xs, ys, e1, e2, h, hl, hb, fun k x y h1 h2 => (hk k x y h1 h2).up (by omega)⟩))
    · exact .inr (.inr (.inr h))
/-- rows of trees, one by one -/
theorem alike_row {H : Hp} (hb : HB H) {ts : List Tr} {v u : V} {d : Nat} (h1 : RelT H (.t ts) v) (h2 : RelT H (.t ts) u) (hk : ∀ (i : Nat) (t : Tr), ts[i]? = some t → ∀ x y, RelT H t x → RelT H t y → Alike d H x y) : Alike (d + 1) H v u := by
  obtain ⟨p, xs, rfl, hp, hx⟩ := rel_tuple h1
  obtain ⟨q, ys, rfl, hq, hy⟩ := rel_tuple h2
  have l1 := rels_len hx
  have l2 := rels_len hy
  refine .inr (.inr (.inl ⟨p, q, xs, ys, rfl, rfl, .inl ⟨hp, hq⟩, by omega, hb _ _ hp, fun k x y e1 e2 => ?_⟩))
  obtain ⟨t, et, r1⟩ := rels_at hx e1
  obtain ⟨t', et', r2⟩ := rels_at hy e2
  obtain rfl : t = t' := Option.some.inj (et.symm.trans et')
  exact hk k t et x y r1 r2
/-- what is no row -/
theorem alike_flat {H : Hp} {t : Tr} {v u : V} (hn : notR t) (h1 : RelT H t v) (h2 : RelT H t u) : Alike 1 H v u := by
  cases t with
  | s l => rw [RelT] at h1 h2; exact .inl ⟨_, h1, h2⟩
  | n k => rw [RelT] at h1 h2; exact .inr (.inl ⟨_, h1, h2⟩)
  | z => rw [RelT] at h1 h2; exact .inr (.inr (.inr ⟨h1, h2⟩))
  | t us => exact absurd rfl (hn us)
theorem alike_shal {H : Hp} (hb : HB H) {t : Tr} {v u : V} (hn : shal t) (h1 : RelT H t v) (h2 : RelT H t u) : Alike 2 H v u := by
  cases t with
  | t us => exact alike_row hb h1 h2 fun i t e x y r1 r2 => alike_flat (hn us rfl t (List.mem_of_getElem? e)) r1 r2
  | s l => exact (alike_flat (fun us h => by cases h) h1 h2).up (by omega)
  | n k => exact (alike_flat (fun us h => by cases h) h1 h2).up (by omega)
  | z => exact (alike_flat (fun us h => by cases h) h1 h2).up (by omega)
theorem kidsP_at : ∀ {sh : List String} {ts : List Tr} {i : Nat} {s : String} {t : Tr}, sh[i]? = some s → ts[i]? = some t → (isE s = true → t ∈ kidsP sh ts) ∧ (isE s = false → isB s = true → ∀ u ∈ rowT t, u ∈ kidsP sh ts)
  | [], _, i, _, _, e, _ => by cases i <;> cases e
  | _ :: _, [], i, _, _, _, e => by cases i <;> cases e
  | s0 :: sh, t0 :: ts, 0, s, t, e1, e2 => by
    cases e1; cases e2
    rw [kidsP]
    refine ⟨fun h => ?_, fun h1 h2 u hu => ?_⟩
    · rw [if_pos h]; exact List.mem_append_left _ List.mem_cons_self
    · rw [if_neg (by rw [h1]; exact Bool.false_ne_true), if_pos h2]; exact List.mem_append_left _ hu
  | s0 :: sh, t0 :: ts, i + 1, s, t, e1, e2 => by
    have ih := kidsP_at (sh := sh) (ts := ts) (i := i) (s := s) (t := t) e1 e2
    rw [kidsP]
    exact ⟨fun h => List.mem_append_right _ (ih.1 h), fun h1 h2 u hu => List.mem_append_right _ (ih.2 h1 h2 u hu)⟩
theorem alike_tree {t : Tr} (h : OkT t) : ∀ {H : Hp} (hb : HB H) {v u : V}, RelT H t v → RelT H t u → Alike (2 * dT t + 2) H v u := by
  induction h with
  | mk l sh ts h len hk hf ih =>
    intro H hb v u h1 h2
    have hkid : kids (.t (.s l :: ts)) = kidsP sh ts := by
      show (match shapeOf l with | some sh => kidsP sh ts | none => []) = _
      rw [h]
    have hd := dT_eq (.t (.s l :: ts))
    rw [hkid] at hd
    have hle : ∀ u ∈ kidsP sh ts, dT u + 1 ≤ dT (.t (.s l :: ts)) := fun u hu => by
      have := le_maxL (List.mem_map_of_mem (f := dT) hu)
      omega
    generalize dT (.t (.s l :: ts)) = n at hd hle ⊢
    have hn : 1 ≤ n := by omega
    refine (alike_row (d := 2 * n + 1) hb h1 h2 fun i t e x y r1 r2 => ?_).up (by omega)
    cases i with
    | zero =>
      cases e
      exact (alike_flat (fun us z => by cases z) r1 r2).up (by omega)
    | succ i =>
      have e : ts[i]? = some t := e
      have hi : i < sh.length := by
        rw [← len]
        exact (List.getElem?_eq_some_iff.mp e).1
      have es : sh[i]? = some sh[i] := List.getElem?_eq_getElem hi
      generalize sh[i] = s at es
      have hka := kidsP_at es e
      cases hE : isE s with
      | true =>
        have hm := hka.1 hE
        exact (ih t hm hb r1 r2).up (by have := hle t hm; omega)
      | false =>
      cases hB : isB s with
      | true =>
        obtain ⟨us, rfl⟩ := (hf i s t es e).1 hB
        refine (alike_row (d := 2 * n) hb r1 r2 fun j u eu x y q1 q2 => ?_).up (by omega)
        have hm := hka.2 hE hB u (List.mem_of_getElem? eu)
        exact (ih u hm hb q1 q2).up (by have := hle u hm; omega)
      | false => exact (alike_shal hb ((hf i s t es e).2.2 hE hB) r1 r2).up (by omega)
end Wk
set_option maxRecDepth 100000
set_option maxHeartbeats 4000000
namespace Gr
open Wk Gm
def MP (m : Tr) : Prop := ∃ nm ps us, m = Tr.t [nm, ps, .t us] ∧ OkL us ∧ notR nm ∧ shal ps
inductive ShI : Tr → Prop
  | cls (n e : Tr) (fs : List Tr) (ms : List Tr) (hn : notR n) (he : notR e) (hf : ∀ u ∈ fs, notR u) (hm : ∀ m ∈ ms, MP m) : ShI (.t [w "class", n, e, .t fs, .t ms])
  | fn (n ps : Tr) (us : List Tr) (hn : notR n) (hp : shal ps) (hu : OkL us) : ShI (.t [w "function", n, ps, .t us])
  | st (l : List Nat) (ts : List Tr) (h : OkT (.t (.s l :: ts))) : ShI (.t (.s l :: ts))
theorem methods_sh {p : Option In} (hp : InK p) : ∀ (n : Nat) (acc : List Tr) (toks : List Tk) (ms : List Tr) (r : List Tk), methods p n acc toks = .ok ms r → (∀ m ∈ acc, MP m) → ∀ m ∈ ms, MP m
  | 0, _, _, _, _, h, _ => by cases h
  | n + 1, acc, [], ms, r, h, ha => by rw [methods] at h; cases h; exact ha
  | n + 1, acc, t :: r0, ms, r, h, ha => by
    rw [methods] at h
    split at h
    · obtain ⟨ps, r1, e1, h⟩ := bind_ok h
      obtain ⟨b, r2, e2, h⟩ := bind_ok h
      obtain ⟨us, rfl, h1, h2⟩ := block_ok hp e2
      exact methods_sh hp n _ _ ms r h (fun m hm => by
        rcases List.mem_append.mp hm with hm | hm
        · exact ha m hm
        · rw [List.mem_singleton.mp hm]; exact ⟨_, _, us, rfl, h1, notR_wd _, params_shal e1⟩)
    · cases h; exact ha
theorem fields_sh : ∀ (n : Nat) (acc : List Tr) (toks : List Tk) (fs : List Tr) (r : List Tk), fields n acc toks = .ok fs r → (∀ u ∈ acc, notR u) → ∀ u ∈ fs, notR u
  | 0, _, _, _, _, h, _ => by cases h
  | n + 1, acc, toks, fs, r, h, ha => by
    unfold fields at h
    split at h
    · rename_i t u r0
      split at h
      · exact fields_sh n _ _ fs r h (fun m hm => by
          rcases List.mem_append.mp hm with hm | hm
          · exact ha m hm
          · rw [List.mem_singleton.mp hm]; exact notR_wd _)
      · cases h; exact ha
    · cases h; exact ha
theorem item_sh (d : Nat) : ∀ toks a r, Gr.item d toks = .ok a r → ShI a := by
  have st : ∀ toks a r, stmt (inn d) toks = .ok a r → ShI a := fun toks a r h => by
    obtain ⟨h1, h2⟩ := stmt_ok (in_k d) toks a r h
    cases h1 with
    | mk l sh ts h' len hk hb => exact .st l ts (OkT.mk l sh ts h' len hk hb)
  intro toks a r h
  cases toks with
  | nil => rw [Gr.item.eq_def] at h; cases h
  | cons t r0 =>
    rw [Gr.item.eq_def] at h
    dsimp only at h
    split at h
    · obtain ⟨n, r1, e1, h⟩ := bind_ok h
      obtain ⟨e, r2, e2, h⟩ := bind_ok h
      obtain ⟨q, t3, r3, e3, rfl, h'⟩ := opn_ok h
      obtain ⟨fs, r4, e4, h⟩ := bind_ok h'
      obtain ⟨ms, r5, e5, h⟩ := bind_ok h
      obtain ⟨_, r6, e6, h⟩ := bind_ok h
      cases h
      have he : notR e := by
        split at e2
        · exact named_notR e2
        · cases e2; intro us z; cases z
      exact .cls n e fs ms (named_notR e1) he (fields_sh _ _ _ _ _ e4 (fun m hm => by cases hm)) (methods_sh (in_k (d - 1)) _ _ _ _ _ e5 (fun m hm => by cases hm))
    · cases r0 with
      | nil => exact st [t] a r h
      | cons u r' =>
        dsimp only at h
        split at h
        · obtain ⟨ps, r1, e1, h⟩ := bind_ok h
          obtain ⟨b, r2, e2, h⟩ := bind_ok h
          cases h
          obtain ⟨us, rfl, h1, h2⟩ := block_ok (in_k d) e2
          exact .fn _ _ us (notR_wd _) (params_shal e1) h1
        · exact st _ a r h
theorem items_sh (d : Nat) : ∀ (n : Nat) (acc : List Tr) (toks : List Tk) (ts : List Tr) (r : List Tk), items d n acc toks = .ok ts r → (∀ a ∈ acc, ShI a) → (∀ a ∈ ts, ShI a)
  | 0, _, _, _, _, h, _ => by cases h
  | n + 1, acc, toks, ts, r, h, ha => by
    unfold items at h
    split at h
    · cases h; exact ha
    · obtain ⟨t, r1, e1, h⟩ := bind_ok h
      exact items_sh d n _ _ ts r h (fun a hm => by
        rcases List.mem_append.mp hm with hm | hm
        · exact ha a hm
        · rw [List.mem_singleton.mp hm]; exact item_sh d _ _ _ e1)
theorem prog_sh {toks : List Tk} {ts : List Tr} {r : List Tk} (h : prog toks = .ok ts r) : ∀ a ∈ ts, ShI a :=
  items_sh 60 _ _ _ _ _ h (fun a hm => by cases hm)
end Gr
namespace Wk
open PySem L2 TL PyProof.Rows Gm Gr
open SX (S S_len)
theorem alike_rowD {H : Hp} (hb : HB H) {us : List Tr} {v u : V} {n : Nat} (hk : OkL us) (hd : ∀ u ∈ us, dT u ≤ n) (h1 : RelT H (.t us) v) (h2 : RelT H (.t us) u) : Alike (2 * n + 3) H v u :=
  alike_row hb h1 h2 fun i t e x y r1 r2 => (alike_tree (hk t (List.mem_of_getElem? e)) hb r1 r2).up (by have := hd t (List.mem_of_getElem? e); omega)
theorem alike_item {H : Hp} (hb : HB H) {a : Tr} {n : Nat} (h : ShI a) (hd : ∀ u ∈ outI a, dT u ≤ n) {v u : V} (h1 : RelT H a v) (h2 : RelT H a u) : Alike (2 * n + 6) H v u := by
  cases h with
  | st l ts h =>
    rw [out_st h] at hd
    exact (alike_tree h hb h1 h2).up (by have := hd _ (List.mem_singleton.mpr rfl); omega)
  | fn nm ps us hn hp hu =>
    rw [out_fn] at hd
    refine (alike_row (d := 2 * n + 5) hb h1 h2 fun i t e x y r1 r2 => ?_).up (by omega)
    rcases i with _ | _ | _ | _ | i
    · cases e; exact (alike_flat (notR_w _) r1 r2).up (by omega)
    · cases e; exact (alike_flat hn r1 r2).up (by omega)
    · cases e; exact (alike_shal hb hp r1 r2).up (by omega)
    · cases e; exact (alike_rowD hb hu hd r1 r2).up (by omega)
    · cases i <;> cases e
  | cls nm e fs ms hn he hf hm =>
    rw [out_cls] at hd
    refine (alike_row (d := 2 * n + 5) hb h1 h2 fun i t e x y r1 r2 => ?_).up (by omega)
    rcases i with _ | _ | _ | _ | _ | i
    · cases e; exact (alike_flat (notR_w _) r1 r2).up (by omega)
    · cases e; exact (alike_flat hn r1 r2).up (by omega)
    · cases e; exact (alike_flat he r1 r2).up (by omega)
    · cases e
      exact (alike_shal hb (fun us z => by cases z; exact hf) r1 r2).up (by omega)
    · cases e
      refine alike_row (d := 2 * n + 4) hb r1 r2 fun j m em x y q1 q2 => ?_
      obtain ⟨nm, ps, us, rfl, ok, hnm, hps⟩ := hm m (List.mem_of_getElem? em)
      refine alike_row (d := 2 * n + 3) hb q1 q2 fun k t et x y s1 s2 => ?_
      rcases k with _ | _ | _ | k
      · cases et; exact (alike_flat hnm s1 s2).up (by omega)
      · cases et; exact (alike_shal hb hps s1 s2).up (by omega)
      · cases et
        exact alike_rowD hb ok (fun u hu => hd u (List.mem_flatMap.mpr ⟨_, List.mem_of_getElem? em, hu⟩)) s1 s2
      · cases k <;> cases et
    · cases i <;> cases e
/-- what is told of a text: due, and found -/
def DueT (H : Hp) (q : Addr) : RdR → Prop
  | .told ts => ∃ v, H q = some (.tup [.str "told", v]) ∧ RelT H (.t ts) v
  | .bad l => H q = some (.tup [.str "bad", .int (l : Int)])
  | .deep => H q = some (.tup [.str "deep", .int 0])
end Wk
set_option maxRecDepth 100000
set_option maxHeartbeats 4000000
/-! (word, something) == (word, int) -/
namespace Wk
open PySem PySem.Spec L2 TL PyProof.Rows
def isI (n : Int) : V → Bool
  | .int i => i == n
  | _ => false
def rEqTwo (K : PySem.W.Frag) : R2 := fun x y H Q => ∃ (p q : Addr) (s s' : Str) (v : V) (n : Int), x = .ref p ∧ y = .ref q ∧ H p = some (.tup [.str s, v]) ∧ H q = some (.tup [.str s', .int n]) ∧ ((∃ i, v = .int i) ∨ ∃ a xs, v = .ref a ∧ H a = some (.tup xs)) ∧ Q (.bl ((s == s') && isI n v)) H
section
variable {X : Cx}
theorem op_eq_two (hu : X.A.units + 64 < cLine) : OpR X (compareOp .Eq) (rEqTwo X.K) := by
  intro pins σ0 σ H x y xv yv Q I rx ry h
  obtain ⟨p, q, s, s', v, n, rfl, rfl, hp, hq, hv, hQ⟩ := h
  cases (show xv = Value.ref p from rx)
  cases (show yv = Value.ref q from ry)
  obtain ⟨us, r1, p1, _⟩ := I.tuple (SqT.of hp)
  obtain ⟨ws, r2, p2, _⟩ := I.tuple (SqT.of hq)
  cases r1 with
  | cons a1 r1 =>
  cases r1 with
  | cons a2 r1 =>
  cases r1
  cases r2 with
  | cons b1 r2 =>
  cases r2 with
  | cons b2 r2 =>
  cases r2
  obtain ⟨t1, rfl⟩ := a1
  obtain ⟨t2, rfl⟩ := b1
  obtain ⟨t3, rfl⟩ := b2
  have second : ∀ bv, RelV v bv → SeqAt.EqAt X.A.in1 σ0 bv (.int n t3) (isI n v) := fun bv a2 => by
    rcases hv with ⟨i, rfl⟩ | ⟨a, xs, rfl, ha⟩
    · obtain ⟨t4, rfl⟩ := a2
      exact SeqAt.EqAt.int_int i t4 n t3
    · cases (show bv = Value.ref a from a2)
      obtain ⟨its, _, pt, _⟩ := I.tuple (SqT.of ha)
      exact SeqAt.EqAt.tuple_int n t3 pt (by show X.A.units + 1 < cLine; omega)
  refine SeqAt.eq_tupleAt (e := fun j => if j = 0 then s == s' else isI n v) p1 p2 (by omega) (fun j h1 h2 => ?_) ?_
  · rcases j with _ | _ | j
    · exact SeqAt.EqAt.str_str s t1 s' t2
    · exact second _ a2
    · exact absurd h1 (by simp)
  · exact ⟨.bl ((s == s') && isI n v), H, I, by
      show _ = Value.bool _
      congr 1
      simp [List.range, List.range.loop], hQ⟩
end
end Wk
set_option maxRecDepth 100000
set_option maxHeartbeats 8000000
/-! The law draws the words of a program: lists of words, how many, and how many of them are heavy. -/
namespace Wk
open PySem L2 TL PyProof.Rows Gm Gr
open SX (S S_len)
def hevS : List String := ["class", "of", "fun", "var", "if", "else", "while", "break", "continue", "return", "throw", "try", "catch", "say", "super", "new", "and", "or", "not", "len", "weak", "worth", "number", "spawn", "join", "yield", "mod", "(", "{", "[", ";", ".", "=", "==", "!=", "<", "<=", ">", ">=", "+", "-", "*", "/"]
def namS : List String := ["x", "y", "a", "A", "_k", "of1", "v9", "qqqqqqqqqqqqqqqqqqqq"]
def atoS : List String := ["7", "0", "576460752303423487", "\"a; \"\" #\"", "\"\"", "true", "false", "nil", "this"]
def ligS : List String := [")", "]", "}", ","] ++ namS ++ atoS
def hevL : List (List Nat) := hevS.map codes
/-- all words but one, and with it -/
def gW : List (List Nat) := ((hevS.filter fun s => s ≠ "else") ++ ligS).map codes
def gE : List (List Nat) := codes "else" :: gW
def hv (ws : List (List Nat)) : Nat := ws.countP fun l => decide (l ∈ hevL)
def devS : List String := ["not", "or", "and", "==", "!=", "<", "<=", ">", ">=", "+", "-", "*", "/", "mod"]
def devL : List (List Nat) := devS.map codes
/-- how many words there are of those that make the reader call itself without a bracket -/
def dv (ws : List (List Nat)) : Nat := ws.countP fun l => decide (l ∈ devL)
theorem dv_app (a b : List (List Nat)) : dv (a ++ b) = dv a + dv b := List.countP_append
theorem dv_mem {ws : List (List Nat)} {l : List Nat} (h : l ∈ ws) : dv [l] ≤ dv ws := List.Sublist.countP_le (List.singleton_sublist.mpr h)
theorem dv_hv (ws : List (List Nat)) : dv ws ≤ hv ws := List.countP_mono_left fun l _ h => by
  have hc : ∀ l ∈ devL, l ∈ hevL := by decide +kernel
  exact decide_eq_true (hc l (of_decide_eq_true h))
theorem dv_one (l : List Nat) : dv [l] ≤ 1 := List.countP_le_length
theorem hv_app (a b : List (List Nat)) : hv (a ++ b) = hv a + hv b := List.countP_append
theorem hv_one (l : List Nat) : hv [l] ≤ 1 := List.countP_le_length
theorem hv_le (ws : List (List Nat)) : hv ws ≤ ws.length := List.countP_le_length
theorem hv_mem {ws : List (List Nat)} {l : List Nat} (h : l ∈ ws) : hv [l] ≤ hv ws := List.Sublist.countP_le (List.singleton_sublist.mpr h)
def Gn (ws : List (List Nat)) : Prop := ∀ l ∈ ws, l ∈ gW
/-- words, of which neither the first nor the second one is «else» -/
def Gw (ws : List (List Nat)) : Prop := (∀ l ∈ ws, l ∈ gE) ∧ codes "else" ∉ ws.take 2
theorem gW_else : codes "else" ∉ gW := by decide +kernel
theorem Gn.app {a b : List (List Nat)} (ha : Gn a) (hb : Gn b) : Gn (a ++ b) := fun l hl => (List.mem_append.mp hl).elim (ha l) (hb l)
theorem Gn.gw {a : List (List Nat)} (h : Gn a) : Gw a := ⟨fun l hl => List.mem_cons_of_mem _ (h l hl), fun z => gW_else (h _ (List.mem_of_mem_take z))⟩
theorem Gn.one {l : List Nat} (h : l ∈ gW) : Gn [l] := fun x hx => by rw [List.mem_singleton.mp hx]; exact h
theorem Gn.nil : Gn [] := fun l h => by cases h
theorem Gw.nil : Gw [] := Gn.nil.gw
theorem take2_mem {x : List Nat} {a b : List (List Nat)} (h : x ∈ (a ++ b).take 2) : x ∈ a.take 2 ∨ x ∈ b.take 2 := by
  rw [List.take_append] at h
  rcases List.mem_append.mp h with h | h
  · exact .inl h
  · exact .inr (List.mem_of_mem_take (show x ∈ (b.take 2).take (2 - a.length) by rw [List.take_take, Nat.min_eq_left (Nat.sub_le _ _)]; exact h))
theorem Gw.app {a b : List (List Nat)} (ha : Gw a) (hb : Gw b) : Gw (a ++ b) := ⟨fun l hl => (List.mem_append.mp hl).elim (ha.1 l) (hb.1 l), fun z => (take2_mem z).elim ha.2 hb.2⟩
/-- behind two words all may stand -/
theorem Gw.on {a b : List (List Nat)} (ha : Gw a) (h : 2 ≤ a.length) (hb : ∀ l ∈ b, l ∈ gE) : Gw (a ++ b) := ⟨fun l hl => (List.mem_append.mp hl).elim (ha.1 l) (hb l), by
  rw [List.take_append_of_le_length h]
  exact ha.2⟩
def lisV (ws : List (List Nat)) : List V := ws.map fun l => V.str (S l)
theorem lisV_app (a b : List (List Nat)) : lisV (a ++ b) = lisV a ++ lisV b := List.map_append
theorem lisV_len (a : List (List Nat)) : (lisV a).length = a.length := List.length_map ..
def WL (H : Hp) (p : Addr) (ws : List (List Nat)) : Prop := H p = some (.lst (lisV ws))
theorem lisV_ne {ws : List (List Nat)} {v : V} {vs : List V} (hv : ∀ s, v ≠ .str s) : lisV ws ≠ v :: vs := fun h => by
  cases ws with
  | nil => cases h
  | cons l ws => exact hv _ (List.cons.inj h).1.symm
/-- a world in which words are drawn: what holds, and what may change -/
structure Wld (a : Addr) where
  inv : Int → Hp → Prop
  tr : Hp → Hp → Prop
  refl : ∀ H, tr H H
  trans : ∀ {H H1 H2}, tr H H1 → tr H1 H2 → tr H H2
  flow : ∀ {L H}, inv L H → Flow H a
  but : ∀ {L H H'}, inv L H → But a H H' → Flow H' a → inv L H' ∧ tr H H'
  keep : ∀ {L H H' p ws}, inv L H → tr H H' → WL H p ws → WL H' p ws
  kept : ∀ {L H H' p} {o : HO}, inv L H → H p = none → tr (upd H p o) H' → H' p = some o
theorem flow_ne {a p : Addr} {H : Hp} {ws : List (List Nat)} (f : Flow H a) (h : WL H p ws) : p ≠ a := fun e => by
  obtain ⟨s, ns, i, c, z, h1, _⟩ := f
  subst e
  unfold WL at h
  rw [h1] at h
  exact lisV_ne (fun _ => V.noConfusion) (HO.lst.inj (Option.some.inj h)).symm
/-- only the flow changes -/
def flowW (a : Addr) : Wld a where
  inv := fun _ H => Flow H a
  tr := fun H H' => But a H H'
  refl := But.refl a
  trans := fun h h' => h.trans h'
  flow := id
  but := fun _ b f => ⟨f, b⟩
  keep := fun f b h => b.o _ _ (flow_ne f h) h
  kept := fun f n b => b.o _ _ (fun e => by
    obtain ⟨s, ns, i, c, z, h1, _⟩ := f
    rw [e, h1] at n; cases n) upd_same
/-- the flow, and how many words may still come -/
def leftW (a l : Addr) : Wld a where
  inv := fun L H => Flow H a ∧ H l = some (.lst [.int L]) ∧ l ≠ a
  tr := fun H H' => ∀ b o, b ≠ a → b ≠ l → H b = some o → H' b = some o
  refl := fun H b o _ _ h => h
  trans := fun h h' b o n1 n2 e => h' b o n1 n2 (h b o n1 n2 e)
  flow := fun h => h.1
  but := fun h b f => ⟨⟨f, b.o _ _ h.2.2 h.2.1, h.2.2⟩, fun x o n _ e => b.o x o n e⟩
  keep := fun h t e => t _ _ (flow_ne h.1 e) (fun z => by
    subst z
    unfold WL at e
    have h2 := h.2.1
    rw [e] at h2
    exact lisV_ne (fun _ => V.noConfusion) (HO.lst.inj (Option.some.inj h2))) e
  kept := fun h n b => b _ _ (fun e => by
    obtain ⟨s, ns, i, c, z, h1, _⟩ := h.1
    rw [e, h1] at n; cases n) (fun e => by rw [e, h.2.1] at n; cases n) upd_same
section
variable {a : Addr} (W : Wld a)
theorem Wld.same {L : Int} {H H' : Hp} (h : W.inv L H) (g : Same H H') : W.inv L H' ∧ W.tr H H' := W.but h (But.same g) ((W.flow h).mono g)
/-- it tells a list of words -/
def YW (t : TE) (σ : L2.St) (H0 : Hp) (c h g : Nat) : Prop := c ≤ 100000 → ∀ (L : Int) (H : Hp) (Q : VK), W.tr H0 H → W.inv L H → L ≤ 1000 →
  (∀ H' p ws L', W.tr H H' → W.inv L' H' → L' ≤ L → WL H' p ws → Gw ws → ws.length + 12 * L'.toNat ≤ c + 12 * L.toNat → hv ws + 4 * L'.toNat ≤ h + 4 * L.toNat → dv ws + L'.toNat ≤ g + L.toNat → Q (.ref p) H') → t σ H Q
/-- it tells a word -/
def YS (t : TE) (σ : L2.St) (H0 : Hp) (h g : Nat) : Prop := ∀ (L : Int) (H : Hp) (Q : VK), W.tr H0 H → W.inv L H → (∀ H' l, W.tr H H' → W.inv L H' → l ∈ gW → hv [l] ≤ h → dv [l] ≤ g → Q (.str (S l)) H') → t σ H Q
/-- it tells some words -/
def YA (t : TA) (σ : L2.St) (H0 : Hp) (c h g : Nat) : Prop := ∀ (L : Int) (H : Hp) (Q : List V → Hp → Prop), W.tr H0 H → W.inv L H → (∀ H' ws, W.tr H H' → W.inv L H' → Gn ws → ws.length = c → hv ws ≤ h → dv ws ≤ g → Q (lisV ws) H') → t σ H Q
/-- it tells a number below n -/
def YI (t : TE) (σ : L2.St) (H0 : Hp) (n : Nat) : Prop := ∀ (L : Int) (H : Hp) (Q : VK), W.tr H0 H → W.inv L H → (∀ H' (i : Nat), W.tr H H' → W.inv L H' → i < n → Q (.int (i : Int)) H') → t σ H Q
variable {W} {K : PySem.W.Frag} {σ : L2.St} {H0 : Hp}
theorem YW.mono {t : TE} {c h c' h' gg gg' : Nat} (y : YW W t σ H0 c h gg) (hc : c ≤ c') (hh : h ≤ h') (hd : gg ≤ gg') : YW W t σ H0 c' h' gg' := fun hz L H Q t1 i hL k => y (by omega) L H Q t1 i hL fun H' p ws L' t2 i2 l2 hw hg h1 h2 h3 => k H' p ws L' t2 i2 l2 hw hg (by omega) (by omega) (by omega)
theorem yw_cat {t u : TE} {c h c' h' gg gg' : Nat} (y : YW W t σ H0 c h gg) (z : YW W u σ H0 c' h' gg') : YW W (tOp rCat t u) σ H0 (c + c') (h + h') (gg + gg') := fun hc L H Q t1 i hL k =>
  y (by omega) L H _ t1 i hL fun H1 p ws L1 t2 i2 l2 hw hg h1 h2 h5 => z (by omega) L1 H1 _ (W.trans t1 t2) i2 (by omega) fun H2 q us L2 t3 i3 l3 hw2 hg2 h3 h4 h6 => by
    have hz := line_eq
    refine ⟨p, q, _, _, rfl, rfl, W.keep i2 t3 hw, hw2, ?_, fun r hr => ?_⟩
    · rw [lisV_len, lisV_len]; omega
    · have g := same_new hr (.lst (lisV ws ++ lisV us))
      obtain ⟨i4, t4⟩ := W.same i3 g
      refine k _ r (ws ++ us) L2 (W.trans (W.trans t2 t3) t4) i4 (by omega) ?_ (hg.app hg2) ?_ ?_ ?_
      · unfold WL; rw [upd_same, lisV_app]
      · rw [List.length_append]; omega
      · rw [hv_app]; omega
      · rw [dv_app]; omega
theorem yw_var {i : Nat} {p : Addr} {ws : List (List Nat)} {L0 : Int} (hi : W.inv L0 H0) (hw : WL H0 p ws) (hg : Gw ws) (e : σ[i]? = some (some (.ref p))) : YW W (tVar i) σ H0 ws.length (hv ws) (dv ws) := fun _ L H Q t1 i1 hL k =>
  ⟨_, e, k H p ws L (W.refl H) i1 (Int.le_refl _) (W.keep hi t1 hw) hg (Nat.le_refl _) (Nat.le_refl _) (Nat.le_refl _)⟩
theorem yw_lst {t : TA} {c h gg : Nat} (y : YA W t σ H0 c h gg) : YW W (tLst t) σ H0 c h gg := fun hc L H Q t1 i hL k =>
  y L H _ t1 i fun H1 ws t2 i2 hg hl hh hd => by
    have hz := line_eq
    refine ⟨by rw [lisV_len]; omega, fun r hr => ?_⟩
    obtain ⟨i4, t4⟩ := W.same i2 (same_new hr (.lst (lisV ws)))
    exact k _ r ws L (W.trans t2 t4) i4 (Int.le_refl _) upd_same hg.gw (by omega) (by omega) (by omega)
theorem yw_if {tt : TT} {t u : TE} {c h gg : Nat} (htt : ∀ L H Q, W.tr H0 H → W.inv L H → (∀ b H', W.tr H H' → W.inv L H' → Q b H') → tt σ H Q) (y : YW W t σ H0 c h gg) (z : YW W u σ H0 c h gg) : YW W (tIf tt t u) σ H0 c h gg := fun hc L H Q t1 i hL k =>
  htt L H _ t1 i fun b H1 t2 i2 => iteb (fun _ => y hc L H1 Q (W.trans t1 t2) i2 hL fun H' p ws L' t3 => k H' p ws L' (W.trans t2 t3)) (fun _ => z hc L H1 Q (W.trans t1 t2) i2 hL fun H' p ws L' t3 => k H' p ws L' (W.trans t2 t3))
theorem ya_nil : YA W tNil σ H0 0 0 0 := fun L H Q t1 i k => k H [] (W.refl H) i Gn.nil rfl (Nat.le_refl _) (Nat.le_refl _)
theorem ya_cons {t : TE} {ts : TA} {c h h' gg gg' : Nat} (y : YS W t σ H0 h gg) (z : YA W ts σ H0 c h' gg') : YA W (tCons t ts) σ H0 (c + 1) (h + h') (gg + gg') := fun L H Q t1 i k =>
  y L H _ t1 i fun H1 l t2 i2 hl hh hd => z L H1 _ (W.trans t1 t2) i2 fun H2 ws t3 i3 hg hlen hh2 hd2 => by
    refine k H2 (l :: ws) (W.trans t2 t3) i3 (fun x hx => ?_) (by rw [List.length_cons, hlen]) ?_ ?_
    · rcases List.mem_cons.mp hx with rfl | hx
      · exact hl
      · exact hg x hx
    · rw [show l :: ws = [l] ++ ws from rfl, hv_app]; omega
    · rw [show l :: ws = [l] ++ ws from rfl, dv_app]; omega
theorem ys_l {s : String} (hs : codes s ∈ gW) (hh : hv [codes s] = 0) : YS W (tC (V.str (Str.ofString s))) σ H0 0 0 := fun L H Q t1 i k => by
  show Q (V.str (Str.ofString s)) H
  rw [S_of s]
  have := dv_hv [codes s]
  exact k H _ (W.refl H) i hs (by omega) (by omega)
theorem ys_h {s : String} (hs : codes s ∈ gW) (hd : dv [codes s] = 0) : YS W (tC (V.str (Str.ofString s))) σ H0 1 0 := fun L H Q t1 i k => by
  show Q (V.str (Str.ofString s)) H
  rw [S_of s]
  exact k H _ (W.refl H) i hs (hv_one _) (by omega)
theorem ys_d {s : String} (hs : codes s ∈ gW) : YS W (tC (V.str (Str.ofString s))) σ H0 1 1 := fun L H Q t1 i k => by
  show Q (V.str (Str.ofString s)) H
  rw [S_of s]
  exact k H _ (W.refl H) i hs (hv_one _) (dv_one _)
theorem ys_mono {t : TE} {h h' gg gg' : Nat} (y : YS W t σ H0 h gg) (e : h ≤ h') (e2 : gg ≤ gg') : YS W t σ H0 h' gg' := fun L H Q t1 i k => y L H Q t1 i fun H' l t2 i2 hl hh hd => k H' l t2 i2 hl (by omega) (by omega)
/-- one of some words -/
theorem ys_pick {t : TA} {ti : TE} {c h n gg : Nat} (y : YA W t σ H0 c h gg) (z : YI W ti σ H0 n) (hn : n ≤ c) (hc : c ≤ 100000) : YS W (tOp (rIxL K) (tLst t) ti) σ H0 (min 1 h) (min 1 gg) := fun L H Q t1 i k =>
  y L H _ t1 i fun H1 ws t2 i2 hg hl hh hd => by
    have hz := line_eq
    refine ⟨by rw [lisV_len]; omega, fun r hr => ?_⟩
    obtain ⟨i4, t4⟩ := W.same i2 (same_new hr (.lst (lisV ws)))
    refine z L _ _ (W.trans (W.trans t1 t2) t4) i4 fun H3 j t5 i5 hj => ?_
    have hw : WL H3 r ws := W.keep i4 t5 upd_same
    have hj2 : j < ws.length := by omega
    refine ⟨r, _, _, _, rfl, rfl, SqL.of hw, atI_nat (j := j) (by rw [lisV, List.getElem?_map, List.getElem?_eq_getElem hj2]; rfl), ?_⟩
    have hm := List.getElem_mem hj2
    have := hv_one ws[j]
    have := hv_mem hm
    have := dv_one ws[j]
    have := dv_mem hm
    exact k H3 _ (W.trans (W.trans t2 t4) t5) i5 (hg _ hm) (by omega) (by omega)
/-- one of some words, of a list that a name or a sum tells -/
theorem ys_pickW {t : TE} {ti : TE} {c h n g : Nat} (y : ∀ (L : Int) (H : Hp) (Q : VK), W.tr H0 H → W.inv L H → (∀ H' p ws, W.tr H H' → W.inv L H' → WL H' p ws → Gn ws → ws.length = c → hv ws ≤ h → dv ws ≤ g → Q (.ref p) H') → t σ H Q) (z : YI W ti σ H0 n) (hn : n ≤ c) : YS W (tOp (rIxL K) t ti) σ H0 (min 1 h) (min 1 g) := fun L H Q t1 i k =>
  y L H _ t1 i fun H1 r ws t2 i2 hw0 hg hl hh hd => by
    refine z L _ _ (W.trans t1 t2) i2 fun H3 j t5 i5 hj => ?_
    have hw : WL H3 r ws := W.keep i2 t5 hw0
    have hj2 : j < ws.length := by omega
    refine ⟨r, _, _, _, rfl, rfl, SqL.of hw, atI_nat (j := j) (by rw [lisV, List.getElem?_map, List.getElem?_eq_getElem hj2]; rfl), ?_⟩
    have hm := List.getElem_mem hj2
    have := hv_one ws[j]
    have := hv_mem hm
    have := dv_one ws[j]
    have := dv_mem hm
    exact k H3 _ (W.trans t2 t5) i5 (hg _ hm) (by omega) (by omega)
theorem yi_draw {z : Int} (e : σ[0]? = some (some (.ref a))) (hn : 0 < z) (hn2 : z < 2 ^ 100) : YI W (tCall sp_draw [] E0 (tCons (tVar 0) (tCons (tC (V.int z)) tNil))) σ H0 z.toNat := fun L H Q t1 i k =>
  ⟨_, e, a, z.toNat, by rw [Int.toNat_of_nonneg (Int.le_of_lt hn)]; rfl, by omega, by omega, W.flow i, fun H' d hd b f => by
    obtain ⟨i2, t2⟩ := W.but i b f
    exact k H' d t2 i2 hd⟩
theorem ya_mono {t : TA} {c h h' gg gg' : Nat} (y : YA W t σ H0 c h gg) (e : h ≤ h') (e2 : gg ≤ gg') : YA W t σ H0 c h' gg' := fun L H Q t1 i k => y L H Q t1 i fun H' ws t2 i2 hg hl hh hd => k H' ws t2 i2 hg hl (by omega) (by omega)
/-- a list and some words more -/
theorem ye_cat {i : Nat} {p : Addr} {ws : List (List Nat)} {L0 : Int} {t : TA} {c h gg : Nat} (hi : W.inv L0 H0) (hw : WL H0 p ws) (hg : Gn ws) (e : σ[i]? = some (some (.ref p))) (y : YA W t σ H0 c h gg) (hl : ws.length ≤ 1000) (hc : c ≤ 1000) :
    ∀ (L : Int) (H : Hp) (Q : VK), W.tr H0 H → W.inv L H → (∀ H' p us, W.tr H H' → W.inv L H' → WL H' p us → Gn us → us.length = ws.length + c → hv us ≤ hv ws + h → dv us ≤ dv ws + gg → Q (.ref p) H') → tOp rCat (tVar i) (tLst t) σ H Q := fun L H Q t1 i1 k => by
  have hz := line_eq
  refine ⟨_, e, y L H _ t1 i1 fun H1 us t2 i2 hgu hlu hhu hdu => ?_⟩
  refine ⟨by rw [lisV_len]; omega, fun r hr => ?_⟩
  have g := same_new hr (.lst (lisV us))
  obtain ⟨i3, t3⟩ := W.same i2 g
  have hw1 : WL H1 p ws := W.keep hi (W.trans t1 t2) hw
  refine ⟨p, r, _, _, rfl, rfl, g _ _ hw1, upd_same, by rw [lisV_len, lisV_len]; omega, fun r2 hr2 => ?_⟩
  obtain ⟨i4, t4⟩ := W.same i3 (same_new hr2 (.lst (lisV ws ++ lisV us)))
  refine k _ r2 (ws ++ us) (W.trans (W.trans t2 t3) t4) i4 (by unfold WL; rw [upd_same, lisV_app]) (hg.app hgu) (by rw [List.length_append]; omega) (by rw [hv_app]; omega) (by rw [dv_app]; omega)
/-- one of some numbers -/
theorem yi_ints {t : TA} {ti : TE} {xs : List Int} {m n : Nat} (ht : ∀ H Q, Q (xs.map V.int) H → t σ H Q) (z : YI W ti σ H0 m) (hm : m ≤ xs.length) (hb : ∀ x ∈ xs, 0 ≤ x ∧ x < (n : Int)) (hl : xs.length ≤ 1000) : YI W (tOp (rIxL K) (tLst t) ti) σ H0 n := fun L H Q t1 i k => by
  refine ht _ _ ⟨by rw [List.length_map]; have := line_eq; omega, fun r hr => ?_⟩
  have g := same_new hr (.lst (xs.map V.int))
  obtain ⟨i2, t2⟩ := W.same i g
  have hr2 : (upd H r (.lst (xs.map V.int))) r = some (.lst (xs.map V.int)) := upd_same
  refine z L _ _ (W.trans t1 t2) i2 fun H3 j t3 i3 hj => ?_
  have hr3 := W.kept i hr t3
  have hj2 : j < xs.length := by omega
  have hx := hb _ (List.getElem_mem hj2)
  refine ⟨r, _, _, _, rfl, rfl, SqL.of hr3, atI_nat (j := j) (by rw [List.getElem?_map, List.getElem?_eq_getElem hj2]; rfl), ?_⟩
  have e : xs[j] = ((xs[j].toNat : Nat) : Int) := (Int.toNat_of_nonneg hx.1).symm
  rw [e]
  exact k H3 _ (W.trans t2 t3) i3 (by omega)
theorem yw_some {t : TE} {c h c' h' gg gg' : Nat} (y : YW W t σ H0 c' h' gg') (hc : c' ≤ c) (hh : h' ≤ h) (hd : gg' ≤ gg := by omega) : YW W t σ H0 c h gg := y.mono hc hh hd
end
end Wk
set_option maxRecDepth 100000
set_option maxHeartbeats 8000000
namespace Wk
open PySem L2 TL PyProof.Rows Gm Gr
open SX (S S_len)
/-- a name, drawn -/
def sp_dname : Sp := fun vs H Q _ => ∃ (a : Addr), vs = [.ref a] ∧ Flow H a ∧ ∀ H' l, But a H H' → Flow H' a → l ∈ gW → hv [l] = 0 → Q (.str (S l)) H'
/-- at most c words, drawn, h of them heavy -/
def sp_dlist (c h : Nat) : Sp := fun vs H Q _ => ∃ (a : Addr), vs = [.ref a] ∧ Flow H a ∧ ∀ H' p ws, But a H H' → Flow H' a → WL H' p ws → Gw ws → ws.length ≤ c → hv ws ≤ h → dv ws = 0 → Q (.ref p) H'
/-- words, drawn, and fewer left -/
def sp_left (r c h : Nat) (off : Int) : Sp := fun vs H Q _ => ∃ (a l : Addr) (L : Int), vs = [.ref a, .ref l, .int (r : Int)] ∧ (leftW a l).inv L H ∧ L ≤ 1000 ∧
  ∀ H' p ws L', (leftW a l).tr H H' → (leftW a l).inv L' H' → L' ≤ L → WL H' p ws → Gw ws → ws.length + 12 * L'.toNat ≤ c + 12 * (L - off).toNat → hv ws + 4 * L'.toNat ≤ h + 4 * (L - off).toNat → dv ws + L'.toNat ≤ (L - off).toNat → Q (.ref p) H'
section
variable {a : Addr} {W : Wld a} {K : PySem.W.Frag} {σ : L2.St} {H0 : Hp}
theorem ys_name (e : σ[0]? = some (some (.ref a))) : YS W (tCall sp_dname [] E0 (tCons (tVar 0) tNil)) σ H0 0 0 := fun L H Q t1 i k =>
  ⟨_, e, a, rfl, W.flow i, fun H' l b f hl hh => by
    obtain ⟨i2, t2⟩ := W.but i b f
    have := dv_hv [l]
    exact k H' l t2 i2 hl (by omega) (by omega)⟩
theorem yw_dlist {c h : Nat} (e : σ[0]? = some (some (.ref a))) : YW W (tCall (sp_dlist c h) [] E0 (tCons (tVar 0) tNil)) σ H0 c h 0 := fun _ L H Q t1 i hL k =>
  ⟨_, e, a, rfl, W.flow i, fun H' p ws b f hw hg h1 h2 h3 => by
    obtain ⟨i2, t2⟩ := W.but i b f
    exact k H' p ws L t2 i2 (Int.le_refl _) hw hg (by omega) (by omega) (by omega)⟩
theorem yw_left {l : Addr} {r c h : Nat} {tr : TE} (e : σ[0]? = some (some (.ref a))) (e1 : σ[1]? = some (some (.ref l))) (hr : ∀ H Q, Q (V.int (r : Int)) H → tr σ H Q) : YW (leftW a l) (tCall (sp_left r c h 0) [] E0 (tCons (tVar 0) (tCons (tVar 1) (tCons tr tNil)))) σ H0 c h 0 := fun _ L H Q t1 i hL k =>
  ⟨_, e, _, e1, hr _ _ ⟨a, l, L, rfl, i, hL, fun H' p ws L' t2 i2 l2 hw hg h1 h2 h3 => k H' p ws L' t2 i2 l2 hw hg (by simpa using h1) (by simpa using h2) (by simpa using h3)⟩⟩
/-- what only draws, of a whole def -/
theorem dlist_of {t : TE} {c h c' h' : Nat} {H : Hp} {D : Ends} (y : YW (flowW a) t σ H c' h' 0) (hc : c' ≤ c) (hh : h' ≤ h) (hz : c ≤ 100000) (f : Flow H a) (k : ∀ H' p ws, But a H H' → Flow H' a → WL H' p ws → Gw ws → ws.length ≤ c → hv ws ≤ h → dv ws = 0 → D.rt (.ref p) H') : tRet t D σ H :=
  y.mono hc hh (Nat.le_refl _) hz 0 H D.rt (But.refl a H) f (by decide) fun H' p ws L' t2 i2 l2 hw hg h1 h2 h3 => k H' p ws t2 i2 hw hg (by simp at h1; omega) (by simp at h2; omega) (by simp at h3; omega)
theorem ds_of {t : TE} {h gg : Nat} {H : Hp} {D : Ends} (y : YS (flowW a) t σ H h gg) (f : Flow H a) (k : ∀ H' l, But a H H' → Flow H' a → l ∈ gW → hv [l] ≤ h → D.rt (.str (S l)) H') : tRet t D σ H :=
  y 0 H D.rt (But.refl a H) f fun H' l b f hl hh _ => k H' l b f hl hh
theorem da_of {t : TA} {c h gg : Nat} {H : Hp} {Q : VK} (y : YA (flowW a) t σ H c h gg) (hc : c ≤ 100000) (f : Flow H a) (k : ∀ H' p ws, But a H H' → Flow H' a → WL H' p ws → Gn ws → ws.length = c → hv ws ≤ h → Q (.ref p) H') : tLst t σ H Q :=
  y 0 H _ (But.refl a H) f fun H1 ws t2 i2 hg hl hh _ => by
    have hz := line_eq
    refine ⟨by rw [lisV_len]; omega, fun r hr => ?_⟩
    have g := same_new hr (.lst (lisV ws))
    exact k _ r ws (t2.trans (But.same g)) (i2.mono g) upd_same hg hl hh
end
section
variable {P : Program} {w : World} {K : PySem.W.Frag} {mg : Str → Option Value} {base : Heap}
abbrev s__law_name : Stmt := top 73
theorem sc__law_name : FnScope ["flow"] ["flow"] (defScope s__law_name) := ⟨rfl, rfl, rfl, by decide +kernel, rfl, by decide +kernel, by decide +kernel⟩
theorem ok_dname {f : Addr} {fd : FuncData} (F : Fun K "_law_name" "_law_name" s__law_name f fd) (D__law_draw : Def P w K mg base CX0 "_law_draw" ["flow", "many"] 2 sp_draw) : FnOk P w K mg base CX0 3 f fd ["flow"] sp_dname := by
  refine F.ok sc__law_name (fun vs H Q E h => ?_) (fun cdv A outer s H vs Q E hr h => ?_)
  · obtain ⟨_, rfl, _⟩ := h; rfl
  obtain ⟨a, rfl, fl, hq⟩ := h
  refine ⟨_, (pss_one (ps_ret (pe_ix ix_list (pe_lst (pa_cons pe_str (pa_cons pe_str (pa_cons pe_str (pa_cons pe_str (pa_cons pe_str (pa_cons pe_str (pa_cons pe_str (pa_cons pe_str pa_nil))))))))) (pe_call D__law_draw.ok (hr.mono (by omega)) rfl D__law_draw.g D__law_draw.k D__law_draw.b .nil pass0 (pa_cons (pv 0) (pa_cons pe_int pa_nil))) (fun _ _ => rfl)))), ?_⟩
  generalize hσ : L2.start _ _ = σ0
  have hσ : σ0 = [some (.ref a)] := hσ.symm
  subst hσ
  refine ds_of (h := 0) (gg := 0) ?_ fl fun H' l b f hl hh => ?_
  · apply ys_mono
    repeat' (first | exact ya_nil | apply ya_cons | apply yw_cat | apply yw_lst | exact ys_l (by decide +kernel) (by decide +kernel) | exact ys_h (by decide +kernel) (by decide +kernel) | exact ys_d (by decide +kernel) | apply ys_pick | exact yi_draw rfl (by decide) (by decide) | decide)
  exact hq H' l b f hl (by omega)
abbrev s__law_atom : Stmt := top 74
theorem sc__law_atom : FnScope ["flow", "plain"] ["flow"] (defScope s__law_atom) := ⟨rfl, rfl, rfl, by decide +kernel, rfl, by decide +kernel, by decide +kernel⟩
section
variable {a : Addr} {W : Wld a} {σ : L2.St} {H0 : Hp}
theorem ys_num : YS W (tCB (fun xs H Q => ∃ i : Int, xs = [.int i] ∧ i.natAbs.log2 < 1920 ∧ Q (.str (toString i)) H) (tCons (tOp (rI0 fun i j => V.int (i - j)) (tOp (rI CPow fun i j => V.int (i ^ j.toNat)) (tC (V.int 2)) (tC (V.int 59))) (tC (V.int 1))) tNil)) σ H0 0 0 := fun L H Q t1 i k => by
  refine ⟨2, 59, rfl, rfl, ⟨by decide, by decide, by decide⟩, _, _, rfl, rfl, _, rfl, by decide, ?_⟩
  have e : (toString ((2 : Int) ^ (59 : Int).toNat - 1) : Str) = S (codes "576460752303423487") := (congrArg Str.ofString (show toString ((2 : Int) ^ (59 : Int).toNat - 1) = "576460752303423487" from by decide +kernel)).trans (S_of _)
  show Q (V.str (toString ((2 : Int) ^ (59 : Int).toNat - 1) : Str)) H
  rw [e]
  exact k H _ (W.refl H) i (by decide +kernel) (by decide +kernel) (by decide +kernel)
end
theorem ok_datom (T : Txt K mg) {f : Addr} {fd : FuncData} (F : Fun K "_law_atom" "_law_atom" s__law_atom f fd) (D__law_draw : Def P w K mg base CX0 "_law_draw" ["flow", "many"] 2 sp_draw) (D__law_name : Def P w K mg base CX0 "_law_name" ["flow"] 3 sp_dname) : FnOk P w K mg base CX0 4 f fd ["flow"] (sp_dlist 1 0) := by
  refine F.ok sc__law_atom (fun vs H Q E h => ?_) (fun cdv A outer s H vs Q E hr h => ?_)
  · obtain ⟨_, rfl, _⟩ := h; rfl
  obtain ⟨a, rfl, fl, hq⟩ := h
  refine ⟨_, (pss_cons (ps_set (i := 1) sc__law_atom.nd rfl (Or.inl rfl) (pe_lst (pa_cons pe_str (pa_cons pe_str (pa_cons (pe_callTy call_str_int rfl T.n_str boot_str (pa_cons (pe_op op_sub (pe_op op_pow pe_int pe_int) pe_int) pa_nil)) (pa_cons pe_str (pa_cons pe_str (pa_cons pe_str (pa_cons pe_str (pa_cons pe_str (pa_cons pe_str pa_nil)))))))))))
    (pss_one (ps_ret (pe_lst (pa_cons (pe_ix ix_list (pe_op op_cat (pv 1) (pe_lst (pa_cons (pe_call D__law_name.ok (hr.mono (by omega)) rfl D__law_name.g D__law_name.k D__law_name.b .nil pass0 (pa_cons (pv 0) pa_nil)) (pa_cons (pe_call D__law_name.ok (hr.mono (by omega)) rfl D__law_name.g D__law_name.k D__law_name.b .nil pass0 (pa_cons (pv 0) pa_nil)) (pa_cons (pe_call D__law_name.ok (hr.mono (by omega)) rfl D__law_name.g D__law_name.k D__law_name.b .nil pass0 (pa_cons (pv 0) pa_nil)) pa_nil))))) (pe_call D__law_draw.ok (hr.mono (by omega)) rfl D__law_draw.g D__law_draw.k D__law_draw.b .nil pass0 (pa_cons (pv 0) (pa_cons pe_int pa_nil))) (fun _ _ => rfl)) pa_nil))))), ?_⟩
  generalize hσ : L2.start _ _ = σ0
  have hσ : σ0 = [some (.ref a), none] := hσ.symm
  subst hσ
  have hz := line_eq
  refine seq_set ?_
  refine da_of (a := a) (c := 9) (h := 0) (gg := 0) (ya_mono (ya_cons (ys_l (by decide +kernel) (by decide +kernel)) (ya_cons (ys_l (by decide +kernel) (by decide +kernel)) (ya_cons ys_num (ya_cons (ys_l (by decide +kernel) (by decide +kernel)) (ya_cons (ys_l (by decide +kernel) (by decide +kernel)) (ya_cons (ys_l (by decide +kernel) (by decide +kernel)) (ya_cons (ys_l (by decide +kernel) (by decide +kernel)) (ya_cons (ys_l (by decide +kernel) (by decide +kernel)) (ya_cons (ys_l (by decide +kernel) (by decide +kernel)) ya_nil))))))))) (by decide) (by decide)) (by decide) fl fun H1 p ws b1 f1 hw hg hl hh => ?_
  refine dlist_of (a := a) (c' := 1) (h' := 0) (yw_lst (ya_mono (ya_cons (ys_mono (ys_pickW (ye_cat (L0 := 0) (W := flowW a) f1 hw hg rfl (ya_cons (ys_name rfl) (ya_cons (ys_name rfl) (ya_cons (ys_name rfl) ya_nil))) (by omega) (by decide)) (yi_draw rfl (by decide) (by decide)) (by rw [hl]; decide)) (h' := 0) (gg' := 0) (by omega) (by have := dv_hv ws; omega)) ya_nil) (by decide) (by decide))) (Nat.le_refl _) (Nat.le_refl _) (by decide) f1 fun H' p' ws' b' f' => hq H' p' ws' (b1.trans b') f'
abbrev s__law_called : Stmt := top 76
theorem sc__law_called : FnScope ["flow", "found", "k"] ["flow"] (defScope s__law_called) := ⟨rfl, rfl, rfl, by decide +kernel, rfl, by decide +kernel, by decide +kernel⟩
theorem ok_dcalled (T : Txt K mg) {f : Addr} {fd : FuncData} (F : Fun K "_law_called" "_law_called" s__law_called f fd) (D__law_draw : Def P w K mg base CX0 "_law_draw" ["flow", "many"] 2 sp_draw) (D__law_name : Def P w K mg base CX0 "_law_name" ["flow"] 3 sp_dname) : FnOk P w K mg base CX0 4 f fd ["flow"] (sp_dlist 8 1) := by
  refine F.ok sc__law_called (fun vs H Q E h => ?_) (fun cdv A outer s H vs Q E hr h => ?_)
  · obtain ⟨_, rfl, _⟩ := h; rfl
  obtain ⟨a, rfl, fl, hq⟩ := h
  refine ⟨_, (pss_cons (ps_set (i := 1) sc__law_called.nd rfl (Or.inl rfl) (pe_lst pa_nil))
    (pss_cons (ps_for PassesOwn.never rfl (pi_range1 rfl T.n_range (pa_cons (pe_ix ix_list (pe_lst (pa_cons pe_int (pa_cons pe_int (pa_cons pe_int (pa_cons pe_int pa_nil))))) (pe_call D__law_draw.ok (hr.mono (by omega)) rfl D__law_draw.g D__law_draw.k D__law_draw.b .nil pass0 (pa_cons (pv 0) (pa_cons pe_int pa_nil))) (fun _ _ => rfl)) pa_nil)) (pg_name (i := 2) sc__law_called.nd rfl (Or.inl rfl)) (pss_one (ps_set (i := 1) sc__law_called.nd rfl (Or.inl rfl) (pe_op op_cat (pe_op op_cat (pv 1) (pe_ifExp (pt_cmpR op_gt (pv 2) pe_int (nomark _)) (pe_lst (pa_cons pe_str pa_nil)) (pe_lst pa_nil))) (pe_lst (pa_cons (pe_call D__law_name.ok (hr.mono (by omega)) rfl D__law_name.g D__law_name.k D__law_name.b .nil pass0 (pa_cons (pv 0) pa_nil)) pa_nil))))))
    (pss_one (ps_ret (pe_op op_cat (pe_op op_cat (pe_lst (pa_cons pe_str pa_nil)) (pv 1)) (pe_lst (pa_cons pe_str pa_nil))))))), ?_⟩
  generalize hσ : L2.start _ _ = σ0
  have hσ : σ0 = [some (.ref a), none, none] := hσ.symm
  subst hσ
  have hz := line_eq
  refine seq_set ?_
  refine ⟨(by show 0 ≤ _; omega), fun q nq => ?_⟩
  have g0 := same_new nq (.lst [])
  have W0 : WL (upd H q (.lst [])) q [] := upd_same
  have fl0 := fl.mono g0
  generalize upd H q (.lst []) = H1 at g0 W0 fl0
  have b0 : But a H H1 := But.same g0
  refine seq_join (fun σ H' => ∃ p ws x2, σ = [some (.ref a), some (.ref p), x2] ∧ But a H H' ∧ Flow H' a ∧ WL H' p ws ∧ Gw ws ∧ ws.length ≤ 6 ∧ hv ws = 0) ?_ ?_
  · rintro σ H2 ⟨p, ws, x2, rfl, b2, f2, hw, hg, hl, hh⟩
    refine dlist_of (a := a) (c' := 1 + ws.length + 1) (h' := 1 + hv ws + 0) (YW.mono (yw_cat (yw_cat (yw_lst (ya_cons (ys_h (by decide +kernel) (by decide +kernel)) ya_nil)) (yw_var (L0 := 0) (W := flowW a) f2 hw hg rfl)) (yw_lst (ya_cons (ys_l (by decide +kernel) (by decide +kernel)) ya_nil))) (Nat.le_refl _) (Nat.le_refl _) (by have := dv_hv ws; omega)) (by omega) (by omega) (by decide) f2 fun H' p' ws' b' f' => hq H' p' ws' (b2.trans b') f'
  intro NX nx
  refine yi_ints (W := flowW a) (xs := [0, 1, 2, 3]) (n := 4) (fun _ _ q => q) (yi_draw rfl (by decide) (by decide)) (by decide) (by decide) (by decide) 0 H1 _ (But.refl a H1) fl0 fun H2 d b1 f1 hd => ?_
  refine ⟨_, rfl, by omega, by omega, ?_⟩
  rw [Int.toNat_natCast]
  refine for_range (fun k σ H' => ∃ p ws x2, σ = [some (.ref a), some (.ref p), x2] ∧ But a H1 H' ∧ Flow H' a ∧ WL H' p ws ∧ Gw ws ∧ ws.length ≤ 2 * k ∧ hv ws = 0) ⟨q, [], _, rfl, b1, f1, (flowW a).keep (L := 0) fl0 b1 W0, Gw.nil, Nat.zero_le _, rfl⟩ ?_ ?_
  rotate_left
  · rintro σ H3 ⟨p, ws, x2, rfl, b3, f3, hw, hg, hl, hh⟩
    exact nx _ _ ⟨p, ws, x2, rfl, b0.trans b3, f3, hw, hg, by omega, hh⟩
  rintro k σ H3 hk ⟨p, ws, x2, rfl, b3, f3, hw, hg, hl, hh⟩
  refine g_name ?_
  have hy : YW (flowW a) (tOp rCat (tOp rCat (tVar 1) (tIf (tTest (tOp (rI0 fun i j => V.bl (decide (j < i))) (tVar 2) (tC (V.int 0)))) (tLst (tCons (tC (V.str ",")) tNil)) (tLst tNil))) (tLst (tCons (tCall sp_dname [] E0 (tCons (tVar 0) tNil)) tNil))) [some (.ref a), some (.ref p), some (.int (0 + (k : Int)))] H3 (ws.length + 1 + 1) (hv ws + 0 + (0 + 0)) (dv ws + 0 + (0 + 0)) :=
    yw_cat (yw_cat (yw_var (L0 := 0) (W := flowW a) f3 hw hg rfl) (yw_if (fun L H Q t1 i k => ⟨_, rfl, _, _, rfl, rfl, _, rfl, k _ _ ((flowW a).refl _) i⟩) (yw_lst (ya_cons (ys_l (by decide +kernel) (by decide +kernel)) ya_nil)) (yw_some (yw_lst ya_nil) (by decide) (by decide)))) (yw_lst (ya_cons (ys_name rfl) ya_nil))
  refine hy (by omega) 0 H3 _ (But.refl a H3) f3 (by decide) fun H4 p4 ws4 L4 b4 f4 l4 hw4 hg4 h1 h2 _ => ?_
  exact ⟨p4, ws4, _, rfl, b3.trans b4, f4, hw4, hg4, by simp at h1; omega, by simp at h2; omega⟩
end
end Wk
set_option maxRecDepth 100000
set_option maxHeartbeats 8000000
namespace Wk
open PySem L2 TL PyProof.Rows Gm Gr
open SX (S S_len)
/-- words, drawn, and fewer left; one at least -/
def sp_leftN (r c h : Nat) (off : Int) : Sp := fun vs H Q E => ∃ (a l : Addr) (L : Int), vs = [.ref a, .ref l, .int (r : Int)] ∧ (leftW a l).inv L H ∧ L ≤ 1000 ∧
  ∀ H' p ws L', ws ≠ [] → (leftW a l).tr H H' → (leftW a l).inv L' H' → L' ≤ L → WL H' p ws → Gw ws → ws.length + 12 * L'.toNat ≤ c + 12 * (L - off).toNat → hv ws + 4 * L'.toNat ≤ h + 4 * (L - off).toNat → dv ws + L'.toNat ≤ (L - off).toNat → Q (.ref p) H'
theorem leftN_of {r c h : Nat} {off : Int} {vs : List V} {H : Hp} {Q : VK} {E : XK} (q : sp_left r c h off vs H Q E) : sp_leftN r c h off vs H Q E := by
  obtain ⟨a, l, L, e, i, hL, k⟩ := q
  exact ⟨a, l, L, e, i, hL, fun H' p ws L' _ => k H' p ws L'⟩
section
variable {P : Program} {w : World} {K : PySem.W.Frag} {mg : Str → Option Value} {base : Heap}
abbrev s__law_some : Stmt := top 75
theorem sc__law_some : FnScope ["flow", "left", "room", "found", "k"] ["flow", "left", "room"] (defScope s__law_some) := ⟨rfl, rfl, rfl, by decide +kernel, rfl, by decide +kernel, by decide +kernel⟩
theorem ok_dsome {r lv : Nat} (T : Txt K mg) {f : Addr} {fd : FuncData} (F : Fun K "_law_some" "_law_some" s__law_some f fd) (D__law_draw : Def P w K mg base CX0 "_law_draw" ["flow", "many"] 2 sp_draw) (hlv : 2 ≤ lv) (D__law_e : Def P w K mg base CX0 "_law_e" ["flow", "left", "room"] lv (sp_left r 1 0 0)) : FnOk P w K mg base CX0 (lv + 1) f fd ["flow", "left", "room"] (sp_left r 6 0 0) := by
  refine F.ok sc__law_some (fun vs H Q E h => ?_) (fun cdv A outer s H vs Q E hr h => ?_)
  · obtain ⟨_, _, _, rfl, _⟩ := h; rfl
  obtain ⟨a, l, L, rfl, hi, hL, hq⟩ := h
  refine ⟨_, (pss_cons (ps_set (i := 3) sc__law_some.nd rfl (Or.inl rfl) (pe_lst pa_nil))
    (pss_cons (ps_for PassesOwn.never rfl (pi_range1 rfl T.n_range (pa_cons (pe_ix ix_list (pe_lst (pa_cons pe_int (pa_cons pe_int (pa_cons pe_int (pa_cons pe_int (pa_cons pe_int pa_nil)))))) (pe_call D__law_draw.ok (hr.mono (by omega)) rfl D__law_draw.g D__law_draw.k D__law_draw.b .nil pass0 (pa_cons (pv 0) (pa_cons pe_int pa_nil))) (fun _ _ => rfl)) pa_nil)) (pg_name (i := 4) sc__law_some.nd rfl (Or.inl rfl)) (pss_one (ps_set (i := 3) sc__law_some.nd rfl (Or.inl rfl) (pe_op op_cat (pe_op op_cat (pv 3) (pe_ifExp (pt_cmpR op_gt (pv 4) pe_int (nomark _)) (pe_lst (pa_cons pe_str pa_nil)) (pe_lst pa_nil))) (pe_call D__law_e.ok (hr.mono (by omega)) rfl D__law_e.g D__law_e.k D__law_e.b .nil pass0 (pa_cons (pv 0) (pa_cons (pv 1) (pa_cons (pv 2) pa_nil))))))))
    (pss_one (ps_ret (pv 3))))), ?_⟩
  generalize hσ : L2.start _ _ = σ0
  have hσ : σ0 = [some (.ref a), some (.ref l), some (.int (r : Int)), none, none] := hσ.symm
  subst hσ
  have hz := line_eq
  refine seq_set ?_
  refine ⟨(by show 0 ≤ _; omega), fun q nq => ?_⟩
  have g0 := same_new nq (.lst [])
  have W0 : WL (upd H q (.lst [])) q [] := upd_same
  obtain ⟨i0, t0⟩ := (leftW a l).same hi g0
  generalize upd H q (.lst []) = H1 at g0 W0 i0 t0
  refine seq_join (fun σ H' => ∃ p ws L' x4, σ = [some (.ref a), some (.ref l), some (.int (r : Int)), some (.ref p), x4] ∧ (leftW a l).tr H H' ∧ (leftW a l).inv L' H' ∧ L' ≤ L ∧ WL H' p ws ∧ Gw ws ∧ ws.length + 12 * L'.toNat ≤ 6 + 12 * L.toNat ∧ hv ws + 4 * L'.toNat ≤ 4 * L.toNat ∧ dv ws + L'.toNat ≤ L.toNat) ?_ ?_
  · rintro σ H2 ⟨p, ws, L', x4, rfl, t2, i2, l2, hw, hg, h1, h2, h2d⟩
    exact ⟨_, rfl, hq H2 p ws L' t2 i2 l2 hw hg (by simpa using h1) (by simpa using h2) (by simpa using h2d)⟩
  intro NX nx
  refine yi_ints (W := leftW a l) (xs := [0, 1, 1, 2, 3]) (n := 4) (fun _ _ q => q) (yi_draw rfl (by decide) (by decide)) (by decide) (by decide) (by decide) L H1 _ ((leftW a l).refl H1) i0 fun H2 d t2 i2 hd => ?_
  refine ⟨_, rfl, by omega, by omega, ?_⟩
  rw [Int.toNat_natCast]
  refine for_range (fun k σ H' => ∃ p ws L' x4, σ = [some (.ref a), some (.ref l), some (.int (r : Int)), some (.ref p), x4] ∧ (leftW a l).tr H1 H' ∧ (leftW a l).inv L' H' ∧ L' ≤ L ∧ WL H' p ws ∧ Gw ws ∧ ws.length + 12 * L'.toNat ≤ 2 * k + 12 * L.toNat ∧ hv ws + 4 * L'.toNat ≤ 4 * L.toNat ∧ dv ws + L'.toNat ≤ L.toNat)
    ⟨q, [], L, _, rfl, t2, i2, Int.le_refl _, (leftW a l).keep i0 t2 W0, Gw.nil, by simp, by simp [hv], by simp [dv]⟩ ?_ ?_
  rotate_left
  · rintro σ H3 ⟨p, ws, L', x4, rfl, t3, i3, l3, hw, hg, h1, h2, h2d⟩
    exact nx _ _ ⟨p, ws, L', x4, rfl, (leftW a l).trans t0 t3, i3, l3, hw, hg, by omega, h2, h2d⟩
  rintro k σ H3 hk ⟨p, ws, L', x4, rfl, t3, i3, l3, hw, hg, h1, h2, h2d⟩
  refine g_name ?_
  have hy : YW (leftW a l) (tOp rCat (tOp rCat (tVar 3) (tIf (tTest (tOp (rI0 fun i j => V.bl (decide (j < i))) (tVar 4) (tC (V.int 0)))) (tLst (tCons (tC (V.str ",")) tNil)) (tLst tNil))) (tCall (sp_left r 1 0 0) [] E0 (tCons (tVar 0) (tCons (tVar 1) (tCons (tVar 2) tNil))))) [some (.ref a), some (.ref l), some (.int (r : Int)), some (.ref p), some (.int (0 + (k : Int)))] H3 (ws.length + 1 + 1) (hv ws + 0 + 0) (dv ws + 0 + 0) :=
    yw_cat (yw_cat (yw_var i3 hw hg rfl) (yw_if (fun L H Q t1 i k => ⟨_, rfl, _, _, rfl, rfl, _, rfl, k _ _ ((leftW a l).refl _) i⟩) (yw_lst (ya_cons (ys_l (by decide +kernel) (by decide +kernel)) ya_nil)) (yw_some (yw_lst ya_nil) (by decide) (by decide)))) (yw_left rfl rfl fun H Q q => ⟨_, rfl, q⟩)
  refine hy (by omega) L' H3 _ ((leftW a l).refl H3) i3 (by omega) fun H4 p4 ws4 L4 t4 i4 l4 hw4 hg4 h3 h4 h5 => ?_
  exact ⟨p4, ws4, L4, _, rfl, (leftW a l).trans t3 t4, i4, by omega, hw4, hg4, by omega, by omega, by omega⟩
abbrev s__law_rows : Stmt := top 78
theorem sc__law_rows : FnScope ["flow", "left", "room", "found", "k"] ["flow", "left", "room"] (defScope s__law_rows) := ⟨rfl, rfl, rfl, by decide +kernel, rfl, by decide +kernel, by decide +kernel⟩
theorem ok_drows {r lv : Nat} (T : Txt K mg) {f : Addr} {fd : FuncData} (F : Fun K "_law_rows" "_law_rows" s__law_rows f fd) (D__law_draw : Def P w K mg base CX0 "_law_draw" ["flow", "many"] 2 sp_draw) (hlv : 2 ≤ lv) (D__law_row : Def P w K mg base CX0 "_law_row" ["flow", "left", "room"] lv (fun vs H Q E => 0 < r ∧ sp_left r 7 4 1 vs H Q E)) : FnOk P w K mg base CX0 (lv + 1) f fd ["flow", "left", "room"] (sp_leftN r 2 1 0) := by
  refine F.ok sc__law_rows (fun vs H Q E h => ?_) (fun cdv A outer s H vs Q E hr h => ?_)
  · obtain ⟨_, _, _, rfl, _⟩ := h; rfl
  obtain ⟨a, l, L, rfl, hi, hL, hq⟩ := h
  refine ⟨_, (pss_cons (ps_set (i := 3) sc__law_rows.nd rfl (Or.inl rfl) (pe_lst (pa_cons pe_str pa_nil)))
    (pss_cons (ps_for PassesOwn.never rfl (pi_range1 rfl T.n_range (pa_cons (pe_ix ix_list (pe_lst (pa_cons pe_int (pa_cons pe_int (pa_cons pe_int (pa_cons pe_int pa_nil))))) (pe_call D__law_draw.ok (hr.mono (by omega)) rfl D__law_draw.g D__law_draw.k D__law_draw.b .nil pass0 (pa_cons (pv 0) (pa_cons pe_int pa_nil))) (fun _ _ => rfl)) pa_nil)) (pg_name (i := 4) sc__law_rows.nd rfl (Or.inl rfl)) (pss_one (ps_if (PW.pt (pw_and (pt_cmpR op_gt (pe_ix ix_list (pv 1) pe_int (fun _ _ => rfl)) pe_int (nomark _)) (pw_and1 (pt_cmpR op_gt (pv 2) pe_int (nomark _))))) (pss_one (ps_set (i := 3) sc__law_rows.nd rfl (Or.inl rfl) (pe_op op_cat (pv 3) (pe_call D__law_row.ok (hr.mono (by omega)) rfl D__law_row.g D__law_row.k D__law_row.b .nil pass0 (pa_cons (pv 0) (pa_cons (pv 1) (pa_cons (pv 2) pa_nil))))))) pss_nil)))
    (pss_one (ps_ret (pe_op op_cat (pv 3) (pe_lst (pa_cons pe_str pa_nil))))))), ?_⟩
  generalize hσ : L2.start _ _ = σ0
  have hσ : σ0 = [some (.ref a), some (.ref l), some (.int (r : Int)), none, none] := hσ.symm
  subst hσ
  have hz := line_eq
  refine seq_set ?_
  have hy0 : YW (leftW a l) (tLst (tCons (tC (V.str "{")) tNil)) [some (.ref a), some (.ref l), some (.int (r : Int)), none, none] H 1 1 0 := yw_lst (ya_cons (ys_h (by decide +kernel) (by decide +kernel)) ya_nil)
  refine hy0 (by omega) L H _ ((leftW a l).refl H) hi hL fun H1 q ws0 L0 t0 i0 l0 W0 g0 h01 h02 h03 => ?_
  refine seq_join (fun σ H' => ∃ p ws L' x4, σ = [some (.ref a), some (.ref l), some (.int (r : Int)), some (.ref p), x4] ∧ (leftW a l).tr H H' ∧ (leftW a l).inv L' H' ∧ L' ≤ L ∧ WL H' p ws ∧ Gw ws ∧ ws.length + 12 * L'.toNat ≤ 1 + 12 * L.toNat ∧ hv ws + 4 * L'.toNat ≤ 1 + 4 * L.toNat ∧ dv ws + L'.toNat ≤ L.toNat) ?_ ?_
  · rintro σ H2 ⟨p, ws, L', x4, rfl, t2, i2, l2, hw, hg, h1, h2, h2d⟩
    refine ⟨_, rfl, (by show 1 ≤ _; omega), fun p8 n8 => ?_⟩
    obtain ⟨i8, t8⟩ := (leftW a l).same i2 (same_new n8 (.lst [V.str "}"]))
    have hw8 := (leftW a l).keep i2 t8 hw
    have e8 : WL (upd H2 p8 (.lst [V.str "}"])) p8 [codes "}"] := by unfold WL; rw [upd_same]; rfl
    have hh : hv [codes "}"] = 0 := by decide +kernel
    have hd : dv [codes "}"] = 0 := by decide +kernel
    refine ⟨p, p8, _, _, rfl, rfl, hw8, e8, by rw [lisV_len, lisV_len, List.length_singleton]; omega, fun r8 m8 => ?_⟩
    obtain ⟨i9, t9⟩ := (leftW a l).same i8 (same_new m8 (.lst (lisV ws ++ lisV [codes "}"])))
    exact hq _ r8 (ws ++ [codes "}"]) L' (by simp) ((leftW a l).trans t2 ((leftW a l).trans t8 t9)) i9 l2 (by unfold WL; rw [upd_same, lisV_app]) (hg.app (Gn.one (by decide +kernel)).gw) (by rw [List.length_append, List.length_singleton]; simp; omega) (by rw [hv_app, hh]; simp; omega) (by rw [dv_app, hd]; simp; omega)
  intro NX nx
  refine yi_ints (W := leftW a l) (xs := [0, 1, 2, 3]) (n := 4) (fun _ _ q => q) (yi_draw rfl (by decide) (by decide)) (by decide) (by decide) (by decide) L0 H1 _ ((leftW a l).refl H1) i0 fun H2 d t2 i2 hd => ?_
  refine ⟨_, rfl, by omega, by omega, ?_⟩
  rw [Int.toNat_natCast]
  refine for_range (fun k σ H' => ∃ p ws L' x4, σ = [some (.ref a), some (.ref l), some (.int (r : Int)), some (.ref p), x4] ∧ (leftW a l).tr H1 H' ∧ (leftW a l).inv L' H' ∧ L' ≤ L ∧ WL H' p ws ∧ Gw ws ∧ ws.length + 12 * L'.toNat ≤ 1 + 12 * L.toNat ∧ hv ws + 4 * L'.toNat ≤ 1 + 4 * L.toNat ∧ dv ws + L'.toNat ≤ L.toNat)
    ⟨q, ws0, L0, _, rfl, t2, i2, l0, (leftW a l).keep i0 t2 W0, g0, h01, h02, by simpa using h03⟩ ?_ ?_
  rotate_left
  · rintro σ H3 ⟨p, ws, L', x4, rfl, t3, i3, l3, hw, hg, h1, h2, h2d⟩
    exact nx _ _ ⟨p, ws, L', x4, rfl, (leftW a l).trans t0 t3, i3, l3, hw, hg, h1, h2, h2d⟩
  rintro k σ H3 hk ⟨p, ws, L', x4, rfl, t3, i3, l3, hw, hg, h1, h2, h2d⟩
  refine g_name ?_
  have hl3 : H3 l = some (.lst [.int L']) := i3.2.1
  refine ⟨_, rfl, l, _, _, _, rfl, rfl, SqL.of hl3, atI_nat (j := 0) rfl, _, _, rfl, rfl, _, rfl, ?_⟩
  have skip : ∃ p ws L' x4', [some (V.ref a), some (.ref l), some (.int (r : Int)), some (.ref p), some (.int (0 + (k : Int)))] = [some (.ref a), some (.ref l), some (.int (r : Int)), some (.ref p), x4'] ∧ (leftW a l).tr H1 H3 ∧ (leftW a l).inv L' H3 ∧ L' ≤ L ∧ WL H3 p ws ∧ Gw ws ∧ ws.length + 12 * L'.toNat ≤ 1 + 12 * L.toNat ∧ hv ws + 4 * L'.toNat ≤ 1 + 4 * L.toNat ∧ dv ws + L'.toNat ≤ L.toNat :=
    ⟨p, ws, L', _, rfl, t3, i3, l3, hw, hg, h1, h2, h2d⟩
  refine ited (fun hLp => ?_) (fun _ => iteF (go_next ⟨p, ws, L', _, rfl, t3, i3, l3, hw, hg, h1, h2, h2d⟩))
  refine ⟨_, rfl, _, _, rfl, rfl, _, rfl, ?_⟩
  refine ited (fun hrp => ?_) (fun _ => go_next ⟨p, ws, L', _, rfl, t3, i3, l3, hw, hg, h1, h2, h2d⟩)
  refine ⟨_, rfl, _, rfl, _, rfl, _, rfl, by omega, ?_⟩
  refine ⟨a, l, L', rfl, i3, by omega, fun H4 p4 ws4 L4 t4 i4 l4 hw4 hg4 h3 h4 h5 => ?_⟩
  have hw3 := (leftW a l).keep i3 t4 hw
  refine ⟨p, p4, _, _, rfl, rfl, hw3, hw4, by rw [lisV_len, lisV_len]; omega, fun p5 n5 => ?_⟩
  obtain ⟨i5, t5⟩ := (leftW a l).same i4 (same_new n5 (.lst (lisV ws ++ lisV ws4)))
  exact ⟨p5, ws ++ ws4, L4, _, rfl, (leftW a l).trans t3 ((leftW a l).trans t4 t5), i5, by omega, by unfold WL; rw [upd_same, lisV_app], hg.app hg4, by rw [List.length_append]; omega, by rw [hv_app]; omega, by rw [dv_app]; omega⟩
end
end Wk
set_option maxRecDepth 100000
set_option maxHeartbeats 16000000
namespace Wk
open PySem L2 TL PyProof.Rows Gm Gr
open SX (S S_len)
/-- with a room less -/
def sp_leftP (r c h : Nat) (off : Int) : Sp := fun vs H Q E => ∃ r', r = r' + 1 ∧ sp_left r' c h off vs H Q E
theorem left_down {a l : Addr} {L : Int} {H : Hp} (L' : Int) (h : (leftW a l).inv L H) : (leftW a l).inv L' (upd H l (.lst [.int L'])) ∧ (leftW a l).tr H (upd H l (.lst [.int L'])) := by
  obtain ⟨⟨s, ns, i, c, z, h1, h2, h3⟩, hl, hn⟩ := h
  refine ⟨⟨?_, upd_same, hn⟩, fun b o _ nb hb => by rw [upd_ne nb]; exact hb⟩
  by_cases e : s = l
  · subst e
    exact ⟨s, [L'], i, c, z, by rw [upd_ne hn.symm]; exact h1, upd_same, hn⟩
  · exact ⟨s, ns, i, c, z, by rw [upd_ne hn.symm]; exact h1, by rw [upd_ne e]; exact h2, h3⟩
theorem yw_leftP {a l : Addr} {σ : L2.St} {H0 : Hp} {r c h : Nat} (e : σ[0]? = some (some (.ref a))) (e1 : σ[1]? = some (some (.ref l))) (e2 : σ[2]? = some (some (.int (r : Int)))) (hr : 0 < r) : YW (leftW a l) (tCall (sp_leftP r c h 0) [] E0 (tCons (tVar 0) (tCons (tVar 1) (tCons (tOp (rI0 fun i j => V.int (i - j)) (tVar 2) (tC (V.int 1))) tNil)))) σ H0 c h 0 := fun _ L H Q t1 i hL k =>
  ⟨_, e, _, e1, _, e2, _, _, rfl, rfl, r - 1, by omega, a, l, L, (by
    have : (r : Int) - 1 = ((r - 1 : Nat) : Int) := by omega
    show [V.ref a, V.ref l, V.int ((r : Int) - 1)] = _
    rw [this]), i, hL, fun H' p ws L' t2 i2 l2 hw hg h1 h2 h3 => k H' p ws L' t2 i2 l2 hw hg (by simpa using h1) (by simpa using h2) (by simpa using h3)⟩
section
variable {P : Program} {w : World} {K : PySem.W.Frag} {mg : Str → Option Value} {base : Heap}
abbrev s__law_e : Stmt := top 77
theorem sc__law_e : FnScope ["flow", "left", "room", "way", "first_v", "word"] ["flow", "left", "room"] (defScope s__law_e) := ⟨rfl, rfl, rfl, by decide +kernel, rfl, by decide +kernel, by decide +kernel⟩
theorem ok_de {r lv : Nat} (T : Txt K mg) {f : Addr} {fd : FuncData} (F : Fun K "_law_e" "_law_e" s__law_e f fd) (D__law_draw : Def P w K mg base CX0 "_law_draw" ["flow", "many"] 2 sp_draw) (hlv : 4 ≤ lv) (D__law_name : Def P w K mg base CX0 "_law_name" ["flow"] 3 sp_dname)
    (D__law_atom : Def P w K mg base CX0 "_law_atom" ["flow"] 4 (sp_dlist 1 0)) (D__law_called : Def P w K mg base CX0 "_law_called" ["flow"] 4 (sp_dlist 8 1)) (D__law_e : Def P w K mg base CX0 "_law_e" ["flow", "left", "room"] lv (sp_leftP r 1 0 0))
    (D__law_some : Def P w K mg base CX0 "_law_some" ["flow", "left", "room"] lv (sp_leftP r 6 0 0)) (D__law_rows : Def P w K mg base CX0 "_law_rows" ["flow", "left", "room"] lv (sp_leftP r 2 1 0)) : FnOk P w K mg base CX0 (lv + 1) f fd ["flow", "left", "room"] (sp_left r 1 0 0) := by
  refine F.ok sc__law_e (fun vs H Q E h => ?_) (fun cdv A outer s H vs Q E hr h => ?_)
  · obtain ⟨_, _, _, rfl, _⟩ := h; rfl
  obtain ⟨a, l, L, rfl, hi, hL, hq⟩ := h
  refine ⟨_, (pss_cons (ps_augS (pv 1) pe_int pget_list pe_int ip_sub set_list)
    (pss_cons (ps_set (i := 3) sc__law_e.nd rfl (Or.inl rfl) (pe_call D__law_draw.ok (hr.mono (by omega)) rfl D__law_draw.g D__law_draw.k D__law_draw.b .nil pass0 (pa_cons (pv 0) (pa_cons pe_int pa_nil))))
    (pss_cons (ps_if (PW.pt (pw_or (pt_cmpR op_le (pv 2) pe_int (nomark _)) (pw_or (pt_cmpR op_le (pe_ix ix_list (pv 1) pe_int (fun _ _ => rfl)) pe_int (nomark _)) (pw_or1 (pt_cmpR op_lt (pv 3) pe_int (nomark _)))))) (pss_one (ps_ret (pe_call D__law_atom.ok (hr.mono (by omega)) rfl D__law_atom.g D__law_atom.k D__law_atom.b .nil pass0 (pa_cons (pv 0) pa_nil)))) pss_nil)
    (pss_cons (ps_if (pt_cmpR op_eq (pv 3) pe_int (nomark _)) (pss_one (ps_ret (pe_op op_cat (pe_op op_cat (pe_lst (pa_cons pe_str pa_nil)) (pe_call D__law_some.ok (hr.mono (by omega)) rfl D__law_some.g D__law_some.k D__law_some.b .nil pass0 (pa_cons (pv 0) (pa_cons (pv 1) (pa_cons (pe_op op_sub (pv 2) pe_int) pa_nil))))) (pe_lst (pa_cons pe_str pa_nil))))) pss_nil)
    (pss_cons (ps_if (pt_cmpR op_eq (pv 3) pe_int (nomark _)) (pss_one (ps_ret (pe_op op_cat (pe_op op_cat (pe_lst (pa_cons pe_str pa_nil)) (pe_call D__law_called.ok (hr.mono (by omega)) rfl D__law_called.g D__law_called.k D__law_called.b .nil pass0 (pa_cons (pv 0) pa_nil))) (pe_call D__law_rows.ok (hr.mono (by omega)) rfl D__law_rows.g D__law_rows.k D__law_rows.b .nil pass0 (pa_cons (pv 0) (pa_cons (pv 1) (pa_cons (pe_op op_sub (pv 2) pe_int) pa_nil))))))) pss_nil)
    (pss_cons (ps_if (pt_cmpR op_eq (pv 3) pe_int (nomark _)) (pss_one (ps_ret (pe_op op_cat (pe_op op_cat (pe_lst (pa_cons pe_str (pa_cons (pe_call D__law_name.ok (hr.mono (by omega)) rfl D__law_name.g D__law_name.k D__law_name.b .nil pass0 (pa_cons (pv 0) pa_nil)) (pa_cons pe_str pa_nil)))) (pe_call D__law_some.ok (hr.mono (by omega)) rfl D__law_some.g D__law_some.k D__law_some.b .nil pass0 (pa_cons (pv 0) (pa_cons (pv 1) (pa_cons (pe_op op_sub (pv 2) pe_int) pa_nil))))) (pe_lst (pa_cons pe_str pa_nil))))) pss_nil)
    (pss_cons (ps_if (pt_cmpR op_eq (pv 3) pe_int (nomark _)) (pss_one (ps_ret (pe_op op_cat (pe_op op_cat (pe_lst (pa_cons pe_str (pa_cons pe_str (pa_cons (pe_call D__law_name.ok (hr.mono (by omega)) rfl D__law_name.g D__law_name.k D__law_name.b .nil pass0 (pa_cons (pv 0) pa_nil)) (pa_cons pe_str pa_nil))))) (pe_call D__law_some.ok (hr.mono (by omega)) rfl D__law_some.g D__law_some.k D__law_some.b .nil pass0 (pa_cons (pv 0) (pa_cons (pv 1) (pa_cons (pe_op op_sub (pv 2) pe_int) pa_nil))))) (pe_lst (pa_cons pe_str pa_nil))))) pss_nil)
    (pss_cons (ps_if (PW.pt (pw_and (pt_cmpR op_eq (pv 3) pe_int (nomark _)) (pw_and1 (pt_cmpR op_eq (pe_call D__law_draw.ok (hr.mono (by omega)) rfl D__law_draw.g D__law_draw.k D__law_draw.b .nil pass0 (pa_cons (pv 0) (pa_cons pe_int pa_nil))) pe_int (nomark _))))) (pss_one (ps_ret (pe_lst (pa_cons pe_str (pa_cons pe_str (pa_cons pe_str pa_nil)))))) pss_nil)
    (pss_cons (ps_set (i := 4) sc__law_e.nd rfl (Or.inl rfl) (pe_call D__law_e.ok (hr.mono (by omega)) rfl D__law_e.g D__law_e.k D__law_e.b .nil pass0 (pa_cons (pv 0) (pa_cons (pv 1) (pa_cons (pe_op op_sub (pv 2) pe_int) pa_nil)))))
    (pss_cons (ps_if (pt_cmpR op_eq (pv 3) pe_int (nomark _)) (pss_one (ps_ret (pe_op op_cat (pe_op op_cat (pe_lst (pa_cons (pe_ix ix_list (pe_lst (pa_cons pe_str (pa_cons pe_str (pa_cons pe_str (pa_cons pe_str (pa_cons pe_str (pa_cons pe_str pa_nil))))))) (pe_call D__law_draw.ok (hr.mono (by omega)) rfl D__law_draw.g D__law_draw.k D__law_draw.b .nil pass0 (pa_cons (pv 0) (pa_cons pe_int pa_nil))) (fun _ _ => rfl)) (pa_cons pe_str pa_nil))) (pv 4)) (pe_lst (pa_cons pe_str pa_nil))))) pss_nil)
    (pss_cons (ps_if (pt_cmpR op_lt (pv 3) pe_int (nomark _)) (pss_one (ps_ret (pe_op op_cat (pe_lst (pa_cons (pe_ix ix_list (pe_lst (pa_cons pe_str (pa_cons pe_str pa_nil))) (pe_op op_sub (pv 3) pe_int) (fun _ _ => rfl)) pa_nil)) (pv 4)))) pss_nil)
    (pss_cons (ps_if (pt_cmpR op_eq (pv 3) pe_int (nomark _)) (pss_one (ps_ret (pe_op op_cat (pe_op op_cat (pe_lst (pa_cons pe_str pa_nil)) (pv 4)) (pe_lst (pa_cons pe_str pa_nil))))) pss_nil)
    (pss_cons (ps_if (pt_cmpR op_gt (pv 3) pe_int (nomark _)) (pss_cons (ps_set (i := 5) sc__law_e.nd rfl (Or.inl rfl) (pe_ix ix_list (pe_lst (pa_cons pe_str (pa_cons pe_str (pa_cons pe_str (pa_cons pe_str (pa_cons pe_str (pa_cons pe_str (pa_cons pe_str (pa_cons pe_str (pa_cons pe_str (pa_cons pe_str (pa_cons pe_str (pa_cons pe_str (pa_cons pe_str (pa_cons pe_str pa_nil))))))))))))))) (pe_call D__law_draw.ok (hr.mono (by omega)) rfl D__law_draw.g D__law_draw.k D__law_draw.b .nil pass0 (pa_cons (pv 0) (pa_cons pe_int pa_nil))) (fun _ _ => rfl)))
      (pss_one (ps_ret (pe_op op_cat (pe_op op_cat (pv 4) (pe_lst (pa_cons (pv 5) pa_nil))) (pe_call D__law_e.ok (hr.mono (by omega)) rfl D__law_e.g D__law_e.k D__law_e.b .nil pass0 (pa_cons (pv 0) (pa_cons (pv 1) (pa_cons (pe_op op_sub (pv 2) pe_int) pa_nil)))))))) pss_nil)
    (pss_cons (ps_if (pt_cmpR op_gt (pe_callB call_len_seq rfl T.n_len boot_len (pa_cons (pv 4) pa_nil)) pe_int (nomark _)) (pss_one (ps_set (i := 4) sc__law_e.nd rfl (Or.inl rfl) (pe_op op_cat (pe_op op_cat (pe_lst (pa_cons pe_str pa_nil)) (pv 4)) (pe_lst (pa_cons pe_str pa_nil))))) pss_nil)
    (pss_cons (ps_if (pt_cmpR op_eq (pv 3) pe_int (nomark _)) (pss_one (ps_ret (pe_op op_cat (pe_op op_cat (pe_op op_cat (pv 4) (pe_lst (pa_cons pe_str pa_nil))) (pe_call D__law_some.ok (hr.mono (by omega)) rfl D__law_some.g D__law_some.k D__law_some.b .nil pass0 (pa_cons (pv 0) (pa_cons (pv 1) (pa_cons (pe_op op_sub (pv 2) pe_int) pa_nil))))) (pe_lst (pa_cons pe_str pa_nil))))) pss_nil)
    (pss_cons (ps_if (pt_cmpR op_eq (pv 3) pe_int (nomark _)) (pss_one (ps_ret (pe_op op_cat (pv 4) (pe_lst (pa_cons pe_str (pa_cons (pe_call D__law_name.ok (hr.mono (by omega)) rfl D__law_name.g D__law_name.k D__law_name.b .nil pass0 (pa_cons (pv 0) pa_nil)) pa_nil)))))) pss_nil)
    (pss_cons (ps_if (pt_cmpR op_eq (pv 3) pe_int (nomark _)) (pss_one (ps_ret (pe_op op_cat (pe_op op_cat (pe_op op_cat (pv 4) (pe_lst (pa_cons pe_str (pa_cons (pe_call D__law_name.ok (hr.mono (by omega)) rfl D__law_name.g D__law_name.k D__law_name.b .nil pass0 (pa_cons (pv 0) pa_nil)) (pa_cons pe_str pa_nil))))) (pe_call D__law_some.ok (hr.mono (by omega)) rfl D__law_some.g D__law_some.k D__law_some.b .nil pass0 (pa_cons (pv 0) (pa_cons (pv 1) (pa_cons (pe_op op_sub (pv 2) pe_int) pa_nil))))) (pe_lst (pa_cons pe_str pa_nil))))) pss_nil)
    (pss_one (ps_ret (pe_op op_cat (pe_op op_cat (pe_op op_cat (pv 4) (pe_lst (pa_cons pe_str pa_nil))) (pe_call D__law_e.ok (hr.mono (by omega)) rfl D__law_e.g D__law_e.k D__law_e.b .nil pass0 (pa_cons (pv 0) (pa_cons (pv 1) (pa_cons (pe_op op_sub (pv 2) pe_int) pa_nil))))) (pe_lst (pa_cons pe_str pa_nil)))))))))))))))))))))), ?_⟩
  generalize hσ : L2.start _ _ = σ0
  have hσ : σ0 = [some (.ref a), some (.ref l), some (.int (r : Int)), none, none, none] := hσ.symm
  subst hσ
  have hz := line_eq
  have fin : ∀ {t : TE} {D : Ends} {σ : L2.St} {H' : Hp} {L1 : Int} {c h g : Nat}, (leftW a l).tr H H' → (leftW a l).inv L1 H' → L1 ≤ L → D.rt = Q → YW (leftW a l) t σ H' c h g → c ≤ 100000 → c + 12 * L1.toNat ≤ 1 + 12 * L.toNat → h + 4 * L1.toNat ≤ 4 * L.toNat ∧ g + L1.toNat ≤ L.toNat → tRet t D σ H' := fun {t D σ H' L1 c h g} tt ii ll hD y hc h1 h2 => by
    refine y hc L1 H' D.rt ((leftW a l).refl H') ii (by omega) fun H4 p4 ws4 L4 t4 i4 l4 hw4 hg4 h3 h4 h5 => ?_
    rw [hD]
    exact hq H4 p4 ws4 L4 ((leftW a l).trans tt t4) i4 (by omega) hw4 hg4 (by simp; omega) (by simp; omega) (by simp; omega)
  have hl : H l = some (.lst [.int L]) := hi.2.1
  refine ⟨_, rfl, l, _, _, _, rfl, rfl, SqL.of hl, atI_nat (j := 0) rfl, _, _, rfl, rfl, ?_⟩
  refine ⟨l, _, _, 0, rfl, rfl, hl, rfl, ?_⟩
  obtain ⟨i1, t1⟩ : (leftW a l).inv (L - 1) (upd H l (.lst ([V.int L].set 0 (V.int (L - 1))))) ∧ (leftW a l).tr H (upd H l (.lst ([V.int L].set 0 (V.int (L - 1))))) := left_down (L - 1) hi
  dsimp only
  generalize upd H l (.lst ([V.int L].set 0 (V.int (L - 1)))) = H1 at i1 t1 ⊢
  refine seq_set ?_
  refine ⟨_, rfl, a, 18, rfl, by decide, by decide, i1.1, fun H2 way hway b2 f2 => ?_⟩
  obtain ⟨i2, t2'⟩ := (leftW a l).but i1 b2 f2
  have t2 := (leftW a l).trans t1 t2'
  clear t1 t2' b2 f2 i1
  have hl2 : H2 l = some (.lst [.int (L - 1)]) := i2.2.1
  have atom : ∀ (D : Ends) (u : TS), D.rt = Q → tRet (tCall (sp_dlist 1 0) [] E0 (tCons (tVar 0) tNil)) D [some (.ref a), some (.ref l), some (.int (r : Int)), some (.int (way : Int)), none, none] H2 := fun D u hD =>
    fin t2 i2 (by omega) hD (yw_dlist rfl) (by decide) (by omega) (by omega)
  refine ⟨_, rfl, _, _, rfl, rfl, _, rfl, ?_⟩
  refine ited (fun h0 => iteT (atom _ tNext rfl)) (fun h0 => ?_)
  refine ⟨_, rfl, l, _, _, _, rfl, rfl, SqL.of hl2, atI_nat (j := 0) rfl, _, _, rfl, rfl, _, rfl, ?_⟩
  refine ited (fun h1 => iteT (atom _ tNext rfl)) (fun h1 => ?_)
  refine ⟨_, rfl, _, _, rfl, rfl, _, rfl, ?_⟩
  refine ited (fun h2 => atom _ tNext rfl) (fun h2 => go_next ?_)
  have hr0 : 0 < r := by omega
  have hL1 : 0 < L - 1 := by omega
  have wne : ∀ {k : Nat}, ¬ V.int (way : Int) = V.int (k : Int) → way ≠ k := fun h e => h (by rw [e])
  refine ⟨_, rfl, rfl, _, rfl, ?_⟩
  refine ited (fun h3 => fin t2 i2 (by omega) rfl (yw_cat (yw_cat (yw_lst (ya_cons (ys_h (by decide +kernel) (by decide +kernel)) ya_nil)) (yw_leftP rfl rfl rfl hr0)) (yw_lst (ya_cons (ys_l (by decide +kernel) (by decide +kernel)) ya_nil))) (by omega) (by omega) (by omega)) (fun h3 => go_next ?_)
  refine ⟨_, rfl, rfl, _, rfl, ?_⟩
  refine ited (fun h4 => fin t2 i2 (by omega) rfl (yw_cat (yw_cat (yw_lst (ya_cons (ys_h (by decide +kernel) (by decide +kernel)) ya_nil)) (yw_dlist rfl)) (yw_leftP rfl rfl rfl hr0)) (by omega) (by omega) (by omega)) (fun h4 => go_next ?_)
  refine ⟨_, rfl, rfl, _, rfl, ?_⟩
  refine ited (fun h5 => fin t2 i2 (by omega) rfl (yw_cat (yw_cat (yw_lst (ya_cons (ys_h (by decide +kernel) (by decide +kernel)) (ya_cons (ys_name rfl) (ya_cons (ys_h (by decide +kernel) (by decide +kernel)) ya_nil)))) (yw_leftP rfl rfl rfl hr0)) (yw_lst (ya_cons (ys_l (by decide +kernel) (by decide +kernel)) ya_nil))) (by omega) (by omega) (by omega)) (fun h5 => go_next ?_)
  refine ⟨_, rfl, rfl, _, rfl, ?_⟩
  refine ited (fun h6 => fin t2 i2 (by omega) rfl (yw_cat (yw_cat (yw_lst (ya_cons (ys_h (by decide +kernel) (by decide +kernel)) (ya_cons (ys_h (by decide +kernel) (by decide +kernel)) (ya_cons (ys_name rfl) (ya_cons (ys_h (by decide +kernel) (by decide +kernel)) ya_nil))))) (yw_leftP rfl rfl rfl hr0)) (yw_lst (ya_cons (ys_l (by decide +kernel) (by decide +kernel)) ya_nil))) (by omega) (by omega) (by omega)) (fun h6 => go_next ?_)
  dsimp only
  refine seq_join (fun σ H' => σ = [some (.ref a), some (.ref l), some (.int (r : Int)), some (.int (way : Int)), none, none] ∧ (leftW a l).tr H H' ∧ (leftW a l).inv (L - 1) H') ?_ ?_
  rotate_left
  · intro NX nx
    refine ⟨_, rfl, rfl, _, rfl, ?_⟩
    refine ited (fun h7 => ?_) (fun h7 => iteF (nx _ _ ⟨rfl, t2, i2⟩))
    refine ⟨_, rfl, a, 2, rfl, by decide, by decide, i2.1, fun H3 d hd b3 f3 => ?_⟩
    obtain ⟨i3, t3⟩ := (leftW a l).but i2 b3 f3
    refine ⟨rfl, _, rfl, ?_⟩
    exact ited (fun h8 => fin ((leftW a l).trans t2 t3) i3 (by omega) rfl (yw_lst (ya_cons (ys_h (by decide +kernel) (by decide +kernel)) (ya_cons (ys_h (by decide +kernel) (by decide +kernel)) (ya_cons (ys_l (by decide +kernel) (by decide +kernel)) ya_nil)))) (by decide) (by omega) (by omega)) (fun h8 => go_next (nx _ _ ⟨rfl, (leftW a l).trans t2 t3, i3⟩))
  rintro σ H3 ⟨rfl, t3, i3⟩
  refine seq_set ?_
  refine yw_leftP (H0 := H3) (r := r) (c := 1) (h := 0) rfl rfl rfl hr0 (by decide) (L - 1) H3 _ ((leftW a l).refl H3) i3 (by omega) fun H4 pf ws L4 t4 i4 l4 hw hg e1 e2 e9 => ?_
  have t4 := (leftW a l).trans t3 t4
  clear t2 t3 i2 i3 hl2 atom
  refine ⟨_, rfl, rfl, _, rfl, ?_⟩
  refine ited (fun h7 => fin t4 i4 (by omega) rfl (yw_cat (yw_cat (yw_lst (ya_cons (ys_mono (ys_pick (ya_cons (ys_h (by decide +kernel) (by decide +kernel)) (ya_cons (ys_h (by decide +kernel) (by decide +kernel)) (ya_cons (ys_h (by decide +kernel) (by decide +kernel)) (ya_cons (ys_h (by decide +kernel) (by decide +kernel)) (ya_cons (ys_h (by decide +kernel) (by decide +kernel)) (ya_cons (ys_h (by decide +kernel) (by decide +kernel)) ya_nil)))))) (yi_draw rfl (by decide) (by decide)) (by decide) (by decide)) (Nat.min_le_left _ _) (gg' := 0) (by decide)) (ya_cons (ys_h (by decide +kernel) (by decide +kernel)) ya_nil))) (yw_var i4 hw hg rfl)) (yw_lst (ya_cons (ys_l (by decide +kernel) (by decide +kernel)) ya_nil))) (by omega) (by omega) (by omega)) (fun h7 => go_next ?_)
  have w3 := wne (k := 3) h3
  have w4 := wne (k := 4) h4
  have w5 := wne (k := 5) h5
  have w6 := wne (k := 6) h6
  have w7 := wne (k := 7) h7
  refine ⟨_, rfl, _, _, rfl, rfl, _, rfl, ?_⟩
  refine ited (fun h8 => fin t4 i4 (by omega) rfl (yw_cat (yw_lst (ya_cons (ys_mono (ys_pick (n := 2) (ya_cons (ys_d (by decide +kernel)) (ya_cons (ys_d (by decide +kernel)) ya_nil)) (fun L H Q t1 i k => ⟨_, rfl, _, _, rfl, rfl, by
    have : (way : Int) - 8 = ((way - 8 : Nat) : Int) := by omega
    show Q (V.int ((way : Int) - 8)) H
    rw [this]
    exact k H _ ((leftW a l).refl H) i (by omega)⟩) (by decide) (by decide)) (Nat.min_le_left _ _) (Nat.min_le_left _ _)) ya_nil)) (yw_var i4 hw hg rfl)) (by omega) (by omega) (by omega)) (fun h8 => go_next ?_)
  refine ⟨_, rfl, rfl, _, rfl, ?_⟩
  refine ited (fun h9 => fin t4 i4 (by omega) rfl (yw_cat (yw_cat (yw_lst (ya_cons (ys_h (by decide +kernel) (by decide +kernel)) ya_nil)) (yw_var i4 hw hg rfl)) (yw_lst (ya_cons (ys_l (by decide +kernel) (by decide +kernel)) ya_nil))) (by omega) (by omega) (by omega)) (fun h9 => go_next ?_)
  refine ⟨_, rfl, _, _, rfl, rfl, _, rfl, ?_⟩
  refine ited (fun h10 => ?_) (fun h10 => go_next ?_)
  · refine seq_set ?_
    refine ys_pick (W := leftW a l) (H0 := H4) (ya_cons (ys_d (by decide +kernel)) (ya_cons (ys_d (by decide +kernel)) (ya_cons (ys_d (by decide +kernel)) (ya_cons (ys_d (by decide +kernel)) (ya_cons (ys_d (by decide +kernel)) (ya_cons (ys_d (by decide +kernel)) (ya_cons (ys_d (by decide +kernel)) (ya_cons (ys_d (by decide +kernel)) (ya_cons (ys_d (by decide +kernel)) (ya_cons (ys_d (by decide +kernel)) (ya_cons (ys_d (by decide +kernel)) (ya_cons (ys_d (by decide +kernel)) (ya_cons (ys_d (by decide +kernel)) (ya_cons (ys_d (by decide +kernel)) ya_nil)))))))))))))) (yi_draw rfl (by decide) (by decide)) (by decide) (by decide) L4 H4 _ ((leftW a l).refl H4) i4 fun H5 wd t5 i5 hwd hhw _ => ?_
    have hw5 := (leftW a l).keep i4 t5 hw
    refine fin ((leftW a l).trans t4 t5) i5 (by omega) rfl (yw_cat (yw_cat (yw_var i5 hw5 hg rfl) (yw_lst (ya_cons (fun L H Q t1 i k => ⟨_, rfl, k H wd ((leftW a l).refl H) i hwd (hv_one _) (dv_one _)⟩) ya_nil))) (yw_leftP rfl rfl rfl hr0)) (by omega) (by omega) (by omega)
  dsimp only
  refine seq_join (fun σ H' => ∃ (pf : Addr) (ws : List (List Nat)) (L5 : Int), σ = [some (.ref a), some (.ref l), some (.int (r : Int)), some (.int (way : Int)), some (.ref pf), none] ∧ (leftW a l).tr H H' ∧ (leftW a l).inv L5 H' ∧ L5 ≤ L ∧ WL H' pf ws ∧ Gw ws ∧ ws.length + 12 * L5.toNat ≤ 3 + 12 * (L - 1).toNat ∧ hv ws + 4 * L5.toNat ≤ 1 + 4 * (L - 1).toNat ∧ dv ws + L5.toNat ≤ (L - 1).toNat) ?_ ?_
  rotate_left
  · intro NX nx
    refine ⟨_, rfl, pf, _, rfl, .inl (SqL.of hw), _, _, rfl, rfl, _, rfl, ?_⟩
    refine ited (fun _ => ?_) (fun _ => go_next (nx _ _ ⟨pf, ws, L4, rfl, t4, i4, by omega, hw, hg, by omega, by omega, by omega⟩))
    have hy : YW (leftW a l) (tOp rCat (tOp rCat (tLst (tCons (tC (V.str "(")) tNil)) (tVar 4)) (tLst (tCons (tC (V.str ")")) tNil))) [some (.ref a), some (.ref l), some (.int (r : Int)), some (.int (way : Int)), some (.ref pf), none] H4 (1 + ws.length + 1) (1 + hv ws + 0) (0 + dv ws + 0) :=
      yw_cat (yw_cat (yw_lst (ya_cons (ys_h (by decide +kernel) (by decide +kernel)) ya_nil)) (yw_var i4 hw hg rfl)) (yw_lst (ya_cons (ys_l (by decide +kernel) (by decide +kernel)) ya_nil))
    refine hy (by omega) L4 H4 _ ((leftW a l).refl H4) i4 (by omega) fun H5 p5 ws5 L5 t5 i5 l5 hw5 hg5 h5 h6 h9 => ?_
    exact nx _ _ ⟨p5, ws5, L5, rfl, (leftW a l).trans t4 t5, i5, by omega, hw5, hg5, by omega, by omega, by omega⟩
  rintro σ H5 ⟨pf, ws, L5, rfl, t5, i5, l5, hw5, hg5, e3, e4, e5⟩
  refine ⟨_, rfl, rfl, _, rfl, ?_⟩
  refine ited (fun h11 => fin t5 i5 (by omega) rfl (yw_cat (yw_cat (yw_cat (yw_var i5 hw5 hg5 rfl) (yw_lst (ya_cons (ys_h (by decide +kernel) (by decide +kernel)) ya_nil))) (yw_leftP rfl rfl rfl hr0)) (yw_lst (ya_cons (ys_l (by decide +kernel) (by decide +kernel)) ya_nil))) (by omega) (by omega) (by omega)) (fun h11 => go_next ?_)
  refine ⟨_, rfl, rfl, _, rfl, ?_⟩
  refine ited (fun h12 => fin t5 i5 (by omega) rfl (yw_cat (yw_var i5 hw5 hg5 rfl) (yw_lst (ya_cons (ys_h (by decide +kernel) (by decide +kernel)) (ya_cons (ys_name rfl) ya_nil)))) (by omega) (by omega) (by omega)) (fun h12 => go_next ?_)
  refine ⟨_, rfl, rfl, _, rfl, ?_⟩
  refine ited (fun h13 => fin t5 i5 (by omega) rfl (yw_cat (yw_cat (yw_cat (yw_var i5 hw5 hg5 rfl) (yw_lst (ya_cons (ys_h (by decide +kernel) (by decide +kernel)) (ya_cons (ys_name rfl) (ya_cons (ys_h (by decide +kernel) (by decide +kernel)) ya_nil))))) (yw_leftP rfl rfl rfl hr0)) (yw_lst (ya_cons (ys_l (by decide +kernel) (by decide +kernel)) ya_nil))) (by omega) (by omega) (by omega)) (fun h13 => go_next ?_)
  exact fin t5 i5 (by omega) rfl (yw_cat (yw_cat (yw_cat (yw_var i5 hw5 hg5 rfl) (yw_lst (ya_cons (ys_h (by decide +kernel) (by decide +kernel)) ya_nil))) (yw_leftP rfl rfl rfl hr0)) (yw_lst (ya_cons (ys_l (by decide +kernel) (by decide +kernel)) ya_nil))) (by omega) (by omega) (by omega)
end
end Wk
set_option maxRecDepth 100000
set_option maxHeartbeats 16000000
namespace Wk
open PySem L2 TL PyProof.Rows Gm Gr
open SX (S S_len)
/-- with a room less -/
def sp_leftPN (r c h : Nat) (off : Int) : Sp := fun vs H Q E => ∃ r', r = r' + 1 ∧ sp_leftN r' c h off vs H Q E
theorem yn_leftPN {a l : Addr} {σ : L2.St} {r c h : Nat} (e : σ[0]? = some (some (.ref a))) (e1 : σ[1]? = some (some (.ref l))) (e2 : σ[2]? = some (some (.int (r : Int)))) (hr : 0 < r) :
    ∀ (L : Int) (H : Hp) (Q : VK), (leftW a l).inv L H → L ≤ 1000 → (∀ H' p ws L', ws ≠ [] → (leftW a l).tr H H' → (leftW a l).inv L' H' → L' ≤ L → WL H' p ws → Gw ws → ws.length + 12 * L'.toNat ≤ c + 12 * L.toNat → hv ws + 4 * L'.toNat ≤ h + 4 * L.toNat → dv ws + L'.toNat ≤ L.toNat → Q (.ref p) H') →
    tCall (sp_leftPN r c h 0) [] E0 (tCons (tVar 0) (tCons (tVar 1) (tCons (tOp (rI0 fun i j => V.int (i - j)) (tVar 2) (tC (V.int 1))) tNil))) σ H Q := fun L H Q i hL k =>
  ⟨_, e, _, e1, _, e2, _, _, rfl, rfl, r - 1, by omega, a, l, L, (by
    have : (r : Int) - 1 = ((r - 1 : Nat) : Int) := by omega
    show [V.ref a, V.ref l, V.int ((r : Int) - 1)] = _
    rw [this]), i, hL, fun H' p ws L' ne t2 i2 l2 hw hg h1 h2 h3 => k H' p ws L' ne t2 i2 l2 hw hg (by simpa using h1) (by simpa using h2) (by simpa using h3)⟩
theorem yw_leftPN {a l : Addr} {σ : L2.St} {H0 : Hp} {r c h : Nat} (e : σ[0]? = some (some (.ref a))) (e1 : σ[1]? = some (some (.ref l))) (e2 : σ[2]? = some (some (.int (r : Int)))) (hr : 0 < r) : YW (leftW a l) (tCall (sp_leftPN r c h 0) [] E0 (tCons (tVar 0) (tCons (tVar 1) (tCons (tOp (rI0 fun i j => V.int (i - j)) (tVar 2) (tC (V.int 1))) tNil)))) σ H0 c h 0 := fun _ L H Q t1 i hL k =>
  yn_leftPN e e1 e2 hr L H Q i hL fun H' p ws L' _ t2 i2 l2 hw hg h1 h2 h3 => k H' p ws L' t2 i2 l2 hw hg h1 h2 (by simpa using h3)
section
variable {P : Program} {w : World} {K : PySem.W.Frag} {mg : Str → Option Value} {base : Heap}
abbrev s__law_row : Stmt := top 79
theorem sc__law_row : FnScope ["flow", "left", "room", "way", "tried", "first_v"] ["flow", "left", "room"] (defScope s__law_row) := ⟨rfl, rfl, rfl, by decide +kernel, rfl, by decide +kernel, by decide +kernel⟩
theorem ok_drow {r lv : Nat} (T : Txt K mg) {f : Addr} {fd : FuncData} (F : Fun K "_law_row" "_law_row" s__law_row f fd) (D__law_draw : Def P w K mg base CX0 "_law_draw" ["flow", "many"] 2 sp_draw) (hlv : 4 ≤ lv) (D__law_name : Def P w K mg base CX0 "_law_name" ["flow"] 3 sp_dname)
    (D__law_e : Def P w K mg base CX0 "_law_e" ["flow", "left", "room"] lv (sp_leftP r 1 0 0)) (D__law_rows : Def P w K mg base CX0 "_law_rows" ["flow", "left", "room"] lv (sp_leftPN r 2 1 0)) : FnOk P w K mg base CX0 (lv + 1) f fd ["flow", "left", "room"] (fun vs H Q E => 0 < r ∧ sp_left r 7 4 1 vs H Q E) := by
  refine F.ok sc__law_row (fun vs H Q E h => ?_) (fun cdv A outer s H vs Q E hr h => ?_)
  · obtain ⟨_, _, _, _, rfl, _⟩ := h; rfl
  obtain ⟨hr0, a, l, L, rfl, hi, hL, hq⟩ := h
  refine ⟨_, (pss_cons (ps_augS (pv 1) pe_int pget_list pe_int ip_sub set_list)
    (pss_cons (ps_set (i := 3) sc__law_row.nd rfl (Or.inl rfl) (pe_call D__law_draw.ok (hr.mono (by omega)) rfl D__law_draw.g D__law_draw.k D__law_draw.b .nil pass0 (pa_cons (pv 0) (pa_cons pe_int pa_nil))))
    (pss_cons (ps_if (pt_cmpR op_eq (pv 3) pe_int (nomark _)) (pss_one (ps_ret (pe_lst (pa_cons (pe_ix ix_list (pe_lst (pa_cons pe_str (pa_cons pe_str pa_nil))) (pe_call D__law_draw.ok (hr.mono (by omega)) rfl D__law_draw.g D__law_draw.k D__law_draw.b .nil pass0 (pa_cons (pv 0) (pa_cons pe_int pa_nil))) (fun _ _ => rfl)) (pa_cons pe_str pa_nil))))) pss_nil)
    (pss_cons (ps_if (pt_cmpR op_eq (pv 3) pe_int (nomark _)) (pss_cons (ps_set (i := 4) sc__law_row.nd rfl (Or.inl rfl) (pe_call D__law_rows.ok (hr.mono (by omega)) rfl D__law_rows.g D__law_rows.k D__law_rows.b .nil pass0 (pa_cons (pv 0) (pa_cons (pv 1) (pa_cons (pe_op op_sub (pv 2) pe_int) pa_nil)))))
      (pss_one (ps_ret (pe_op op_cat (pe_op op_cat (pe_op op_cat (pe_lst (pa_cons pe_str pa_nil)) (pv 4)) (pe_lst (pa_cons pe_str (pa_cons (pe_call D__law_name.ok (hr.mono (by omega)) rfl D__law_name.g D__law_name.k D__law_name.b .nil pass0 (pa_cons (pv 0) pa_nil)) pa_nil)))) (pe_call D__law_rows.ok (hr.mono (by omega)) rfl D__law_rows.g D__law_rows.k D__law_rows.b .nil pass0 (pa_cons (pv 0) (pa_cons (pv 1) (pa_cons (pe_op op_sub (pv 2) pe_int) pa_nil)))))))) pss_nil)
    (pss_cons (ps_set (i := 5) sc__law_row.nd rfl (Or.inl rfl) (pe_call D__law_e.ok (hr.mono (by omega)) rfl D__law_e.g D__law_e.k D__law_e.b .nil pass0 (pa_cons (pv 0) (pa_cons (pv 1) (pa_cons (pe_op op_sub (pv 2) pe_int) pa_nil)))))
    (pss_cons (ps_if (pt_cmpR op_lt (pv 3) pe_int (nomark _)) (pss_one (ps_ret (pe_op op_cat (pe_op op_cat (pe_lst (pa_cons pe_str (pa_cons (pe_call D__law_name.ok (hr.mono (by omega)) rfl D__law_name.g D__law_name.k D__law_name.b .nil pass0 (pa_cons (pv 0) pa_nil)) (pa_cons pe_str pa_nil)))) (pv 5)) (pe_lst (pa_cons pe_str pa_nil))))) pss_nil)
    (pss_cons (ps_if (pt_cmpR op_lt (pv 3) pe_int (nomark _)) (pss_one (ps_ret (pe_op op_cat (pe_op op_cat (pe_lst (pa_cons (pe_ix ix_list (pe_lst (pa_cons pe_str (pa_cons pe_str (pa_cons pe_str pa_nil)))) (pe_op op_sub (pv 3) pe_int) (fun _ _ => rfl)) pa_nil)) (pv 5)) (pe_lst (pa_cons pe_str pa_nil))))) pss_nil)
    (pss_cons (ps_if (pt_cmpR op_eq (pv 3) pe_int (nomark _)) (pss_one (ps_ret (pe_op op_cat (pe_op op_cat (pe_op op_cat (pv 5) (pe_lst (pa_cons pe_str pa_nil))) (pe_call D__law_e.ok (hr.mono (by omega)) rfl D__law_e.g D__law_e.k D__law_e.b .nil pass0 (pa_cons (pv 0) (pa_cons (pv 1) (pa_cons (pe_op op_sub (pv 2) pe_int) pa_nil))))) (pe_lst (pa_cons pe_str pa_nil))))) pss_nil)
    (pss_cons (ps_if (pt_cmpR op_eq (pv 3) pe_int (nomark _)) (pss_one (ps_ret (pe_op op_cat (pe_op op_cat (pe_lst (pa_cons pe_str pa_nil)) (pv 5)) (pe_call D__law_rows.ok (hr.mono (by omega)) rfl D__law_rows.g D__law_rows.k D__law_rows.b .nil pass0 (pa_cons (pv 0) (pa_cons (pv 1) (pa_cons (pe_op op_sub (pv 2) pe_int) pa_nil))))))) pss_nil)
    (pss_cons (ps_if (pt_cmpR op_eq (pv 3) pe_int (nomark _)) (pss_cons (ps_set (i := 5) sc__law_row.nd rfl (Or.inl rfl) (pe_op op_cat (pe_op op_cat (pe_lst (pa_cons pe_str pa_nil)) (pv 5)) (pe_call D__law_rows.ok (hr.mono (by omega)) rfl D__law_rows.g D__law_rows.k D__law_rows.b .nil pass0 (pa_cons (pv 0) (pa_cons (pv 1) (pa_cons (pe_op op_sub (pv 2) pe_int) pa_nil))))))
      (pss_one (ps_ret (pe_op op_cat (pv 5) (pe_ifExp (pt_cmpR op_eq (pe_call D__law_draw.ok (hr.mono (by omega)) rfl D__law_draw.g D__law_draw.k D__law_draw.b .nil pass0 (pa_cons (pv 0) (pa_cons pe_int pa_nil))) pe_int (nomark _)) (pe_op op_cat (pe_lst (pa_cons pe_str pa_nil)) (pe_call D__law_rows.ok (hr.mono (by omega)) rfl D__law_rows.g D__law_rows.k D__law_rows.b .nil pass0 (pa_cons (pv 0) (pa_cons (pv 1) (pa_cons (pe_op op_sub (pv 2) pe_int) pa_nil))))) (pe_lst pa_nil)))))) pss_nil)
    (pss_one (ps_ret (pe_op op_cat (pv 5) (pe_lst (pa_cons pe_str pa_nil))))))))))))))), ?_⟩
  generalize hσ : L2.start _ _ = σ0
  have hσ : σ0 = [some (.ref a), some (.ref l), some (.int (r : Int)), none, none, none] := hσ.symm
  subst hσ
  have hz := line_eq
  have fin : ∀ {t : TE} {D : Ends} {σ : L2.St} {H' : Hp} {L1 : Int} {c h g : Nat}, (leftW a l).tr H H' → (leftW a l).inv L1 H' → L1 ≤ L → D.rt = Q → YW (leftW a l) t σ H' c h g → c ≤ 100000 → c + 12 * L1.toNat ≤ 7 + 12 * (L - 1).toNat → h + 4 * L1.toNat ≤ 4 + 4 * (L - 1).toNat ∧ g + L1.toNat ≤ (L - 1).toNat → tRet t D σ H' := fun {t D σ H' L1 c h g} tt ii ll hD y hc h1 h2 => by
    refine y hc L1 H' D.rt ((leftW a l).refl H') ii (by omega) fun H4 p4 ws4 L4 t4 i4 l4 hw4 hg4 h3 h4 h5 => ?_
    rw [hD]
    exact hq H4 p4 ws4 L4 ((leftW a l).trans tt t4) i4 (by omega) hw4 hg4 (by omega) (by omega) (by omega)
  have hl : H l = some (.lst [.int L]) := hi.2.1
  refine ⟨_, rfl, l, _, _, _, rfl, rfl, SqL.of hl, atI_nat (j := 0) rfl, _, _, rfl, rfl, ?_⟩
  refine ⟨l, _, _, 0, rfl, rfl, hl, rfl, ?_⟩
  obtain ⟨i1, t1⟩ : (leftW a l).inv (L - 1) (upd H l (.lst ([V.int L].set 0 (V.int (L - 1))))) ∧ (leftW a l).tr H (upd H l (.lst ([V.int L].set 0 (V.int (L - 1))))) := left_down (L - 1) hi
  dsimp only
  generalize upd H l (.lst ([V.int L].set 0 (V.int (L - 1)))) = H1 at i1 t1 ⊢
  refine seq_set ?_
  refine ⟨_, rfl, a, 11, rfl, by decide, by decide, i1.1, fun H2 way hway b2 f2 => ?_⟩
  obtain ⟨i2, t2'⟩ := (leftW a l).but i1 b2 f2
  have t2 := (leftW a l).trans t1 t2'
  clear t1 t2' b2 f2 i1
  have wne : ∀ {k : Nat}, ¬ V.int (way : Int) = V.int (k : Int) → way ≠ k := fun h e => h (by rw [e])
  refine ⟨_, rfl, rfl, _, rfl, ?_⟩
  refine ited (fun h0 => fin t2 i2 (by omega) rfl (yw_lst (ya_cons (ys_mono (ys_pick (ya_cons (ys_h (by decide +kernel) (by decide +kernel)) (ya_cons (ys_h (by decide +kernel) (by decide +kernel)) ya_nil)) (yi_draw rfl (by decide) (by decide)) (by decide) (by decide)) (Nat.min_le_left _ _) (gg' := 0) (by decide)) (ya_cons (ys_h (by decide +kernel) (by decide +kernel)) ya_nil))) (by omega) (by omega) (by omega)) (fun h0 => go_next ?_)
  refine ⟨_, rfl, rfl, _, rfl, ?_⟩
  refine ited (fun h1 => ?_) (fun h1 => go_next ?_)
  · refine seq_set ?_
    refine yw_leftPN (H0 := H2) (r := r) (c := 2) (h := 1) rfl rfl rfl hr0 (by decide) (L - 1) H2 _ ((leftW a l).refl H2) i2 (by omega) fun H4 pf ws L4 t4 i4 l4 hw hg e1 e2 e9 => ?_
    exact fin ((leftW a l).trans t2 t4) i4 (by omega) rfl (yw_cat (yw_cat (yw_cat (yw_lst (ya_cons (ys_h (by decide +kernel) (by decide +kernel)) ya_nil)) (yw_var i4 hw hg rfl)) (yw_lst (ya_cons (ys_h (by decide +kernel) (by decide +kernel)) (ya_cons (ys_name rfl) ya_nil)))) (yw_leftPN rfl rfl rfl hr0)) (by omega) (by omega) (by omega)
  dsimp only
  refine seq_set ?_
  refine yw_leftP (H0 := H2) (r := r) (c := 1) (h := 0) rfl rfl rfl hr0 (by decide) (L - 1) H2 _ ((leftW a l).refl H2) i2 (by omega) fun H4 pf ws L4 t4 i4 l4 hw hg e1 e2 e9 => ?_
  have t4 := (leftW a l).trans t2 t4
  have w0 := wne (k := 0) h0
  have w1 := wne (k := 1) h1
  refine ⟨_, rfl, _, _, rfl, rfl, _, rfl, ?_⟩
  refine ited (fun h2 => fin t4 i4 (by omega) rfl (yw_cat (yw_cat (yw_lst (ya_cons (ys_h (by decide +kernel) (by decide +kernel)) (ya_cons (ys_name rfl) (ya_cons (ys_h (by decide +kernel) (by decide +kernel)) ya_nil)))) (yw_var i4 hw hg rfl)) (yw_lst (ya_cons (ys_h (by decide +kernel) (by decide +kernel)) ya_nil))) (by omega) (by omega) (by omega)) (fun h2 => go_next ?_)
  refine ⟨_, rfl, _, _, rfl, rfl, _, rfl, ?_⟩
  refine ited (fun h3 => fin t4 i4 (by omega) rfl (yw_cat (yw_cat (yw_lst (ya_cons (ys_mono (ys_pick (n := 3) (ya_cons (ys_h (by decide +kernel) (by decide +kernel)) (ya_cons (ys_h (by decide +kernel) (by decide +kernel)) (ya_cons (ys_h (by decide +kernel) (by decide +kernel)) ya_nil))) (fun L H Q t1 i k => ⟨_, rfl, _, _, rfl, rfl, by
    have : (way : Int) - 4 = ((way - 4 : Nat) : Int) := by omega
    show Q (V.int ((way : Int) - 4)) H
    rw [this]
    exact k H _ ((leftW a l).refl H) i (by omega)⟩) (by decide) (by decide)) (Nat.min_le_left _ _) (gg' := 0) (by decide)) ya_nil)) (yw_var i4 hw hg rfl)) (yw_lst (ya_cons (ys_h (by decide +kernel) (by decide +kernel)) ya_nil))) (by omega) (by omega) (by omega)) (fun h3 => go_next ?_)
  refine ⟨_, rfl, rfl, _, rfl, ?_⟩
  refine ited (fun h4 => fin t4 i4 (by omega) rfl (yw_cat (yw_cat (yw_cat (yw_var i4 hw hg rfl) (yw_lst (ya_cons (ys_h (by decide +kernel) (by decide +kernel)) ya_nil))) (yw_leftP rfl rfl rfl hr0)) (yw_lst (ya_cons (ys_h (by decide +kernel) (by decide +kernel)) ya_nil))) (by omega) (by omega) (by omega)) (fun h4 => go_next ?_)
  refine ⟨_, rfl, rfl, _, rfl, ?_⟩
  refine ited (fun h5 => fin t4 i4 (by omega) rfl (yw_cat (yw_cat (yw_lst (ya_cons (ys_h (by decide +kernel) (by decide +kernel)) ya_nil)) (yw_var i4 hw hg rfl)) (yw_leftPN rfl rfl rfl hr0)) (by omega) (by omega) (by omega)) (fun h5 => go_next ?_)
  refine ⟨_, rfl, rfl, _, rfl, ?_⟩
  refine ited (fun h6 => ?_) (fun h6 => go_next ?_)
  · refine seq_set ?_
    refine ⟨(by show 1 ≤ _; omega), fun p5 n5 => ?_⟩
    obtain ⟨i5, t5⟩ := (leftW a l).same i4 (same_new n5 (.lst [V.str "if"]))
    have hw5 := (leftW a l).keep i4 t5 hw
    have e5 : WL (upd H4 p5 (.lst [V.str "if"])) p5 [codes "if"] := by unfold WL; rw [upd_same]; rfl
    have hh5 : hv [codes "if"] = 1 := by decide +kernel
    have hd5 : dv [codes "if"] = 0 := by decide +kernel
    have g5 : Gw [codes "if"] := (Gn.one (by decide +kernel)).gw
    refine ⟨_, rfl, p5, pf, _, _, rfl, rfl, e5, hw5, by rw [lisV_len, lisV_len, List.length_singleton]; omega, fun q5 m5 => ?_⟩
    obtain ⟨i6, t6⟩ := (leftW a l).same i5 (same_new m5 (.lst (lisV [codes "if"] ++ lisV ws)))
    have e6 : WL (upd (upd H4 p5 (.lst [V.str "if"])) q5 (.lst (lisV [codes "if"] ++ lisV ws))) q5 ([codes "if"] ++ ws) := by unfold WL; rw [upd_same, lisV_app]
    have t6 := (leftW a l).trans t4 ((leftW a l).trans t5 t6)
    generalize upd (upd H4 p5 (.lst [V.str "if"])) q5 (.lst (lisV [codes "if"] ++ lisV ws)) = H6 at i6 t6 e6 ⊢
    refine yn_leftPN (r := r) (c := 2) (h := 1) rfl rfl rfl hr0 L4 H6 _ i6 (by omega) fun H7 p7 ws7 L7 ne7 t7 i7 l7 hw7 hg7 a1 a2 a3 => ?_
    have e7 := (leftW a l).keep i6 t7 e6
    have l7p : 1 ≤ ws7.length := by
      cases ws7 with
      | nil => exact absurd rfl ne7
      | cons x xs => rw [List.length_cons]; omega
    refine ⟨q5, p7, _, _, rfl, rfl, e7, hw7, by rw [lisV_len, lisV_len, List.length_append, List.length_singleton]; omega, fun q8 m8 => ?_⟩
    obtain ⟨i8, t8⟩ := (leftW a l).same i7 (same_new m8 (.lst (lisV ([codes "if"] ++ ws) ++ lisV ws7)))
    have e8 : WL (upd H7 q8 (.lst (lisV ([codes "if"] ++ ws) ++ lisV ws7))) q8 ([codes "if"] ++ ws ++ ws7) := by unfold WL; rw [upd_same, lisV_app ([codes "if"] ++ ws)]
    have t8 := (leftW a l).trans t6 ((leftW a l).trans t7 t8)
    generalize upd H7 q8 (.lst (lisV ([codes "if"] ++ ws) ++ lisV ws7)) = H8 at i8 t8 e8 ⊢
    have g8 : Gw ([codes "if"] ++ ws ++ ws7) := (g5.app hg).app hg7
    have len8 : ([codes "if"] ++ ws ++ ws7).length = 1 + ws.length + ws7.length := by rw [List.length_append, List.length_append, List.length_singleton]
    have hv8 : hv ([codes "if"] ++ ws ++ ws7) = 1 + hv ws + hv ws7 := by rw [hv_app, hv_app, hh5]
    have dv8 : dv ([codes "if"] ++ ws ++ ws7) = dv ws + dv ws7 := by rw [dv_app, dv_app, hd5]; omega
    generalize [codes "if"] ++ ws ++ ws7 = w8 at e8 g8 len8 hv8 dv8 ⊢
    dsimp only
    refine ⟨_, rfl, ?_⟩
    refine ⟨_, rfl, a, 2, rfl, by decide, by decide, i8.1, fun H9 d hd b9 f9 => ?_⟩
    obtain ⟨i9, t9⟩ := (leftW a l).but i8 b9 f9
    have e9 := (leftW a l).keep i8 t9 e8
    have t9 := (leftW a l).trans t8 t9
    refine ⟨rfl, _, rfl, ?_⟩
    refine iteb (fun _ => ?_) (fun _ => ?_)
    · refine ⟨(by show 1 ≤ _; omega), fun pa na => ?_⟩
      obtain ⟨ia, ta⟩ := (leftW a l).same i9 (same_new na (.lst [V.str "else"]))
      have ea := (leftW a l).keep i9 ta e9
      have hea : WL (upd H9 pa (.lst [V.str "else"])) pa [codes "else"] := by unfold WL; rw [upd_same]; rfl
      have hhe : hv [codes "else"] = 1 := by decide +kernel
      have hde : dv [codes "else"] = 0 := by decide +kernel
      have ta := (leftW a l).trans t9 ta
      generalize upd H9 pa (.lst [V.str "else"]) = Ha at ia ta ea hea ⊢
      refine yn_leftPN (r := r) (c := 2) (h := 1) rfl rfl rfl hr0 L7 Ha _ ia (by omega) fun Hb pb wsb Lz9 _ tb ib lb hwb hgb b1 b2 b3 => ?_
      have eb := (leftW a l).keep ia tb ea
      have heb := (leftW a l).keep ia tb hea
      refine ⟨pa, pb, _, _, rfl, rfl, heb, hwb, by rw [lisV_len, lisV_len, List.length_singleton]; omega, fun qc nc => ?_⟩
      obtain ⟨ic, tc⟩ := (leftW a l).same ib (same_new nc (.lst (lisV [codes "else"] ++ lisV wsb)))
      have ec := (leftW a l).keep ib tc eb
      have hec : WL (upd Hb qc (.lst (lisV [codes "else"] ++ lisV wsb))) qc ([codes "else"] ++ wsb) := by unfold WL; rw [upd_same, lisV_app]
      refine ⟨q8, qc, _, _, rfl, rfl, ec, hec, by rw [lisV_len, lisV_len, List.length_append, List.length_singleton]; omega, fun qd nd => ?_⟩
      obtain ⟨id', td⟩ := (leftW a l).same ic (same_new nd (.lst (lisV w8 ++ lisV ([codes "else"] ++ wsb))))
      have td := (leftW a l).trans ta ((leftW a l).trans tb ((leftW a l).trans tc td))
      exact hq _ qd (w8 ++ ([codes "else"] ++ wsb)) Lz9 td id' (by omega) (by unfold WL; rw [upd_same, lisV_app w8]) (g8.on (by omega) fun x hx => (List.mem_append.mp hx).elim (fun h => by rw [List.mem_singleton.mp h]; exact List.mem_cons_self) (hgb.1 x)) (by rw [List.length_append, List.length_append, List.length_singleton]; omega) (by rw [hv_app, hv_app, hhe]; omega) (by rw [dv_app, dv_app, hde]; omega)
    · refine ⟨(by show 0 ≤ _; omega), fun pa na => ?_⟩
      obtain ⟨ia, ta⟩ := (leftW a l).same i9 (same_new na (.lst []))
      have ea := (leftW a l).keep i9 ta e9
      refine ⟨q8, pa, _, [], rfl, rfl, ea, upd_same, by rw [lisV_len, List.length_nil]; omega, fun qd nd => ?_⟩
      obtain ⟨id', td⟩ := (leftW a l).same ia (same_new nd (.lst (lisV w8 ++ [])))
      have td := (leftW a l).trans t9 ((leftW a l).trans ta td)
      exact hq _ qd w8 L7 td id' (by omega) (by unfold WL; rw [upd_same, List.append_nil]) g8 (by omega) (by omega) (by omega)
  exact fin t4 i4 (by omega) rfl (yw_cat (yw_var i4 hw hg rfl) (yw_lst (ya_cons (ys_h (by decide +kernel) (by decide +kernel)) ya_nil))) (by omega) (by omega) (by omega)
end
end Wk
set_option maxRecDepth 100000
set_option maxHeartbeats 16000000
namespace Wk
open PySem L2 TL PyProof.Rows Gm Gr
open SX (S S_len)
section
variable {P : Program} {w : World} {K : PySem.W.Frag} {mg : Str → Option Value} {base : Heap}
abbrev s__law_item : Stmt := top 80
theorem sc__law_item : FnScope ["flow", "left", "room", "way", "found", "k"] ["flow", "left", "room"] (defScope s__law_item) := ⟨rfl, rfl, rfl, by decide +kernel, rfl, by decide +kernel, by decide +kernel⟩
def sp_item (r : Nat) : Sp := fun vs H Q E => 0 < r ∧ sp_left r 32 9 0 vs H Q E
theorem ok_ditem {r lv : Nat} (T : Txt K mg) {f : Addr} {fd : FuncData} (F : Fun K "_law_item" "_law_item" s__law_item f fd) (D__law_draw : Def P w K mg base CX0 "_law_draw" ["flow", "many"] 2 sp_draw) (hlv : 4 ≤ lv) (D__law_name : Def P w K mg base CX0 "_law_name" ["flow"] 3 sp_dname) (D__law_called : Def P w K mg base CX0 "_law_called" ["flow"] 4 (sp_dlist 8 1))
    (D__law_row : Def P w K mg base CX0 "_law_row" ["flow", "left", "room"] lv (fun vs H Q E => 0 < r ∧ sp_left r 7 4 1 vs H Q E)) (D__law_rows : Def P w K mg base CX0 "_law_rows" ["flow", "left", "room"] lv (sp_left r 2 1 0)) : FnOk P w K mg base CX0 (lv + 1) f fd ["flow", "left", "room"] (sp_item r) := by
  refine F.ok sc__law_item (fun vs H Q E h => ?_) (fun cdv A outer s H vs Q E hr h => ?_)
  · obtain ⟨_, _, _, _, rfl, _⟩ := h; rfl
  obtain ⟨hr0, a, l, L, rfl, hi, hL, hq⟩ := h
  refine ⟨_, (pss_cons (ps_set (i := 3) sc__law_item.nd rfl (Or.inl rfl) (pe_call D__law_draw.ok (hr.mono (by omega)) rfl D__law_draw.g D__law_draw.k D__law_draw.b .nil pass0 (pa_cons (pv 0) (pa_cons pe_int pa_nil))))
    (pss_cons (ps_if (pt_cmpR op_eq (pv 3) pe_int (nomark _)) (pss_one (ps_ret (pe_op op_cat (pe_op op_cat (pe_lst (pa_cons pe_str (pa_cons (pe_call D__law_name.ok (hr.mono (by omega)) rfl D__law_name.g D__law_name.k D__law_name.b .nil pass0 (pa_cons (pv 0) pa_nil)) pa_nil))) (pe_call D__law_called.ok (hr.mono (by omega)) rfl D__law_called.g D__law_called.k D__law_called.b .nil pass0 (pa_cons (pv 0) pa_nil))) (pe_call D__law_rows.ok (hr.mono (by omega)) rfl D__law_rows.g D__law_rows.k D__law_rows.b .nil pass0 (pa_cons (pv 0) (pa_cons (pv 1) (pa_cons (pv 2) pa_nil))))))) pss_nil)
    (pss_cons (ps_if (pt_cmpR op_gt (pv 3) pe_int (nomark _)) (pss_one (ps_ret (pe_call D__law_row.ok (hr.mono (by omega)) rfl D__law_row.g D__law_row.k D__law_row.b .nil pass0 (pa_cons (pv 0) (pa_cons (pv 1) (pa_cons (pv 2) pa_nil)))))) pss_nil)
    (pss_cons (ps_set (i := 4) sc__law_item.nd rfl (Or.inl rfl) (pe_op op_cat (pe_op op_cat (pe_lst (pa_cons pe_str (pa_cons (pe_call D__law_name.ok (hr.mono (by omega)) rfl D__law_name.g D__law_name.k D__law_name.b .nil pass0 (pa_cons (pv 0) pa_nil)) pa_nil))) (pe_ifExp (pt_cmpR op_eq (pe_call D__law_draw.ok (hr.mono (by omega)) rfl D__law_draw.g D__law_draw.k D__law_draw.b .nil pass0 (pa_cons (pv 0) (pa_cons pe_int pa_nil))) pe_int (nomark _)) (pe_lst (pa_cons pe_str (pa_cons (pe_call D__law_name.ok (hr.mono (by omega)) rfl D__law_name.g D__law_name.k D__law_name.b .nil pass0 (pa_cons (pv 0) pa_nil)) pa_nil))) (pe_lst pa_nil))) (pe_lst (pa_cons pe_str pa_nil))))
    (pss_cons (ps_for PassesOwn.never rfl (pi_range1 rfl T.n_range (pa_cons (pe_call D__law_draw.ok (hr.mono (by omega)) rfl D__law_draw.g D__law_draw.k D__law_draw.b .nil pass0 (pa_cons (pv 0) (pa_cons pe_int pa_nil))) pa_nil)) (pg_name (i := 5) sc__law_item.nd rfl (Or.inl rfl)) (pss_one (ps_set (i := 4) sc__law_item.nd rfl (Or.inl rfl) (pe_op op_cat (pv 4) (pe_lst (pa_cons (pe_call D__law_name.ok (hr.mono (by omega)) rfl D__law_name.g D__law_name.k D__law_name.b .nil pass0 (pa_cons (pv 0) pa_nil)) (pa_cons pe_str pa_nil)))))))
    (pss_cons (ps_for PassesOwn.never rfl (pi_range1 rfl T.n_range (pa_cons (pe_call D__law_draw.ok (hr.mono (by omega)) rfl D__law_draw.g D__law_draw.k D__law_draw.b .nil pass0 (pa_cons (pv 0) (pa_cons pe_int pa_nil))) pa_nil)) (pg_name (i := 5) sc__law_item.nd rfl (Or.inl rfl)) (pss_one (ps_set (i := 4) sc__law_item.nd rfl (Or.inl rfl) (pe_op op_cat (pe_op op_cat (pe_op op_cat (pv 4) (pe_lst (pa_cons (pe_call D__law_name.ok (hr.mono (by omega)) rfl D__law_name.g D__law_name.k D__law_name.b .nil pass0 (pa_cons (pv 0) pa_nil)) pa_nil))) (pe_call D__law_called.ok (hr.mono (by omega)) rfl D__law_called.g D__law_called.k D__law_called.b .nil pass0 (pa_cons (pv 0) pa_nil))) (pe_call D__law_rows.ok (hr.mono (by omega)) rfl D__law_rows.g D__law_rows.k D__law_rows.b .nil pass0 (pa_cons (pv 0) (pa_cons (pv 1) (pa_cons (pv 2) pa_nil))))))))
    (pss_one (ps_ret (pe_op op_cat (pv 4) (pe_lst (pa_cons pe_str pa_nil))))))))))), ?_⟩
  generalize hσ : L2.start _ _ = σ0
  have hσ : σ0 = [some (.ref a), some (.ref l), some (.int (r : Int)), none, none, none] := hσ.symm
  subst hσ
  have hz := line_eq
  have fin : ∀ {t : TE} {D : Ends} {σ : L2.St} {H' : Hp} {L1 : Int} {c h g : Nat}, (leftW a l).tr H H' → (leftW a l).inv L1 H' → L1 ≤ L → D.rt = Q → YW (leftW a l) t σ H' c h g → c ≤ 100000 → c + 12 * L1.toNat ≤ 32 + 12 * L.toNat → h + 4 * L1.toNat ≤ 9 + 4 * L.toNat ∧ g + L1.toNat ≤ L.toNat → tRet t D σ H' := fun {t D σ H' L1 c h g} tt ii ll hD y hc h1 h2 => by
    refine y hc L1 H' D.rt ((leftW a l).refl H') ii (by omega) fun H4 p4 ws4 L4 t4 i4 l4 hw4 hg4 h3 h4 h5 => ?_
    rw [hD]
    exact hq H4 p4 ws4 L4 ((leftW a l).trans tt t4) i4 (by omega) hw4 hg4 (by simp; omega) (by simp; omega) (by simp; omega)
  refine seq_set ?_
  refine ⟨_, rfl, a, 6, rfl, by decide, by decide, hi.1, fun H2 way hway b2 f2 => ?_⟩
  obtain ⟨i2, t2⟩ := (leftW a l).but hi b2 f2
  have arg : ∀ {σ : L2.St} (H : Hp) (Q : VK), σ[2]? = some (some (V.int (r : Int))) → Q (V.int (r : Int)) H → tVar 2 σ H Q := fun H Q e q => ⟨_, e, q⟩
  refine ⟨_, rfl, rfl, _, rfl, ?_⟩
  refine ited (fun h0 => fin t2 i2 (by omega) rfl (yw_cat (yw_cat (yw_lst (ya_cons (ys_h (by decide +kernel) (by decide +kernel)) (ya_cons (ys_name rfl) ya_nil))) (yw_dlist rfl)) (yw_left rfl rfl fun H Q q => arg H Q rfl q)) (by omega) (by omega) (by omega)) (fun h0 => go_next ?_)
  refine ⟨_, rfl, _, _, rfl, rfl, _, rfl, ?_⟩
  refine ited (fun h1 => ?_) (fun h1 => go_next ?_)
  · refine ⟨_, rfl, _, rfl, _, rfl, hr0, a, l, L, rfl, i2, hL, fun H4 p4 ws4 L4 t4 i4 l4 hw4 hg4 h3 h4 h5 => ?_⟩
    exact hq H4 p4 ws4 L4 ((leftW a l).trans t2 t4) i4 l4 hw4 hg4 (by simp; omega) (by simp; omega) (by simp; omega)
  dsimp only
  refine seq_set ?_
  have hy : YW (leftW a l) (tOp rCat (tOp rCat (tLst (tCons (tC (V.str "class")) (tCons (tCall sp_dname [] E0 (tCons (tVar 0) tNil)) tNil))) (tIf (tTest (tOp rEq (tCall sp_draw [] E0 (tCons (tVar 0) (tCons (tC (V.int 2)) tNil))) (tC (V.int 1)))) (tLst (tCons (tC (V.str "of")) (tCons (tCall sp_dname [] E0 (tCons (tVar 0) tNil)) tNil))) (tLst tNil))) (tLst (tCons (tC (V.str "{")) tNil))) [some (.ref a), some (.ref l), some (.int (r : Int)), some (.int (way : Int)), none, none] H2 5 3 0 :=
    yw_some (yw_cat (yw_cat (yw_lst (ya_cons (ys_h (by decide +kernel) (by decide +kernel)) (ya_cons (ys_name rfl) ya_nil))) (yw_if (fun L H Q t1 i k => ⟨_, rfl, a, 2, rfl, by decide, by decide, i.1, fun H' d hd b f => by
      obtain ⟨i6, t6⟩ := (leftW a l).but i b f
      exact ⟨rfl, _, rfl, k _ _ t6 i6⟩⟩) (yw_lst (ya_cons (ys_h (by decide +kernel) (by decide +kernel)) (ya_cons (ys_name rfl) ya_nil))) (yw_some (yw_lst ya_nil) (by omega) (by omega)))) (yw_lst (ya_cons (ys_h (by decide +kernel) (by decide +kernel)) ya_nil))) (by omega) (by omega)
  refine hy (by omega) L H2 _ ((leftW a l).refl H2) i2 (by omega) fun H3 q ws0 L0 t3 i3 l3 W0 g0 h01 h02 h03 => ?_
  have t3 := (leftW a l).trans t2 t3
  clear t2 i2 hy
  -- the fields
  refine seq_join (fun σ H' => ∃ p ws L' x5, σ = [some (.ref a), some (.ref l), some (.int (r : Int)), some (.int (way : Int)), some (.ref p), x5] ∧ (leftW a l).tr H H' ∧ (leftW a l).inv L' H' ∧ L' ≤ L ∧ WL H' p ws ∧ Gw ws ∧ ws.length + 12 * L'.toNat ≤ 9 + 12 * L.toNat ∧ hv ws + 4 * L'.toNat ≤ 5 + 4 * L.toNat ∧ dv ws + L'.toNat ≤ L.toNat) ?_ ?_
  rotate_left
  · intro NX nx
    refine ⟨_, rfl, a, 3, rfl, by decide, by decide, i3.1, fun H4 d hd b4 f4 => ?_⟩
    obtain ⟨i4, t4⟩ := (leftW a l).but i3 b4 f4
    refine ⟨_, rfl, by omega, by omega, ?_⟩
    rw [Int.toNat_natCast]
    refine for_range (fun k σ H' => ∃ p ws L' x5, σ = [some (.ref a), some (.ref l), some (.int (r : Int)), some (.int (way : Int)), some (.ref p), x5] ∧ (leftW a l).tr H3 H' ∧ (leftW a l).inv L' H' ∧ L' ≤ L ∧ WL H' p ws ∧ Gw ws ∧ ws.length + 12 * L'.toNat ≤ 5 + 2 * k + 12 * L.toNat ∧ hv ws + 4 * L'.toNat ≤ 3 + k + 4 * L.toNat ∧ dv ws + L'.toNat ≤ L.toNat)
      ⟨q, ws0, L0, none, rfl, t4, i4, l3, (leftW a l).keep i3 t4 W0, g0, by omega, by omega, by omega⟩ ?_ ?_
    rotate_left
    · rintro σ H5 ⟨p, ws, L', x5, rfl, t5, i5, l5, hw, hg, h1, h2, h2d⟩
      exact nx _ _ ⟨p, ws, L', x5, rfl, (leftW a l).trans t3 t5, i5, l5, hw, hg, by omega, by omega, by omega⟩
    rintro k σ H5 hk ⟨p, ws, L', x5, rfl, t5, i5, l5, hw, hg, h1, h2, h2d⟩
    refine g_name ?_
    have hy : YW (leftW a l) (tOp rCat (tVar 4) (tLst (tCons (tCall sp_dname [] E0 (tCons (tVar 0) tNil)) (tCons (tC (V.str ";")) tNil)))) [some (.ref a), some (.ref l), some (.int (r : Int)), some (.int (way : Int)), some (.ref p), some (.int (0 + (k : Int)))] H5 (ws.length + 2) (hv ws + 1) (dv ws) :=
      yw_some (yw_cat (yw_var i5 hw hg rfl) (yw_lst (ya_cons (ys_name rfl) (ya_cons (ys_h (by decide +kernel) (by decide +kernel)) ya_nil)))) (by omega) (by omega)
    refine hy (by omega) L' H5 _ ((leftW a l).refl H5) i5 (by omega) fun H6 p6 ws6 L6 t6 i6 l6 hw6 hg6 h3 h4 h5 => ?_
    exact ⟨p6, ws6, L6, _, rfl, (leftW a l).trans t5 t6, i6, by omega, hw6, hg6, by omega, by omega, by omega⟩
  rintro σ H4 ⟨p, ws, L1, x5, rfl, t4, i4, l4, hw, hg, h1, h2, h2d⟩
  -- the methods
  refine seq_join (fun σ H' => ∃ p ws L' x5, σ = [some (.ref a), some (.ref l), some (.int (r : Int)), some (.int (way : Int)), some (.ref p), x5] ∧ (leftW a l).tr H H' ∧ (leftW a l).inv L' H' ∧ L' ≤ L ∧ WL H' p ws ∧ Gw ws ∧ ws.length + 12 * L'.toNat ≤ 31 + 12 * L.toNat ∧ hv ws + 4 * L'.toNat ≤ 9 + 4 * L.toNat ∧ dv ws + L'.toNat ≤ L.toNat) ?_ ?_
  rotate_left
  · intro NX nx
    refine ⟨_, rfl, a, 3, rfl, by decide, by decide, i4.1, fun H5 d hd b5 f5 => ?_⟩
    obtain ⟨i5, t5⟩ := (leftW a l).but i4 b5 f5
    refine ⟨_, rfl, by omega, by omega, ?_⟩
    rw [Int.toNat_natCast]
    refine for_range (fun k σ H' => ∃ p ws L' x5, σ = [some (.ref a), some (.ref l), some (.int (r : Int)), some (.int (way : Int)), some (.ref p), x5] ∧ (leftW a l).tr H4 H' ∧ (leftW a l).inv L' H' ∧ L' ≤ L ∧ WL H' p ws ∧ Gw ws ∧ ws.length + 12 * L'.toNat ≤ 9 + 11 * k + 12 * L.toNat ∧ hv ws + 4 * L'.toNat ≤ 5 + 2 * k + 4 * L.toNat ∧ dv ws + L'.toNat ≤ L.toNat)
      ⟨p, ws, L1, x5, rfl, t5, i5, l4, (leftW a l).keep i4 t5 hw, hg, by omega, by omega, by omega⟩ ?_ ?_
    rotate_left
    · rintro σ H6 ⟨p, ws, L', x5, rfl, t6, i6, l6, hw, hg, h1, h2, h2d⟩
      exact nx _ _ ⟨p, ws, L', x5, rfl, (leftW a l).trans t4 t6, i6, l6, hw, hg, by omega, by omega, by omega⟩
    rintro k σ H6 hk ⟨p, ws, L', x5, rfl, t6, i6, l6, hw, hg, h1, h2, h2d⟩
    refine g_name ?_
    have hy : YW (leftW a l) (tOp rCat (tOp rCat (tOp rCat (tVar 4) (tLst (tCons (tCall sp_dname [] E0 (tCons (tVar 0) tNil)) tNil))) (tCall (sp_dlist 8 1) [] E0 (tCons (tVar 0) tNil))) (tCall (sp_left r 2 1 0) [] E0 (tCons (tVar 0) (tCons (tVar 1) (tCons (tVar 2) tNil))))) [some (.ref a), some (.ref l), some (.int (r : Int)), some (.int (way : Int)), some (.ref p), some (.int (0 + (k : Int)))] H6 (ws.length + 11) (hv ws + 2) (dv ws) :=
      yw_some (yw_cat (yw_cat (yw_cat (yw_var i6 hw hg rfl) (yw_lst (ya_cons (ys_name rfl) ya_nil))) (yw_dlist rfl)) (yw_left rfl rfl fun H Q q => arg H Q rfl q)) (by omega) (by omega)
    refine hy (by omega) L' H6 _ ((leftW a l).refl H6) i6 (by omega) fun H7 p7 ws7 L7 t7 i7 l7 hw7 hg7 h3 h4 h5 => ?_
    exact ⟨p7, ws7, L7, _, rfl, (leftW a l).trans t6 t7, i7, by omega, hw7, hg7, by omega, by omega, by omega⟩
  rintro σ H5 ⟨p, ws, L2, x5, rfl, t5, i5, l5, hw, hg, h1, h2, h2d⟩
  exact fin t5 i5 l5 rfl (yw_cat (yw_var i5 hw hg rfl) (yw_lst (ya_cons (ys_l (by decide +kernel) (by decide +kernel)) ya_nil))) (by omega) (by omega) (by omega)
/-! ### tied: by the rooms that are left -/
structure DwI (K : PySem.W.Frag) (mg : Str → Option Value) where
  draw : DfT K mg "_law_draw" s__law_draw ["flow", "many"]
  name : DfT K mg "_law_name" s__law_name ["flow"]
  atom : DfT K mg "_law_atom" s__law_atom ["flow"]
  called : DfT K mg "_law_called" s__law_called ["flow"]
  some : DfT K mg "_law_some" s__law_some ["flow", "left", "room"]
  e : DfT K mg "_law_e" s__law_e ["flow", "left", "room"]
  rows : DfT K mg "_law_rows" s__law_rows ["flow", "left", "room"]
  row : DfT K mg "_law_row" s__law_row ["flow", "left", "room"]
  item : DfT K mg "_law_item" s__law_item ["flow", "left", "room"]
end
end Wk
set_option maxRecDepth 100000
set_option maxHeartbeats 4000000
namespace Wk
open PySem L2 TL PyProof.Rows Gm Gr
section
variable {P : Program} {w : World} {K : PySem.W.Frag} {mg : Str → Option Value} {base : Heap}
section
variable {CX : CXT} {f : Addr} {fd : FuncData} {ps : List Str} {sp sp' : Sp}
theorem fnOk_of {k : Nat} (h : ∀ vs H Q E, sp' vs H Q E → ∃ sp, FnOk P w K mg base CX k f fd ps sp ∧ sp vs H Q E) : FnOk P w K mg base CX k f fd ps sp' :=
  ⟨fun vs H Q E q => by
    obtain ⟨sp, F, q⟩ := h _ _ _ _ q
    exact F.len _ _ _ _ q, fun A outer s H args us vs Q E hr he hb hv hs => by
    obtain ⟨sp, F, q⟩ := h _ _ _ _ hs
    exact F.run A outer s H args us vs Q E hr he hb hv q⟩
theorem fnOk_mono {j k : Nat} (F : FnOk P w K mg base CX j f fd ps sp) (h : j ≤ k) : FnOk P w K mg base CX k f fd ps sp := ⟨F.len, fun A outer s H args us vs Q E hr => F.run A outer s H args us vs Q E (hr.mono h)⟩
end
structure DrP (P : Program) (w : World) {K : PySem.W.Frag} {mg : Str → Option Value} (base : Heap) (I : DwI K mg) (r : Nat) : Prop where
  e : FnOk P w K mg base CX0 (2 * r + 5) I.e.f I.e.fd ["flow", "left", "room"] (sp_left r 1 0 0)
  row : FnOk P w K mg base CX0 (2 * r + 5) I.row.f I.row.fd ["flow", "left", "room"] (fun vs H Q E => 0 < r ∧ sp_left r 7 4 1 vs H Q E)
  some : FnOk P w K mg base CX0 (2 * r + 6) I.some.f I.some.fd ["flow", "left", "room"] (sp_left r 6 0 0)
  rows : FnOk P w K mg base CX0 (2 * r + 6) I.rows.f I.rows.fd ["flow", "left", "room"] (sp_leftN r 2 1 0)
theorem dr_step (T : Txt K mg) (I : DwI K mg) (hd : FnOk P w K mg base CX0 2 I.draw.f I.draw.fd ["flow", "many"] sp_draw) (r : Nat)
    (he : FnOk P w K mg base CX0 (2 * r + 4) I.e.f I.e.fd ["flow", "left", "room"] (sp_leftP r 1 0 0)) (hs : FnOk P w K mg base CX0 (2 * r + 4) I.some.f I.some.fd ["flow", "left", "room"] (sp_leftP r 6 0 0)) (hr : FnOk P w K mg base CX0 (2 * r + 4) I.rows.f I.rows.fd ["flow", "left", "room"] (sp_leftPN r 2 1 0)) : DrP P w base I r := by
  have hn := ok_dname (P := P) (w := w) (base := base) I.name.F (I.draw.on hd)
  have ha := ok_datom T I.atom.F (I.draw.on hd) (I.name.on hn)
  have hc := ok_dcalled T I.called.F (I.draw.on hd) (I.name.on hn)
  have h1 := ok_de T I.e.F (I.draw.on hd) (by omega) (I.name.on hn) (I.atom.on ha) (I.called.on hc) (I.e.on he) (I.some.on hs) (I.rows.on (fnOk_of fun _ _ _ _ ⟨r', e, q⟩ => ⟨_, hr, r', e, leftN_of q⟩))
  have h2 := ok_drow T I.row.F (I.draw.on hd) (by omega) (I.name.on hn) (I.e.on he) (I.rows.on hr)
  have h3 := ok_dsome T I.some.F (I.draw.on hd) (by omega) (I.e.on h1)
  have h4 := ok_drows T I.rows.F (I.draw.on hd) (by omega) (I.row.on h2)
  exact ⟨h1, h2, h3, h4⟩
theorem dr_all (T : Txt K mg) (I : DwI K mg) (hd : FnOk P w K mg base CX0 2 I.draw.f I.draw.fd ["flow", "many"] sp_draw) : ∀ r, DrP P w base I r
  | 0 => dr_step T I hd 0 (fnOk_of fun _ _ _ _ ⟨r', e, _⟩ => by omega) (fnOk_of fun _ _ _ _ ⟨r', e, _⟩ => by omega) (fnOk_of fun _ _ _ _ ⟨r', e, _⟩ => by omega)
  | r + 1 => by
    have h := dr_all T I hd r
    exact dr_step T I hd (r + 1) (fnOk_of fun _ _ _ _ ⟨r', e, q⟩ => ⟨_, fnOk_mono h.e (by omega), (by cases e; exact q)⟩) (fnOk_of fun _ _ _ _ ⟨r', e, q⟩ => ⟨_, fnOk_mono h.some (by omega), (by cases e; exact q)⟩) (fnOk_of fun _ _ _ _ ⟨r', e, q⟩ => ⟨_, fnOk_mono h.rows (by omega), (by cases e; exact q)⟩)
/-- an item, in any room -/
def sp_itemR : Sp := fun vs H Q E => ∃ r, r ≤ 20 ∧ sp_item r vs H Q E
theorem dr_item (T : Txt K mg) (I : DwI K mg) (hd : FnOk P w K mg base CX0 2 I.draw.f I.draw.fd ["flow", "many"] sp_draw) : FnOk P w K mg base CX0 47 I.item.f I.item.fd ["flow", "left", "room"] sp_itemR := by
  have hn := ok_dname (P := P) (w := w) (base := base) I.name.F (I.draw.on hd)
  have hc := ok_dcalled T I.called.F (I.draw.on hd) (I.name.on hn)
  refine fnOk_of fun vs H Q E ⟨r, hr, q⟩ => ⟨_, fnOk_mono (ok_ditem (r := r) (lv := 2 * r + 6) T I.item.F (I.draw.on hd) (by omega) (I.name.on hn) (I.called.on hc) (I.row.on (fnOk_mono (dr_all T I hd r).row (by omega))) (I.rows.on (fnOk_of fun _ _ _ _ q => ⟨_, (dr_all T I hd r).rows, leftN_of q⟩))) (by omega), q⟩
end
end Wk
/-! What parsers do with words that are told lines farther down, and with more words behind. -/
namespace Gr
open Wk Gm
/-- a word some lines farther down -/
def sh (d : Nat) (t : Tk) : Tk := ⟨t.so, t.wd, t.ln + d⟩
section
variable (d : Nat) (bs : List Tk)
def gg (l : List Tk) : List Tk := l.map (sh d) ++ bs
def Cn (r : List Tk) : Prop := r ≠ [] ∨ bs = []
def Sim {σ : Type} (x y : R Tk σ) : Prop := match x with
  | .ok a r => Cn bs r → y = .ok a (gg d bs r)
  | .bad r => Cn bs r → y = .bad (gg d bs r)
  | .out => True
def SimC {σ : Type} (x y : R Tk σ) : Prop := match x with
  | .ok a r => y = .ok a (gg d bs r)
  | .bad r => Cn bs r → y = .bad (gg d bs r)
  | .out => True
end
/-- nothing is left -/
def Nl {σ : Type} (x : R Tk σ) : Prop := match x with
  | .ok _ r => r = []
  | .bad r => r = []
  | .out => True
def Nb {σ : Type} (x : R Tk σ) : Prop := match x with
  | .ok _ _ => False
  | .bad r => r = []
  | .out => True
section
variable {d : Nat} {bs : List Tk} {σ ρ : Type}
theorem gg_cons (t : Tk) (r : List Tk) : gg d bs (t :: r) = sh d t :: gg d bs r := rfl
theorem cn_cons {t : Tk} {r : List Tk} : Cn bs (t :: r) := .inl (by intro h; cases h)
theorem gg_nil (h : Cn bs []) : gg d bs [] = [] := h.elim (fun h => absurd rfl h) (fun h => by show [] ++ bs = []; rw [h]; rfl)
theorem hd_gg {x : String} {r : List Tk} (h : Cn bs r) : hd x (gg d bs r) = hd x r := by
  cases r with
  | nil => rw [gg_nil h]
  | cons t r => rfl
theorem tail_gg {x : String} {r : List Tk} (h : hd x r = true) : (gg d bs r).tail = gg d bs r.tail := by
  cases r with
  | nil => cases h
  | cons t r => rfl
theorem Nb.nl {x : R Tk σ} (h : Nb x) : Nl x := by cases x <;> first | exact h.elim | exact h
theorem nl_bind {x : R Tk σ} {f : σ → P ρ} (h : Nl x) (hf : ∀ a, Nl (f a [])) : Nl (bind x f) := by
  cases x with
  | out => trivial
  | bad r => exact h
  | ok a r => cases (show r = [] from h); exact hf a
theorem nb_bind {x : R Tk σ} {f : σ → P ρ} (h : Nb x) : Nb (bind x f) := by
  cases x with
  | out => trivial
  | bad r => exact h
  | ok a r => exact h.elim
theorem nb_bind2 {x : R Tk σ} {f : σ → P ρ} (h : Nl x) (hf : ∀ a, Nb (f a [])) : Nb (bind x f) := by
  cases x with
  | out => trivial
  | bad r => exact h
  | ok a r => cases (show r = [] from h); exact hf a
theorem Sim.bind {x y : R Tk σ} {f f' : σ → P ρ} (h : Sim d bs x y) (hs : ∀ a, Nl (f a [])) (hf : ∀ a r, Cn bs r → Sim d bs (f a r) (f' a (gg d bs r))) : Sim d bs (bind x f) (bind y f') := by
  cases x with
  | out => trivial
  | bad r => intro c; rw [h c]; rfl
  | ok a r =>
    show Sim d bs (f a r) _
    by_cases c : Cn bs r
    · rw [h c]; exact hf a r c
    · have hr : r = [] := Decidable.byContradiction fun z => c (.inl z)
      subst hr
      have hn := hs a
      cases e : f a [] with
      | out => trivial
      | bad r => rw [e] at hn; cases (show r = [] from hn); exact fun z => absurd z c
      | ok b r => rw [e] at hn; cases (show r = [] from hn); exact fun z => absurd z c
theorem Sim.bindC {x y : R Tk σ} {f f' : σ → P ρ} (h : Sim d bs x y) (hs : ∀ a, Nb (f a [])) (hf : ∀ a r, Cn bs r → SimC d bs (f a r) (f' a (gg d bs r))) : SimC d bs (Gr.bind x f) (Gr.bind y f') := by
  cases x with
  | out => trivial
  | bad r => intro c; rw [h c]; rfl
  | ok a r =>
    show SimC d bs (f a r) _
    by_cases c : Cn bs r
    · rw [h c]; exact hf a r c
    · have hr : r = [] := Decidable.byContradiction fun z => c (.inl z)
      subst hr
      have hn := hs a
      cases e : f a [] with
      | out => trivial
      | bad r => rw [e] at hn; cases (show r = [] from hn); exact fun z => absurd z c
      | ok b r => rw [e] at hn; exact hn.elim
theorem SimC.bind {x y : R Tk σ} {f f' : σ → P ρ} (h : SimC d bs x y) (hf : ∀ a r, SimC d bs (f a r) (f' a (gg d bs r))) : SimC d bs (bind x f) (bind y f') := by
  cases x with
  | out => trivial
  | bad r => intro c; rw [h c]; rfl
  | ok a r => rw [h]; exact hf a r
theorem SimC.sim {x y : R Tk σ} (h : SimC d bs x y) : Sim d bs x y := by
  cases x with
  | out => trivial
  | bad r => exact h
  | ok a r => exact fun _ => h
theorem sim_ok {a : σ} {r : List Tk} : Sim d bs (.ok a r) (.ok a (gg d bs r)) := fun _ => rfl
theorem simc_ok {a : σ} {r : List Tk} : SimC d bs (.ok a r) (.ok a (gg d bs r)) := rfl
theorem sim_bad {r : List Tk} : SimC (σ := σ) d bs (.bad r) (.bad (gg d bs r)) := fun _ => rfl
theorem sim_badn {y : R Tk σ} (h : y = .bad []) (hg : Cn bs [] → gg d bs [] = []) : SimC d bs (.bad []) y := fun c => by rw [hg c, h]
theorem sim_want (x : String) : ∀ toks, SimC d bs (want x toks) (want x (gg d bs toks))
  | [] => fun c => by rw [gg_nil c]; rfl
  | t :: r => by
    rw [gg_cons, want, want]
    show SimC d bs (if isW x t = true then _ else _) (if isW x t = true then _ else _)
    split
    · exact simc_ok
    · exact fun c => rfl
theorem sim_named : ∀ toks, SimC d bs (named toks) (named (gg d bs toks))
  | [] => fun c => by rw [gg_nil c]; rfl
  | t :: r => by
    rw [gg_cons, named, named]
    show SimC d bs (if t.so = .name then _ else _) (if t.so = .name then _ else _)
    split
    · exact simc_ok
    · exact fun c => rfl
theorem sim_opn {p : Option In} {x : String} {k k' : In → P σ} (h : ∀ q, p = some q → ∀ r, Sim d bs (k q r) (k' q (gg d bs r))) : ∀ toks, Sim d bs (opn p x k toks) (opn p x k' (gg d bs toks))
  | [] => fun c => by rw [gg_nil c]; rfl
  | t :: r => by
    rw [gg_cons, opn.eq_def, opn.eq_def]
    show Sim d bs (if isW x t = true then _ else _) (if isW x t = true then _ else _)
    split
    · cases p with
      | none => exact fun c => rfl
      | some q => exact h q rfl r
    · exact fun c => rfl
theorem simc_opn {p : Option In} {x : String} {k k' : In → P σ} (h : ∀ q, p = some q → ∀ r, SimC d bs (k q r) (k' q (gg d bs r))) : ∀ toks, SimC d bs (opn p x k toks) (opn p x k' (gg d bs toks))
  | [] => fun c => by rw [gg_nil c]; rfl
  | t :: r => by
    rw [gg_cons, opn.eq_def, opn.eq_def]
    show SimC d bs (if isW x t = true then _ else _) (if isW x t = true then _ else _)
    split
    · cases p with
      | none => exact fun c => rfl
      | some q => exact h q rfl r
    · exact fun c => rfl
theorem nl_many {X : P Tr} (hN : Nb (X [])) : ∀ n acc, Nb (many X n acc [])
  | 0, _ => trivial
  | n + 1, acc => by unfold many; exact nb_bind hN
theorem nl_listed {X : P Tr} {c : String} (hN : Nb (X [])) : Nb (listed X c []) := by
  unfold listed
  rw [if_neg (by intro h; cases h)]
  exact nb_bind (nl_many hN _ _)
theorem sim_many {X X' : P Tr} (hX : ∀ toks, Sim d bs (X toks) (X' (gg d bs toks))) (hN : Nb (X [])) : ∀ (n m : Nat) (acc : List Tr) (toks : List Tk), n ≤ m → Sim d bs (many X n acc toks) (many X' m acc (gg d bs toks))
  | 0, _, _, _, _ => trivial
  | n + 1, m, acc, toks, h => by
    obtain ⟨m, rfl⟩ : ∃ k, m = k + 1 := ⟨m - 1, by omega⟩
    unfold many
    refine (hX toks).bind (fun a => ?_) fun t r c => ?_
    · show Nl (if hd "," [] = true then _ else _)
      rw [if_neg (by intro h; cases h)]
      rfl
    · rw [hd_gg c]
      split
      · rename_i hh
        rw [tail_gg hh]
        exact sim_many hX hN n m _ _ (by omega)
      · exact sim_ok
theorem len_gg (l : List Tk) : l.length ≤ (gg d bs l).length := by
  unfold gg; rw [List.length_append, List.length_map]; omega
theorem sim_listed {X X' : P Tr} {c : String} (hX : ∀ toks, Sim d bs (X toks) (X' (gg d bs toks))) (hN : Nb (X [])) (toks : List Tk) : Sim d bs (listed X c toks) (listed X' c (gg d bs toks)) := by
  have hl := len_gg (d := d) (bs := bs) toks
  unfold listed
  cases toks with
  | nil =>
    rw [if_neg (by intro h; cases h)]
    by_cases c : Cn bs []
    · rw [gg_nil c, if_neg (by intro h; cases h)]
      refine Sim.bind ?_ (fun a => rfl) fun ts r c => (sim_want _ r).sim.bind (fun a => rfl) fun _ r _ => sim_ok
      have := sim_many (d := d) (bs := bs) hX hN ([] : List Tk).length.succ (gg d bs []).length.succ [] [] (by rw [gg_nil c]; exact Nat.le_refl _)
      rw [gg_nil c] at this
      exact this
    · have hn := nb_bind (f := fun ts r => bind (want ‹String› r) fun _ r => R.ok ts r) (nl_many (X := X) hN ([] : List Tk).length.succ [])
      cases e : bind (many X ([] : List Tk).length.succ [] []) (fun ts r => bind (want ‹String› r) fun _ r => R.ok ts r) with
      | out => trivial
      | bad b => rw [e] at hn; cases (show b = [] from hn); exact fun z => absurd z c
      | ok a b => rw [e] at hn; exact hn.elim
  | cons t r =>
    rw [hd_gg cn_cons]
    split
    · rename_i hh
      rw [tail_gg hh]
      exact sim_ok
    · exact (sim_many hX hN _ _ _ _ (by omega)).bind (fun a => rfl) fun ts r c => (sim_want _ r).sim.bind (fun a => rfl) fun _ r _ => sim_ok
theorem nb_stmts {S : P Tr} (hN : Nb (S [])) : ∀ n acc, Nb (stmts S n acc [])
  | 0, _ => trivial
  | n + 1, acc => by
    unfold stmts
    rw [if_neg (by intro h; cases h)]
    exact nb_bind hN
theorem simc_stmts {S S' : P Tr} (hS : ∀ toks, Sim d bs (S toks) (S' (gg d bs toks))) (hN : Nb (S [])) : ∀ (n m : Nat) (acc : List Tr) (toks : List Tk), n ≤ m → SimC d bs (stmts S n acc toks) (stmts S' m acc (gg d bs toks))
  | 0, _, _, _, _ => trivial
  | n + 1, m, acc, toks, h => by
    obtain ⟨m, rfl⟩ : ∃ k, m = k + 1 := ⟨m - 1, by omega⟩
    by_cases c : Cn bs toks
    · unfold stmts
      rw [hd_gg c]
      split
      · rename_i hh
        rw [tail_gg hh]
        exact simc_ok
      · exact (hS toks).bindC (fun a => nb_stmts hN n _) fun t r c => simc_stmts hS hN n m _ r (by omega)
    · have hr : toks = [] := Decidable.byContradiction fun z => c (.inl z)
      subst hr
      have hn := nb_stmts hN (n + 1) acc
      cases e : stmts S (n + 1) acc [] with
      | out => trivial
      | bad b => rw [e] at hn; cases (show b = [] from hn); exact fun z => absurd z c
      | ok a b => rw [e] at hn; exact hn.elim
end
/-- the parsers behind an open bracket -/
def InN (p : Option In) : Prop := ∀ q, p = some q → Nb (q.E []) ∧ Nb (q.S [])
def InM (d : Nat) (bs : List Tk) (p : Option In) : Prop := ∀ q, p = some q → (∀ toks, Sim d bs (q.E toks) (q.E (gg d bs toks))) ∧ (∀ toks, Sim d bs (q.S toks) (q.S (gg d bs toks)))
section
variable {d : Nat} {bs : List Tk} {p : Option In} (hn : InN p) (hp : InM d bs p)
include hn hp
theorem simc_block : ∀ toks, SimC d bs (block p toks) (block p (gg d bs toks)) :=
  simc_opn fun q e r => SimC.bind (simc_stmts (hp q e).2 (hn q e).2 _ _ _ _ (by have := len_gg (d := d) (bs := bs) r; omega)) fun a r => simc_ok
omit hn hp in
theorem sim_params : ∀ toks, Sim d bs (params p toks) (params p (gg d bs toks)) :=
  sim_opn fun q e r => (sim_listed (fun t => (sim_named t).sim) (show Nb (named []) from rfl) r).bind (fun a => rfl) fun a r _ => sim_ok
theorem sim_args : ∀ toks, Sim d bs (args p toks) (args p (gg d bs toks)) :=
  sim_opn fun q e r => (sim_listed (hp q e).1 (hn q e).1 r).bind (fun a => rfl) fun a r _ => sim_ok
theorem sim_one {x y : String} {f : Tr → Tr} : ∀ toks, Sim d bs (opn p x (fun q r => bind (q.E r) fun e r => bind (want y r) fun _ r => .ok (f e) r) toks) (opn p x (fun q r => bind (q.E r) fun e r => bind (want y r) fun _ r => .ok (f e) r) (gg d bs toks)) :=
  sim_opn fun q e r => ((hp q e).1 r).bind (fun a => rfl) fun a r _ => (sim_want y r).sim.bind (fun a => rfl) fun _ r _ => sim_ok
theorem sim_first : ∀ toks, Sim d bs (first p toks) (first p (gg d bs toks))
  | [] => fun c => by rw [gg_nil c]; rfl
  | t :: r => by
    rw [gg_cons, first, first]
    show Sim d bs _ (if t.so = .number ∨ t.so = .text ∨ t.so = .name then _ else if is1 aloneS t = true then _ else if isW "(" t = true then _ else if is1 askedS t = true then _ else if isW "[" t = true then _ else if isW "fun" t = true then _ else if isW "super" t = true then _ else if isW "new" t = true then _ else if isW "yield" t = true then _ else _)
    split
    · exact sim_ok
    split
    · exact sim_ok
    split
    · exact sim_one hn hp (f := id) (t :: r)
    split
    · exact sim_one hn hp (f := fun e => .t [w "ask", wdT t.wd, .t [e]]) r
    split
    · exact sim_opn (d := d) (bs := bs) (p := p) (x := "[") (k := fun q r => bind (listed q.E "]" r) fun ts r => .ok (Tr.t [w "list", .t ts]) r) (k' := fun q r => bind (listed q.E "]" r) fun ts r => .ok (Tr.t [w "list", .t ts]) r) (fun q e r => (sim_listed (hp q e).1 (hn q e).1 r).bind (fun a => rfl) fun a r _ => sim_ok) (t :: r)
    split
    · exact (sim_params r).bind (fun a => rfl) fun a r _ => (simc_block hn hp r).sim.bind (fun a => rfl) fun a r _ => sim_ok
    split
    · exact (sim_want "." r).sim.bind (fun a => rfl) fun a r _ => (sim_named r).sim.bind (fun a => rfl) fun a r _ => (sim_args hn hp r).bind (fun a => rfl) fun a r _ => sim_ok
    split
    · exact (sim_named r).sim.bind (fun a => rfl) fun a r _ => (sim_args hn hp r).bind (fun a => rfl) fun a r _ => sim_ok
    split
    · exact sim_opn (d := d) (bs := bs) (p := p) (x := "(") (k := fun _ r => bind (want ")" r) fun _ r => .ok (Tr.t [w "ask", w "yield", Tr.t []]) r) (k' := fun _ r => bind (want ")" r) fun _ r => .ok (Tr.t [w "ask", w "yield", Tr.t []]) r) (fun q e r => (sim_want ")" r).sim.bind (fun a => rfl) fun a r _ => sim_ok) r
    · exact fun c => rfl
omit hn hp in
theorem nl_post : ∀ n t, Nl (post p n t [])
  | 0, _ => trivial
  | n + 1, t => rfl
theorem sim_post : ∀ (n m : Nat) (t : Tr) (toks : List Tk), n ≤ m → Cn bs toks → Sim d bs (post p n t toks) (post p m t (gg d bs toks))
  | 0, _, _, _, _, _ => trivial
  | n + 1, m, t, toks, h, c => by
    obtain ⟨m, rfl⟩ : ∃ k, m = k + 1 := ⟨m - 1, by omega⟩
    unfold post
    rw [hd_gg c, hd_gg c, hd_gg c]
    split
    · exact (sim_args hn hp toks).bind (fun a => nl_post n _) fun a r c => sim_post n m _ r (by omega) c
    split
    · exact (sim_one hn hp (f := id) toks).bind (fun a => nl_post n _) fun a r c => sim_post n m _ r (by omega) c
    split
    · rename_i hh
      rw [tail_gg hh]
      refine (sim_named _).sim.bind (fun a => ?_) fun a r c => ?_
      · show Nl (if hd "(" [] = true then _ else _)
        rw [if_neg (by intro h; cases h)]
        exact nl_post n _
      · rw [hd_gg c]
        split
        · exact (sim_args hn hp r).bind (fun a => nl_post n _) fun a r c => sim_post n m _ r (by omega) c
        · exact sim_post n m _ r (by omega) c
    · exact sim_ok
theorem sim_opd (toks : List Tk) : Sim d bs (opd p toks) (opd p (gg d bs toks)) :=
  (sim_first hn hp toks).bind (fun a => nl_post _ _) fun t r c => sim_post hn hp _ _ t r (by have := len_gg (d := d) (bs := bs) r; omega) c
omit hn hp in
theorem min_gg : ∀ toks : List Tk, Cn bs (minuses (G p) toks).2 → minuses (G p) (gg d bs toks) = ((minuses (G p) toks).1, gg d bs (minuses (G p) toks).2)
  | [], c => by rw [gg_nil c]; show (0, []) = (0, gg d bs []); rw [gg_nil c]
  | t :: r, c => by
    rw [gg_cons]
    have e : (G p).mi (sh d t) = (G p).mi t := rfl
    unfold minuses at c ⊢
    rw [e]
    split
    · rename_i hm
      rw [if_pos hm] at c
      rw [min_gg r c]
    · rfl
theorem sim_high (toks : List Tk) : Sim d bs (high (G p) toks) (high (G p) (gg d bs toks)) := by
  by_cases c : Cn bs (minuses (G p) toks).2
  · unfold high
    rw [min_gg toks c]
    have h : Sim d bs ((G p).O (minuses (G p) toks).2) ((G p).O (gg d bs (minuses (G p) toks).2)) := sim_opd hn hp _
    dsimp only
    cases e : (G p).O (minuses (G p) toks).2 with
    | out => trivial
    | bad b => rw [e] at h; intro c; rw [h c]
    | ok a r => rw [e] at h; intro c; rw [h c]
  · have hr : (minuses (G p) toks).2 = [] := Decidable.byContradiction fun z => c (.inl z)
    unfold high
    rw [hr] at c ⊢
    exact fun z => absurd z c
theorem sim_climb : ∀ (n m : Nat), n ≤ m → (∀ (least : Nat) (toks : List Tk), Sim d bs (climb (G p) n least toks) (climb (G p) m least (gg d bs toks))) ∧
    (∀ (least : Nat) (t : Tr) (held : Nat) (toks : List Tk), Cn bs toks → Sim d bs (loop (G p) n least t held toks) (loop (G p) m least t held (gg d bs toks)))
  | 0, _, _ => ⟨fun _ _ => by rw [climb]; trivial, fun _ _ _ _ _ => by rw [loop.eq_def]; trivial⟩
  | n + 1, m, h => by
    obtain ⟨m, rfl⟩ : ∃ k, m = k + 1 := ⟨m - 1, by omega⟩
    obtain ⟨ihA, ihB⟩ := sim_climb n m (by omega)
    have nlL : ∀ (least : Nat) (t : Tr) (held : Nat), Nl (loop (G p) n least t held []) := fun least t held => by
      cases n with
      | zero => rw [loop.eq_def]; trivial
      | succ n => rw [loop.eq_def]; rfl
    have on : ∀ (f : Tr → Tr) (least held : Nat) (x y : R Tk Tr), Sim d bs x y → Sim d bs (Gr.bind x fun a r => loop (G p) n least (f a) held r) (Gr.bind y fun a r => loop (G p) m least (f a) held r) := fun f least held x y hxy =>
      Sim.bind (f := fun a r => loop (G p) n least (f a) held r) (f' := fun a r => loop (G p) m least (f a) held r) hxy (fun a => nlL _ _ _) fun a r c => ihB least (f a) held r c
    constructor
    · intro least toks
      cases toks with
      | nil =>
        by_cases c : Cn bs []
        · rw [gg_nil c, climb, climb]
          exact fun c => by rw [gg_nil c]; rfl
        · rw [climb]
          exact fun z => absurd z c
      | cons t r =>
        rw [climb, climb]
        have e : noH (G p) (gg d bs (t :: r)) = noH (G p) (t :: r) := rfl
        rw [e]
        split
        · have h2 := on (G p).mkNo least 3 _ _ (ihA 3 r)
          rw [show (t :: r).tail = r from rfl, show (gg d bs (t :: r)).tail = gg d bs r from rfl]
          generalize climb (G p) n 3 r = x at h2 ⊢
          generalize climb (G p) m 3 (gg d bs r) = y at h2 ⊢
          cases x <;> cases y <;> exact h2
        · have h2 := on (fun a => a) least 7 _ _ (sim_high hn hp (t :: r))
          generalize high (G p) (t :: r) = x at h2 ⊢
          generalize high (G p) (gg d bs (t :: r)) = y at h2 ⊢
          cases x <;> cases y <;> exact h2
    · intro least t held toks c
      rw [loop.eq_def, loop.eq_def]
      cases toks with
      | nil =>
        rw [gg_nil c]
        exact fun c => by rw [gg_nil c]
      | cons x r =>
        show Sim d bs (if goes least held ((G p).lv x) = true then _ else _) (if goes least held ((G p).lv x) = true then _ else _)
        split
        · have h2 := on (fun a => (G p).two x t a) least ((G p).lv x) _ _ (ihA ((G p).lv x + 1) r)
          rw [show (List.map (sh d) r).append bs = gg d bs r from rfl, show (G p).lv (sh d x) = (G p).lv x from rfl, show (G p).two (sh d x) = (G p).two x from rfl]
          generalize climb (G p) n ((G p).lv x + 1) r = u at h2 ⊢
          generalize climb (G p) m ((G p).lv x + 1) (gg d bs r) = y at h2 ⊢
          cases u <;> cases y <;> exact h2
        · exact fun c => rfl
theorem sim_expr (toks : List Tk) : Sim d bs (expr p toks) (expr p (gg d bs toks)) := by
  unfold expr
  refine ((sim_climb hn hp _ _ (by have := len_gg (d := d) (bs := bs) toks; omega)).1 1 toks).bind (fun a => rfl) fun t r c => ?_
  unfold fin
  have e : lvH (G p) (gg d bs r) = lvH (G p) r := by
    cases r with
    | nil => rw [gg_nil c]
    | cons _ _ => rfl
  rw [e]
  split
  · exact sim_ok
  · exact fun c => rfl
omit hn hp in
theorem nb_expr : Nb (expr p []) := rfl
omit hn hp in
theorem nb_block : Nb (block p []) := rfl
theorem simc_stmt (hc : Prop) (hcd : hc → hd "else" (gg d bs []) = false) : ∀ toks, (hc → SimC d bs (stmt p toks) (stmt p (gg d bs toks))) ∧ Sim d bs (stmt p toks) (stmt p (gg d bs toks))
  | [] => ⟨fun _ c => by rw [gg_nil c]; rfl, fun c => by rw [gg_nil c]; rfl⟩
  | t :: r => by
    have semi : ∀ (a : Tr) (r : List Tk), SimC d bs (bind (want ";" r) fun _ r => .ok a r) (bind (want ";" (gg d bs r)) fun _ r => .ok a r) := fun a r => (sim_want ";" r).bind fun _ r => simc_ok
    have all : ∀ x y : R Tk Tr, SimC d bs x y → (hc → SimC d bs x y) ∧ Sim d bs x y := fun x y h => ⟨fun _ => h, h.sim⟩
    rw [gg_cons, stmt, stmt]
    show (hc → SimC d bs _ (if is1 ["break", "continue"] t = true then _ else if isW "var" t = true then _ else if is1 ["return", "throw", "say"] t = true then _ else if isW "try" t = true then _ else if isW "while" t = true then _ else if isW "if" t = true then _ else _)) ∧ Sim d bs _ (if is1 ["break", "continue"] t = true then _ else if isW "var" t = true then _ else if is1 ["return", "throw", "say"] t = true then _ else if isW "try" t = true then _ else if isW "while" t = true then _ else if isW "if" t = true then _ else _)
    split
    · exact all _ _ (semi _ r)
    split
    · exact all _ _ ((sim_named r).sim.bindC (fun a => rfl) fun n r _ => (sim_want "=" r).sim.bindC (fun a => rfl) fun _ r _ => (sim_expr hn hp r).bindC (fun a => rfl) fun e r _ => semi _ r)
    split
    · exact all _ _ ((sim_expr hn hp r).bindC (fun a => rfl) fun e r _ => semi _ r)
    split
    · exact all _ _ ((simc_block hn hp r).sim.bindC (fun a => rfl) fun b r _ => (sim_want "catch" r).sim.bindC (fun a => rfl) fun _ r _ => (sim_named r).sim.bindC (fun a => rfl) fun n r _ => (simc_block hn hp r).bind fun c r => simc_ok)
    split
    · exact all _ _ ((sim_expr hn hp r).bindC (fun a => rfl) fun e r _ => (simc_block hn hp r).bind fun b r => simc_ok)
    split
    · have inner : ∀ (e b : Tr) (r : List Tk), Cn bs r ∨ hc → SimC d bs (if hd "else" r = true then bind (block p r.tail) fun c r => .ok (Tr.t [w "if", e, b, c]) r else .ok (.t [w "if", e, b, .t []]) r) (if hd "else" (gg d bs r) = true then bind (block p (gg d bs r).tail) fun c r => .ok (Tr.t [w "if", e, b, c]) r else .ok (.t [w "if", e, b, .t []]) (gg d bs r)) := fun e b r hr => by
        have eh : hd "else" (gg d bs r) = hd "else" r := by
          rcases hr with c | c
          · exact hd_gg c
          · cases r with
            | nil => rw [hcd c]; rfl
            | cons _ _ => rfl
        rw [eh]
        split
        · rename_i hh
          rw [tail_gg hh]
          exact (simc_block hn hp _).bind fun c r => simc_ok
        · exact simc_ok
      constructor
      · intro c
        exact (sim_expr hn hp r).bindC (fun a => rfl) fun e r _ => (simc_block hn hp r).bind fun b r => inner e b r (.inr c)
      · exact (sim_expr hn hp r).bind (fun a => rfl) fun e r _ => (simc_block hn hp r).sim.bind (fun a => rfl) fun b r c => (inner e b r (.inl c)).sim
    · refine all _ _ ((sim_expr hn hp (t :: r)).bindC (fun a => rfl) fun e r c => ?_)
      rw [hd_gg c]
      split
      · rename_i hh
        rw [Bool.and_eq_true] at hh
        rw [tail_gg hh.1]
        exact (sim_expr hn hp _).bindC (fun a => rfl) fun u r _ => semi _ r
      · exact semi _ r
end
theorem in_n : ∀ d, InN (inn d)
  | 0 => fun q e => by cases e
  | d + 1 => fun q e => by
    have e : some (mk (inn d)) = some q := e
    cases e
    exact ⟨rfl, rfl⟩
theorem in_m (s : Nat) (bs : List Tk) : ∀ d, InM s bs (inn d)
  | 0 => fun q e => by cases e
  | d + 1 => fun q e => by
    have e : some (mk (inn d)) = some q := e
    cases e
    exact ⟨sim_expr (in_n d) (in_m s bs d), fun toks => (simc_stmt (in_n d) (in_m s bs d) False (fun z => z.elim) toks).2⟩
section
variable {d : Nat} {bs : List Tk} {σ : Type}
theorem simc_nb {x y : R Tk σ} (h : Nb x) (hc : Cn bs [] → SimC d bs x y) : SimC d bs x y := by
  by_cases c : Cn bs []
  · exact hc c
  · cases x with
    | out => trivial
    | bad b => cases (show b = [] from h); exact fun z => absurd z c
    | ok a b => exact h.elim
theorem simc_fields {K K' : List Tr → P σ} (h0 : ∀ acc, Nb (K acc [])) (h1 : ∀ acc t, t.so = .name → Nb (K acc [t])) (hK : ∀ acc r, SimC d bs (K acc r) (K' acc (gg d bs r))) :
    ∀ (n m : Nat) (acc : List Tr) (toks : List Tk), n ≤ m → SimC d bs (bind (fields n acc toks) K) (bind (fields m acc (gg d bs toks)) K')
  | 0, _, _, _, _ => by rw [fields]; trivial
  | n + 1, m, acc, [], h => by
    obtain ⟨m, rfl⟩ : ∃ k, m = k + 1 := ⟨m - 1, by omega⟩
    have e : ∀ n, fields (n + 1) acc [] = .ok acc [] := fun n => by rw [fields]; intro t u r e; cases e
    refine simc_nb (by rw [e]; exact h0 acc) fun c => ?_
    rw [gg_nil c, e, e]
    have := hK acc []
    rw [gg_nil c] at this
    exact this
  | n + 1, m, acc, [t], h => by
    obtain ⟨m, rfl⟩ : ∃ k, m = k + 1 := ⟨m - 1, by omega⟩
    have e : ∀ n t, fields (n + 1) acc [t] = .ok acc [t] := fun n t => by rw [fields]; intro t u r e; cases e
    by_cases hn : t.so = .name
    · refine simc_nb (by rw [e]; exact h1 acc t hn) fun c => ?_
      have e2 : gg d bs [t] = [sh d t] := by rw [gg_cons, gg_nil c]
      rw [e2, e, e]
      have := hK acc [t]
      rw [e2] at this
      exact this
    · have e2 : fields (m + 1) acc (gg d bs [t]) = .ok acc (gg d bs [t]) := by
        show fields (m + 1) acc (sh d t :: bs) = .ok acc (sh d t :: bs)
        cases bs with
        | nil => exact e _ _
        | cons u r => rw [fields, if_neg fun z => hn z.1]
      rw [e, e2]
      exact hK acc [t]
  | n + 1, m, acc, t :: u :: r, h => by
    obtain ⟨m, rfl⟩ : ∃ k, m = k + 1 := ⟨m - 1, by omega⟩
    rw [gg_cons, gg_cons, fields, fields]
    show SimC d bs _ (bind (if t.so = .name ∧ isW ";" u = true then _ else _) K')
    split
    · exact simc_fields h0 h1 hK n m _ r (by omega)
    · exact hK acc (t :: u :: r)
theorem sim_methods {p : Option In} (hn : InN p) (hp : InM d bs p) : ∀ (n m : Nat) (acc : List Tr) (toks : List Tk), n ≤ m → Sim d bs (methods p n acc toks) (methods p m acc (gg d bs toks))
  | 0, _, _, _, _ => by rw [methods]; trivial
  | n + 1, m, acc, [], h => by
    obtain ⟨m, rfl⟩ : ∃ k, m = k + 1 := ⟨m - 1, by omega⟩
    rw [methods]
    intro c
    rw [gg_nil c, methods]
  | n + 1, m, acc, t :: r, h => by
    obtain ⟨m, rfl⟩ : ∃ k, m = k + 1 := ⟨m - 1, by omega⟩
    rw [gg_cons, methods, methods]
    show Sim d bs _ (if t.so = .name then _ else _)
    split
    · have hm : ∀ acc, Nl (methods p n acc []) := fun acc => by
        cases n with
        | zero => rw [methods]; trivial
        | succ n => rw [methods]; rfl
      exact (sim_params r).bind (fun a => rfl) fun ps r _ => (simc_block hn hp r).sim.bind (fun a => hm _) fun b r _ => sim_methods hn hp n m _ r (by omega)
    · exact fun _ => rfl
theorem simc_class (k : Nat) (toks : List Tk) : SimC d bs (classB k toks) (classB k (gg d bs toks)) := by
  refine (sim_named toks).sim.bindC (fun a => rfl) fun n r c => ?_
  have he : Sim d bs (if hd "of" r = true then named r.tail else .ok .z r) (if hd "of" (gg d bs r) = true then named (gg d bs r).tail else .ok .z (gg d bs r)) := by
    rw [hd_gg c]
    split
    · rename_i hh
      rw [tail_gg hh]
      exact (sim_named _).sim
    · exact sim_ok
  refine he.bindC (fun a => rfl) fun e r _ => ?_
  refine simc_opn (fun q _ r => ?_) r
  have hl := len_gg (d := d) (bs := bs) r
  refine simc_fields (fun acc => ?_) (fun acc t h => ?_) (fun acc r => ?_) _ _ _ _ (by omega)
  · exact nb_bind2 (by rw [methods]; rfl) fun a => rfl
  · refine nb_bind ?_
    show Nb (methods _ (1 + 1) [] [t])
    rw [methods, if_pos h]
    exact rfl
  · have hl := len_gg (d := d) (bs := bs) r
    exact (sim_methods (in_n _) (in_m _ _ _) _ _ _ _ (by omega)).bindC (fun a => rfl) fun ms r _ => (sim_want "}" r).bind fun _ r => simc_ok
theorem nb_fun {p : Option In} {t : Tk} (h : isW "fun" t = true) : Nb (stmt p [t]) := by
  obtain ⟨so, wd, ln⟩ := t
  unfold isW at h
  rw [Bool.and_eq_true, Bool.or_eq_true, decide_eq_true_eq, decide_eq_true_eq, decide_eq_true_eq] at h
  obtain ⟨h1, h2⟩ := h
  have h2 : wd = .s (codes "fun") := h2
  subst h2
  rcases h1 with h1 | h1
  · have h1 : so = .key := h1
    subst h1
    rfl
  · have h1 : so = .mark := h1
    subst h1
    rfl
theorem simc_item (k : Nat) (hc : Prop) (he : hc → hd "else" (gg d bs []) = false) : ∀ toks, (hc → SimC d bs (item k toks) (item k (gg d bs toks))) ∧ Sim d bs (item k toks) (item k (gg d bs toks))
  | [] => ⟨fun _ c => by rw [gg_nil c]; rfl, fun c => by rw [gg_nil c]; rfl⟩
  | [t] => by
    have all : ∀ x y : R Tk Tr, SimC d bs x y → (hc → SimC d bs x y) ∧ Sim d bs x y := fun x y h => ⟨fun _ => h, h.sim⟩
    have hst := simc_stmt (p := inn k) (d := d) (bs := bs) (in_n k) (in_m _ _ k) hc he [t]
    rw [item.eq_def k, item.eq_def k (gg d bs [t])]
    by_cases h1 : isW "class" t = true
    · show (hc → SimC d bs (if isW "class" t = true then _ else _) (if isW "class" t = true then _ else _)) ∧ Sim d bs (if isW "class" t = true then _ else _) (if isW "class" t = true then _ else _)
      rw [if_pos h1, if_pos h1]
      exact all _ _ (simc_class k [])
    · show (hc → SimC d bs (if isW "class" t = true then _ else _) (if isW "class" t = true then _ else _)) ∧ Sim d bs (if isW "class" t = true then _ else _) (if isW "class" t = true then _ else _)
      rw [if_neg h1, if_neg h1]
      by_cases hb : bs = []
      · subst hb
        exact hst
      · by_cases h2 : isW "fun" t = true
        · exact all _ _ (simc_nb (nb_fun h2) fun c => absurd rfl (c.resolve_right hb))
        · obtain ⟨u, r, rfl⟩ : ∃ u r, bs = u :: r := by cases bs with
            | nil => exact absurd rfl hb
            | cons u r => exact ⟨u, r, rfl⟩
          show (hc → SimC d (u :: r) (stmt (inn k) [t]) (if isW "fun" t = true ∧ u.so = .name then _ else _)) ∧ Sim d (u :: r) (stmt (inn k) [t]) (if isW "fun" t = true ∧ u.so = .name then _ else _)
          rw [if_neg fun z => h2 z.1]
          exact hst
  | t :: u :: r => by
    have all : ∀ x y : R Tk Tr, SimC d bs x y → (hc → SimC d bs x y) ∧ Sim d bs x y := fun x y h => ⟨fun _ => h, h.sim⟩
    have hst := simc_stmt (p := inn k) (d := d) (bs := bs) (in_n k) (in_m _ _ k) hc he (t :: u :: r)
    rw [item.eq_def k, item.eq_def k (gg d bs (t :: u :: r))]
    show (hc → SimC d bs (if isW "class" t = true then _ else if isW "fun" t = true ∧ u.so = .name then _ else _) (if isW "class" t = true then _ else if isW "fun" t = true ∧ u.so = .name then _ else _)) ∧ Sim d bs (if isW "class" t = true then _ else if isW "fun" t = true ∧ u.so = .name then _ else _) (if isW "class" t = true then _ else if isW "fun" t = true ∧ u.so = .name then _ else _)
    split
    · exact all _ _ (simc_class k (u :: r))
    split
    · exact all _ _ ((sim_params r).bindC (fun a => rfl) fun ps r _ => (simc_block (in_n k) (in_m _ _ k) r).bind fun b r => simc_ok)
    · exact hst
theorem sim_items (k : Nat) : ∀ (n m : Nat) (acc : List Tr) (toks : List Tk), n ≤ m → Sim d bs (items k n acc toks) (items k m acc (gg d bs toks))
  | 0, _, _, _, _ => trivial
  | n + 1, m, acc, toks, h => by
    obtain ⟨m, rfl⟩ : ∃ k, m = k + 1 := ⟨m - 1, by omega⟩
    cases toks with
    | nil =>
      unfold items
      intro c
      rw [gg_nil c]
      rfl
    | cons t r =>
      unfold items
      refine ((simc_item k False (fun z => z.elim) (t :: r)).2).bind (fun a => ?_) fun t r c => sim_items k n m _ r (by omega)
      cases n <;> trivial
end
/-- nothing but the lines -/
def R.lines {σ : Type} (d : Nat) : R Tk σ → R Tk σ
  | .ok a r => .ok a (r.map (sh d))
  | .bad r => .bad (r.map (sh d))
  | .out => .out
theorem prog_no (toks : List Tk) : prog toks ≠ .out := by
  rcases prog_told toks with ⟨ts, e⟩ | ⟨r, e, _⟩ <;> rw [e] <;> (intro z; cases z)
theorem gg_nn (d : Nat) (l : List Tk) : gg d [] l = l.map (sh d) := List.append_nil _
theorem gg_zero (bs l : List Tk) : gg 0 bs l = l ++ bs := by
  unfold gg
  have : sh 0 = id := funext fun t => rfl
  rw [this, List.map_id]
theorem prog_lines (d : Nat) (toks : List Tk) : prog (toks.map (sh d)) = R.lines d (prog toks) := by
  have h := sim_items (d := d) (bs := []) 60 (toks.length + 1) ((toks.map (sh d)).length + 1) [] toks (by rw [List.length_map]; exact Nat.le_refl _)
  rw [gg_nn] at h
  have hn := prog_no toks
  show items 60 ((toks.map (sh d)).length + 1) [] (toks.map (sh d)) = R.lines d (items 60 (toks.length + 1) [] toks)
  have hn : items 60 (toks.length + 1) [] toks ≠ .out := hn
  cases e : items 60 (toks.length + 1) [] toks with
  | out => exact absurd e hn
  | bad r => rw [e] at h; rw [h (.inr rfl), gg_nn]; rfl
  | ok a r => rw [e] at h; rw [h (.inr rfl), gg_nn]; rfl
theorem prog_bad {as bs : List Tk} {t : Tk} {r : List Tk} (h : prog as = .bad (t :: r)) : prog (as ++ bs) = .bad (t :: r ++ bs) := by
  have hs := sim_items (d := 0) (bs := bs) 60 (as.length + 1) ((as ++ bs).length + 1) [] as (by rw [List.length_append]; omega)
  have h : items 60 (as.length + 1) [] as = .bad (t :: r) := h
  rw [h, gg_zero] at hs
  rw [prog, hs (.inl (by intro z; cases z)), gg_zero]
theorem items_acc (k : Nat) : ∀ (n : Nat) (acc : List Tr) (toks : List Tk), items k n acc toks = bind (items k n [] toks) fun ts r => .ok (acc ++ ts) r
  | 0, _, _ => rfl
  | n + 1, acc, toks => by
    unfold items
    split
    · show R.ok acc [] = R.ok (acc ++ []) []; rw [List.append_nil]
    · cases item k toks with
      | out => rfl
      | bad r => rfl
      | ok a r =>
        show items k n (acc ++ [a]) r = bind (items k n ([] ++ [a]) r) _
        rw [items_acc k n (acc ++ [a]), items_acc k n ([] ++ [a])]
        cases items k n [] r with
        | out => rfl
        | bad r => rfl
        | ok b r => show R.ok (acc ++ [a] ++ b) r = R.ok (acc ++ ([] ++ [a] ++ b)) r; rw [List.nil_append, List.append_assoc]
theorem items_more {k n m : Nat} {acc : List Tr} {toks : List Tk} (h : items k n acc toks ≠ .out) (hm : n ≤ m) : items k m acc toks = items k n acc toks := by
  have hs := sim_items (d := 0) (bs := []) k n m acc toks hm
  rw [gg_zero, List.append_nil] at hs
  cases e : items k n acc toks with
  | out => exact absurd e h
  | bad r => rw [e] at hs; rw [hs (.inr rfl), gg_zero, List.append_nil]
  | ok a r => rw [e] at hs; rw [hs (.inr rfl), gg_zero, List.append_nil]
theorem items_no {k n : Nat} {acc : List Tr} {toks : List Tk} (h : toks.length < n) : items k n acc toks ≠ .out := fun e => by
  have := gd_items k n acc toks h
  rw [e] at this
  exact this
theorem items_on {bs : List Tk} (he : hd "else" bs = false) (k : Nat) : ∀ (n : Nat) (acc ts : List Tr) (as : List Tk), items k n acc as = .ok ts [] → ∀ N, as.length + bs.length < N → items k N acc (as ++ bs) = items k (bs.length + 1) ts bs
  | 0, _, _, _, h, _, _ => by cases h
  | n + 1, acc, ts, [], h, N, hN => by
    have : acc = ts := by
      have h : R.ok acc [] = R.ok (α := Tk) ts [] := h
      cases h; rfl
    subst this
    exact items_more (items_no (Nat.lt_succ_self _)) (by simp only [List.length_nil] at hN; omega)
  | n + 1, acc, ts, t :: r, h, N, hN => by
    obtain ⟨N, rfl⟩ : ∃ k, N = k + 1 := ⟨N - 1, by omega⟩
    have hs := (simc_item (d := 0) (bs := bs) k True (fun _ => he) (t :: r)).1 trivial
    rw [gg_zero] at hs
    unfold items at h
    rw [if_neg (by intro z; cases z)] at h
    rw [items, if_neg (by intro z; cases z)]
    have hg := gd_item k (t :: r)
    cases e : item k (t :: r) with
    | out => rw [e] at h; cases h
    | bad b => rw [e] at h; cases h
    | ok a b =>
      rw [e] at h hs hg
      have hs : item k (t :: r ++ bs) = .ok a (gg 0 bs b) := hs
      rw [gg_zero] at hs
      rw [hs]
      have hl := hg.2 rfl
      exact items_on he k n _ _ b h N (by omega)
theorem prog_ok_on {as bs : List Tk} {ts : List Tr} (h : prog as = .ok ts []) (he : hd "else" bs = false) : prog (as ++ bs) = bind (prog bs) fun us r => .ok (ts ++ us) r := by
  rw [prog, items_on he 60 _ _ _ _ h _ (by rw [List.length_append]; omega), items_acc]
  rfl
end Gr
set_option maxRecDepth 100000
set_option maxHeartbeats 8000000
/-! Texts of words with spaces behind each, one behind the other. -/
namespace Wk
open PySem L2 TL PyProof.Rows Gm Gr
open SX (S S_len)
def goodL : List (List Nat) := (hevS ++ ligS).map codes
theorem gE_good : ∀ l ∈ gE, l ∈ goodL := by decide +kernel
def txt1 : List Nat := codes "\"a; \"\" #\""
def txt2 : List Nat := codes "\"\""
/-- what a word is -/
def clsW (l : List Nat) : So × Wd := if l = txt1 then (.text, .s (codes "a; \" #")) else if l = txt2 then (.text, .s []) else if l.all isS = true then (classify l).getD (.mark, .s l) else (.mark, .s l)
theorem str_ok : ∀ l ∈ goodL, l.all isS = true → l ≠ [] ∧ ((clsW l).1 = .name ∨ (clsW l).1 = .key ∨ (clsW l).1 = .number) ∧ classify l = some (clsW l) := by decide +kernel
theorem mrk_ok : ∀ l ∈ goodL, ¬ l.all isS = true → l = txt1 ∨ l = txt2 ∨ (clsW l = (.mark, .s l) ∧ ((∃ c ∈ marksL, l = [c]) ∨ (∃ c ∈ [61, 33, 60, 62], l = [c, 61]))) := by decide +kernel
theorem word_piece {l : List Nat} (h : l ∈ goodL) : PieceOk l (clsW l).1 (clsW l).2 := by
  by_cases hs : l.all isS = true
  · obtain ⟨h1, h2, h3⟩ := str_ok l h hs
    exact stretch_piece h1 hs h2 h3
  · rcases mrk_ok l h hs with rfl | rfl | ⟨e, ⟨c, hc, rfl⟩ | ⟨c, hc, rfl⟩⟩
    · have e : clsW txt1 = (.text, .s (codes "a; \" #")) := if_pos rfl
      rw [e]
      have := text_piece (l := codes "a; \" #") (by decide +kernel)
      rw [show (34 :: (StrLaws.dbl 34 (codes "a; \" #") ++ [34])) = txt1 from by decide +kernel] at this
      exact this
    · have e : clsW txt2 = (.text, .s []) := (if_neg (by decide +kernel)).trans (if_pos rfl)
      rw [e]
      have := text_piece (l := []) (by decide +kernel)
      rw [show (34 :: (StrLaws.dbl 34 [] ++ [34])) = txt2 from by decide +kernel] at this
      exact this
    · rw [e]; exact mark_one hc
    · rw [e]; exact mark_two hc
def sepS : List String := [" ", "\n", " # x ( \n", " "]
theorem sep_ok : ∀ s ∈ sepS, SpaceOk (codes s) := by
  have h1 : ∀ s ∈ sepS, (∃ c q, codes s = c :: q ∧ (c = 32 ∨ c = 10 ∨ c = 35)) := by
    intro s hs
    simp only [sepS, List.mem_cons, List.not_mem_nil, or_false] at hs
    rcases hs with rfl | rfl | rfl | rfl <;> exact ⟨_, _, rfl, by decide⟩
  have h2 : ∀ s ∈ sepS, Fine (codes s) := by unfold Fine; decide +kernel
  intro s hs
  refine ⟨?_, h1 s hs, h2 s hs⟩
  simp only [sepS, List.mem_cons, List.not_mem_nil, or_false] at hs
  intro n r
  rcases hs with rfl | rfl | rfl | rfl
  · exact cutF_sp n r
  · exact cutF_nl n r
  · show cutF n (32 :: 35 :: (codes " x ( " ++ 10 :: r)) = _; rw [cutF_sp, cut_note (by decide +kernel)]; rfl
  · exact cutF_sp n r
/-- a text that is cut into these words (lines from 0 on), whatever stands behind it -/
def Pcs (t : List Nat) (ts : List Tk) : Prop := ∀ n r, cutF n (t ++ r) = Res.app (ts.map (sh n)) (cutF (n + nls t) r)
theorem sh_sh (a b : Nat) (ts : List Tk) : (ts.map (sh a)).map (sh b) = ts.map (sh (a + b)) := by
  rw [List.map_map]
  refine List.map_congr_left fun t _ => ?_
  show (⟨t.so, t.wd, t.ln + a + b⟩ : Tk) = ⟨t.so, t.wd, t.ln + (a + b)⟩
  rw [Nat.add_assoc]
theorem Pcs.nil : Pcs [] [] := fun n r => (Res.app_nil _).symm
theorem Pcs.nl : Pcs [10] [] := fun n r => by
  show cutF n (10 :: r) = _
  rw [cutF_nl]; exact (Res.app_nil _).symm
theorem Pcs.app {t u : List Nat} {ts us : List Tk} (h : Pcs t ts) (k : Pcs u us) : Pcs (t ++ u) (ts ++ us.map (sh (nls t))) := fun n r => by
  rw [List.append_assoc, h, k, Res.app_app, List.map_append, sh_sh, nls_app, Nat.add_assoc, Nat.add_comm (nls t) n]
theorem Pcs.word {w s : List Nat} {so : So} {wd : Wd} (hw : PieceOk w so wd) (hs : SpaceOk s) : Pcs (w ++ s) [⟨so, wd, 0⟩] := fun n r => by
  obtain ⟨c, q, hc, n10, n32, n35, hm, hn⟩ := hw.head
  have ht := hw.tk (s ++ r) ((hs.sp r).ok so)
  have hnl : nls (w ++ s) = nls s := by rw [nls_app, nls_no hw.nn, Nat.zero_add]
  rw [List.append_assoc, hnl]
  rw [hc] at ht ⊢
  rw [List.cons_append] at ht ⊢
  rw [cutF_some n10 n32 n35 ht, hs.cut]
  show Res.app [⟨so, wd, n⟩] _ = Res.app [⟨so, wd, 0 + n⟩] _
  rw [Nat.zero_add]
def preS : List String := ["", "# so \"\n"]
theorem pre_ok : ∀ s ∈ preS, Pcs (codes s) [] := by
  intro s hs
  simp only [preS, List.mem_cons, List.not_mem_nil, or_false] at hs
  rcases hs with rfl | rfl
  · exact Pcs.nil
  · intro n r
    show cutF n (35 :: (codes " so \"" ++ 10 :: r)) = _
    rw [cut_note (by decide +kernel)]
    exact (Res.app_nil _).symm
theorem Pcs.cut {t : List Nat} {ts : List Tk} (h : Pcs t ts) (n : Nat) : cutF n t = .ok (ts.map (sh n)) := by
  have := h n []
  rw [List.append_nil] at this
  rw [this, cutF_nil]
  show Res.ok (ts.map (sh n) ++ []) = _
  rw [List.append_nil]
/-- no program's rest begins here: not with «else» -/
def NoE (ts : List Tk) : Prop := hd "else" ts = false
theorem gW_noE : ∀ l ∈ gW, isW "else" ⟨(clsW l).1, (clsW l).2, 0⟩ = false := by decide +kernel
theorem isW_sh (x : String) (d : Nat) (t : Tk) : isW x (sh d t) = isW x t := rfl
theorem hd_sh (x : String) (d : Nat) (ts : List Tk) : hd x (ts.map (sh d)) = hd x ts := by cases ts <;> rfl
theorem NoE.app {ts us : List Tk} (h : NoE ts) (k : NoE us) : NoE (ts ++ us) := by
  cases ts with
  | nil => exact k
  | cons t r => exact h
theorem NoE.sh {ts : List Tk} (h : NoE ts) (d : Nat) : NoE (ts.map (sh d)) := (hd_sh _ d ts).trans h
/-- a text, many times, with a line feed between -/
def linesN : Nat → List Nat → List Nat
  | 0, t => t
  | k + 1, t => t ++ 10 :: linesN k t
theorem linesN_ok {t : List Nat} {ts : List Tk} (h : Pcs t ts) (e : NoE ts) : ∀ k, ∃ us, Pcs (linesN k t) us ∧ NoE us
  | 0 => ⟨ts, h, e⟩
  | k + 1 => by
    obtain ⟨us, h2, e2⟩ := linesN_ok h e k
    refine ⟨_, h.app (Pcs.nl.app h2), ?_⟩
    exact e.app ((NoE.app (show NoE [] from rfl) (e2.sh _)).sh _)
theorem linesN_len (t : List Nat) : ∀ k, (linesN k t).length + 1 = (k + 1) * (t.length + 1)
  | 0 => by rw [linesN]; omega
  | k + 1 => by
    rw [linesN, List.length_append, List.length_cons, Nat.succ_mul, ← linesN_len t k]
    omega
/-! ### what is read of two texts, one behind the other -/
theorem lines_nls (a b : List Nat) : endL (a ++ 10 :: b) = endL b + (nls a + 1) := by
  unfold endL nls
  rw [List.count_append, List.count_cons]
  simp
  omega
theorem lineN_sh (d e : Nat) (r : List Tk) : lineN (e + d) (r.map (sh d)) = lineN e r + d := by
  cases r with
  | nil => rfl
  | cons t r => rfl
theorem deep_app (a b : List Tr) : deepT (a ++ b) = max (deepT a) (deepT b) := by
  unfold deepT
  rw [List.flatMap_append, List.map_append, maxL_app]
theorem prog_end {toks : List Tk} {ts : List Tr} {r : List Tk} (h : prog toks = .ok ts r) : r = [] := by
  rcases prog_told toks with ⟨ts', e⟩ | ⟨r', e, _⟩
  · rw [e] at h; cases h; rfl
  · rw [e] at h; cases h
theorem readR_ok {t : List Nat} {toks : List Tk} {ts : List Tr} {r : List Tk} (hc : cutF 1 t = .ok toks) (hp : prog toks = .ok ts r) : readR t = if 50 < deepT ts then .deep else .told ts := by
  unfold readR; rw [hc]; dsimp only; rw [hp]
theorem readR_bad {t : List Nat} {toks : List Tk} {r : List Tk} (hc : cutF 1 t = .ok toks) (hp : prog toks = .bad r) : readR t = .bad (lineN (endL t) r) := by
  unfold readR; rw [hc]; dsimp only; rw [hp]
/-- what a law of two texts asks -/
def Joined (a : List Nat) (x y z : RdR) : Prop := match x with
  | .bad l => nls a < l ∨ z = .bad l
  | .deep => True
  | .told xs => match y with
    | .bad l => z = .bad (l + (nls a + 1))
    | .deep => True
    | .told ys => z = .told (xs ++ ys)
theorem cut_join {a b : List Nat} {ts us : List Tk} (ha : Pcs a ts) (hb : Pcs b us) : cutF 1 (a ++ 10 :: b) = .ok (ts.map (sh 1) ++ (us.map (sh 1)).map (sh (nls a + 1))) := by
  have h := (ha.app (Pcs.nl.app hb)).cut 1
  rw [show a ++ ([10] ++ b) = a ++ 10 :: b from rfl] at h
  rw [h, List.map_append, List.nil_append, sh_sh, sh_sh, sh_sh]
  rfl
theorem read_join {a b : List Nat} {ts us : List Tk} (ha : Pcs a ts) (hb : Pcs b us) (e : NoE us) : Joined a (readR a) (readR b) (readR (a ++ 10 :: b)) := by
  have ca := ha.cut 1
  have cb := hb.cut 1
  have cw := cut_join ha hb
  generalize hA : ts.map (sh 1) = A at ca cw
  generalize hB : us.map (sh 1) = B at cb cw
  have eB : hd "else" (B.map (sh (nls a + 1))) = false := by rw [hd_sh, ← hB]; exact e.sh 1
  cases pa : prog A with
  | out => exact absurd pa (prog_no A)
  | bad r =>
    rw [readR_bad ca pa]
    cases r with
    | nil => exact .inl (by show nls a < endL a; unfold endL nls; omega)
    | cons t r =>
      refine .inr ?_
      rw [readR_bad cw (prog_bad pa)]
      rfl
  | ok xs r =>
    obtain rfl := prog_end pa
    rw [readR_ok ca pa]
    split
    · trivial
    rename_i hdx
    have pw := prog_ok_on pa eB
    rw [prog_lines] at pw
    cases pb : prog B with
    | out => exact absurd pb (prog_no B)
    | bad r =>
      rw [pb] at pw
      rw [readR_bad cb pb, readR_bad cw pw, lines_nls, lineN_sh]
      rfl
    | ok ys r =>
      obtain rfl := prog_end pb
      rw [pb] at pw
      rw [readR_ok cb pb, readR_ok cw pw, deep_app]
      split
      · trivial
      · rename_i hdy
        show _ = RdR.told (xs ++ ys)
        rw [if_neg (by omega)]
end Wk
set_option maxRecDepth 100000
set_option maxHeartbeats 8000000
namespace Wk
open PySem L2 TL PyProof.Rows Gm Gr
open SX (S S_len)
/-- what is told of a text: due, and found -/
theorem DueT.mono {H H' : Hp} {p : Addr} {r : RdR} (g : Same H H') (h : DueT H p r) : DueT H' p r := by
  cases r with
  | told ts => obtain ⟨v, e1, e2⟩ := h; exact ⟨v, g _ _ e1, e2.keep (TupK.same g)⟩
  | bad l => exact g _ _ h
  | deep => exact g _ _ h
section
variable {P : Program} {w : World} {K : PySem.W.Frag} {mg : Str → Option Value} {base : Heap}
/-- of a def that may raise, where it doesn't -/
theorem fn_quiet {k : Nat} {f : Addr} {fd : FuncData} {ps : List Str} {sp sp' : Sp} (F : FnOk P w K mg base (L2.CX P w) k f fd ps sp) (h : ∀ vs H Q E, sp' vs H Q E → sp vs H Q (fun _ _ _ => False)) : FnOk P w K mg base CX0 k f fd ps sp' :=
  ⟨fun vs H Q E q => F.len vs H Q _ (h _ _ _ _ q), fun A outer s H args us vs Q E hr he hb hv hs =>
    codeAny_mono (F.run A outer s H args us vs Q (fun _ _ _ => False) hr he hb hv (h _ _ _ _ hs)) fun r s' hq => by
      cases r with
      | error e =>
        obtain ⟨_, _, _, _, _, _, _, _, _, _, _, _, z⟩ := hq
        exact z.elim
      | ok fl => cases fl <;> exact hq⟩
/-- the words of a text that is cut -/
def sp_wordsQ : Sp := fun vs H Q _ => ∃ (t : List Nat) (toks : List Tk), vs = [.str (S t)] ∧ t.length ≤ 100000 ∧ cutF 1 t = .ok toks ∧ ∀ H' p us, H p = none → Same H H' → H' p = some (.lst us) → Toks H' us toks → Q (.ref p) H'
theorem ok_wordsQ {C N : Addr} {f : Addr} {fd : FuncData} (F : FnOk P w K mg base (L2.CX P w) 6 f fd ["text"] (sp_words K C N)) : FnOk P w K mg base CX0 6 f fd ["text"] sp_wordsQ :=
  fn_quiet F fun vs H Q E ⟨t, toks, e, hl, hc, hq⟩ => .inl ⟨t, e, by omega, by rw [hc]; exact hq⟩
abbrev s__law_asked : Stmt := top 81
theorem sc__law_asked : FnScope ["text", "found", "e"] ["text"] (defScope s__law_asked) := ⟨rfl, rfl, rfl, by decide +kernel, rfl, by decide +kernel, by decide +kernel⟩
def sp_asked : Sp := fun vs H Q _ => ∃ t : List Nat, vs = [.str (S t)] ∧ t.length ≤ 100000 ∧ ∀ H' q, Same H H' → DueT H' q (readR t) → Q (.ref q) H'
theorem ok_asked {lv : Nat} (B : ExcT P w K mg base "BadText" ["self", "line"] sp_bad_init) (BN : ExcT P w K mg base "NoText" ["self"] (fun _ _ => sp_no_init)) (BD : ExcT P w K mg base "TooDeep" ["self"] (fun _ _ => sp_no_init)) (XT : XfC K B.C) (hno : PySem.W.findIn K (.ref B.C) "line" = some none)
    (m3 : PySem.W.exmOne K (.ref B.C) (.ref B.C) = some true) (m5 : PySem.W.exmOne K (.ref BD.C) (.ref B.C) = some false) (m6 : PySem.W.exmOne K (.ref BD.C) (.ref BD.C) = some true)
    {f : Addr} {fd : FuncData} (F : Fun K "_law_asked" "_law_asked" s__law_asked f fd)
    (D_read : DefF P w K mg base (L2.CX P w) "read" ["text"] lv (sp_pread K B.C BN.C BD.C)) : FnF P w K mg base CX0 (lv + 1) f fd ["text"] sp_asked := by
  refine okF F sc__law_asked (fun vs H Q E h => ?_) (fun cdv A outer s H vs Q E hr hf h => ?_)
  · obtain ⟨_, rfl, _⟩ := h; rfl
  refine ⟨_, (pss_cons (ps_try_any rfl rfl sc__law_asked.nd (fun W pn xe tk => (pss_one (ps_set (i := 1) sc__law_asked.nd rfl (Or.inl rfl) (pe_tup (pa_cons pe_str (pa_cons (pe_callSF D_read.ok (hf.mono (by omega)) rfl D_read.g D_read.k D_read.b (fun σ => passAt tk σ) (pa_cons (pv 0) pa_nil)) pa_nil)))))) (.named (i := 2) ⟨rfl, by decide, .inl B.gC⟩ rfl rfl (fun a oe cls d pn hz hf' => (pss_one (ps_set (i := 1) sc__law_asked.nd rfl (Or.inl rfl) (pe_tup (pa_cons pe_str (pa_cons (pe_xf XT hno hz hf' (pv 2)) pa_nil)))))) (.plain ⟨rfl, by decide, .inl BD.gC⟩ (fun a oe cls d pn hz hf' => (pss_one (ps_set (i := 1) sc__law_asked.nd rfl (Or.inl rfl) (pe_tup (pa_cons pe_str (pa_cons pe_int pa_nil)))))) .nil)))
    (pss_one (ps_ret (pv 1)))), ?_⟩
  have hz := line_eq
  obtain ⟨t, rfl, hl, q⟩ := h
  refine seq_join (fun σ H' => ∃ u x2, σ = [some (.str (S t)), some (.ref u), x2] ∧ Same H H' ∧ DueT H' u (readR t)) ?_ ?_
  · rintro σ H' ⟨u, x2, rfl, g, tl⟩
    exact ⟨_, rfl, q _ _ g tl⟩
  intro NX nx
  refine ⟨_, rfl, .inl ⟨t, rfl, hl, ?_⟩⟩
  cases e : readR t with
  | bad l =>
    rw [e] at nx
    intro H2 d g hd
    refine .inl ⟨m3, fun a na => ?_⟩
    refine ⟨_, rfl, rfl, rfl, d, _, .int (l : Int), rfl, hd, rfl, (by show 2 ≤ _; omega), fun p np => ?_⟩
    exact nx _ _ ⟨_, _, rfl, same_to g np _, upd_same⟩
  | deep =>
    rw [e] at nx
    intro H2 g
    refine .inr ⟨m5, .inl ⟨m6, fun a na => ?_⟩⟩
    refine ⟨(by show 2 ≤ _; omega), fun p np => ?_⟩
    exact nx _ _ ⟨_, _, rfl, same_to g np _, upd_same⟩
  | told ts =>
    rw [e] at nx
    intro H2 v g hv
    refine ⟨(by show 2 ≤ _; omega), fun p2 np => ?_⟩
    exact nx _ _ ⟨_, _, rfl, same_to g np _, v, upd_same, hv.keep (TupK.same (same_new np _))⟩
end
end Wk
set_option maxRecDepth 100000
set_option maxHeartbeats 8000000
namespace Wk
open PySem L2 TL PyProof.Rows Gm Gr
open SX (S S_len)
theorem cut_to (ws : List (List Nat)) (k : Nat) : cutV (lisV ws) none (some (k : Int)) = lisV (ws.take k) := by
  unfold cutV lisV
  rw [HT.sIx_none, HT.sIx_nat, List.drop_zero, List.map_take, Nat.sub_zero]
  rcases Nat.le_total k ws.length with h | h
  · rw [List.length_map, Nat.min_eq_left h]
  · rw [List.length_map, Nat.min_eq_right h, List.take_of_length_le (by rw [List.length_map]; exact Nat.le_refl _), List.take_of_length_le (by rw [List.length_map]; exact h)]
theorem cut_fr (ws : List (List Nat)) (k : Nat) : cutV (lisV ws) (some (k : Int)) none = lisV (ws.drop k) := by
  rw [cut_drop]; unfold lisV; rw [List.map_drop]
/-- words of a text: the first one is not «else» -/
def Fo (ws : List (List Nat)) : Prop := (∀ l ∈ ws, l ∈ gE) ∧ ∀ l, ws.head? = some l → l ∈ gW
theorem gE_or {l : List Nat} (h : l ∈ gE) : l = codes "else" ∨ l ∈ gW := List.mem_cons.mp h
theorem Gw.fo {ws : List (List Nat)} (h : Gw ws) : Fo ws := ⟨h.1, fun l e => by
  cases ws with
  | nil => cases e
  | cons x xs =>
    cases e
    exact (gE_or (h.1 _ List.mem_cons_self)).resolve_left fun z => h.2 (by rw [← z]; exact List.mem_cons_self)⟩
theorem Gw.second {x y : List Nat} {ws : List (List Nat)} (h : Gw (x :: y :: ws)) : y ∈ gW :=
  (gE_or (h.1 y (List.mem_cons_of_mem _ List.mem_cons_self))).resolve_left fun z => h.2 (by rw [← z]; exact List.mem_cons_of_mem _ List.mem_cons_self)
theorem fo_more {ws : List (List Nat)} (h : Gw ws) (k : Nat) {m : List Nat} (hm : m ∈ gW) : Fo (ws.take k ++ [m] ++ ws.drop k) := by
  have hf := h.fo
  refine ⟨fun l hl => ?_, fun l e => ?_⟩
  · rcases List.mem_append.mp hl with hl | hl
    · rcases List.mem_append.mp hl with hl | hl
      · exact h.1 l (List.mem_of_mem_take hl)
      · rw [List.mem_singleton.mp hl]; exact List.mem_cons_of_mem _ hm
    · exact h.1 l (List.mem_of_mem_drop hl)
  · cases k with
    | zero => rw [List.take_zero] at e; cases e; exact hm
    | succ k =>
      cases ws with
      | nil => cases e; exact hm
      | cons x xs => cases e; exact hf.2 _ rfl
theorem fo_less {ws : List (List Nat)} (h : Gw ws) (k : Nat) : Fo (ws.take k ++ [] ++ ws.drop (k + 1)) := by
  have hf := h.fo
  refine ⟨fun l hl => ?_, fun l e => ?_⟩
  · rcases List.mem_append.mp hl with hl | hl
    · rcases List.mem_append.mp hl with hl | hl
      · exact h.1 l (List.mem_of_mem_take hl)
      · cases hl
    · exact h.1 l (List.mem_of_mem_drop hl)
  · cases ws with
    | nil =>
      rw [List.take_nil, List.drop_nil] at e; cases e
    | cons x xs =>
      cases k with
      | zero =>
        cases xs with
        | nil => cases e
        | cons y ys => cases e; exact h.second
      | succ k => cases e; exact hf.2 _ rfl
theorem flow_new {a p : Addr} {H : Hp} (f : Flow H a) (n : H p = none) : p ≠ a := fun e => by
  obtain ⟨s, ns, i, c, z, ha, _⟩ := f
  rw [e, ha] at n; cases n
section
variable {P : Program} {w : World} {K : PySem.W.Frag} {mg : Str → Option Value} {base : Heap}
abbrev s__law_text : Stmt := top 82
theorem sc__law_text : FnScope ["flow", "left", "found", "changed", "k", "at", "more", "text", "word"] ["flow"] (defScope s__law_text) := ⟨rfl, rfl, rfl, by decide +kernel, rfl, by decide +kernel, by decide +kernel⟩
def sp_text : Sp := fun vs H Q _ => ∃ (a : Addr), vs = [.ref a] ∧ Flow H a ∧ ∀ H' t ts, Flow H' a → Pcs t ts → NoE ts → t.length ≤ 40000 → Q (.str (S t)) H'
theorem ok_text (T : Txt K mg) {f : Addr} {fd : FuncData} (F : Fun K "_law_text" "_law_text" s__law_text f fd) (D__law_draw : Def P w K mg base CX0 "_law_draw" ["flow", "many"] 2 sp_draw) (D__law_item : Def P w K mg base CX0 "_law_item" ["flow", "left", "room"] 47 sp_itemR) : FnOk P w K mg base CX0 48 f fd ["flow"] sp_text := by
  refine F.ok sc__law_text (fun vs H Q E h => ?_) (fun cdv A outer s H vs Q E hr h => ?_)
  · obtain ⟨_, rfl, _⟩ := h; rfl
  obtain ⟨a, rfl, fl, hq⟩ := h
  refine ⟨_, (pss_cons (ps_set (i := 1) sc__law_text.nd rfl (Or.inl rfl) (pe_lst (pa_cons pe_int pa_nil)))
    (pss_cons (ps_set (i := 2) sc__law_text.nd rfl (Or.inl rfl) (pe_lst pa_nil))
    (pss_cons (ps_set (i := 3) sc__law_text.nd rfl (Or.inl rfl) (pe_call D__law_draw.ok (hr.mono (by omega)) rfl D__law_draw.g D__law_draw.k D__law_draw.b .nil pass0 (pa_cons (pv 0) (pa_cons pe_int pa_nil))))
    (pss_cons (ps_for PassesOwn.never rfl (pi_range1 rfl T.n_range (pa_cons (pe_call D__law_draw.ok (hr.mono (by omega)) rfl D__law_draw.g D__law_draw.k D__law_draw.b .nil pass0 (pa_cons (pv 0) (pa_cons pe_int pa_nil))) pa_nil)) (pg_name (i := 4) sc__law_text.nd rfl (Or.inl rfl)) (pss_one (ps_set (i := 2) sc__law_text.nd rfl (Or.inl rfl) (pe_op op_cat (pv 2) (pe_call D__law_item.ok (hr.mono (by omega)) rfl D__law_item.g D__law_item.k D__law_item.b .nil pass0 (pa_cons (pv 0) (pa_cons (pv 1) (pa_cons pe_int pa_nil))))))))
    (pss_cons (ps_if (PW.pt (pw_and (pt_cmpR op_gt (pv 3) pe_int (nomark _)) (pw_and1 (pt_cmpR op_gt (pe_callB call_len_seq rfl T.n_len boot_len (pa_cons (pv 2) pa_nil)) pe_int (nomark _))))) (pss_cons (ps_set (i := 5) sc__law_text.nd rfl (Or.inl rfl) (pe_call D__law_draw.ok (hr.mono (by omega)) rfl D__law_draw.g D__law_draw.k D__law_draw.b .nil pass0 (pa_cons (pv 0) (pa_cons (pe_callB call_len_seq rfl T.n_len boot_len (pa_cons (pv 2) pa_nil)) pa_nil))))
      (pss_cons (ps_set (i := 6) sc__law_text.nd rfl (Or.inl rfl) (pe_lst (pa_cons (pe_ix ix_list (pe_lst (pa_cons pe_str (pa_cons pe_str (pa_cons pe_str (pa_cons pe_str (pa_cons pe_str (pa_cons pe_str pa_nil))))))) (pe_call D__law_draw.ok (hr.mono (by omega)) rfl D__law_draw.g D__law_draw.k D__law_draw.b .nil pass0 (pa_cons (pv 0) (pa_cons pe_int pa_nil))) (fun _ _ => rfl)) pa_nil)))
      (pss_one (ps_set (i := 2) sc__law_text.nd rfl (Or.inl rfl) (pe_op op_cat (pe_op op_cat (pe_slice sl_list (pv 2) po_none (po_some (pv 5))) (pe_ifExp (pt_cmpR op_eq (pv 3) pe_int (nomark _)) (pv 6) (pe_lst pa_nil))) (pe_slice sl_list (pv 2) (po_some (pe_op op_sub (pe_op op_add (pv 5) (pv 3)) pe_int)) po_none)))))) pss_nil)
    (pss_cons (ps_set (i := 7) sc__law_text.nd rfl (Or.inl rfl) (pe_ix ix_list (pe_lst (pa_cons pe_str (pa_cons pe_str pa_nil))) (pe_call D__law_draw.ok (hr.mono (by omega)) rfl D__law_draw.g D__law_draw.k D__law_draw.b .nil pass0 (pa_cons (pv 0) (pa_cons pe_int pa_nil))) (fun _ _ => rfl)))
    (pss_cons (ps_for PassesOwn.never rfl (pi_list (pv 2)) (pg_name (i := 8) sc__law_text.nd rfl (Or.inl rfl)) (pss_one (ps_set (i := 7) sc__law_text.nd rfl (Or.inl rfl) (pe_op op_add_str (pe_op op_add_str (pv 7) (pv 8)) (pe_ix ix_list (pe_lst (pa_cons pe_str (pa_cons pe_str (pa_cons pe_str (pa_cons pe_str pa_nil))))) (pe_call D__law_draw.ok (hr.mono (by omega)) rfl D__law_draw.g D__law_draw.k D__law_draw.b .nil pass0 (pa_cons (pv 0) (pa_cons pe_int pa_nil))) (fun _ _ => rfl))))))
    (pss_one (ps_ret (pv 7)))))))))), ?_⟩
  generalize hσ : L2.start _ _ = σ0
  have hσ : σ0 = [some (.ref a), none, none, none, none, none, none, none, none] := hσ.symm
  subst hσ
  have hz := line_eq
  -- left, found
  refine seq_set ?_
  refine ⟨(by show 1 ≤ _; omega), fun l nl => ?_⟩
  have hl1 : (upd H l (.lst [V.int 40])) l = some (.lst [V.int 40]) := upd_same
  have f1 := fl.mono (same_new nl (.lst [V.int 40]))
  have nla : l ≠ a := flow_new fl nl
  generalize upd H l (.lst [V.int 40]) = H1 at hl1 f1 ⊢
  have i1 : (leftW a l).inv 40 H1 := ⟨f1, hl1, nla⟩
  try dsimp only
  refine seq_set ?_
  refine ⟨(by show 0 ≤ _; omega), fun pw npw => ?_⟩
  obtain ⟨i2, t2⟩ := (leftW a l).same i1 (same_new npw (.lst []))
  have W2 : WL (upd H1 pw (.lst [])) pw [] := upd_same
  generalize upd H1 pw (.lst []) = H2 at i2 t2 W2 ⊢
  try dsimp only
  refine seq_set ?_
  refine ⟨_, rfl, a, 4, rfl, by decide, by decide, i2.1, fun H3 ch hch b3 f3 => ?_⟩
  obtain ⟨i3, t3⟩ := (leftW a l).but i2 b3 f3
  have W3 := (leftW a l).keep i2 t3 W2
  refine seq_join (fun σ H' => ∃ p ws x4, σ = [some (.ref a), some (.ref l), some (.ref p), some (.int (ch : Int)), x4, none, none, none, none] ∧ Flow H' a ∧ WL H' p ws ∧ Gw ws ∧ ws.length ≤ 608) ?_ ?_
  rotate_left
  · intro NX nx
    refine ⟨_, rfl, a, 5, rfl, by decide, by decide, i3.1, fun H4 d hd b4 f4 => ?_⟩
    obtain ⟨i4, t4⟩ := (leftW a l).but i3 b4 f4
    refine ⟨_, rfl, by omega, by omega, ?_⟩
    rw [Int.toNat_natCast]
    refine for_range (fun k σ H' => ∃ p ws L x4, σ = [some (.ref a), some (.ref l), some (.ref p), some (.int (ch : Int)), x4, none, none, none, none] ∧ (leftW a l).inv L H' ∧ L ≤ 40 ∧ WL H' p ws ∧ Gw ws ∧ ws.length + 12 * L.toNat ≤ 32 * k + 480)
      ⟨pw, [], 40, _, rfl, i4, by decide, (leftW a l).keep i3 t4 W3, Gw.nil, by decide⟩ ?_ ?_
    rotate_left
    · rintro σ H5 ⟨p, ws, L, x4, rfl, i5, l5, hw, hg, h1⟩
      exact nx _ _ ⟨p, ws, x4, rfl, i5.1, hw, hg, by omega⟩
    rintro k σ H5 hk ⟨p, ws, L, x4, rfl, i5, l5, hw, hg, h1⟩
    refine g_name ?_
    refine ⟨_, rfl, _, rfl, _, rfl, 5, by decide, by decide, a, l, L, rfl, i5, by omega, fun H6 p6 ws6 L6 t6 i6 l6 hw6 hg6 h3 h4 h5 => ?_⟩
    have hw5 := (leftW a l).keep i5 t6 hw
    simp only [Int.sub_zero] at h3
    refine ⟨p, p6, _, _, rfl, rfl, hw5, hw6, by rw [lisV_len, lisV_len]; omega, fun p8 n8 => ?_⟩
    obtain ⟨i8, t8⟩ := (leftW a l).same i6 (same_new n8 (.lst (lisV ws ++ lisV ws6)))
    exact ⟨p8, ws ++ ws6, L6, _, rfl, i8, by omega, by unfold WL; rw [upd_same, lisV_app], hg.app hg6, by rw [List.length_append]; omega⟩
  rintro σ H4 ⟨p, ws, x4, rfl, f4, hw, hg, hlen⟩
  -- a word in or out
  refine seq_join (fun σ H' => ∃ p ws x5 x6, σ = [some (.ref a), some (.ref l), some (.ref p), some (.int (ch : Int)), x4, x5, x6, none, none] ∧ Flow H' a ∧ WL H' p ws ∧ Fo ws ∧ ws.length ≤ 609) ?_ ?_
  rotate_left
  · intro NX nx
    have same : Flow H4 a → NX [some (.ref a), some (.ref l), some (.ref p), some (.int (ch : Int)), x4, none, none, none, none] H4 := fun f => nx _ _ ⟨p, ws, _, _, rfl, f, hw, hg.fo, by omega⟩
    refine ⟨_, rfl, _, _, rfl, rfl, _, rfl, ?_⟩
    refine ited (fun h1 => ?_) (fun h1 => iteF (go_next (same f4)))
    refine ⟨_, rfl, p, _, rfl, .inl (SqL.of hw), _, _, rfl, rfl, _, rfl, ?_⟩
    rw [lisV_len]
    refine ited (fun h2 => ?_) (fun h2 => go_next (same f4))
    have hpos : 0 < ws.length := by omega
    refine seq_set ?_
    refine ⟨_, rfl, _, rfl, p, _, rfl, .inl (SqL.of hw), ?_⟩
    rw [lisV_len]
    refine ⟨a, ws.length, rfl, hpos, by omega, f4, fun H5 at_ hat b5 f5 => ?_⟩
    have hw5 : WL H5 p ws := (flowW a).keep (L := 0) f4 b5 hw
    refine seq_set ?_
    refine (ya_cons (ys_pick (ya_cons (ys_h (by decide +kernel) (by decide +kernel)) (ya_cons (ys_l (by decide +kernel) (by decide +kernel)) (ya_cons (ys_l (by decide +kernel) (by decide +kernel)) (ya_cons (ys_l (by decide +kernel) (by decide +kernel)) (ya_cons (ys_h (by decide +kernel) (by decide +kernel)) (ya_cons (ys_h (by decide +kernel) (by decide +kernel)) ya_nil)))))) (yi_draw (W := flowW a) rfl (by decide) (by decide)) (by decide) (by decide)) ya_nil) 0 H5 _ (But.refl a H5) f5 fun H6 ws6 b6 f6 hg6 hl6 _ _ => ?_
    obtain ⟨m, rfl⟩ : ∃ m, ws6 = [m] := by
      cases ws6 with
      | nil => cases hl6
      | cons l ws => cases ws with
        | nil => exact ⟨l, rfl⟩
        | cons _ _ => cases hl6
    have hm : m ∈ gW := hg6 m List.mem_cons_self
    refine ⟨by rw [lisV_len]; show 1 ≤ _; omega, fun pm nm => ?_⟩
    have hw6 : WL H6 p ws := (flowW a).keep (L := 0) f5 b6 hw5
    have gm := same_new nm (.lst (lisV [m]))
    have f7 := f6.mono gm
    have hw7 : WL (upd H6 pm (.lst (lisV [m]))) p ws := gm _ _ hw6
    have hm7 : WL (upd H6 pm (.lst (lisV [m]))) pm [m] := upd_same
    generalize upd H6 pm (.lst (lisV [m])) = H7 at f7 hw7 hm7 ⊢
    refine ⟨_, rfl, ⟨_, rfl, _, rfl, p, _, rfl, SqL.of hw7, fun r8 n8 => ?_⟩⟩
    rw [cut_to ws at_]
    have g8 := same_new n8 (.lst (lisV (ws.take at_)))
    have f8 := f7.mono g8
    have hw8 : WL (upd H7 r8 (.lst (lisV (ws.take at_)))) p ws := g8 _ _ hw7
    have hm8 : WL (upd H7 r8 (.lst (lisV (ws.take at_)))) pm [m] := g8 _ _ hm7
    have hr8 : WL (upd H7 r8 (.lst (lisV (ws.take at_)))) r8 (ws.take at_) := upd_same
    generalize upd H7 r8 (.lst (lisV (ws.take at_))) = H8 at f8 hw8 hm8 hr8 ⊢
    have lt8 : (ws.take at_).length ≤ ws.length := by rw [List.length_take]; omega
    have rest : ∀ (H9 : Hp) (q : Addr) (us : List (List Nat)) (j : Nat), Flow H9 a → WL H9 p ws → WL H9 r8 (ws.take at_) → WL H9 q us → us.length ≤ 1 → (at_ : Int) + (ch : Int) - 2 = (j : Int) → Fo (ws.take at_ ++ us ++ ws.drop j) → (ws.take at_ ++ us ++ ws.drop j).length ≤ 609 →
        rCat (.ref r8) (.ref q) H9 (fun x H' => tSl (rSlL K) (tVar 2) (tPart (tOp (rI0 fun i j => V.int (i - j)) (tOp (rI0 fun i j => V.int (i + j)) (tVar 5) (tVar 3)) (tC (V.int 2)))) tNoPart [some (.ref a), some (.ref l), some (.ref p), some (.int (ch : Int)), x4, some (.int (at_ : Int)), some (.ref pm), none, none] H' (fun y H'' => rCat x y H'' (fun z H3 => NX [some (.ref a), some (.ref l), some z, some (.int (ch : Int)), x4, some (.int (at_ : Int)), some (.ref pm), none, none] H3))) := by
      intro H9 q us j f9 hw9 hr9 hq9 hus hj hfo hle
      refine ⟨r8, q, _, _, rfl, rfl, hr9, hq9, by rw [lisV_len, lisV_len]; omega, fun r10 n10 => ?_⟩
      have g10 := same_new n10 (.lst (lisV (ws.take at_) ++ lisV us))
      have f10 := f9.mono g10
      have hw10 := g10 _ _ hw9
      have hr10 : WL (upd H9 r10 (.lst (lisV (ws.take at_) ++ lisV us))) r10 (ws.take at_ ++ us) := by unfold WL; rw [upd_same, lisV_app]
      refine ⟨_, rfl, _, rfl, _, rfl, _, _, rfl, rfl, _, _, rfl, rfl, _, rfl, p, _, rfl, SqL.of hw10, fun r11 n11 => ?_⟩
      rw [hj, cut_fr ws j]
      have g11 := same_new n11 (.lst (lisV (ws.drop j)))
      have f11 := f10.mono g11
      have hr11 := g11 _ _ hr10
      rw [List.length_append] at hle
      refine ⟨r10, r11, _, _, rfl, rfl, hr11, upd_same, by rw [lisV_len, lisV_len]; omega, fun r12 n12 => ?_⟩
      have g12 := same_new n12 (.lst (lisV (ws.take at_ ++ us) ++ lisV (ws.drop j)))
      exact nx _ _ ⟨r12, ws.take at_ ++ us ++ ws.drop j, _, _, rfl, f11.mono g12, by unfold WL; rw [upd_same, lisV_app (ws.take at_ ++ us)], hfo, by rw [List.length_append]; omega⟩
    have h1' : ch = 2 ∨ ch = 3 := by omega
    have lcut : (ws.take at_).length + (ws.drop at_).length = ws.length := by rw [← List.length_append, List.take_append_drop]
    refine ⟨_, rfl, rfl, _, rfl, ?_⟩
    rcases h1' with rfl | rfl
    · refine ited (fun _ => ?_) (fun z => absurd rfl z)
      refine ⟨_, rfl, ?_⟩
      exact rest H8 pm [m] at_ f8 hw8 hr8 hm8 (Nat.le_refl _) (by omega) (fo_more hg at_ hm) (by rw [List.length_append, List.length_append, List.length_singleton]; omega)
    · refine ited (fun z => by cases z) (fun _ => ?_)
      refine ⟨(by show 0 ≤ _; omega), fun r9 n9 => ?_⟩
      have g9 := same_new n9 (.lst [])
      refine rest _ r9 [] (at_ + 1) (f8.mono g9) (g9 _ _ hw8) (g9 _ _ hr8) upd_same (Nat.zero_le _) (by omega) (fo_less hg at_) ?_
      rw [List.append_nil, List.length_append, List.length_drop]
      rw [List.length_drop] at lcut
      omega
  clear hw hg hlen f4
  rintro σ H5 ⟨p, ws, x5, x6, rfl, f5, hw, hg, hlen⟩
  -- the text
  refine seq_set ?_
  refine ⟨(by show 2 ≤ _; omega), fun p6 n6 => ?_⟩
  have g6 := same_new n6 (.lst [V.str "", V.str "# so \"\n"])
  have h6 : (upd H5 p6 (.lst [V.str "", V.str "# so \"\n"])) p6 = some (.lst [V.str "", V.str "# so \"\n"]) := upd_same
  have f6 := f5.mono g6
  have hw6 : WL (upd H5 p6 (.lst [V.str "", V.str "# so \"\n"])) p ws := g6 _ _ hw
  have n6a : p6 ≠ a := flow_new f5 n6
  generalize upd H5 p6 (.lst [V.str "", V.str "# so \"\n"]) = H6 at g6 h6 f6 hw6 ⊢
  refine ⟨_, rfl, a, 2, rfl, by decide, by decide, f6, fun H7 d hd b7 f7 => ?_⟩
  have hpre : ∃ s ∈ preS, ([V.str "", V.str "# so \"\n"] : List V)[d]? = some (.str (S (codes s))) ∧ (codes s).length ≤ 10 := by
    rcases d with _ | _ | d
    · exact ⟨"", by decide, congrArg (fun z => some (V.str z)) (S_of _), by decide⟩
    · exact ⟨"# so \"\n", by decide, congrArg (fun z => some (V.str z)) (S_of _), by decide⟩
    · omega
  obtain ⟨s0, hs0, e0, l0⟩ := hpre
  refine ⟨p6, _, _, _, rfl, rfl, SqL.of (b7.o _ _ n6a h6), atI_nat e0, ?_⟩
  have hw7 : WL H7 p ws := (flowW a).keep (L := 0) f6 b7 hw6
  try dsimp only
  refine seq_join (fun σ H' => ∃ (t : List Nat) (ts : List Tk) (x8 : Option V), σ = [some (.ref a), some (.ref l), some (.ref p), some (.int (ch : Int)), x4, x5, x6, some (.str (S t)), x8] ∧ Flow H' a ∧ Pcs t ts ∧ NoE ts ∧ t.length ≤ 40000) ?_ ?_
  · rintro σ H8 ⟨t, ts, x8, rfl, f8, pt, et, lt⟩
    exact ⟨_, rfl, hq H8 t ts f8 pt et lt⟩
  intro NX nx
  refine ⟨_, rfl, p, rfl, ⟨_, SqL.of hw7⟩, ?_⟩
  refine for_list (fun k σ H' => ∃ (t : List Nat) (ts : List Tk) (x8 : Option V), σ = [some (.ref a), some (.ref l), some (.ref p), some (.int (ch : Int)), x4, x5, x6, some (.str (S t)), x8] ∧ Flow H' a ∧ WL H' p ws ∧ Pcs t ts ∧ NoE ts ∧ k ≤ ts.length ∧ t.length ≤ 10 + 38 * k)
    ⟨codes s0, [], _, rfl, f7, hw7, pre_ok s0 hs0, rfl, Nat.zero_le _, by omega⟩ (fun k σ H' _ ⟨_, _, _, _, _, hw, _⟩ => SqL.of hw) ?_ ?_
  rotate_left
  · rintro σ H8 ⟨t, ts, x8, rfl, f8, _, pt, et, _, lt⟩
    rw [lisV_len] at lt
    exact nx _ _ ⟨t, ts, x8, rfl, f8, pt, et, by omega⟩
  rintro k v σ H8 ek ⟨t, ts, x8, rfl, f8, hw8, pt, et, lk, lt⟩
  have hk : k < ws.length := by
    rcases Nat.lt_or_ge k ws.length with h | h
    · exact h
    · rw [List.getElem?_eq_none (by rw [lisV_len]; exact h)] at ek; cases ek
  obtain ⟨w0, hlk⟩ : ∃ w0, ws[k]? = some w0 := ⟨_, List.getElem?_eq_getElem hk⟩
  have ev : v = .str (S w0) := by
    unfold lisV at ek
    rw [List.getElem?_map, hlk] at ek
    exact (Option.some.inj ek).symm
  subst ev
  have hlg := hg.1 w0 (List.mem_of_getElem? hlk)
  have hgood := gE_good _ hlg
  have hll : w0.length ≤ 30 := (show ∀ l ∈ gE, l.length ≤ 30 by decide +kernel) w0 hlg
  refine g_name ?_
  have htl := S_len t
  refine ⟨_, rfl, _, rfl, S t, S w0, rfl, rfl, by rw [S_len, S_len]; omega, (by show 4 ≤ _; omega), fun p9 n9 => ?_⟩
  have g9 := same_new n9 (.lst [V.str " ", V.str "\n", V.str " # x ( \n", V.str " "])
  have h9 : (upd H8 p9 (.lst [V.str " ", V.str "\n", V.str " # x ( \n", V.str " "])) p9 = some (.lst [V.str " ", V.str "\n", V.str " # x ( \n", V.str " "]) := upd_same
  have f9 := f8.mono g9
  have hw9 : WL (upd H8 p9 (.lst [V.str " ", V.str "\n", V.str " # x ( \n", V.str " "])) p ws := g9 _ _ hw8
  have n9a : p9 ≠ a := flow_new f8 n9
  generalize upd H8 p9 (.lst [V.str " ", V.str "\n", V.str " # x ( \n", V.str " "]) = H9 at g9 h9 f9 hw9 ⊢
  refine ⟨_, rfl, a, 4, rfl, by decide, by decide, f9, fun H10 d10 hd10 b10 f10 => ?_⟩
  have hsp : ∃ s ∈ sepS, ([V.str " ", V.str "\n", V.str " # x ( \n", V.str " "] : List V)[d10]? = some (.str (S (codes s))) ∧ (codes s).length ≤ 8 := by
    rcases d10 with _ | _ | _ | _ | d
    · exact ⟨" ", by decide, congrArg (fun z => some (V.str z)) (S_of _), by decide⟩
    · exact ⟨"\n", by decide, congrArg (fun z => some (V.str z)) (S_of _), by decide⟩
    · exact ⟨" # x ( \n", by decide, congrArg (fun z => some (V.str z)) (S_of _), by decide⟩
    · exact ⟨" ", by decide, congrArg (fun z => some (V.str z)) (S_of _), by decide⟩
    · omega
  obtain ⟨s1, hs1, e1, l1⟩ := hsp
  refine ⟨p9, _, _, _, rfl, rfl, SqL.of (b10.o _ _ n9a h9), atI_nat e1, ?_⟩
  have hw10 : WL H10 p ws := (flowW a).keep (L := 0) f9 b10 hw9
  refine ⟨S t ++ S w0, S (codes s1), rfl, rfl, by rw [S_app, S_len, S_len, List.length_append]; omega, ?_⟩
  rw [S_app, S_app, List.append_assoc]
  have pw := Pcs.word (word_piece hgood) (sep_ok s1 hs1)
  refine ⟨t ++ (w0 ++ codes s1), _, _, rfl, f10, hw10, pt.app pw, ?_, by rw [List.length_append, List.length_map]; exact Nat.add_le_add_right lk 1, by rw [List.length_append, List.length_append]; omega⟩
  cases ts with
  | cons t0 r => exact et
  | nil =>
    have hk0 : k = 0 := by
      have : k ≤ 0 := lk
      omega
    subst hk0
    have hh : ws.head? = some w0 := by
      cases ws with
      | nil => cases hlk
      | cons x xs => exact hlk
    exact gW_noE w0 (hg.2 w0 hh)
end
end Wk
set_option maxRecDepth 100000
set_option maxHeartbeats 8000000
namespace Wk
open PySem L2 TL PyProof.Rows Gm Gr
open SX (S S_len)
theorem join_lines (t : List Nat) : ∀ k, joinL [10] (List.replicate (k + 1) t) = linesN k t
  | 0 => rfl
  | k + 1 => by
    have e : joinL [10] (List.replicate (k + 1 + 1) t) = t ++ ([10] ++ joinL [10] (List.replicate (k + 1) t)) := rfl
    rw [e, join_lines t k]; rfl
theorem pick_ints {a : Addr} {K : PySem.W.Frag} {σ : L2.St} {t : TA} {ti : TE} {xs : List Int} {m : Nat} {H : Hp} {Q : VK} (f : Flow H a) (ht : ∀ H Q, Q (xs.map V.int) H → t σ H Q) (z : YI (flowW a) ti σ H m) (hm : m ≤ xs.length) (hl : xs.length ≤ 1000) (k : ∀ H' x, But a H H' → Flow H' a → x ∈ xs → Q (.int x) H') : tOp (rIxL K) (tLst t) ti σ H Q := by
  refine ht _ _ ⟨by rw [List.length_map]; have := line_eq; omega, fun r hr => ?_⟩
  have g := same_new hr (.lst (xs.map V.int))
  have i2 := f.mono g
  refine z 0 _ _ (But.same g) i2 fun H3 j t3 i3 hj => ?_
  have hr3 := (flowW a).kept (L := 0) f hr t3
  have hj2 : j < xs.length := by omega
  refine ⟨r, _, _, _, rfl, rfl, SqL.of hr3, atI_nat (j := j) (by rw [List.getElem?_map, List.getElem?_eq_getElem hj2]; rfl), ?_⟩
  exact k H3 _ ((But.same g).trans t3) i3 (List.getElem_mem hj2)
structure TxtMn (mg : Str → Option Value) : Prop where
  n_min : mg "min" = none
/-- how many lines, and how long -/
theorem many_lines (n many : Nat) (hn : 0 < n) : ∃ k : Nat, (if (if ((9900 : Int) / (n : Int)) < (many : Int) then ((9900 : Int) / (n : Int)) else (many : Int)) > 1 then (if ((9900 : Int) / (n : Int)) < (many : Int) then ((9900 : Int) / (n : Int)) else (many : Int)) else 1) = ((k + 1 : Nat) : Int) ∧ (k + 1) * n ≤ n + 9900 ∧ k ≤ 9900 := by
  have e : ((9900 : Int) / (n : Int)) = ((9900 / n : Nat) : Int) := rfl
  rw [e]
  have hq : 9900 / n * n ≤ 9900 := Nat.div_mul_le_self _ _
  have hq2 : 9900 / n ≤ 9900 := Nat.div_le_self _ _
  generalize 9900 / n = q at hq hq2
  refine ⟨max 1 (min many q) - 1, ?_, ?_, by omega⟩
  · split <;> split <;> omega
  · have h1 : max 1 (min many q) - 1 + 1 = max 1 (min many q) := by omega
    rw [h1]
    rcases Nat.le_total (min many q) 1 with h | h
    · rw [Nat.max_eq_left h]; omega
    · rw [Nat.max_eq_right h]
      have : min many q * n ≤ q * n := Nat.mul_le_mul_right n (Nat.min_le_right _ _)
      omega
section
variable {P : Program} {w : World} {K : PySem.W.Frag} {mg : Str → Option Value} {base : Heap}
abbrev s__law_long : Stmt := top 83
theorem sc__law_long : FnScope ["flow", "text", "many"] ["flow", "text"] (defScope s__law_long) := ⟨rfl, rfl, rfl, by decide +kernel, rfl, by decide +kernel, by decide +kernel⟩
def sp_long : Sp := fun vs H Q _ => ∃ (a : Addr) (t : List Nat) (ts : List Tk), vs = [.ref a, .str (S t)] ∧ Flow H a ∧ Pcs t ts ∧ NoE ts ∧ t.length ≤ 40000 ∧ ∀ H' t ts, Flow H' a → Pcs t ts → NoE ts → t.length ≤ 49901 → Q (.str (S t)) H'
theorem ok_long (T : Txt K mg) (TQ : TxtQ mg) (TMn : TxtMn mg) {f : Addr} {fd : FuncData} (F : Fun K "_law_long" "_law_long" s__law_long f fd) (D__law_draw : Def P w K mg base CX0 "_law_draw" ["flow", "many"] 2 sp_draw) : FnOk P w K mg base CX0 3 f fd ["flow", "text"] sp_long := by
  refine F.ok sc__law_long (fun vs H Q E h => ?_) (fun cdv A outer s H vs Q E hr h => ?_)
  · obtain ⟨_, _, _, rfl, _⟩ := h; rfl
  obtain ⟨a, t, ts, rfl, fl, pt, et, lt, hq⟩ := h
  refine ⟨_, (pss_cons (ps_set (i := 2) sc__law_long.nd rfl (Or.inl rfl) (pe_ix ix_list (pe_lst (pa_cons pe_int (pa_cons pe_int (pa_cons pe_int (pa_cons pe_int (pa_cons pe_int (pa_cons pe_int (pa_cons pe_int (pa_cons pe_int pa_nil))))))))) (pe_call D__law_draw.ok (hr.mono (by omega)) rfl D__law_draw.g D__law_draw.k D__law_draw.b .nil pass0 (pa_cons (pv 0) (pa_cons pe_int pa_nil))) (fun _ _ => rfl)))
    (pss_one (ps_ret (pe_bm PySem.F.plainAttrs_str PySem.F.slot_str_join PySem.F.type_str_join mt_join pe_str (pa_cons (pe_op op_rep (pe_lst (pa_cons (pv 1) pa_nil)) (pe_callB (call_max2 rfl) rfl TQ.n_max boot_max (pa_cons pe_int (pa_cons (pe_callB (call_min2 rfl) rfl TMn.n_min boot_min (pa_cons (pv 2) (pa_cons (pe_op op_fdivW pe_int (pe_op op_add (pe_callB call_len_str rfl T.n_len boot_len (pa_cons (pv 1) pa_nil)) pe_int)) pa_nil))) pa_nil)))) pa_nil))))), ?_⟩
  generalize hσ : L2.start _ _ = σ0
  have hσ : σ0 = [some (.ref a), some (.str (S t)), none] := hσ.symm
  subst hσ
  have hz := line_eq
  have htl := S_len t
  refine seq_set ?_
  refine pick_ints (xs := [1, 1, 1, 1, 1, 2, 9, 400]) fl (fun _ _ q => q) (yi_draw rfl (by decide) (by decide)) (by decide) (by decide) fun H2 many b2 f2 hmany => ?_
  obtain ⟨many, rfl⟩ : ∃ n : Nat, many = (n : Int) := by
    refine ⟨many.toNat, ?_⟩
    simp at hmany; omega
  obtain ⟨k, ek, lk, hk⟩ := many_lines (t.length + 1) many (Nat.succ_pos _)
  refine ⟨rfl, _, rfl, (by show 1 ≤ _; omega), fun p n => ?_⟩
  have hp : (upd H2 p (.lst [V.str (S t)])) p = some (.lst [V.str (S t)]) := upd_same
  have f3 := f2.mono (same_new n (.lst [V.str (S t)]))
  generalize upd H2 p (.lst [V.str (S t)]) = H3 at hp f3 ⊢
  refine ⟨_, rfl, _, rfl, S t, rfl, by omega, _, _, rfl, rfl, _, _, rfl, rfl, ⟨by rw [htl]; omega, ?_⟩, _, _, rfl, _, _, rfl, ?_⟩
  · rw [htl]
    have : ((t.length : Int) + 1).natAbs < 2 ^ 17 := by omega
    exact Nat.lt_of_lt_of_le (PySem.Flt.log2_lt_of (k := 17) (by decide) this) (by decide)
  rw [htl]
  have en : ((t.length : Int) + 1) = ((t.length + 1 : Nat) : Int) := by omega
  rw [en, ek]
  refine ⟨p, _, _, rfl, rfl, hp, by omega, by omega, by rw [Int.toNat_natCast, List.length_singleton]; omega, fun r nr => ?_⟩
  have hr4 : (upd H3 r (.lst (List.replicate (((k + 1 : Nat) : Int)).toNat [V.str (S t)]).flatten)) r = some (.lst ((List.replicate (k + 1) (S t)).map V.str)) := by
    rw [upd_same, Int.toNat_natCast]
    congr 2
    generalize k + 1 = m
    induction m with
    | zero => rfl
    | succ m ih => rw [List.replicate_succ, List.flatten_cons, ih, List.replicate_succ]; rfl
  have f4 := f3.mono (same_new nr (.lst (List.replicate (((k + 1 : Nat) : Int)).toNat [V.str (S t)]).flatten))
  obtain ⟨us, pu, eu⟩ := linesN_ok pt et k
  have lu := linesN_len t k
  refine ⟨S (codes "\n"), r, List.replicate (k + 1) (S t), congrArg V.str (S_of _), rfl, .inl (SqL.of hr4), ?_, ?_⟩
  · rw [List.length_replicate, List.map_replicate, S_len, S_len]
    have e1 : (List.replicate (k + 1) t.length).sum = (k + 1) * t.length := by simp
    rw [e1]
    have e2 : (k + 1) * t.length + (k + 1) * 1 = (k + 1) * (t.length + 1) := by rw [Nat.mul_add]
    show (k + 1) * t.length + (k + 1) * 1 ≤ _
    omega
  · have e3 : Txt.join (S (codes "\n")) (List.replicate (k + 1) (S t)) = S (linesN k t) := by
      have := SX.join_S [10] (List.replicate (k + 1) t)
      rw [List.map_replicate] at this
      rw [← join_lines]
      exact this
    rw [e3]
    exact hq _ _ us f4 pu eu (by omega)
end
end Wk
set_option maxRecDepth 100000
set_option maxHeartbeats 8000000
namespace Wk
open PySem L2 TL PyProof.Rows Gm Gr
open SX (S S_len)
theorem hu_of {k : Nat} {A : Around} (r : Room k A) : A.units + 64 < cLine := by have := r.un; omega
theorem alike_tk {H : Hp} {p q : Addr} {t : Tk} (h1 : H p = some (.tup (tkV t))) (h2 : H q = some (.tup (tkV t))) : Alike 2 H (.ref p) (.ref q) := by
  refine .inr (.inr (.inl ⟨p, q, tkV t, tkV t, rfl, rfl, .inl ⟨h1, h2⟩, rfl, by show 3 ≤ _; decide, fun k x y e1 e2 => ?_⟩))
  have e : x = y := Option.some.inj (e1.symm.trans e2)
  subst e
  rcases k with _ | _ | _ | k
  · exact .inl ⟨_, (Option.some.inj e1).symm, (Option.some.inj e1).symm⟩
  · have e3 : wdV t.wd = x := Option.some.inj e1
    subst e3
    cases t.wd with
    | s l => exact .inl ⟨_, rfl, rfl⟩
    | n m => exact .inr (.inl ⟨_, rfl, rfl⟩)
  · exact .inr (.inl ⟨_, (Option.some.inj e1).symm, (Option.some.inj e1).symm⟩)
  · cases k <;> cases e1
theorem alike_words {H : Hp} {p q : Addr} {us vs : List V} {ts : List Tk} (hl : ts.length ≤ 10000000) (h1 : H p = some (.lst us)) (h2 : H q = some (.lst vs)) (t1 : Toks H us ts) (t2 : Toks H vs ts) : Alike 3 H (.ref p) (.ref q) := by
  have l1 := toks_size t1
  have l2 := toks_size t2
  refine .inr (.inr (.inl ⟨p, q, us, vs, rfl, rfl, .inr ⟨h1, h2⟩, by omega, by omega, fun k x y e1 e2 => ?_⟩))
  have hk : k < ts.length := by
    have := (List.getElem?_eq_some_iff.mp e1).1
    omega
  have et : ts[k]? = some ts[k] := List.getElem?_eq_getElem hk
  obtain ⟨a, ea, ha⟩ := toks_at t1 et
  obtain ⟨b, eb, hb⟩ := toks_at t2 et
  obtain rfl : x = .ref a := Option.some.inj (e1.symm.trans ea)
  obtain rfl : y = .ref b := Option.some.inj (e2.symm.trans eb)
  exact alike_tk ha hb
theorem toks_get {H : Hp} {us : List V} {ts : List Tk} {k : Nat} {v : V} (h : Toks H us ts) (e : us[k]? = some v) : ∃ (t : Tk) (a : Addr), ts[k]? = some t ∧ v = .ref a ∧ H a = some (.tup (tkV t)) := by
  have hk : k < ts.length := by
    have := (List.getElem?_eq_some_iff.mp e).1
    have := toks_size h
    omega
  obtain ⟨a, ea, ha⟩ := toks_at h (List.getElem?_eq_getElem hk)
  exact ⟨_, a, List.getElem?_eq_getElem hk, Option.some.inj (e.symm.trans ea), ha⟩
/-- what is told begins with one of three words -/
def LookT (H : Hp) (s : Str) (v : V) : RdR → Prop
  | .told ts => s = Str.ofString "told" ∧ RelT H (.t ts) v
  | .bad l => s = Str.ofString "bad" ∧ v = .int (l : Int)
  | .deep => s = Str.ofString "deep" ∧ v = .int 0
theorem due_look {H : Hp} {q : Addr} {r : RdR} (h : DueT H q r) : ∃ (s : Str) (v : V), H q = some (.tup [.str s, v]) ∧ LookT H s v r := by
  cases r with
  | told ts => obtain ⟨v, h1, h2⟩ := h; exact ⟨_, v, h1, rfl, h2⟩
  | bad l => exact ⟨_, _, h, rfl, rfl⟩
  | deep => exact ⟨_, _, h, rfl, rfl⟩
theorem items_len (d : Nat) : ∀ (n : Nat) (acc ts : List Tr) (toks r : List Tk), items d n acc toks = .ok ts r → ts.length + r.length ≤ acc.length + toks.length
  | 0, _, _, _, _, h => by cases h
  | n + 1, acc, ts, toks, r, h => by
    unfold items at h
    split at h
    · cases h; show acc.length + 0 ≤ _; omega
    · have hg := gd_item d toks
      cases e : Gr.item d toks with
      | out => rw [e] at h; cases h
      | bad b => rw [e] at h; cases h
      | ok a r1 =>
        rw [e] at h hg
        have h := items_len d n _ _ _ _ h
        have hl := hg.2 rfl
        rw [List.length_append, List.length_singleton] at h
        omega
theorem told_len {t : List Nat} {ts : List Tr} (e : readR t = .told ts) : ts.length ≤ t.length := by
  unfold readR at e
  cases ec : cutF 1 t with
  | bad l => rw [ec] at e; cases e
  | ok toks =>
  rw [ec] at e
  dsimp only at e
  have hl := (cut_good _ 1 t toks (Nat.le_refl _) ec).2
  cases ep : prog toks with
  | out => rw [ep] at e; cases e
  | bad r => rw [ep] at e; cases e
  | ok ts' r =>
    rw [ep] at e
    dsimp only at e
    split at e
    · cases e
    · cases e
      have := items_len 60 _ _ _ _ _ ep
      simp only [List.length_nil] at this
      omega
/-- two things told of one text are alike -/
theorem alike_told {H : Hp} (hb : HB H) {t : List Nat} {ts : List Tr} {v u : V} (e : readR t = .told ts) (r1 : RelT H (.t ts) v) (r2 : RelT H (.t ts) u) : Alike 107 H v u := by
  unfold readR at e
  cases ec : cutF 1 t with
  | bad l => rw [ec] at e; cases e
  | ok toks =>
  rw [ec] at e
  dsimp only at e
  cases ep : prog toks with
  | out => rw [ep] at e; cases e
  | bad r => rw [ep] at e; cases e
  | ok ts' r =>
    rw [ep] at e
    dsimp only at e
    by_cases h50 : 50 < deepT ts'
    · rw [if_pos h50] at e; cases e
    · rw [if_neg h50] at e
      cases e
      have hsh := prog_sh ep
      have hd : ∀ x ∈ ts.flatMap outI, dT x ≤ 50 := fun x hx => by
        have := le_maxL (List.mem_map_of_mem (f := dT) hx)
        have : dT x ≤ deepT ts := this
        omega
      exact alike_row (d := 106) hb r1 r2 fun i a e x y q1 q2 => alike_item (n := 50) hb (hsh a (List.mem_of_getElem? e)) (fun z hz => hd z (List.mem_flatMap.mpr ⟨a, List.mem_of_getElem? e, hz⟩)) q1 q2
section
variable {P : Program} {w : World} {K : PySem.W.Frag} {mg : Str → Option Value} {base : Heap}
/-- alike, where no tuple is greater than a line -/
def sp_sameB (d : Nat) : Sp := fun vs H Q E => vs.length = 2 ∧ (HB H → sp_same d vs H Q E)
abbrev s_law : Stmt := top 84
theorem sc_law : FnScope ["script", "flow", "one", "other", "whole", "down", "due", "first_v", "second", "told", "sort", "word", "line"] ["script"] (defScope s_law) := ⟨rfl, rfl, rfl, by decide +kernel, rfl, by decide +kernel, by decide +kernel⟩
def sp_law (K : PySem.W.Frag) : Sp := fun vs H Q _ => ∃ (a : Addr) (ns : List Int), vs = [.ref a] ∧ SqL K H a (ns.map V.int) ∧ ns.length ≤ 1000 ∧ ∀ H', Q (.bl true) H'
theorem ok_law (T : Txt K mg) {f : Addr} {fd : FuncData} (F : Fun K "law" "law" s_law f fd)
    (D__law_flow : Def P w K mg base CX0 "_law_flow" ["script"] 1 (sp_flow K)) (D__law_text : Def P w K mg base CX0 "_law_text" ["flow"] 48 sp_text) (D__law_long : Def P w K mg base CX0 "_law_long" ["flow", "text"] 3 sp_long)
    (D_words : Def P w K mg base CX0 "words" ["text"] 6 sp_wordsQ) (D__law_asked : Def P w K mg base CX0 "_law_asked" ["text"] 200 sp_asked) (D__law_same : Def P w K mg base CX0 "_law_same" ["found", "due"] 111 (sp_sameB 110)) : FnOk P w K mg base CX0 201 f fd ["script"] (sp_law K) := by
  refine F.ok sc_law (fun vs H Q E h => ?_) (fun cdv A outer s H vs Q E hr h => ?_)
  · obtain ⟨a, ns, rfl, _⟩ := h; rfl
  obtain ⟨a0, ns, rfl, hs, hl, q⟩ := h
  refine ⟨_, (pss_cons (ps_set (i := 1) sc_law.nd rfl (Or.inl rfl) (pe_call D__law_flow.ok (hr.mono (by omega)) rfl D__law_flow.g D__law_flow.k D__law_flow.b .nil pass0 (pa_cons (pv 0) pa_nil)))
    (pss_cons (ps_set (i := 2) sc_law.nd rfl (Or.inl rfl) (pe_call D__law_long.ok (hr.mono (by omega)) rfl D__law_long.g D__law_long.k D__law_long.b .nil pass0 (pa_cons (pv 1) (pa_cons (pe_call D__law_text.ok (hr.mono (by omega)) rfl D__law_text.g D__law_text.k D__law_text.b .nil pass0 (pa_cons (pv 1) pa_nil)) pa_nil))))
    (pss_cons (ps_set (i := 3) sc_law.nd rfl (Or.inl rfl) (pe_call D__law_long.ok (hr.mono (by omega)) rfl D__law_long.g D__law_long.k D__law_long.b .nil pass0 (pa_cons (pv 1) (pa_cons (pe_call D__law_text.ok (hr.mono (by omega)) rfl D__law_text.g D__law_text.k D__law_text.b .nil pass0 (pa_cons (pv 1) pa_nil)) pa_nil))))
    (pss_cons (ps_set (i := 4) sc_law.nd rfl (Or.inl rfl) (pe_op op_add_str (pe_op op_add_str (pv 2) pe_str) (pv 3)))
    (pss_cons (ps_set (i := 5) sc_law.nd rfl (Or.inr rfl) (pe_op op_add pe_int (pe_bm PySem.F.plainAttrs_str PySem.F.slot_str_count PySem.F.type_str_count mt_count (pv 2) (pa_cons pe_str pa_nil))))
    (pss_cons (ps_set (i := 6) sc_law.nd rfl (Or.inl rfl) (pe_op op_cat (pe_call D_words.ok (hr.mono (by omega)) rfl D_words.g D_words.k D_words.b .nil pass0 (pa_cons (pv 2) pa_nil)) (pe_lc (own := [("sort", 10), ("word", 11), ("line", 12)]) (g := gTup K 3 (gCons (gName 10) (gCons (gName 11) (gCons (gName 12) gNil)))) (tt := tYes) rfl sc_law.nd (pi_list (pe_call D_words.ok (hr.mono (by omega)) rfl D_words.g D_words.k D_words.b .nil pass0 (pa_cons (pv 3) pa_nil))) (blkOk_by (N := ["script", "flow", "one", "other", "whole", "down", "due", "first_v", "second", "told", "sort", "word", "line"]) (sc := defScope s_law) (by decide +kernel)) (fun _ _ _ _ _ => (pg_tup rfl (pgs_cons (pg_name (i := 10) sc_law.nd rfl (Or.inl rfl)) (pgs_cons (pg_name (i := 11) sc_law.nd rfl (Or.inl rfl)) (pgs_cons (pg_name (i := 12) sc_law.nd rfl (Or.inl rfl)) pgs_nil))))) (fun _ _ _ _ _ => pts_nil) (fun _ _ _ _ _ => (pe_tup (pa_cons (pv 10) (pa_cons (pv 11) (pa_cons (pe_op op_add (pv 12) (pv 5)) pa_nil))))))))
    (pss_cons (ps_if (pt_not (pt_val (pe_call D__law_same.ok (hr.mono (by omega)) rfl D__law_same.g D__law_same.k D__law_same.b .nil pass0 (pa_cons (pe_call D_words.ok (hr.mono (by omega)) rfl D_words.g D_words.k D_words.b .nil pass0 (pa_cons (pv 4) pa_nil)) (pa_cons (pv 6) pa_nil))))) (pss_one (ps_ret pe_bl)) pss_nil)
    (pss_cons (ps_set (i := 7) sc_law.nd rfl (Or.inl rfl) (pe_call D__law_asked.ok (hr.mono (by omega)) rfl D__law_asked.g D__law_asked.k D__law_asked.b .nil pass0 (pa_cons (pv 2) pa_nil)))
    (pss_cons (ps_set (i := 8) sc_law.nd rfl (Or.inl rfl) (pe_call D__law_asked.ok (hr.mono (by omega)) rfl D__law_asked.g D__law_asked.k D__law_asked.b .nil pass0 (pa_cons (pv 3) pa_nil)))
    (pss_cons (ps_set (i := 9) sc_law.nd rfl (Or.inl rfl) (pe_call D__law_asked.ok (hr.mono (by omega)) rfl D__law_asked.g D__law_asked.k D__law_asked.b .nil pass0 (pa_cons (pv 4) pa_nil)))
    (pss_cons (ps_if (pt_cmpR op_eq (pe_ix ix_tup (pv 7) pe_int (fun _ _ => rfl)) pe_str (nomark _)) (pss_one (ps_ret (pe_or (pe_cmpR op_gt (pe_ix ix_tup (pv 7) pe_int (fun _ _ => rfl)) (pe_bm PySem.F.plainAttrs_str PySem.F.slot_str_count PySem.F.type_str_count mt_count (pv 2) (pa_cons pe_str pa_nil)) (nomark _)) (pe_one (pe_cmpR (op_eq_two (hu_of hr)) (pv 9) (pv 7) (nomark _)))))) pss_nil)
    (pss_cons (ps_if (PW.pt (pw_or (pt_cmpR op_eq (pe_ix ix_tup (pv 7) pe_int (fun _ _ => rfl)) pe_str (nomark _)) (pw_or1 (pt_cmpR op_eq (pe_ix ix_tup (pv 8) pe_int (fun _ _ => rfl)) pe_str (nomark _))))) (pss_one (ps_ret pe_bl)) pss_nil)
    (pss_cons (ps_if (pt_cmpR op_eq (pe_ix ix_tup (pv 8) pe_int (fun _ _ => rfl)) pe_str (nomark _)) (pss_one (ps_ret (pe_cmpR (op_eq_two (hu_of hr)) (pv 9) (pe_tup (pa_cons pe_str (pa_cons (pe_op op_add (pe_ix ix_tup (pv 8) pe_int (fun _ _ => rfl)) (pv 5)) pa_nil))) (nomark _)))) pss_nil)
    (pss_one (ps_ret (pe_and (pe_cmpR op_eq (pe_ix ix_tup (pv 9) pe_int (fun _ _ => rfl)) pe_str (nomark _)) (pe_one (pe_call D__law_same.ok (hr.mono (by omega)) rfl D__law_same.g D__law_same.k D__law_same.b .nil pass0 (pa_cons (pe_ix ix_tup (pv 9) pe_int (fun _ _ => rfl)) (pa_cons (pe_op op_catA (pe_ix ix_tup (pv 7) pe_int (fun _ _ => rfl)) (pe_ix ix_tup (pv 8) pe_int (fun _ _ => rfl))) pa_nil)))))))))))))))))))), ?_⟩
  generalize hσ : L2.start _ _ = σ0
  have hσ : σ0 = [some (.ref a0), none, none, none, none, none, none, none, none, none, none, none, none] := hσ.symm
  subst hσ
  have hz := line_eq
  refine seq_set ?_
  refine ⟨_, rfl, a0, ns, rfl, hs, hl, fun H1 a na g1 f1 => ?_⟩
  refine seq_set ?_
  refine ⟨_, rfl, _, rfl, a, rfl, f1, fun H2 t1 ts1 f2 p1 e1 l1 => ?_⟩
  refine ⟨a, t1, ts1, rfl, f2, p1, e1, l1, fun H3 t2 ts2 f3 p2 e2 l2 => ?_⟩
  clear p1 e1 l1 f2
  refine seq_set ?_
  refine ⟨_, rfl, _, rfl, a, rfl, f3, fun H4 t3 ts3 f4 p3 e3 l3 => ?_⟩
  refine ⟨a, t3, ts3, rfl, f4, p3, e3, l3, fun H5 t4 ts4 f5 p4 e4 l4 => ?_⟩
  clear p3 e3 l3 f4 f3
  have s2 := S_len t2
  have s4 := S_len t4
  -- whole, down
  refine seq_set ?_
  refine ⟨_, rfl, S t2, S (codes "\n"), rfl, congrArg V.str (S_of _), by rw [s2, S_len]; show t2.length + 1 ≤ _; omega, ?_⟩
  refine ⟨_, rfl, S t2 ++ S (codes "\n"), S t4, rfl, rfl, by rw [S_app, S_len, S_len, List.length_append]; show t2.length + 1 + t4.length ≤ _; omega, ?_⟩
  have ew : S t2 ++ S (codes "\n") ++ S t4 = S (t2 ++ 10 :: t4) := by
    rw [S_app, S_app, List.append_assoc]; rfl
  rw [ew]
  have lw : (t2 ++ 10 :: t4).length ≤ 99803 := by rw [List.length_append, List.length_cons]; omega
  have cw := cut_join p2 p4
  have jn := read_join p2 p4 e4
  have c2 := p2.cut 1
  have c4 := p4.cut 1
  generalize t2 ++ 10 :: t4 = tw at lw cw jn ⊢
  dsimp only
  refine seq_set ?_
  refine ⟨_, rfl, rfl, S t2, _, rfl, rfl, ?_⟩
  refine ⟨_, _, rfl, rfl, ?_⟩
  have eln : (1 : Int) + Txt.count (S t2) (Str.ofString "\n") = ((nls t2 + 1 : Nat) : Int) := by
    rw [Wk.count_nl]
    show (1 : Int) + ((t2.count 10 : Nat) : Int) = ((t2.count 10 + 1 : Nat) : Int)
    omega
  dsimp only
  rw [eln]
  generalize hA : ts2.map (sh 1) = tA at cw c2
  generalize hB : ts4.map (sh 1) = tB at cw c4
  have lA := (cut_good _ 1 t2 tA (Nat.le_refl _) c2).2
  have lB := (cut_good _ 1 t4 tB (Nat.le_refl _) c4).2
  -- due
  refine seq_set ?_
  refine ⟨_, rfl, t2, tA, rfl, by omega, c2, fun H6 q6 us6 n6 g6 h6 tk6 => ?_⟩
  refine ⟨_, rfl, t4, tB, rfl, by omega, c4, fun H7 q7 us7 n7 g7 h7 tk7 => ?_⟩
  have z6 := toks_size tk6
  have z7 := toks_size tk7
  refine ⟨q7, rfl, ⟨_, SqL.of h7⟩, fun D hD => ?_⟩
  refine lc_list (K := K) (a := q7) (xs := us7) (fun i H' => Same H7 H' ∧ ∃ acc, H' D = some (.lst acc) ∧ Toks H' acc ((tB.take i).map (sh (nls t2 + 1)))) ⟨same_new hD _, [], upd_same, trivial⟩ (fun i H' _ h => SqL.of (h.1 _ _ h7)) ?_ ?_
  · rintro i y H' ey ⟨g, acc, hD', hacc⟩
    obtain ⟨tk, ay, et, rfl, hay⟩ := toks_get (tk7.mono g) ey
    refine ⟨ay, _, rfl, SqT.of hay, rfl, _, _, rfl, _, _, rfl, _, _, rfl, rfl, ?_⟩
    unfold tYes
    dsimp only
    rw [if_pos rfl]
    refine ⟨rfl, _, rfl, _, rfl, _, rfl, _, rfl, _, _, rfl, rfl, (by show 3 ≤ _; omega), fun a9 n9 => ?_⟩
    have ea : V.int ((tk.ln : Int) + ((nls t2 + 1 : Nat) : Int)) = V.int ((tk.ln + (nls t2 + 1) : Nat) : Int) := rfl
    have g9 := same_new n9 (.tup (tkV (sh (nls t2 + 1) tk)))
    have hD9 := g9 _ _ hD'
    have hl9 := toks_size hacc
    rw [List.length_map, List.length_take] at hl9
    refine ⟨acc, hD9, by omega, same_mut (g.trans g9) hD _, acc ++ [.ref a9], upd_same, ?_⟩
    rw [List.take_add_one, et, List.map_append]
    refine Toks.app (toks_keep (TupK.set hD9) (hacc.mono g9)) ⟨⟨a9, rfl, ?_⟩, trivial⟩
    rw [upd_ne (ne_of_none hD' n9).symm]
    exact upd_same
  rintro H8 ⟨g8, acc, hD8, hacc⟩
  rw [List.take_of_length_le (by omega)] at hacc
  have hl8 := toks_size hacc
  rw [List.length_map] at hl8
  have g68 := g7.trans g8
  refine ⟨q6, D, _, _, rfl, rfl, g68 _ _ h6, hD8, by omega, fun r9 n9 => ?_⟩
  have g9 := same_new n9 (.lst (us6 ++ acc))
  have h9 : (upd H8 r9 (.lst (us6 ++ acc))) r9 = some (.lst (us6 ++ acc)) := upd_same
  have tk9 : Toks (upd H8 r9 (.lst (us6 ++ acc))) (us6 ++ acc) (tA ++ tB.map (sh (nls t2 + 1))) := ((tk6.mono g68).mono g9).app (hacc.mono g9)
  generalize upd H8 r9 (.lst (us6 ++ acc)) = H9 at h9 tk9 ⊢
  clear h6 tk6 h7 tk7 hD8 hacc g9 g68 g8 hD
  -- the words of the whole
  refine ⟨_, rfl, tw, _, rfl, by omega, cw, fun H10 q10 us10 n10 g10 h10 tk10 => ?_⟩
  refine ⟨_, rfl, rfl, fun hb10 => ⟨_, _, rfl, (alike_words (by rw [List.length_append, List.length_map]; omega) h10 (g10 _ _ h9) tk10 (tk9.mono g10)).up (by decide), fun H11 g11 => ?_⟩⟩
  refine ⟨_, rfl, ?_⟩
  refine iteF (go_next ?_)
  dsimp only
  clear h9 tk9 h10 tk10
  -- what is read
  refine seq_set ?_
  refine ⟨_, rfl, t2, rfl, by omega, fun H12 qa g12 da => ?_⟩
  refine seq_set ?_
  refine ⟨_, rfl, t4, rfl, by omega, fun H13 qb g13 db => ?_⟩
  refine seq_set ?_
  refine ⟨_, rfl, tw, rfl, by omega, fun H14 qc g14 dc => ?_⟩
  have da := da.mono (g13.trans g14)
  have db := db.mono g14
  obtain ⟨sa, va, ha, ra⟩ := due_look da
  obtain ⟨sb, vb, hb, rb⟩ := due_look db
  obtain ⟨sc, vc, hc, rc⟩ := due_look dc
  generalize er2 : readR t2 = xa at jn ra
  generalize er4 : readR t4 = xb at jn rb
  have look : ∀ {σ : L2.St} {i : Nat} {p : Addr} {s : Str} {v : V} {R : VK}, σ[i]? = some (some (.ref p)) → H14 p = some (.tup [.str s, v]) → R (.str s) H14 → tOp (rIxT K) (tVar i) (tC (V.int 0)) σ H14 R := fun e h r => ⟨_, e, _, _, _, _, rfl, rfl, SqT.of h, atI_nat (j := 0) rfl, r⟩
  have look1 : ∀ {σ : L2.St} {i : Nat} {p : Addr} {s : Str} {v : V} {R : VK}, σ[i]? = some (some (.ref p)) → H14 p = some (.tup [.str s, v]) → R v H14 → tOp (rIxT K) (tVar i) (tC (V.int 1)) σ H14 R := fun e h r => ⟨_, e, _, _, _, _, rfl, rfl, SqT.of h, atI_nat (j := 1) rfl, r⟩
  have nDB : ¬ V.str (Str.ofString "deep") = V.str (Str.ofString "bad") := by decide
  have nTB : ¬ V.str (Str.ofString "told") = V.str (Str.ofString "bad") := by decide
  have nTD : ¬ V.str (Str.ofString "told") = V.str (Str.ofString "deep") := by decide
  have nBD : ¬ V.str (Str.ofString "bad") = V.str (Str.ofString "deep") := by decide
  refine look rfl ha ?_
  cases xa with
  | bad l =>
    obtain ⟨rfl, rfl⟩ := ra
    refine ⟨rfl, _, rfl, ?_⟩
    refine ited (fun _ => ?_) (fun z => absurd rfl z)
    refine look1 rfl ha ?_
    refine ⟨_, rfl, rfl, S t2, _, rfl, rfl, _, _, rfl, rfl, ?_⟩
    rw [Wk.count_nl]
    rcases jn with hlt | hxc
    · have : decide ((t2.count 10 : Int) < (l : Int)) = true := decide_eq_true (by unfold nls at hlt; omega)
      refine ⟨_, rfl, ?_⟩
      rw [this]
      exact iteT (q _)
    · rw [hxc] at rc
      obtain ⟨rfl, rfl⟩ := rc
      refine ⟨_, rfl, ?_⟩
      cases decide ((t2.count 10 : Int) < (l : Int)) with
      | true => exact iteT (q _)
      | false =>
        refine iteF ?_
        refine ⟨_, rfl, _, rfl, qc, qa, _, _, _, _, rfl, rfl, hc, ha, .inl ⟨_, rfl⟩, ?_⟩
        have : ((Str.ofString "bad" == Str.ofString "bad") && isI (l : Int) (V.int (l : Int))) = true := by
          show (_ && ((l : Int) == (l : Int))) = true
          simp
        rw [this]
        exact q _
  | deep =>
    obtain ⟨rfl, rfl⟩ := ra
    refine ⟨rfl, _, rfl, ?_⟩
    refine ited (fun z => absurd z nDB) (fun _ => go_next ?_)
    refine look rfl ha ?_
    refine ⟨rfl, _, rfl, ?_⟩
    exact ited (fun _ => iteT (q _)) (fun z => absurd rfl z)
  | told xs =>
    obtain ⟨rfl, ra⟩ := ra
    refine ⟨rfl, _, rfl, ?_⟩
    refine ited (fun z => absurd z nTB) (fun _ => go_next ?_)
    refine look rfl ha ?_
    refine ⟨rfl, _, rfl, ?_⟩
    refine ited (fun z => absurd z nTD) (fun _ => ?_)
    refine look rfl hb ?_
    cases xb with
    | deep =>
      obtain ⟨rfl, rfl⟩ := rb
      refine ⟨rfl, _, rfl, ?_⟩
      exact ited (fun _ => q _) (fun z => absurd rfl z)
    | bad l =>
      obtain ⟨rfl, rfl⟩ := rb
      refine ⟨rfl, _, rfl, ?_⟩
      refine ited (fun z => absurd z nBD) (fun _ => go_next ?_)
      refine look rfl hb ?_
      refine ⟨rfl, _, rfl, ?_⟩
      refine ited (fun _ => ?_) (fun z => absurd rfl z)
      have jn : readR tw = .bad (l + (nls t2 + 1)) := jn
      rw [jn] at rc
      obtain ⟨rfl, rfl⟩ := rc
      refine ⟨_, rfl, ?_⟩
      refine look1 rfl hb ?_
      refine ⟨_, rfl, _, _, rfl, rfl, (by show 2 ≤ _; omega), fun p15 n15 => ?_⟩
      have g15 := same_new n15 (.tup [V.str "bad", V.int ((l : Int) + ((nls t2 + 1 : Nat) : Int))])
      refine ⟨qc, p15, _, _, _, _, rfl, rfl, g15 _ _ hc, upd_same, .inl ⟨_, rfl⟩, ?_⟩
      have : ((Str.ofString "bad" == Str.ofString "bad") && isI ((l : Int) + ((nls t2 + 1 : Nat) : Int)) (V.int ((l + (nls t2 + 1) : Nat) : Int))) = true := by
        show (_ && (((l + (nls t2 + 1) : Nat) : Int) == ((l : Int) + ((nls t2 + 1 : Nat) : Int)))) = true
        have e : ((l + (nls t2 + 1) : Nat) : Int) = (l : Int) + ((nls t2 + 1 : Nat) : Int) := rfl
        rw [e]; simp
      rw [this]
      exact q _
    | told ys =>
      obtain ⟨rfl, rb⟩ := rb
      refine ⟨rfl, _, rfl, ?_⟩
      refine ited (fun z => absurd z nTD) (fun _ => go_next ?_)
      refine look rfl hb ?_
      refine ⟨rfl, _, rfl, ?_⟩
      refine ited (fun z => absurd z nTB) (fun _ => go_next ?_)
      have jn : readR tw = .told (xs ++ ys) := jn
      rw [jn] at rc
      obtain ⟨rfl, rc⟩ := rc
      refine look rfl hc ?_
      refine ⟨rfl, _, rfl, ?_⟩
      refine ited (fun _ => ?_) (fun z => absurd rfl z)
      refine look1 rfl hc ?_
      refine look1 rfl ha ?_
      refine look1 rfl hb ?_
      obtain ⟨pa, as, rfl, hpa, hra⟩ := rel_tuple ra
      obtain ⟨pb, bs, rfl, hpb, hrb⟩ := rel_tuple rb
      have la := rels_len hra
      have lb := rels_len hrb
      have ta := told_len er2
      have tb := told_len er4
      have fin : ∀ (H' : Hp) (u : V), Same H14 H' → RelT H' (.t (xs ++ ys)) u → sp_sameB 110 [vc, u] H' Q (fun _ _ _ => False) := fun H' u g hu => ⟨rfl, fun hb' => ⟨_, _, rfl, (alike_told hb' jn (rc.keep (TupK.same g)) hu).up (by decide), fun H'' _ => q H''⟩⟩
      refine ⟨pa, pb, as, bs, rfl, rfl, SqT.of hpa, SqT.of hpb, by omega, fun e0 => ?_, fun e1 e2 => ?_, fun e1 e2 r15 n15 => ?_⟩
      · have : xs = [] := List.eq_nil_of_length_eq_zero (by rw [la, e0]; rfl)
        subst this
        refine fin H14 _ (Same.refl H14) ?_
        rw [List.nil_append, RelT]
        exact ⟨pb, bs, rfl, hpb, hrb⟩
      · have : ys = [] := List.eq_nil_of_length_eq_zero (by rw [lb, e2]; rfl)
        subst this
        refine fin H14 _ (Same.refl H14) ?_
        rw [List.append_nil, RelT]
        exact ⟨pa, as, rfl, hpa, hra⟩
      · have g15 := same_new n15 (.tup (as ++ bs))
        refine fin _ _ g15 ?_
        rw [RelT]
        exact ⟨r15, as ++ bs, rfl, upd_same, rels_cat (hra.keep (TupK.same g15)) (hrb.keep (TupK.same g15))⟩
end
end Wk
set_option maxRecDepth 100000
set_option maxHeartbeats 8000000
namespace Wk
open PySem L2 TL PyProof.Rows Gm Gr
open SX (S S_len)
section
variable {P : Program} {w : World} {K : PySem.W.Frag} {mg : Str → Option Value} {base : Heap}
/-- at a call no tuple is greater than a line -/
theorem fnOk_B {f : Addr} {fd : FuncData} {d k : Nat} (F : FnOk P w K mg base CX0 k f fd ["found", "due"] (sp_same d)) : FnOk P w K mg base CX0 k f fd ["found", "due"] (sp_sameB d) :=
  ⟨fun _ _ _ _ h => h.1, fun A outer s H args us vs Q E hr he hb hv hs => F.run A outer s H args us vs Q E hr he hb hv (hs.2 fun a xs ha => by
    obtain ⟨z, _⟩ := (show ObjOk P w H s.heap a (.tup xs) from he.hok a _ ha)
    have := line_eq
    omega)⟩
theorem same_all (T : Txt K mg) (I : DfT K mg "_law_same" s__law_same ["found", "due"]) : ∀ d, FnOk P w K mg base CX0 (d + 1) I.f I.fd ["found", "due"] (sp_same d)
  | 0 => ok_same0 I.F
  | d + 1 => ok_same T I.F (I.on (same_all T I d))
/-- all else -/
structure AllI (K : PySem.W.Frag) (mg : Str → Option Value) where
  is_of_stretch : DfT K mg "is_of_stretch" s_is_of_stretch ["sign"]
  is_plain : DfT K mg "is_plain" s_is_plain ["thing"]
  is_name : DfT K mg "is_name" s_is_name ["thing"]
  is_number_word : DfT K mg "is_number_word" s_is_number_word ["stretch"]
  stretch_at : DfT K mg "stretch_at" s_stretch_at ["row", "at", "line"]
  text_at : DfT K mg "text_at" s_text_at ["row", "at", "line"]
  word_at : DfT K mg "word_at" s_word_at ["row", "at", "line"]
  words_of_line : DfT K mg "words_of_line" s_words_of_line ["row", "line"]
  words : DfT K mg "words" s_words ["text"]
  shape_within : DfT K mg "shape_within" s_shape_within ["word"]
  within : DfT K mg "within" s_within ["node"]
  outermost : DfT K mg "outermost" s_outermost ["program"]
  deepest : DfT K mg "deepest" s_deepest ["program"]
  read : DfT K mg "read" s_read ["text"]
  flow : DfT K mg "_law_flow" s__law_flow ["script"]
  more : DfT K mg "_law_more" s__law_more ["flow"]
  same : DfT K mg "_law_same" s__law_same ["found", "due"]
  asked : DfT K mg "_law_asked" s__law_asked ["text"]
  text : DfT K mg "_law_text" s__law_text ["flow"]
  long : DfT K mg "_law_long" s__law_long ["flow", "text"]
theorem law_of (T : Txt K mg) (TP : TxtP K w mg) (TQ : TxtQ mg) (TMn : TxtMn mg) (CC : CurT K) (B : ExcT P w K mg base "BadText" ["self", "line"] sp_bad_init) (BN : ExcT P w K mg base "NoText" ["self"] (fun _ _ => sp_no_init)) (BD : ExcT P w K mg base "TooDeep" ["self"] (fun _ _ => sp_no_init)) (XT : XfC K B.C) (hno : PySem.W.findIn K (.ref B.C) "line" = some none)
    (m3 : PySem.W.exmOne K (.ref B.C) (.ref B.C) = some true) (m5 : PySem.W.exmOne K (.ref BD.C) (.ref B.C) = some false) (m6 : PySem.W.exmOne K (.ref BD.C) (.ref BD.C) = some true)
    (M : MT P w K mg base CC B.C) (CM : CurM P w K mg base CC) (R : RdI K mg) (D : DwI K mg) (I : AllI K mg) {f : Addr} {fd : FuncData} (F : Fun K "law" "law" s_law f fd) : FnOk P w K mg base CX0 201 f fd ["script"] (sp_law K) := by
  have h1 := I.is_of_stretch.on (P := P) (w := w) (base := base) (ok_is_of_stretch T I.is_of_stretch.F)
  have h2 := I.is_plain.on (P := P) (w := w) (base := base) (ok_is_plain T I.is_plain.F)
  have h3 := I.is_name.on (ok_is_name T I.is_name.F h1)
  have h4 := I.is_number_word.on (P := P) (w := w) (base := base) (ok_is_number_word T I.is_number_word.F)
  have h5 := I.stretch_at.on (ok_stretch_at T B I.stretch_at.F h1 h3 h4)
  have h6 := I.text_at.on (ok_text_at T B I.text_at.F h2)
  have h7 := I.word_at.on (ok_word_at T B I.word_at.F h1 h5 h6)
  have h8 := I.words_of_line.on (ok_words_of_line T B I.words_of_line.F h2 h7)
  have hw := ok_words T B BN I.words.F h8
  have h9 := I.words.on hw
  have q1 := I.shape_within.on (P := P) (base := base) (ok_shape TP I.shape_within.F)
  have q2 := I.within.on (ok_within T TQ I.within.F q1)
  have q3 := I.outermost.on (P := P) (w := w) (base := base) (ok_outermost T I.outermost.F)
  have q4 := I.deepest.on (ok_deepest T TQ I.deepest.F q3 q2)
  have q5 := I.read.fine (ok_pread (lv := 500) T TP CC B BN BD M CM (by decide) I.read.F h9 (R.item.fine (kn_item T TP R CC M)) q4)
  have t1 := I.asked.on (FnF.coarse (k := 200) (ok_asked B BN BD XT hno m3 m5 m6 I.asked.F q5) (by decide) (by decide))
  have f1 := I.flow.on (P := P) (w := w) (base := base) (ok_flow T I.flow.F)
  have f2 := I.more.on (P := P) (w := w) (base := base) (ok_more T I.more.F)
  have d0 := ok_draw T D.draw.F f2
  have f3 := D.draw.on d0
  have i1 := D.item.on (dr_item T D d0)
  have x1 := I.text.on (ok_text T I.text.F f3 i1)
  have n1 := I.long.on (ok_long T TQ TMn I.long.F f3)
  exact ok_law T F f1 x1 n1 (I.words.on (ok_wordsQ hw)) t1 (I.same.on (fnOk_B (same_all T I.same 110)))
end
end Wk
set_option maxRecDepth 100000
set_option maxHeartbeats 8000000
namespace Wk
open PySem L2 TL PyProof.Rows
open SX (S S_len)
/-! ### the end: what the top has written, collected -/
section
variable {P : Program} {w : World} {K : PySem.W.Frag} {mg : Str → Option Value} {base h : Heap}
/-- a def of the top -/
structure OnK (K : PySem.W.Frag) (x : Str) (st : Stmt) (f : Addr) : Prop where
  a : PySem.W.nsIn K mainGlobals x = some (some (.ref f))
  l : ∃ (oc : Value) (od an : Option Addr) (osl : Array (Option Value)) (kV dc pm cd ct : Value), K.lookup f = some ⟨oc, od, .func (PySem.W.fnOf x x (defArgs st) (defBody st) (defScope st) .none kV dc pm an cd ct), osl⟩ ∧ PySem.W.codeIn K cd x = true
  k : PySem.W.keepIn K (.ref f) = true
theorem on_mk {x : Str} {st : Stmt} {f : Addr} {oc : Value} {od an : Option Addr} {osl : Array (Option Value)} {kV dc pm cd ct : Value} (a : PySem.W.nsIn K mainGlobals x = some (some (.ref f)))
    (l : K.lookup f = some ⟨oc, od, .func (PySem.W.fnOf x x (defArgs st) (defBody st) (defScope st) .none kV dc pm an cd ct), osl⟩) (c : PySem.W.codeIn K cd x = true) (k : PySem.W.keepIn K (.ref f) = true) : OnK K x st f :=
  ⟨a, ⟨oc, od, an, osl, kV, dc, pm, cd, ct, l, c⟩, k⟩
theorem OnK.def {x : Str} {st : Stmt} {f : Addr} {ps : List Str} {CX : CXT} {k : Nat} {sp : Sp} (o : OnK K x st f) (X : K.In h) (G : h.Ns mainGlobals mg)
    (hb : ∀ (kV doc pm : Value) (an : Option Addr) (cdv ct : Value) (us : List Value), us.length = ps.length → bindArgs (PySem.W.fnOf x x (defArgs st) (defBody st) (defScope st) .none kV doc pm an cdv ct) ⟨us, []⟩ = pure (ps.zip us))
    (ok : ∀ (fd : FuncData), Fun K x x st f fd → FnOk P w K mg base CX k f fd ps sp) : Nonempty (Def P w K mg base CX x ps k sp) := by
  obtain ⟨oc, od, an, osl, kV, dc, pm, cd, ct, l, c⟩ := o.l
  have F := fun_mk (st := st) l c o.k
  exact ⟨⟨f, _, ok _ F, PySem.W.mg_of X G o.a, o.k, F.binds hb⟩⟩
/-- what of the text a clause names, by its class -/
theorem clause_of {A C : Addr} {b : Bool} (h1 : PySem.W.subIn K (.ref C) (.type "BaseException") = some true) (h2 : PySem.W.isClsIn K C = true) (h3 : PySem.W.typeIn K (.ref C) = some (.type "type")) (h4 : PySem.W.subIn K (.ref A) (.ref C) = some b) :
    PySem.W.exmOne K (.ref A) (.ref C) = some b := by
  have h2 : (PySem.W.clsIn K C).isSome = true := h2
  unfold PySem.W.exmOne PySem.W.kitCls
  rw [if_pos (by rw [h1]; rfl)]
  dsimp only
  rw [if_pos (by rw [h2, h3]; rfl)]
  exact h4
theorem vals_abs : ∀ {us : List Value} {xs : List V}, us.map absV = xs.map some → Vals xs us
  | [], [], _ => .nil
  | [], _ :: _, e => by cases e
  | _ :: _, [], e => by cases e
  | u :: us, x :: xs, e => by
    have e1 : absV u = some x := (List.cons.inj e).1
    refine .cons ?_ (vals_abs (List.cons.inj e).2)
    cases u <;> first
      | (cases e1; first | rfl | exact ⟨_, rfl⟩)
      | cases e1
/-- an own error of the top -/
structure OwnE (K : PySem.W.Frag) (x q : Str) (st : Stmt) (C fI : Addr) : Prop where
  a : PySem.W.nsIn K mainGlobals x = some (some (.ref C))
  x : OexC K C
  i : PySem.W.findIn K (.ref C) "__init__" = some (some (.ref fI))
  t : PySem.W.typeIn K (.ref fI) = some (.type "function")
  l : ∃ (oc : Value) (od an : Option Addr) (osl : Array (Option Value)) (kV dc pm cd ct : Value), K.lookup fI = some ⟨oc, od, .func (PySem.W.fnOf "__init__" q (defArgs st) (defBody st) (defScope st) .none kV dc pm an cd ct), osl⟩ ∧ PySem.W.codeIn K cd q = true
  k : PySem.W.keepIn K (.ref fI) = true
  c : PySem.W.isClsIn K C = true
theorem own_mk {x q : Str} {st : Stmt} {C fI : Addr} {nm qn : Str} {N : Addr} {bs bm : List Value} {sn : List Str} {sub : List Value} {ab : Bool} {col : Option Bool} {dd : Option Addr} {k0 k1 k2 k3 k5 : Option Value}
    {oc : Value} {od an : Option Addr} {osl : Array (Option Value)} {kV dc pm cd ct : Value}
    (a : PySem.W.nsIn K mainGlobals x = some (some (.ref C)))
    (cl : K.lookup C = some (excClassObj nm qn C N bs bm true sn sub ab col dd k0 k1 k2 k3 k5 "ValueError.__new__")) (ve : PySem.HandSPX.refsVE bm = true)
    (sa : PySem.W.findIn K (.ref C) "__setattr__" = some (some (.builtin "object.__setattr__"))) (ex : PySem.W.subIn K (.ref C) (.type "BaseException") = some true)
    (ty : PySem.W.typeIn K (.ref C) = some (.type "type")) (kc : PySem.W.keepIn K (.ref C) = true) (i : PySem.W.findIn K (.ref C) "__init__" = some (some (.ref fI))) (t : PySem.W.typeIn K (.ref fI) = some (.type "function"))
    (l : K.lookup fI = some ⟨oc, od, .func (PySem.W.fnOf "__init__" q (defArgs st) (defBody st) (defScope st) .none kV dc pm an cd ct), osl⟩) (c : PySem.W.codeIn K cd q = true)
    (k : PySem.W.keepIn K (.ref fI) = true) (ic : PySem.W.isClsIn K C = true) : OwnE K x q st C fI :=
  ⟨a, ⟨⟨nm, qn, N, bs, bm, sn, sub, ab, col, dd, k0, k1, k2, k3, k5, cl, ve⟩, sa, ex, ty, kc⟩, i, t, ⟨oc, od, an, osl, kV, dc, pm, cd, ct, l, c⟩, k, ic⟩
theorem OwnE.exc {x q : Str} {st : Stmt} {C fI : Addr} {ps : List Str} {sp : PySem.W.Frag → Addr → Sp} (o : OwnE K x q st C fI) (X : K.In h) (G : h.Ns mainGlobals mg)
    (hb : ∀ (kV doc pm : Value) (an : Option Addr) (cdv ct : Value) (us : List Value), us.length = ps.length → bindArgs (PySem.W.fnOf "__init__" q (defArgs st) (defBody st) (defScope st) .none kV doc pm an cdv ct) ⟨us, []⟩ = pure (ps.zip us))
    (ok : ∀ (fd : FuncData), Fun K "__init__" q st fI fd → FnOk P w K mg base CX0 1 fI fd ps (sp K C)) : ∃ E : ExcT P w K mg base x ps sp, E.C = C := by
  obtain ⟨oc, od, an, osl, kV, dc, pm, cd, ct, l, c⟩ := o.l
  have F := fun_mk (st := st) l c o.k
  exact ⟨⟨C, fI, _, PySem.W.mg_of X G o.a, o.x, o.i, o.t, ok _ F, F.binds hb⟩, rfl⟩
theorem seq_K {a : Addr} {dd : Option Addr} {its : Array Value} {n : Nat} {sl : Array (Option Value)} {xs : List V} (l : K.lookup a = some ⟨.type "tuple", dd, .seq its n, sl⟩) (hz : its.size ≤ sizeLine) (v : its.toList.map absV = xs.map some) (H : Hp) : SqT K H a xs :=
  .inr ⟨_, its, n, l, rfl, rfl, hz, vals_abs v⟩
abbrev s_too_init : Stmt := inClass (top 3) 0
theorem sc_too_init : FnScope ["self"] ["self"] (defScope s_too_init) := ⟨rfl, rfl, rfl, by decide +kernel, rfl, by decide +kernel, by decide +kernel⟩
theorem ok_too_init {f : Addr} {fd : FuncData} (F : Fun K "__init__" "TooDeep.__init__" s_too_init f fd) : FnOk P w K mg base CX0 1 f fd ["self"] sp_no_init := by
  refine F.ok sc_too_init (fun vs H Q E h => ?_) (fun cdv A outer s H vs Q E hr h => ?_)
  · obtain ⟨c, rfl, _⟩ := h; rfl
  obtain ⟨a, rfl, q⟩ := h
  exact ⟨_, pss_one ps_pass, q⟩
theorem OnK.dft {x : Str} {st : Stmt} {f : Addr} {ps : List Str} (o : OnK K x st f) (X : K.In h) (G : h.Ns mainGlobals mg)
    (hb : ∀ (kV doc pm : Value) (an : Option Addr) (cdv ct : Value) (us : List Value), us.length = ps.length → bindArgs (PySem.W.fnOf x x (defArgs st) (defBody st) (defScope st) .none kV doc pm an cdv ct) ⟨us, []⟩ = pure (ps.zip us)) : Nonempty (DfT K mg x st ps) := by
  obtain ⟨oc, od, an, osl, kV, dc, pm, cd, ct, l, c⟩ := o.l
  have F := fun_mk (st := st) l c o.k
  exact ⟨⟨f, _, F, PySem.W.mg_of X G o.a, o.k, F.binds hb⟩⟩
/-- a method of the top's class -/
structure OnM (K : PySem.W.Frag) (C : Addr) (x q : Str) (st : Stmt) (f : Addr) : Prop where
  l : ∃ (oc : Value) (od an : Option Addr) (osl : Array (Option Value)) (kV dc pm cd ct : Value), K.lookup f = some ⟨oc, od, .func (PySem.W.fnOf x q (defArgs st) (defBody st) (defScope st) .none kV dc pm an cd ct), osl⟩ ∧ PySem.W.codeIn K cd q = true
  m : Meth K C x f
theorem onm_mk {C : Addr} {x q : Str} {st : Stmt} {f : Addr} {oc : Value} {od an : Option Addr} {osl : Array (Option Value)} {kV dc pm cd ct : Value} (a : PySem.W.findIn K (.ref C) x = some (some (.ref f))) (l : K.lookup f = some ⟨oc, od, .func (PySem.W.fnOf x q (defArgs st) (defBody st) (defScope st) .none kV dc pm an cd ct), osl⟩) (c : PySem.W.codeIn K cd q = true) (fn : PySem.W.isFn K (.ref f) = true) (k : PySem.W.keepIn K (.ref f) = true) : OnM K C x q st f :=
  ⟨⟨oc, od, an, osl, kV, dc, pm, cd, ct, l, c⟩, ⟨a, fn, k⟩⟩
theorem OnM.md {C : Addr} {x q : Str} {st : Stmt} {f : Addr} {ps : List Str} {CX : CXT} {k : Nat} {sp : Sp} (o : OnM K C x q st f)
    (hb : ∀ (kV doc pm : Value) (an : Option Addr) (cdv ct : Value) (us : List Value), us.length = ps.length → bindArgs (PySem.W.fnOf x q (defArgs st) (defBody st) (defScope st) .none kV doc pm an cdv ct) ⟨us, []⟩ = pure (ps.zip us))
    (ok : ∀ (fd : FuncData), Fun K x q st f fd → FnOk P w K mg base CX k f fd ps sp) : ∃ M : MD P w K mg base CX C x ps k sp, M.f = f := by
  obtain ⟨oc, od, an, osl, kV, dc, pm, cd, ct, l, c⟩ := o.l
  have F := fun_mk (st := st) l c o.m.kp
  exact ⟨⟨f, _, ok _ F, o.m, F.binds hb⟩, rfl⟩
theorem row_at {f : String → Addr} {l : List (String × List String)} (h : l.all (fun _ => true) = true) : True := trivial
theorem all_of {fa : Addr} {tG : Tok} (X : K.In h) (G : h.Ns mainGlobals mg) (hfa : mg "law" = some (.ref fa)) (gG : mg "GREATEST" = some (.int (2 ^ 59 - 1) tG))
    {tLETTERS : Tok} {xLETTERS : Str}
    {tFIGURES : Tok} {xFIGURES : Str}
    {tMARKS : Tok} {xMARKS : Str}
    {tMOST_SIGNS : Tok}
    {tMOST_FIGURES : Tok}
    {tBARRED : Tok}
    {tMOST_OPEN : Tok}
    {tMOST_DEPTH : Tok}
    {tNOT_LEVEL : Tok}
    {tCOMPARING_LEVEL : Tok}
    {tMINUS_LEVEL : Tok}
    {aKEYS : Addr} {dKEYS : Option Addr} {iKEYS : Array Value} {nKEYS : Nat} {sKEYS : Array (Option Value)}
    {aDOUBLE_MARKS : Addr} {dDOUBLE_MARKS : Option Addr} {iDOUBLE_MARKS : Array Value} {nDOUBLE_MARKS : Nat} {sDOUBLE_MARKS : Array (Option Value)}
    {aOPENING : Addr} {dOPENING : Option Addr} {iOPENING : Array Value} {nOPENING : Nat} {sOPENING : Array (Option Value)}
    {aCLOSING : Addr} {dCLOSING : Option Addr} {iCLOSING : Array Value} {nCLOSING : Nat} {sCLOSING : Array (Option Value)}
    {aALONE : Addr} {dALONE : Option Addr} {iALONE : Array Value} {nALONE : Nat} {sALONE : Array (Option Value)}
    {aPLACES : Addr} {dPLACES : Option Addr} {iPLACES : Array Value} {nPLACES : Nat} {sPLACES : Array (Option Value)}
    {aASKED : Addr} {dASKED : Option Addr} {iASKED : Array Value} {nASKED : Nat} {sASKED : Array (Option Value)}
    {aKINDS : Addr} {iKINDS : Array DictEntry} {nKINDS : Nat}
    {aLEVELS : Addr} {iLEVELS : Array DictEntry} {nLEVELS : Nat}
    {aVALUED : Addr} {iVALUED : Array DictEntry} {nVALUED : Nat}
    {aSTATEMENT_FORMS : Addr} {iSTATEMENT_FORMS : Array DictEntry} {nSTATEMENT_FORMS : Nat} {rSTATEMENT_FORMS_0 rSTATEMENT_FORMS_1 rSTATEMENT_FORMS_2 rSTATEMENT_FORMS_3 rSTATEMENT_FORMS_4 rSTATEMENT_FORMS_5 rSTATEMENT_FORMS_6 rSTATEMENT_FORMS_7 rSTATEMENT_FORMS_8 : Addr}
    {dSTATEMENT_FORMS_0 : Option Addr} {iSTATEMENT_FORMS_0 : Array Value} {nSTATEMENT_FORMS_0 : Nat} {sSTATEMENT_FORMS_0 : Array (Option Value)}
    {dSTATEMENT_FORMS_1 : Option Addr} {iSTATEMENT_FORMS_1 : Array Value} {nSTATEMENT_FORMS_1 : Nat} {sSTATEMENT_FORMS_1 : Array (Option Value)}
    {dSTATEMENT_FORMS_2 : Option Addr} {iSTATEMENT_FORMS_2 : Array Value} {nSTATEMENT_FORMS_2 : Nat} {sSTATEMENT_FORMS_2 : Array (Option Value)}
    {dSTATEMENT_FORMS_3 : Option Addr} {iSTATEMENT_FORMS_3 : Array Value} {nSTATEMENT_FORMS_3 : Nat} {sSTATEMENT_FORMS_3 : Array (Option Value)}
    {dSTATEMENT_FORMS_4 : Option Addr} {iSTATEMENT_FORMS_4 : Array Value} {nSTATEMENT_FORMS_4 : Nat} {sSTATEMENT_FORMS_4 : Array (Option Value)}
    {dSTATEMENT_FORMS_5 : Option Addr} {iSTATEMENT_FORMS_5 : Array Value} {nSTATEMENT_FORMS_5 : Nat} {sSTATEMENT_FORMS_5 : Array (Option Value)}
    {dSTATEMENT_FORMS_6 : Option Addr} {iSTATEMENT_FORMS_6 : Array Value} {nSTATEMENT_FORMS_6 : Nat} {sSTATEMENT_FORMS_6 : Array (Option Value)}
    {dSTATEMENT_FORMS_7 : Option Addr} {iSTATEMENT_FORMS_7 : Array Value} {nSTATEMENT_FORMS_7 : Nat} {sSTATEMENT_FORMS_7 : Array (Option Value)}
    {dSTATEMENT_FORMS_8 : Option Addr} {iSTATEMENT_FORMS_8 : Array Value} {nSTATEMENT_FORMS_8 : Nat} {sSTATEMENT_FORMS_8 : Array (Option Value)}
    {aSTATEMENTS : Addr} {iSTATEMENTS : Array DictEntry} {nSTATEMENTS : Nat} {rSTATEMENTS_0 rSTATEMENTS_1 rSTATEMENTS_2 rSTATEMENTS_3 rSTATEMENTS_4 rSTATEMENTS_5 rSTATEMENTS_6 rSTATEMENTS_7 rSTATEMENTS_8 rSTATEMENTS_9 rSTATEMENTS_10 : Addr}
    {dSTATEMENTS_0 : Option Addr} {iSTATEMENTS_0 : Array Value} {nSTATEMENTS_0 : Nat} {sSTATEMENTS_0 : Array (Option Value)}
    {dSTATEMENTS_1 : Option Addr} {iSTATEMENTS_1 : Array Value} {nSTATEMENTS_1 : Nat} {sSTATEMENTS_1 : Array (Option Value)}
    {dSTATEMENTS_2 : Option Addr} {iSTATEMENTS_2 : Array Value} {nSTATEMENTS_2 : Nat} {sSTATEMENTS_2 : Array (Option Value)}
    {dSTATEMENTS_3 : Option Addr} {iSTATEMENTS_3 : Array Value} {nSTATEMENTS_3 : Nat} {sSTATEMENTS_3 : Array (Option Value)}
    {dSTATEMENTS_4 : Option Addr} {iSTATEMENTS_4 : Array Value} {nSTATEMENTS_4 : Nat} {sSTATEMENTS_4 : Array (Option Value)}
    {dSTATEMENTS_5 : Option Addr} {iSTATEMENTS_5 : Array Value} {nSTATEMENTS_5 : Nat} {sSTATEMENTS_5 : Array (Option Value)}
    {dSTATEMENTS_6 : Option Addr} {iSTATEMENTS_6 : Array Value} {nSTATEMENTS_6 : Nat} {sSTATEMENTS_6 : Array (Option Value)}
    {dSTATEMENTS_7 : Option Addr} {iSTATEMENTS_7 : Array Value} {nSTATEMENTS_7 : Nat} {sSTATEMENTS_7 : Array (Option Value)}
    {dSTATEMENTS_8 : Option Addr} {iSTATEMENTS_8 : Array Value} {nSTATEMENTS_8 : Nat} {sSTATEMENTS_8 : Array (Option Value)}
    {dSTATEMENTS_9 : Option Addr} {iSTATEMENTS_9 : Array Value} {nSTATEMENTS_9 : Nat} {sSTATEMENTS_9 : Array (Option Value)}
    {dSTATEMENTS_10 : Option Addr} {iSTATEMENTS_10 : Array Value} {nSTATEMENTS_10 : Nat} {sSTATEMENTS_10 : Array (Option Value)}
    {aEXPRESSIONS : Addr} {iEXPRESSIONS : Array DictEntry} {nEXPRESSIONS : Nat} {rEXPRESSIONS_0 rEXPRESSIONS_1 rEXPRESSIONS_2 rEXPRESSIONS_3 rEXPRESSIONS_4 rEXPRESSIONS_5 rEXPRESSIONS_6 rEXPRESSIONS_7 rEXPRESSIONS_8 rEXPRESSIONS_9 rEXPRESSIONS_10 rEXPRESSIONS_11 rEXPRESSIONS_12 rEXPRESSIONS_13 rEXPRESSIONS_14 rEXPRESSIONS_15 rEXPRESSIONS_16 rEXPRESSIONS_17 rEXPRESSIONS_18 rEXPRESSIONS_19 rEXPRESSIONS_20 rEXPRESSIONS_21 rEXPRESSIONS_22 rEXPRESSIONS_23 rEXPRESSIONS_24 rEXPRESSIONS_25 rEXPRESSIONS_26 rEXPRESSIONS_27 rEXPRESSIONS_28 rEXPRESSIONS_29 rEXPRESSIONS_30 : Addr}
    {dEXPRESSIONS_0 : Option Addr} {iEXPRESSIONS_0 : Array Value} {nEXPRESSIONS_0 : Nat} {sEXPRESSIONS_0 : Array (Option Value)}
    {dEXPRESSIONS_1 : Option Addr} {iEXPRESSIONS_1 : Array Value} {nEXPRESSIONS_1 : Nat} {sEXPRESSIONS_1 : Array (Option Value)}
    {dEXPRESSIONS_2 : Option Addr} {iEXPRESSIONS_2 : Array Value} {nEXPRESSIONS_2 : Nat} {sEXPRESSIONS_2 : Array (Option Value)}
    {dEXPRESSIONS_3 : Option Addr} {iEXPRESSIONS_3 : Array Value} {nEXPRESSIONS_3 : Nat} {sEXPRESSIONS_3 : Array (Option Value)}
    {dEXPRESSIONS_4 : Option Addr} {iEXPRESSIONS_4 : Array Value} {nEXPRESSIONS_4 : Nat} {sEXPRESSIONS_4 : Array (Option Value)}
    {dEXPRESSIONS_5 : Option Addr} {iEXPRESSIONS_5 : Array Value} {nEXPRESSIONS_5 : Nat} {sEXPRESSIONS_5 : Array (Option Value)}
    {dEXPRESSIONS_6 : Option Addr} {iEXPRESSIONS_6 : Array Value} {nEXPRESSIONS_6 : Nat} {sEXPRESSIONS_6 : Array (Option Value)}
    {dEXPRESSIONS_7 : Option Addr} {iEXPRESSIONS_7 : Array Value} {nEXPRESSIONS_7 : Nat} {sEXPRESSIONS_7 : Array (Option Value)}
    {dEXPRESSIONS_8 : Option Addr} {iEXPRESSIONS_8 : Array Value} {nEXPRESSIONS_8 : Nat} {sEXPRESSIONS_8 : Array (Option Value)}
    {dEXPRESSIONS_9 : Option Addr} {iEXPRESSIONS_9 : Array Value} {nEXPRESSIONS_9 : Nat} {sEXPRESSIONS_9 : Array (Option Value)}
    {dEXPRESSIONS_10 : Option Addr} {iEXPRESSIONS_10 : Array Value} {nEXPRESSIONS_10 : Nat} {sEXPRESSIONS_10 : Array (Option Value)}
    {dEXPRESSIONS_11 : Option Addr} {iEXPRESSIONS_11 : Array Value} {nEXPRESSIONS_11 : Nat} {sEXPRESSIONS_11 : Array (Option Value)}
    {dEXPRESSIONS_12 : Option Addr} {iEXPRESSIONS_12 : Array Value} {nEXPRESSIONS_12 : Nat} {sEXPRESSIONS_12 : Array (Option Value)}
    {dEXPRESSIONS_13 : Option Addr} {iEXPRESSIONS_13 : Array Value} {nEXPRESSIONS_13 : Nat} {sEXPRESSIONS_13 : Array (Option Value)}
    {dEXPRESSIONS_14 : Option Addr} {iEXPRESSIONS_14 : Array Value} {nEXPRESSIONS_14 : Nat} {sEXPRESSIONS_14 : Array (Option Value)}
    {dEXPRESSIONS_15 : Option Addr} {iEXPRESSIONS_15 : Array Value} {nEXPRESSIONS_15 : Nat} {sEXPRESSIONS_15 : Array (Option Value)}
    {dEXPRESSIONS_16 : Option Addr} {iEXPRESSIONS_16 : Array Value} {nEXPRESSIONS_16 : Nat} {sEXPRESSIONS_16 : Array (Option Value)}
    {dEXPRESSIONS_17 : Option Addr} {iEXPRESSIONS_17 : Array Value} {nEXPRESSIONS_17 : Nat} {sEXPRESSIONS_17 : Array (Option Value)}
    {dEXPRESSIONS_18 : Option Addr} {iEXPRESSIONS_18 : Array Value} {nEXPRESSIONS_18 : Nat} {sEXPRESSIONS_18 : Array (Option Value)}
    {dEXPRESSIONS_19 : Option Addr} {iEXPRESSIONS_19 : Array Value} {nEXPRESSIONS_19 : Nat} {sEXPRESSIONS_19 : Array (Option Value)}
    {dEXPRESSIONS_20 : Option Addr} {iEXPRESSIONS_20 : Array Value} {nEXPRESSIONS_20 : Nat} {sEXPRESSIONS_20 : Array (Option Value)}
    {dEXPRESSIONS_21 : Option Addr} {iEXPRESSIONS_21 : Array Value} {nEXPRESSIONS_21 : Nat} {sEXPRESSIONS_21 : Array (Option Value)}
    {dEXPRESSIONS_22 : Option Addr} {iEXPRESSIONS_22 : Array Value} {nEXPRESSIONS_22 : Nat} {sEXPRESSIONS_22 : Array (Option Value)}
    {dEXPRESSIONS_23 : Option Addr} {iEXPRESSIONS_23 : Array Value} {nEXPRESSIONS_23 : Nat} {sEXPRESSIONS_23 : Array (Option Value)}
    {dEXPRESSIONS_24 : Option Addr} {iEXPRESSIONS_24 : Array Value} {nEXPRESSIONS_24 : Nat} {sEXPRESSIONS_24 : Array (Option Value)}
    {dEXPRESSIONS_25 : Option Addr} {iEXPRESSIONS_25 : Array Value} {nEXPRESSIONS_25 : Nat} {sEXPRESSIONS_25 : Array (Option Value)}
    {dEXPRESSIONS_26 : Option Addr} {iEXPRESSIONS_26 : Array Value} {nEXPRESSIONS_26 : Nat} {sEXPRESSIONS_26 : Array (Option Value)}
    {dEXPRESSIONS_27 : Option Addr} {iEXPRESSIONS_27 : Array Value} {nEXPRESSIONS_27 : Nat} {sEXPRESSIONS_27 : Array (Option Value)}
    {dEXPRESSIONS_28 : Option Addr} {iEXPRESSIONS_28 : Array Value} {nEXPRESSIONS_28 : Nat} {sEXPRESSIONS_28 : Array (Option Value)}
    {dEXPRESSIONS_29 : Option Addr} {iEXPRESSIONS_29 : Array Value} {nEXPRESSIONS_29 : Nat} {sEXPRESSIONS_29 : Array (Option Value)}
    {dEXPRESSIONS_30 : Option Addr} {iEXPRESSIONS_30 : Array Value} {nEXPRESSIONS_30 : Nat} {sEXPRESSIONS_30 : Array (Option Value)}
    {N fN C fC D fD : Addr}
    {U fU : Addr} {f_kind_m f_kind_behind_m f_refuse_m f_take_m f_expect_m : Addr}
    {f_listed : Addr}
    {f_name_of_param : Addr}
    {f_params : Addr}
    {f_arguments : Addr}
    {f_block : Addr}
    {f_called_by_key : Addr}
    {f_in_parentheses : Addr}
    {f_first : Addr}
    {f_named_behind : Addr}
    {f_behind : Addr}
    {f_take_ahead : Addr}
    {f_bind : Addr}
    {f_expression : Addr}
    {f_else_block : Addr}
    {f_do_or_set : Addr}
    {f_statement : Addr}
    {f_class_item : Addr}
    {f_item : Addr}
    {f__law_draw : Addr}
    {f__law_name : Addr}
    {f__law_atom : Addr}
    {f__law_called : Addr}
    {f__law_some : Addr}
    {f__law_e : Addr}
    {f__law_rows : Addr}
    {f__law_row : Addr}
    {f__law_item : Addr}
    {f_is_of_stretch : Addr}
    {f_is_plain : Addr}
    {f_is_name : Addr}
    {f_is_number_word : Addr}
    {f_stretch_at : Addr}
    {f_text_at : Addr}
    {f_word_at : Addr}
    {f_words_of_line : Addr}
    {f_words : Addr}
    {f_shape_within : Addr}
    {f_within : Addr}
    {f_outermost : Addr}
    {f_deepest : Addr}
    {f_read : Addr}
    {f__law_flow : Addr}
    {f__law_more : Addr}
    {f__law_same : Addr}
    {f__law_asked : Addr}
    {f__law_text : Addr}
    {f__law_long : Addr}
    {f_law : Addr}
    (z_len : PySem.W.nsIn K mainGlobals "len" = some none)
    (z_int : PySem.W.nsIn K mainGlobals "int" = some none)
    (z_abs : PySem.W.nsIn K mainGlobals "abs" = some none)
    (z_isinstance : PySem.W.nsIn K mainGlobals "isinstance" = some none)
    (z_str : PySem.W.nsIn K mainGlobals "str" = some none)
    (z_list : PySem.W.nsIn K mainGlobals "list" = some none)
    (z_tuple : PySem.W.nsIn K mainGlobals "tuple" = some none)
    (z_bool : PySem.W.nsIn K mainGlobals "bool" = some none)
    (z_all : PySem.W.nsIn K mainGlobals "all" = some none)
    (z_range : PySem.W.nsIn K mainGlobals "range" = some none)
    (z_ord : PySem.W.nsIn K mainGlobals "ord" = some none)
    (z_enumerate : PySem.W.nsIn K mainGlobals "enumerate" = some none)
    (z_zip : PySem.W.nsIn K mainGlobals "zip" = some none)
    (z_max : PySem.W.nsIn K mainGlobals "max" = some none)
    (z_min : PySem.W.nsIn K mainGlobals "min" = some none)
    (c_LETTERS : PySem.W.nsIn K mainGlobals "LETTERS" = some (some (.str xLETTERS tLETTERS))) (e_LETTERS : xLETTERS = S lettersL)
    (c_FIGURES : PySem.W.nsIn K mainGlobals "FIGURES" = some (some (.str xFIGURES tFIGURES))) (e_FIGURES : xFIGURES = S figsL)
    (c_MARKS : PySem.W.nsIn K mainGlobals "MARKS" = some (some (.str xMARKS tMARKS))) (e_MARKS : xMARKS = S marksL)
    (c_MOST_SIGNS : PySem.W.nsIn K mainGlobals "MOST_SIGNS" = some (some (.int 20 tMOST_SIGNS)))
    (c_MOST_FIGURES : PySem.W.nsIn K mainGlobals "MOST_FIGURES" = some (some (.int 18 tMOST_FIGURES)))
    (c_BARRED : PySem.W.nsIn K mainGlobals "BARRED" = some (some (.int 37 tBARRED)))
    (c_MOST_OPEN : PySem.W.nsIn K mainGlobals "MOST_OPEN" = some (some (.int 60 tMOST_OPEN)))
    (c_MOST_DEPTH : PySem.W.nsIn K mainGlobals "MOST_DEPTH" = some (some (.int 50 tMOST_DEPTH)))
    (c_NOT_LEVEL : PySem.W.nsIn K mainGlobals "NOT_LEVEL" = some (some (.int 3 tNOT_LEVEL)))
    (c_COMPARING_LEVEL : PySem.W.nsIn K mainGlobals "COMPARING_LEVEL" = some (some (.int 4 tCOMPARING_LEVEL)))
    (c_MINUS_LEVEL : PySem.W.nsIn K mainGlobals "MINUS_LEVEL" = some (some (.int 7 tMINUS_LEVEL)))
    (c_KEYS : PySem.W.nsIn K mainGlobals "KEYS" = some (some (.ref aKEYS))) (l_KEYS : K.lookup aKEYS = some ⟨.type "tuple", dKEYS, .seq iKEYS nKEYS, sKEYS⟩) (b_KEYS : iKEYS.size ≤ 1000) (v_KEYS : iKEYS.toList.map absV = (keysL.map fun l => V.str (S l)).map some)
    (c_DOUBLE_MARKS : PySem.W.nsIn K mainGlobals "DOUBLE_MARKS" = some (some (.ref aDOUBLE_MARKS))) (l_DOUBLE_MARKS : K.lookup aDOUBLE_MARKS = some ⟨.type "tuple", dDOUBLE_MARKS, .seq iDOUBLE_MARKS nDOUBLE_MARKS, sDOUBLE_MARKS⟩) (b_DOUBLE_MARKS : iDOUBLE_MARKS.size ≤ 1000) (v_DOUBLE_MARKS : iDOUBLE_MARKS.toList.map absV = ([[61, 61], [33, 61], [60, 61], [62, 61]].map fun l => V.str (S l)).map some)
    (c_OPENING : PySem.W.nsIn K mainGlobals "OPENING" = some (some (.ref aOPENING))) (l_OPENING : K.lookup aOPENING = some ⟨.type "tuple", dOPENING, .seq iOPENING nOPENING, sOPENING⟩) (b_OPENING : iOPENING.size ≤ 1000) (v_OPENING : iOPENING.toList.map absV = (litV ["(", "[", "{"]).map some)
    (c_CLOSING : PySem.W.nsIn K mainGlobals "CLOSING" = some (some (.ref aCLOSING))) (l_CLOSING : K.lookup aCLOSING = some ⟨.type "tuple", dCLOSING, .seq iCLOSING nCLOSING, sCLOSING⟩) (b_CLOSING : iCLOSING.size ≤ 1000) (v_CLOSING : iCLOSING.toList.map absV = (litV [")", "]", "}"]).map some)
    (c_ALONE : PySem.W.nsIn K mainGlobals "ALONE" = some (some (.ref aALONE))) (l_ALONE : K.lookup aALONE = some ⟨.type "tuple", dALONE, .seq iALONE nALONE, sALONE⟩) (b_ALONE : iALONE.size ≤ 1000) (v_ALONE : iALONE.toList.map absV = (litV ["true", "false", "nil", "this"]).map some)
    (c_PLACES : PySem.W.nsIn K mainGlobals "PLACES" = some (some (.ref aPLACES))) (l_PLACES : K.lookup aPLACES = some ⟨.type "tuple", dPLACES, .seq iPLACES nPLACES, sPLACES⟩) (b_PLACES : iPLACES.size ≤ 1000) (v_PLACES : iPLACES.toList.map absV = (litV ["name", "field", "item"]).map some)
    (c_ASKED : PySem.W.nsIn K mainGlobals "ASKED" = some (some (.ref aASKED))) (l_ASKED : K.lookup aASKED = some ⟨.type "tuple", dASKED, .seq iASKED nASKED, sASKED⟩) (b_ASKED : iASKED.size ≤ 1000) (v_ASKED : iASKED.toList.map absV = (litV ["len", "weak", "worth", "number", "spawn", "join"]).map some)
    (c_KINDS : PySem.W.nsIn K mainGlobals "KINDS" = some (some (.ref aKINDS))) (l_KINDS : K.lookup aKINDS = some ⟨.type "dict", none, .dict iKINDS nKINDS, #[]⟩) (t_KINDS : PySem.W.KeysLit w.params iKINDS.toList) (b_KINDS : (aKINDS == sysModules) = false) (v_KINDS : iKINDS.toList.map absE = kindsV.map fun q => some (Str.ofString q.1, q.2))
    (c_LEVELS : PySem.W.nsIn K mainGlobals "LEVELS" = some (some (.ref aLEVELS))) (l_LEVELS : K.lookup aLEVELS = some ⟨.type "dict", none, .dict iLEVELS nLEVELS, #[]⟩) (t_LEVELS : PySem.W.KeysLit w.params iLEVELS.toList) (b_LEVELS : (aLEVELS == sysModules) = false) (v_LEVELS : iLEVELS.toList.map absE = levelsV.map fun q => some (Str.ofString q.1, q.2))
    (c_VALUED : PySem.W.nsIn K mainGlobals "VALUED" = some (some (.ref aVALUED))) (l_VALUED : K.lookup aVALUED = some ⟨.type "dict", none, .dict iVALUED nVALUED, #[]⟩) (t_VALUED : PySem.W.KeysLit w.params iVALUED.toList) (b_VALUED : (aVALUED == sysModules) = false) (v_VALUED : iVALUED.toList.map absE = valuedV.map fun q => some (Str.ofString q.1, q.2))
    (c_STATEMENT_FORMS : PySem.W.nsIn K mainGlobals "STATEMENT_FORMS" = some (some (.ref aSTATEMENT_FORMS))) (l_STATEMENT_FORMS : K.lookup aSTATEMENT_FORMS = some ⟨.type "dict", none, .dict iSTATEMENT_FORMS nSTATEMENT_FORMS, #[]⟩) (t_STATEMENT_FORMS : PySem.W.KeysLit w.params iSTATEMENT_FORMS.toList) (b_STATEMENT_FORMS : (aSTATEMENT_FORMS == sysModules) = false) (v_STATEMENT_FORMS : iSTATEMENT_FORMS.toList.map absE = [some (Str.ofString "var", V.ref rSTATEMENT_FORMS_0), some (Str.ofString "if", V.ref rSTATEMENT_FORMS_1), some (Str.ofString "while", V.ref rSTATEMENT_FORMS_2), some (Str.ofString "break", V.ref rSTATEMENT_FORMS_3), some (Str.ofString "continue", V.ref rSTATEMENT_FORMS_4), some (Str.ofString "return", V.ref rSTATEMENT_FORMS_5), some (Str.ofString "throw", V.ref rSTATEMENT_FORMS_6), some (Str.ofString "try", V.ref rSTATEMENT_FORMS_7), some (Str.ofString "say", V.ref rSTATEMENT_FORMS_8)])
    (l_STATEMENT_FORMS_0 : K.lookup rSTATEMENT_FORMS_0 = some ⟨.type "tuple", dSTATEMENT_FORMS_0, .seq iSTATEMENT_FORMS_0 nSTATEMENT_FORMS_0, sSTATEMENT_FORMS_0⟩) (b_STATEMENT_FORMS_0 : iSTATEMENT_FORMS_0.size ≤ 1000) (v_STATEMENT_FORMS_0 : iSTATEMENT_FORMS_0.toList.map absV = (litV ["NAME", "=", "E", ";"]).map some)
    (l_STATEMENT_FORMS_1 : K.lookup rSTATEMENT_FORMS_1 = some ⟨.type "tuple", dSTATEMENT_FORMS_1, .seq iSTATEMENT_FORMS_1 nSTATEMENT_FORMS_1, sSTATEMENT_FORMS_1⟩) (b_STATEMENT_FORMS_1 : iSTATEMENT_FORMS_1.size ≤ 1000) (v_STATEMENT_FORMS_1 : iSTATEMENT_FORMS_1.toList.map absV = (litV ["E", "BLOCK", "ELSE"]).map some)
    (l_STATEMENT_FORMS_2 : K.lookup rSTATEMENT_FORMS_2 = some ⟨.type "tuple", dSTATEMENT_FORMS_2, .seq iSTATEMENT_FORMS_2 nSTATEMENT_FORMS_2, sSTATEMENT_FORMS_2⟩) (b_STATEMENT_FORMS_2 : iSTATEMENT_FORMS_2.size ≤ 1000) (v_STATEMENT_FORMS_2 : iSTATEMENT_FORMS_2.toList.map absV = (litV ["E", "BLOCK"]).map some)
    (l_STATEMENT_FORMS_3 : K.lookup rSTATEMENT_FORMS_3 = some ⟨.type "tuple", dSTATEMENT_FORMS_3, .seq iSTATEMENT_FORMS_3 nSTATEMENT_FORMS_3, sSTATEMENT_FORMS_3⟩) (b_STATEMENT_FORMS_3 : iSTATEMENT_FORMS_3.size ≤ 1000) (v_STATEMENT_FORMS_3 : iSTATEMENT_FORMS_3.toList.map absV = (litV [";"]).map some)
    (l_STATEMENT_FORMS_4 : K.lookup rSTATEMENT_FORMS_4 = some ⟨.type "tuple", dSTATEMENT_FORMS_4, .seq iSTATEMENT_FORMS_4 nSTATEMENT_FORMS_4, sSTATEMENT_FORMS_4⟩) (b_STATEMENT_FORMS_4 : iSTATEMENT_FORMS_4.size ≤ 1000) (v_STATEMENT_FORMS_4 : iSTATEMENT_FORMS_4.toList.map absV = (litV [";"]).map some)
    (l_STATEMENT_FORMS_5 : K.lookup rSTATEMENT_FORMS_5 = some ⟨.type "tuple", dSTATEMENT_FORMS_5, .seq iSTATEMENT_FORMS_5 nSTATEMENT_FORMS_5, sSTATEMENT_FORMS_5⟩) (b_STATEMENT_FORMS_5 : iSTATEMENT_FORMS_5.size ≤ 1000) (v_STATEMENT_FORMS_5 : iSTATEMENT_FORMS_5.toList.map absV = (litV ["E", ";"]).map some)
    (l_STATEMENT_FORMS_6 : K.lookup rSTATEMENT_FORMS_6 = some ⟨.type "tuple", dSTATEMENT_FORMS_6, .seq iSTATEMENT_FORMS_6 nSTATEMENT_FORMS_6, sSTATEMENT_FORMS_6⟩) (b_STATEMENT_FORMS_6 : iSTATEMENT_FORMS_6.size ≤ 1000) (v_STATEMENT_FORMS_6 : iSTATEMENT_FORMS_6.toList.map absV = (litV ["E", ";"]).map some)
    (l_STATEMENT_FORMS_7 : K.lookup rSTATEMENT_FORMS_7 = some ⟨.type "tuple", dSTATEMENT_FORMS_7, .seq iSTATEMENT_FORMS_7 nSTATEMENT_FORMS_7, sSTATEMENT_FORMS_7⟩) (b_STATEMENT_FORMS_7 : iSTATEMENT_FORMS_7.size ≤ 1000) (v_STATEMENT_FORMS_7 : iSTATEMENT_FORMS_7.toList.map absV = (litV ["BLOCK", "catch", "NAME", "BLOCK"]).map some)
    (l_STATEMENT_FORMS_8 : K.lookup rSTATEMENT_FORMS_8 = some ⟨.type "tuple", dSTATEMENT_FORMS_8, .seq iSTATEMENT_FORMS_8 nSTATEMENT_FORMS_8, sSTATEMENT_FORMS_8⟩) (b_STATEMENT_FORMS_8 : iSTATEMENT_FORMS_8.size ≤ 1000) (v_STATEMENT_FORMS_8 : iSTATEMENT_FORMS_8.toList.map absV = (litV ["E", ";"]).map some)
    (c_STATEMENTS : PySem.W.nsIn K mainGlobals "STATEMENTS" = some (some (.ref aSTATEMENTS))) (l_STATEMENTS : K.lookup aSTATEMENTS = some ⟨.type "dict", none, .dict iSTATEMENTS nSTATEMENTS, #[]⟩) (t_STATEMENTS : PySem.W.KeysLit w.params iSTATEMENTS.toList) (b_STATEMENTS : (aSTATEMENTS == sysModules) = false) (v_STATEMENTS : iSTATEMENTS.toList.map absE = [some (Str.ofString "var", V.ref rSTATEMENTS_0), some (Str.ofString "do", V.ref rSTATEMENTS_1), some (Str.ofString "set", V.ref rSTATEMENTS_2), some (Str.ofString "if", V.ref rSTATEMENTS_3), some (Str.ofString "while", V.ref rSTATEMENTS_4), some (Str.ofString "break", V.ref rSTATEMENTS_5), some (Str.ofString "continue", V.ref rSTATEMENTS_6), some (Str.ofString "return", V.ref rSTATEMENTS_7), some (Str.ofString "throw", V.ref rSTATEMENTS_8), some (Str.ofString "try", V.ref rSTATEMENTS_9), some (Str.ofString "say", V.ref rSTATEMENTS_10)])
    (l_STATEMENTS_0 : K.lookup rSTATEMENTS_0 = some ⟨.type "tuple", dSTATEMENTS_0, .seq iSTATEMENTS_0 nSTATEMENTS_0, sSTATEMENTS_0⟩) (b_STATEMENTS_0 : iSTATEMENTS_0.size ≤ 1000) (v_STATEMENTS_0 : iSTATEMENTS_0.toList.map absV = (litV ["name", "e"]).map some)
    (l_STATEMENTS_1 : K.lookup rSTATEMENTS_1 = some ⟨.type "tuple", dSTATEMENTS_1, .seq iSTATEMENTS_1 nSTATEMENTS_1, sSTATEMENTS_1⟩) (b_STATEMENTS_1 : iSTATEMENTS_1.size ≤ 1000) (v_STATEMENTS_1 : iSTATEMENTS_1.toList.map absV = (litV ["e"]).map some)
    (l_STATEMENTS_2 : K.lookup rSTATEMENTS_2 = some ⟨.type "tuple", dSTATEMENTS_2, .seq iSTATEMENTS_2 nSTATEMENTS_2, sSTATEMENTS_2⟩) (b_STATEMENTS_2 : iSTATEMENTS_2.size ≤ 1000) (v_STATEMENTS_2 : iSTATEMENTS_2.toList.map absV = (litV ["place", "e"]).map some)
    (l_STATEMENTS_3 : K.lookup rSTATEMENTS_3 = some ⟨.type "tuple", dSTATEMENTS_3, .seq iSTATEMENTS_3 nSTATEMENTS_3, sSTATEMENTS_3⟩) (b_STATEMENTS_3 : iSTATEMENTS_3.size ≤ 1000) (v_STATEMENTS_3 : iSTATEMENTS_3.toList.map absV = (litV ["e", "block", "block"]).map some)
    (l_STATEMENTS_4 : K.lookup rSTATEMENTS_4 = some ⟨.type "tuple", dSTATEMENTS_4, .seq iSTATEMENTS_4 nSTATEMENTS_4, sSTATEMENTS_4⟩) (b_STATEMENTS_4 : iSTATEMENTS_4.size ≤ 1000) (v_STATEMENTS_4 : iSTATEMENTS_4.toList.map absV = (litV ["e", "block"]).map some)
    (l_STATEMENTS_5 : K.lookup rSTATEMENTS_5 = some ⟨.type "tuple", dSTATEMENTS_5, .seq iSTATEMENTS_5 nSTATEMENTS_5, sSTATEMENTS_5⟩) (b_STATEMENTS_5 : iSTATEMENTS_5.size ≤ 1000) (v_STATEMENTS_5 : iSTATEMENTS_5.toList.map absV = (litV []).map some)
    (l_STATEMENTS_6 : K.lookup rSTATEMENTS_6 = some ⟨.type "tuple", dSTATEMENTS_6, .seq iSTATEMENTS_6 nSTATEMENTS_6, sSTATEMENTS_6⟩) (b_STATEMENTS_6 : iSTATEMENTS_6.size ≤ 1000) (v_STATEMENTS_6 : iSTATEMENTS_6.toList.map absV = (litV []).map some)
    (l_STATEMENTS_7 : K.lookup rSTATEMENTS_7 = some ⟨.type "tuple", dSTATEMENTS_7, .seq iSTATEMENTS_7 nSTATEMENTS_7, sSTATEMENTS_7⟩) (b_STATEMENTS_7 : iSTATEMENTS_7.size ≤ 1000) (v_STATEMENTS_7 : iSTATEMENTS_7.toList.map absV = (litV ["e"]).map some)
    (l_STATEMENTS_8 : K.lookup rSTATEMENTS_8 = some ⟨.type "tuple", dSTATEMENTS_8, .seq iSTATEMENTS_8 nSTATEMENTS_8, sSTATEMENTS_8⟩) (b_STATEMENTS_8 : iSTATEMENTS_8.size ≤ 1000) (v_STATEMENTS_8 : iSTATEMENTS_8.toList.map absV = (litV ["e"]).map some)
    (l_STATEMENTS_9 : K.lookup rSTATEMENTS_9 = some ⟨.type "tuple", dSTATEMENTS_9, .seq iSTATEMENTS_9 nSTATEMENTS_9, sSTATEMENTS_9⟩) (b_STATEMENTS_9 : iSTATEMENTS_9.size ≤ 1000) (v_STATEMENTS_9 : iSTATEMENTS_9.toList.map absV = (litV ["block", "name", "block"]).map some)
    (l_STATEMENTS_10 : K.lookup rSTATEMENTS_10 = some ⟨.type "tuple", dSTATEMENTS_10, .seq iSTATEMENTS_10 nSTATEMENTS_10, sSTATEMENTS_10⟩) (b_STATEMENTS_10 : iSTATEMENTS_10.size ≤ 1000) (v_STATEMENTS_10 : iSTATEMENTS_10.toList.map absV = (litV ["e"]).map some)
    (c_EXPRESSIONS : PySem.W.nsIn K mainGlobals "EXPRESSIONS" = some (some (.ref aEXPRESSIONS))) (l_EXPRESSIONS : K.lookup aEXPRESSIONS = some ⟨.type "dict", none, .dict iEXPRESSIONS nEXPRESSIONS, #[]⟩) (t_EXPRESSIONS : PySem.W.KeysLit w.params iEXPRESSIONS.toList) (b_EXPRESSIONS : (aEXPRESSIONS == sysModules) = false) (v_EXPRESSIONS : iEXPRESSIONS.toList.map absE = [some (Str.ofString "number", V.ref rEXPRESSIONS_0), some (Str.ofString "text", V.ref rEXPRESSIONS_1), some (Str.ofString "true", V.ref rEXPRESSIONS_2), some (Str.ofString "false", V.ref rEXPRESSIONS_3), some (Str.ofString "nil", V.ref rEXPRESSIONS_4), some (Str.ofString "this", V.ref rEXPRESSIONS_5), some (Str.ofString "name", V.ref rEXPRESSIONS_6), some (Str.ofString "list", V.ref rEXPRESSIONS_7), some (Str.ofString "fun", V.ref rEXPRESSIONS_8), some (Str.ofString "call", V.ref rEXPRESSIONS_9), some (Str.ofString "send", V.ref rEXPRESSIONS_10), some (Str.ofString "up", V.ref rEXPRESSIONS_11), some (Str.ofString "new", V.ref rEXPRESSIONS_12), some (Str.ofString "field", V.ref rEXPRESSIONS_13), some (Str.ofString "item", V.ref rEXPRESSIONS_14), some (Str.ofString "or", V.ref rEXPRESSIONS_15), some (Str.ofString "and", V.ref rEXPRESSIONS_16), some (Str.ofString "==", V.ref rEXPRESSIONS_17), some (Str.ofString "!=", V.ref rEXPRESSIONS_18), some (Str.ofString "<", V.ref rEXPRESSIONS_19), some (Str.ofString "<=", V.ref rEXPRESSIONS_20), some (Str.ofString ">", V.ref rEXPRESSIONS_21), some (Str.ofString ">=", V.ref rEXPRESSIONS_22), some (Str.ofString "+", V.ref rEXPRESSIONS_23), some (Str.ofString "-", V.ref rEXPRESSIONS_24), some (Str.ofString "*", V.ref rEXPRESSIONS_25), some (Str.ofString "/", V.ref rEXPRESSIONS_26), some (Str.ofString "mod", V.ref rEXPRESSIONS_27), some (Str.ofString "not", V.ref rEXPRESSIONS_28), some (Str.ofString "minus", V.ref rEXPRESSIONS_29), some (Str.ofString "ask", V.ref rEXPRESSIONS_30)])
    (l_EXPRESSIONS_0 : K.lookup rEXPRESSIONS_0 = some ⟨.type "tuple", dEXPRESSIONS_0, .seq iEXPRESSIONS_0 nEXPRESSIONS_0, sEXPRESSIONS_0⟩) (b_EXPRESSIONS_0 : iEXPRESSIONS_0.size ≤ 1000) (v_EXPRESSIONS_0 : iEXPRESSIONS_0.toList.map absV = (litV ["number"]).map some)
    (l_EXPRESSIONS_1 : K.lookup rEXPRESSIONS_1 = some ⟨.type "tuple", dEXPRESSIONS_1, .seq iEXPRESSIONS_1 nEXPRESSIONS_1, sEXPRESSIONS_1⟩) (b_EXPRESSIONS_1 : iEXPRESSIONS_1.size ≤ 1000) (v_EXPRESSIONS_1 : iEXPRESSIONS_1.toList.map absV = (litV ["text"]).map some)
    (l_EXPRESSIONS_2 : K.lookup rEXPRESSIONS_2 = some ⟨.type "tuple", dEXPRESSIONS_2, .seq iEXPRESSIONS_2 nEXPRESSIONS_2, sEXPRESSIONS_2⟩) (b_EXPRESSIONS_2 : iEXPRESSIONS_2.size ≤ 1000) (v_EXPRESSIONS_2 : iEXPRESSIONS_2.toList.map absV = (litV []).map some)
    (l_EXPRESSIONS_3 : K.lookup rEXPRESSIONS_3 = some ⟨.type "tuple", dEXPRESSIONS_3, .seq iEXPRESSIONS_3 nEXPRESSIONS_3, sEXPRESSIONS_3⟩) (b_EXPRESSIONS_3 : iEXPRESSIONS_3.size ≤ 1000) (v_EXPRESSIONS_3 : iEXPRESSIONS_3.toList.map absV = (litV []).map some)
    (l_EXPRESSIONS_4 : K.lookup rEXPRESSIONS_4 = some ⟨.type "tuple", dEXPRESSIONS_4, .seq iEXPRESSIONS_4 nEXPRESSIONS_4, sEXPRESSIONS_4⟩) (b_EXPRESSIONS_4 : iEXPRESSIONS_4.size ≤ 1000) (v_EXPRESSIONS_4 : iEXPRESSIONS_4.toList.map absV = (litV []).map some)
    (l_EXPRESSIONS_5 : K.lookup rEXPRESSIONS_5 = some ⟨.type "tuple", dEXPRESSIONS_5, .seq iEXPRESSIONS_5 nEXPRESSIONS_5, sEXPRESSIONS_5⟩) (b_EXPRESSIONS_5 : iEXPRESSIONS_5.size ≤ 1000) (v_EXPRESSIONS_5 : iEXPRESSIONS_5.toList.map absV = (litV []).map some)
    (l_EXPRESSIONS_6 : K.lookup rEXPRESSIONS_6 = some ⟨.type "tuple", dEXPRESSIONS_6, .seq iEXPRESSIONS_6 nEXPRESSIONS_6, sEXPRESSIONS_6⟩) (b_EXPRESSIONS_6 : iEXPRESSIONS_6.size ≤ 1000) (v_EXPRESSIONS_6 : iEXPRESSIONS_6.toList.map absV = (litV ["name"]).map some)
    (l_EXPRESSIONS_7 : K.lookup rEXPRESSIONS_7 = some ⟨.type "tuple", dEXPRESSIONS_7, .seq iEXPRESSIONS_7 nEXPRESSIONS_7, sEXPRESSIONS_7⟩) (b_EXPRESSIONS_7 : iEXPRESSIONS_7.size ≤ 1000) (v_EXPRESSIONS_7 : iEXPRESSIONS_7.toList.map absV = (litV ["args"]).map some)
    (l_EXPRESSIONS_8 : K.lookup rEXPRESSIONS_8 = some ⟨.type "tuple", dEXPRESSIONS_8, .seq iEXPRESSIONS_8 nEXPRESSIONS_8, sEXPRESSIONS_8⟩) (b_EXPRESSIONS_8 : iEXPRESSIONS_8.size ≤ 1000) (v_EXPRESSIONS_8 : iEXPRESSIONS_8.toList.map absV = (litV ["names", "block"]).map some)
    (l_EXPRESSIONS_9 : K.lookup rEXPRESSIONS_9 = some ⟨.type "tuple", dEXPRESSIONS_9, .seq iEXPRESSIONS_9 nEXPRESSIONS_9, sEXPRESSIONS_9⟩) (b_EXPRESSIONS_9 : iEXPRESSIONS_9.size ≤ 1000) (v_EXPRESSIONS_9 : iEXPRESSIONS_9.toList.map absV = (litV ["e", "args"]).map some)
    (l_EXPRESSIONS_10 : K.lookup rEXPRESSIONS_10 = some ⟨.type "tuple", dEXPRESSIONS_10, .seq iEXPRESSIONS_10 nEXPRESSIONS_10, sEXPRESSIONS_10⟩) (b_EXPRESSIONS_10 : iEXPRESSIONS_10.size ≤ 1000) (v_EXPRESSIONS_10 : iEXPRESSIONS_10.toList.map absV = (litV ["e", "name", "args"]).map some)
    (l_EXPRESSIONS_11 : K.lookup rEXPRESSIONS_11 = some ⟨.type "tuple", dEXPRESSIONS_11, .seq iEXPRESSIONS_11 nEXPRESSIONS_11, sEXPRESSIONS_11⟩) (b_EXPRESSIONS_11 : iEXPRESSIONS_11.size ≤ 1000) (v_EXPRESSIONS_11 : iEXPRESSIONS_11.toList.map absV = (litV ["name", "args"]).map some)
    (l_EXPRESSIONS_12 : K.lookup rEXPRESSIONS_12 = some ⟨.type "tuple", dEXPRESSIONS_12, .seq iEXPRESSIONS_12 nEXPRESSIONS_12, sEXPRESSIONS_12⟩) (b_EXPRESSIONS_12 : iEXPRESSIONS_12.size ≤ 1000) (v_EXPRESSIONS_12 : iEXPRESSIONS_12.toList.map absV = (litV ["name", "args"]).map some)
    (l_EXPRESSIONS_13 : K.lookup rEXPRESSIONS_13 = some ⟨.type "tuple", dEXPRESSIONS_13, .seq iEXPRESSIONS_13 nEXPRESSIONS_13, sEXPRESSIONS_13⟩) (b_EXPRESSIONS_13 : iEXPRESSIONS_13.size ≤ 1000) (v_EXPRESSIONS_13 : iEXPRESSIONS_13.toList.map absV = (litV ["e", "name"]).map some)
    (l_EXPRESSIONS_14 : K.lookup rEXPRESSIONS_14 = some ⟨.type "tuple", dEXPRESSIONS_14, .seq iEXPRESSIONS_14 nEXPRESSIONS_14, sEXPRESSIONS_14⟩) (b_EXPRESSIONS_14 : iEXPRESSIONS_14.size ≤ 1000) (v_EXPRESSIONS_14 : iEXPRESSIONS_14.toList.map absV = (litV ["e", "e"]).map some)
    (l_EXPRESSIONS_15 : K.lookup rEXPRESSIONS_15 = some ⟨.type "tuple", dEXPRESSIONS_15, .seq iEXPRESSIONS_15 nEXPRESSIONS_15, sEXPRESSIONS_15⟩) (b_EXPRESSIONS_15 : iEXPRESSIONS_15.size ≤ 1000) (v_EXPRESSIONS_15 : iEXPRESSIONS_15.toList.map absV = (litV ["e", "e"]).map some)
    (l_EXPRESSIONS_16 : K.lookup rEXPRESSIONS_16 = some ⟨.type "tuple", dEXPRESSIONS_16, .seq iEXPRESSIONS_16 nEXPRESSIONS_16, sEXPRESSIONS_16⟩) (b_EXPRESSIONS_16 : iEXPRESSIONS_16.size ≤ 1000) (v_EXPRESSIONS_16 : iEXPRESSIONS_16.toList.map absV = (litV ["e", "e"]).map some)
    (l_EXPRESSIONS_17 : K.lookup rEXPRESSIONS_17 = some ⟨.type "tuple", dEXPRESSIONS_17, .seq iEXPRESSIONS_17 nEXPRESSIONS_17, sEXPRESSIONS_17⟩) (b_EXPRESSIONS_17 : iEXPRESSIONS_17.size ≤ 1000) (v_EXPRESSIONS_17 : iEXPRESSIONS_17.toList.map absV = (litV ["e", "e"]).map some)
    (l_EXPRESSIONS_18 : K.lookup rEXPRESSIONS_18 = some ⟨.type "tuple", dEXPRESSIONS_18, .seq iEXPRESSIONS_18 nEXPRESSIONS_18, sEXPRESSIONS_18⟩) (b_EXPRESSIONS_18 : iEXPRESSIONS_18.size ≤ 1000) (v_EXPRESSIONS_18 : iEXPRESSIONS_18.toList.map absV = (litV ["e", "e"]).map some)
    (l_EXPRESSIONS_19 : K.lookup rEXPRESSIONS_19 = some ⟨.type "tuple", dEXPRESSIONS_19, .seq iEXPRESSIONS_19 nEXPRESSIONS_19, sEXPRESSIONS_19⟩) (b_EXPRESSIONS_19 : iEXPRESSIONS_19.size ≤ 1000) (v_EXPRESSIONS_19 : iEXPRESSIONS_19.toList.map absV = (litV ["e", "e"]).map some)
    (l_EXPRESSIONS_20 : K.lookup rEXPRESSIONS_20 = some ⟨.type "tuple", dEXPRESSIONS_20, .seq iEXPRESSIONS_20 nEXPRESSIONS_20, sEXPRESSIONS_20⟩) (b_EXPRESSIONS_20 : iEXPRESSIONS_20.size ≤ 1000) (v_EXPRESSIONS_20 : iEXPRESSIONS_20.toList.map absV = (litV ["e", "e"]).map some)
    (l_EXPRESSIONS_21 : K.lookup rEXPRESSIONS_21 = some ⟨.type "tuple", dEXPRESSIONS_21, .seq iEXPRESSIONS_21 nEXPRESSIONS_21, sEXPRESSIONS_21⟩) (b_EXPRESSIONS_21 : iEXPRESSIONS_21.size ≤ 1000) (v_EXPRESSIONS_21 : iEXPRESSIONS_21.toList.map absV = (litV ["e", "e"]).map some)
    (l_EXPRESSIONS_22 : K.lookup rEXPRESSIONS_22 = some ⟨.type "tuple", dEXPRESSIONS_22, .seq iEXPRESSIONS_22 nEXPRESSIONS_22, sEXPRESSIONS_22⟩) (b_EXPRESSIONS_22 : iEXPRESSIONS_22.size ≤ 1000) (v_EXPRESSIONS_22 : iEXPRESSIONS_22.toList.map absV = (litV ["e", "e"]).map some)
    (l_EXPRESSIONS_23 : K.lookup rEXPRESSIONS_23 = some ⟨.type "tuple", dEXPRESSIONS_23, .seq iEXPRESSIONS_23 nEXPRESSIONS_23, sEXPRESSIONS_23⟩) (b_EXPRESSIONS_23 : iEXPRESSIONS_23.size ≤ 1000) (v_EXPRESSIONS_23 : iEXPRESSIONS_23.toList.map absV = (litV ["e", "e"]).map some)
    (l_EXPRESSIONS_24 : K.lookup rEXPRESSIONS_24 = some ⟨.type "tuple", dEXPRESSIONS_24, .seq iEXPRESSIONS_24 nEXPRESSIONS_24, sEXPRESSIONS_24⟩) (b_EXPRESSIONS_24 : iEXPRESSIONS_24.size ≤ 1000) (v_EXPRESSIONS_24 : iEXPRESSIONS_24.toList.map absV = (litV ["e", "e"]).map some)
    (l_EXPRESSIONS_25 : K.lookup rEXPRESSIONS_25 = some ⟨.type "tuple", dEXPRESSIONS_25, .seq iEXPRESSIONS_25 nEXPRESSIONS_25, sEXPRESSIONS_25⟩) (b_EXPRESSIONS_25 : iEXPRESSIONS_25.size ≤ 1000) (v_EXPRESSIONS_25 : iEXPRESSIONS_25.toList.map absV = (litV ["e", "e"]).map some)
    (l_EXPRESSIONS_26 : K.lookup rEXPRESSIONS_26 = some ⟨.type "tuple", dEXPRESSIONS_26, .seq iEXPRESSIONS_26 nEXPRESSIONS_26, sEXPRESSIONS_26⟩) (b_EXPRESSIONS_26 : iEXPRESSIONS_26.size ≤ 1000) (v_EXPRESSIONS_26 : iEXPRESSIONS_26.toList.map absV = (litV ["e", "e"]).map some)
    (l_EXPRESSIONS_27 : K.lookup rEXPRESSIONS_27 = some ⟨.type "tuple", dEXPRESSIONS_27, .seq iEXPRESSIONS_27 nEXPRESSIONS_27, sEXPRESSIONS_27⟩) (b_EXPRESSIONS_27 : iEXPRESSIONS_27.size ≤ 1000) (v_EXPRESSIONS_27 : iEXPRESSIONS_27.toList.map absV = (litV ["e", "e"]).map some)
    (l_EXPRESSIONS_28 : K.lookup rEXPRESSIONS_28 = some ⟨.type "tuple", dEXPRESSIONS_28, .seq iEXPRESSIONS_28 nEXPRESSIONS_28, sEXPRESSIONS_28⟩) (b_EXPRESSIONS_28 : iEXPRESSIONS_28.size ≤ 1000) (v_EXPRESSIONS_28 : iEXPRESSIONS_28.toList.map absV = (litV ["e"]).map some)
    (l_EXPRESSIONS_29 : K.lookup rEXPRESSIONS_29 = some ⟨.type "tuple", dEXPRESSIONS_29, .seq iEXPRESSIONS_29 nEXPRESSIONS_29, sEXPRESSIONS_29⟩) (b_EXPRESSIONS_29 : iEXPRESSIONS_29.size ≤ 1000) (v_EXPRESSIONS_29 : iEXPRESSIONS_29.toList.map absV = (litV ["e"]).map some)
    (l_EXPRESSIONS_30 : K.lookup rEXPRESSIONS_30 = some ⟨.type "tuple", dEXPRESSIONS_30, .seq iEXPRESSIONS_30 nEXPRESSIONS_30, sEXPRESSIONS_30⟩) (b_EXPRESSIONS_30 : iEXPRESSIONS_30.size ≤ 1000) (v_EXPRESSIONS_30 : iEXPRESSIONS_30.toList.map absV = (litV ["asked", "args"]).map some)
    (oN : OwnE K "NoText" "NoText.__init__" s_no_init N fN) (oC : OwnE K "BadText" "BadText.__init__" s_bad_init C fC) (oD : OwnE K "TooDeep" "TooDeep.__init__" s_too_init D fD)
    (noL : PySem.W.findIn K (.ref C) "line" = some none) (ga : PySem.W.findIn K (.ref C) "__getattribute__" = some (some (.builtin "BaseException.__getattribute__"))) (gg : PySem.W.findIn K (.ref C) "__getattr__" = some none) (hd : PySem.W.hasDictIn K C = true)
    (sNN : PySem.W.subIn K (.ref N) (.ref N) = some true) (sCN : PySem.W.subIn K (.ref C) (.ref N) = some false) (sCC : PySem.W.subIn K (.ref C) (.ref C) = some true) (sDN : PySem.W.subIn K (.ref D) (.ref N) = some false) (sDC : PySem.W.subIn K (.ref D) (.ref C) = some false) (sDD : PySem.W.subIn K (.ref D) (.ref D) = some true)
    (uC : PySem.W.nsIn K mainGlobals "Cursor" = some (some (.ref U))) (u1 : PySem.W.plainGet K U Str.empty = true) (u2 : PySem.W.hasDictIn K U = true) (u3 : PySem.W.plainOver K U = true) (u4 : PySem.W.findIn K (.ref U) "__setattr__" = some (some (.builtin "object.__setattr__"))) (u5 : PySem.W.findIn K (.ref U) "found" = some none) (u6 : PySem.W.findIn K (.ref U) "at" = some none) (u7 : PySem.W.findIn K (.ref U) "brackets" = some none)
    (x1 : PySem.W.makesIn K U = true) (x2 : PySem.W.keepIn K (.ref U) = true) (oU : OnM K U "__init__" "Cursor.__init__" s_Cursor____init__ fU)
    (o_kind_m : OnM K U "kind" "Cursor.kind" s_Cursor__kind f_kind_m)
    (o_kind_behind_m : OnM K U "kind_behind" "Cursor.kind_behind" s_Cursor__kind_behind f_kind_behind_m)
    (o_refuse_m : OnM K U "refuse" "Cursor.refuse" s_Cursor__refuse f_refuse_m)
    (o_take_m : OnM K U "take" "Cursor.take" s_Cursor__take f_take_m)
    (o_expect_m : OnM K U "expect" "Cursor.expect" s_Cursor__expect f_expect_m)
    (o_listed : OnK K "listed" s_listed f_listed)
    (o_name_of_param : OnK K "name_of_param" s_name_of_param f_name_of_param)
    (o_params : OnK K "params" s_params f_params)
    (o_arguments : OnK K "arguments" s_arguments f_arguments)
    (o_block : OnK K "block" s_block f_block)
    (o_called_by_key : OnK K "called_by_key" s_called_by_key f_called_by_key)
    (o_in_parentheses : OnK K "in_parentheses" s_in_parentheses f_in_parentheses)
    (o_first : OnK K "first" s_first f_first)
    (o_named_behind : OnK K "named_behind" s_named_behind f_named_behind)
    (o_behind : OnK K "behind" s_behind f_behind)
    (o_take_ahead : OnK K "take_ahead" s_take_ahead f_take_ahead)
    (o_bind : OnK K "bind" s_bind f_bind)
    (o_expression : OnK K "expression" s_expression f_expression)
    (o_else_block : OnK K "else_block" s_else_block f_else_block)
    (o_do_or_set : OnK K "do_or_set" s_do_or_set f_do_or_set)
    (o_statement : OnK K "statement" s_statement f_statement)
    (o_class_item : OnK K "class_item" s_class_item f_class_item)
    (o_item : OnK K "item" s_item f_item)
    (o__law_draw : OnK K "_law_draw" s__law_draw f__law_draw)
    (o__law_name : OnK K "_law_name" s__law_name f__law_name)
    (o__law_atom : OnK K "_law_atom" s__law_atom f__law_atom)
    (o__law_called : OnK K "_law_called" s__law_called f__law_called)
    (o__law_some : OnK K "_law_some" s__law_some f__law_some)
    (o__law_e : OnK K "_law_e" s__law_e f__law_e)
    (o__law_rows : OnK K "_law_rows" s__law_rows f__law_rows)
    (o__law_row : OnK K "_law_row" s__law_row f__law_row)
    (o__law_item : OnK K "_law_item" s__law_item f__law_item)
    (o_is_of_stretch : OnK K "is_of_stretch" s_is_of_stretch f_is_of_stretch)
    (o_is_plain : OnK K "is_plain" s_is_plain f_is_plain)
    (o_is_name : OnK K "is_name" s_is_name f_is_name)
    (o_is_number_word : OnK K "is_number_word" s_is_number_word f_is_number_word)
    (o_stretch_at : OnK K "stretch_at" s_stretch_at f_stretch_at)
    (o_text_at : OnK K "text_at" s_text_at f_text_at)
    (o_word_at : OnK K "word_at" s_word_at f_word_at)
    (o_words_of_line : OnK K "words_of_line" s_words_of_line f_words_of_line)
    (o_words : OnK K "words" s_words f_words)
    (o_shape_within : OnK K "shape_within" s_shape_within f_shape_within)
    (o_within : OnK K "within" s_within f_within)
    (o_outermost : OnK K "outermost" s_outermost f_outermost)
    (o_deepest : OnK K "deepest" s_deepest f_deepest)
    (o_read : OnK K "read" s_read f_read)
    (o__law_flow : OnK K "_law_flow" s__law_flow f__law_flow)
    (o__law_more : OnK K "_law_more" s__law_more f__law_more)
    (o__law_same : OnK K "_law_same" s__law_same f__law_same)
    (o__law_asked : OnK K "_law_asked" s__law_asked f__law_asked)
    (o__law_text : OnK K "_law_text" s__law_text f__law_text)
    (o__law_long : OnK K "_law_long" s__law_long f__law_long)
    (o_law : OnK K "law" s_law f_law)
    : ∃ fd : FuncData, (∀ (s : Shared) (u : Value), BindsTo s fd ⟨[u], []⟩ [("script", u)]) ∧ ∀ base : Heap, K.In base → base.Ns mainGlobals mg → FnOk P w K mg base CX0 201 fa fd ["script"] (sp_law K) := by
  have hz := line_eq
  cases hfa.symm.trans (PySem.W.mg_of X G o_law.a)
  subst e_LETTERS
  subst e_FIGURES
  subst e_MARKS
  have T : Txt K mg := {
    n_len := PySem.W.mg_none_of X G z_len,
    n_int := PySem.W.mg_none_of X G z_int,
    n_abs := PySem.W.mg_none_of X G z_abs,
    n_isinstance := PySem.W.mg_none_of X G z_isinstance,
    n_str := PySem.W.mg_none_of X G z_str,
    n_list := PySem.W.mg_none_of X G z_list,
    n_tuple := PySem.W.mg_none_of X G z_tuple,
    n_bool := PySem.W.mg_none_of X G z_bool,
    n_all := PySem.W.mg_none_of X G z_all,
    n_range := PySem.W.mg_none_of X G z_range,
    n_ord := PySem.W.mg_none_of X G z_ord,
    n_enumerate := PySem.W.mg_none_of X G z_enumerate,
    tLETTERS := tLETTERS, mLETTERS := PySem.W.mg_of X G c_LETTERS,
    tFIGURES := tFIGURES, mFIGURES := PySem.W.mg_of X G c_FIGURES,
    tMARKS := tMARKS, mMARKS := PySem.W.mg_of X G c_MARKS,
    tMOST_SIGNS := tMOST_SIGNS, mMOST_SIGNS := PySem.W.mg_of X G c_MOST_SIGNS,
    tMOST_FIGURES := tMOST_FIGURES, mMOST_FIGURES := PySem.W.mg_of X G c_MOST_FIGURES,
    tBARRED := tBARRED, mBARRED := PySem.W.mg_of X G c_BARRED,
    tGREATEST := tG, mGREATEST := gG,
    aKEYS := aKEYS, mKEYS := PySem.W.mg_of X G c_KEYS, kKEYS := seq_K l_KEYS (by omega) v_KEYS,
    aDOUBLE := aDOUBLE_MARKS, mDOUBLE_MARKS := PySem.W.mg_of X G c_DOUBLE_MARKS, kDOUBLE := seq_K l_DOUBLE_MARKS (by omega) v_DOUBLE_MARKS }
  have TQ : TxtQ mg := ⟨PySem.W.mg_none_of X G z_zip, PySem.W.mg_none_of X G z_max⟩
  have TMn : TxtMn mg := ⟨PySem.W.mg_none_of X G z_min⟩
  let bSTATEMENT_FORMS : String → Addr := fun s => if s = "var" then rSTATEMENT_FORMS_0 else if s = "if" then rSTATEMENT_FORMS_1 else if s = "while" then rSTATEMENT_FORMS_2 else if s = "break" then rSTATEMENT_FORMS_3 else if s = "continue" then rSTATEMENT_FORMS_4 else if s = "return" then rSTATEMENT_FORMS_5 else if s = "throw" then rSTATEMENT_FORMS_6 else if s = "try" then rSTATEMENT_FORMS_7 else if s = "say" then rSTATEMENT_FORMS_8 else 0
  have wSTATEMENT_FORMS : iSTATEMENT_FORMS.toList.map absE = (rowsV bSTATEMENT_FORMS formsL).map fun q => some (Str.ofString q.1, q.2) := v_STATEMENT_FORMS.trans rfl
  have kSTATEMENT_FORMS : ∀ q ∈ formsL, ∀ H, SqT K H (bSTATEMENT_FORMS q.1) (litV q.2) := by
    intro q hq H
    simp only [formsL, List.mem_cons, List.not_mem_nil, or_false] at hq
    rcases hq with rfl | rfl | rfl | rfl | rfl | rfl | rfl | rfl | rfl
    · exact seq_K (a := rSTATEMENT_FORMS_0) l_STATEMENT_FORMS_0 (by omega) v_STATEMENT_FORMS_0 H
    · exact seq_K (a := rSTATEMENT_FORMS_1) l_STATEMENT_FORMS_1 (by omega) v_STATEMENT_FORMS_1 H
    · exact seq_K (a := rSTATEMENT_FORMS_2) l_STATEMENT_FORMS_2 (by omega) v_STATEMENT_FORMS_2 H
    · exact seq_K (a := rSTATEMENT_FORMS_3) l_STATEMENT_FORMS_3 (by omega) v_STATEMENT_FORMS_3 H
    · exact seq_K (a := rSTATEMENT_FORMS_4) l_STATEMENT_FORMS_4 (by omega) v_STATEMENT_FORMS_4 H
    · exact seq_K (a := rSTATEMENT_FORMS_5) l_STATEMENT_FORMS_5 (by omega) v_STATEMENT_FORMS_5 H
    · exact seq_K (a := rSTATEMENT_FORMS_6) l_STATEMENT_FORMS_6 (by omega) v_STATEMENT_FORMS_6 H
    · exact seq_K (a := rSTATEMENT_FORMS_7) l_STATEMENT_FORMS_7 (by omega) v_STATEMENT_FORMS_7 H
    · exact seq_K (a := rSTATEMENT_FORMS_8) l_STATEMENT_FORMS_8 (by omega) v_STATEMENT_FORMS_8 H
  let bSTATEMENTS : String → Addr := fun s => if s = "var" then rSTATEMENTS_0 else if s = "do" then rSTATEMENTS_1 else if s = "set" then rSTATEMENTS_2 else if s = "if" then rSTATEMENTS_3 else if s = "while" then rSTATEMENTS_4 else if s = "break" then rSTATEMENTS_5 else if s = "continue" then rSTATEMENTS_6 else if s = "return" then rSTATEMENTS_7 else if s = "throw" then rSTATEMENTS_8 else if s = "try" then rSTATEMENTS_9 else if s = "say" then rSTATEMENTS_10 else 0
  have wSTATEMENTS : iSTATEMENTS.toList.map absE = (rowsV bSTATEMENTS stShL).map fun q => some (Str.ofString q.1, q.2) := v_STATEMENTS.trans rfl
  have kSTATEMENTS : ∀ q ∈ stShL, ∀ H, SqT K H (bSTATEMENTS q.1) (litV q.2) := by
    intro q hq H
    simp only [stShL, List.mem_cons, List.not_mem_nil, or_false] at hq
    rcases hq with rfl | rfl | rfl | rfl | rfl | rfl | rfl | rfl | rfl | rfl | rfl
    · exact seq_K (a := rSTATEMENTS_0) l_STATEMENTS_0 (by omega) v_STATEMENTS_0 H
    · exact seq_K (a := rSTATEMENTS_1) l_STATEMENTS_1 (by omega) v_STATEMENTS_1 H
    · exact seq_K (a := rSTATEMENTS_2) l_STATEMENTS_2 (by omega) v_STATEMENTS_2 H
    · exact seq_K (a := rSTATEMENTS_3) l_STATEMENTS_3 (by omega) v_STATEMENTS_3 H
    · exact seq_K (a := rSTATEMENTS_4) l_STATEMENTS_4 (by omega) v_STATEMENTS_4 H
    · exact seq_K (a := rSTATEMENTS_5) l_STATEMENTS_5 (by omega) v_STATEMENTS_5 H
    · exact seq_K (a := rSTATEMENTS_6) l_STATEMENTS_6 (by omega) v_STATEMENTS_6 H
    · exact seq_K (a := rSTATEMENTS_7) l_STATEMENTS_7 (by omega) v_STATEMENTS_7 H
    · exact seq_K (a := rSTATEMENTS_8) l_STATEMENTS_8 (by omega) v_STATEMENTS_8 H
    · exact seq_K (a := rSTATEMENTS_9) l_STATEMENTS_9 (by omega) v_STATEMENTS_9 H
    · exact seq_K (a := rSTATEMENTS_10) l_STATEMENTS_10 (by omega) v_STATEMENTS_10 H
  let bEXPRESSIONS : String → Addr := fun s => if s = "number" then rEXPRESSIONS_0 else if s = "text" then rEXPRESSIONS_1 else if s = "true" then rEXPRESSIONS_2 else if s = "false" then rEXPRESSIONS_3 else if s = "nil" then rEXPRESSIONS_4 else if s = "this" then rEXPRESSIONS_5 else if s = "name" then rEXPRESSIONS_6 else if s = "list" then rEXPRESSIONS_7 else if s = "fun" then rEXPRESSIONS_8 else if s = "call" then rEXPRESSIONS_9 else if s = "send" then rEXPRESSIONS_10 else if s = "up" then rEXPRESSIONS_11 else if s = "new" then rEXPRESSIONS_12 else if s = "field" then rEXPRESSIONS_13 else if s = "item" then rEXPRESSIONS_14 else if s = "or" then rEXPRESSIONS_15 else if s = "and" then rEXPRESSIONS_16 else if s = "==" then rEXPRESSIONS_17 else if s = "!=" then rEXPRESSIONS_18 else if s = "<" then rEXPRESSIONS_19 else if s = "<=" then rEXPRESSIONS_20 else if s = ">" then rEXPRESSIONS_21 else if s = ">=" then rEXPRESSIONS_22 else if s = "+" then rEXPRESSIONS_23 else if s = "-" then rEXPRESSIONS_24 else if s = "*" then rEXPRESSIONS_25 else if s = "/" then rEXPRESSIONS_26 else if s = "mod" then rEXPRESSIONS_27 else if s = "not" then rEXPRESSIONS_28 else if s = "minus" then rEXPRESSIONS_29 else if s = "ask" then rEXPRESSIONS_30 else 0
  have wEXPRESSIONS : iEXPRESSIONS.toList.map absE = (rowsV bEXPRESSIONS exShL).map fun q => some (Str.ofString q.1, q.2) := v_EXPRESSIONS.trans rfl
  have kEXPRESSIONS : ∀ q ∈ exShL, ∀ H, SqT K H (bEXPRESSIONS q.1) (litV q.2) := by
    intro q hq H
    simp only [exShL, List.mem_cons, List.not_mem_nil, or_false] at hq
    rcases hq with rfl | rfl | rfl | rfl | rfl | rfl | rfl | rfl | rfl | rfl | rfl | rfl | rfl | rfl | rfl | rfl | rfl | rfl | rfl | rfl | rfl | rfl | rfl | rfl | rfl | rfl | rfl | rfl | rfl | rfl | rfl
    · exact seq_K (a := rEXPRESSIONS_0) l_EXPRESSIONS_0 (by omega) v_EXPRESSIONS_0 H
    · exact seq_K (a := rEXPRESSIONS_1) l_EXPRESSIONS_1 (by omega) v_EXPRESSIONS_1 H
    · exact seq_K (a := rEXPRESSIONS_2) l_EXPRESSIONS_2 (by omega) v_EXPRESSIONS_2 H
    · exact seq_K (a := rEXPRESSIONS_3) l_EXPRESSIONS_3 (by omega) v_EXPRESSIONS_3 H
    · exact seq_K (a := rEXPRESSIONS_4) l_EXPRESSIONS_4 (by omega) v_EXPRESSIONS_4 H
    · exact seq_K (a := rEXPRESSIONS_5) l_EXPRESSIONS_5 (by omega) v_EXPRESSIONS_5 H
    · exact seq_K (a := rEXPRESSIONS_6) l_EXPRESSIONS_6 (by omega) v_EXPRESSIONS_6 H
    · exact seq_K (a := rEXPRESSIONS_7) l_EXPRESSIONS_7 (by omega) v_EXPRESSIONS_7 H
    · exact seq_K (a := rEXPRESSIONS_8) l_EXPRESSIONS_8 (by omega) v_EXPRESSIONS_8 H
    · exact seq_K (a := rEXPRESSIONS_9) l_EXPRESSIONS_9 (by omega) v_EXPRESSIONS_9 H
    · exact seq_K (a := rEXPRESSIONS_10) l_EXPRESSIONS_10 (by omega) v_EXPRESSIONS_10 H
    · exact seq_K (a := rEXPRESSIONS_11) l_EXPRESSIONS_11 (by omega) v_EXPRESSIONS_11 H
    · exact seq_K (a := rEXPRESSIONS_12) l_EXPRESSIONS_12 (by omega) v_EXPRESSIONS_12 H
    · exact seq_K (a := rEXPRESSIONS_13) l_EXPRESSIONS_13 (by omega) v_EXPRESSIONS_13 H
    · exact seq_K (a := rEXPRESSIONS_14) l_EXPRESSIONS_14 (by omega) v_EXPRESSIONS_14 H
    · exact seq_K (a := rEXPRESSIONS_15) l_EXPRESSIONS_15 (by omega) v_EXPRESSIONS_15 H
    · exact seq_K (a := rEXPRESSIONS_16) l_EXPRESSIONS_16 (by omega) v_EXPRESSIONS_16 H
    · exact seq_K (a := rEXPRESSIONS_17) l_EXPRESSIONS_17 (by omega) v_EXPRESSIONS_17 H
    · exact seq_K (a := rEXPRESSIONS_18) l_EXPRESSIONS_18 (by omega) v_EXPRESSIONS_18 H
    · exact seq_K (a := rEXPRESSIONS_19) l_EXPRESSIONS_19 (by omega) v_EXPRESSIONS_19 H
    · exact seq_K (a := rEXPRESSIONS_20) l_EXPRESSIONS_20 (by omega) v_EXPRESSIONS_20 H
    · exact seq_K (a := rEXPRESSIONS_21) l_EXPRESSIONS_21 (by omega) v_EXPRESSIONS_21 H
    · exact seq_K (a := rEXPRESSIONS_22) l_EXPRESSIONS_22 (by omega) v_EXPRESSIONS_22 H
    · exact seq_K (a := rEXPRESSIONS_23) l_EXPRESSIONS_23 (by omega) v_EXPRESSIONS_23 H
    · exact seq_K (a := rEXPRESSIONS_24) l_EXPRESSIONS_24 (by omega) v_EXPRESSIONS_24 H
    · exact seq_K (a := rEXPRESSIONS_25) l_EXPRESSIONS_25 (by omega) v_EXPRESSIONS_25 H
    · exact seq_K (a := rEXPRESSIONS_26) l_EXPRESSIONS_26 (by omega) v_EXPRESSIONS_26 H
    · exact seq_K (a := rEXPRESSIONS_27) l_EXPRESSIONS_27 (by omega) v_EXPRESSIONS_27 H
    · exact seq_K (a := rEXPRESSIONS_28) l_EXPRESSIONS_28 (by omega) v_EXPRESSIONS_28 H
    · exact seq_K (a := rEXPRESSIONS_29) l_EXPRESSIONS_29 (by omega) v_EXPRESSIONS_29 H
    · exact seq_K (a := rEXPRESSIONS_30) l_EXPRESSIONS_30 (by omega) v_EXPRESSIONS_30 H
  have TP : TxtP K w mg := {
    aKINDS := aKINDS, mKINDS := PySem.W.mg_of X G c_KINDS, dKINDS := ⟨⟨iKINDS, nKINDS, ⟨l_KINDS, t_KINDS, b_KINDS⟩, v_KINDS⟩⟩,
    aLEVELS := aLEVELS, mLEVELS := PySem.W.mg_of X G c_LEVELS, dLEVELS := ⟨⟨iLEVELS, nLEVELS, ⟨l_LEVELS, t_LEVELS, b_LEVELS⟩, v_LEVELS⟩⟩,
    aVALUED := aVALUED, mVALUED := PySem.W.mg_of X G c_VALUED, dVALUED := ⟨⟨iVALUED, nVALUED, ⟨l_VALUED, t_VALUED, b_VALUED⟩, v_VALUED⟩⟩,
    aSTATEMENT_FORMS := aSTATEMENT_FORMS, mSTATEMENT_FORMS := PySem.W.mg_of X G c_STATEMENT_FORMS, bSTATEMENT_FORMS := bSTATEMENT_FORMS, dSTATEMENT_FORMS := ⟨⟨iSTATEMENT_FORMS, nSTATEMENT_FORMS, ⟨l_STATEMENT_FORMS, t_STATEMENT_FORMS, b_STATEMENT_FORMS⟩, wSTATEMENT_FORMS⟩⟩, kSTATEMENT_FORMS := kSTATEMENT_FORMS,
    aSTATEMENTS := aSTATEMENTS, mSTATEMENTS := PySem.W.mg_of X G c_STATEMENTS, bSTATEMENTS := bSTATEMENTS, dSTATEMENTS := ⟨⟨iSTATEMENTS, nSTATEMENTS, ⟨l_STATEMENTS, t_STATEMENTS, b_STATEMENTS⟩, wSTATEMENTS⟩⟩, kSTATEMENTS := kSTATEMENTS,
    aEXPRESSIONS := aEXPRESSIONS, mEXPRESSIONS := PySem.W.mg_of X G c_EXPRESSIONS, bEXPRESSIONS := bEXPRESSIONS, dEXPRESSIONS := ⟨⟨iEXPRESSIONS, nEXPRESSIONS, ⟨l_EXPRESSIONS, t_EXPRESSIONS, b_EXPRESSIONS⟩, wEXPRESSIONS⟩⟩, kEXPRESSIONS := kEXPRESSIONS,
    aOPENING := aOPENING, mOPENING := PySem.W.mg_of X G c_OPENING, kOPENING := seq_K l_OPENING (by omega) v_OPENING,
    aCLOSING := aCLOSING, mCLOSING := PySem.W.mg_of X G c_CLOSING, kCLOSING := seq_K l_CLOSING (by omega) v_CLOSING,
    aALONE := aALONE, mALONE := PySem.W.mg_of X G c_ALONE, kALONE := seq_K l_ALONE (by omega) v_ALONE,
    aPLACES := aPLACES, mPLACES := PySem.W.mg_of X G c_PLACES, kPLACES := seq_K l_PLACES (by omega) v_PLACES,
    aASKED := aASKED, mASKED := PySem.W.mg_of X G c_ASKED, kASKED := seq_K l_ASKED (by omega) v_ASKED,
    tMOST_OPEN := tMOST_OPEN, mMOST_OPEN := PySem.W.mg_of X G c_MOST_OPEN,
    tMOST_DEPTH := tMOST_DEPTH, mMOST_DEPTH := PySem.W.mg_of X G c_MOST_DEPTH,
    tNOT_LEVEL := tNOT_LEVEL, mNOT_LEVEL := PySem.W.mg_of X G c_NOT_LEVEL,
    tCOMPARING_LEVEL := tCOMPARING_LEVEL, mCOMPARING_LEVEL := PySem.W.mg_of X G c_COMPARING_LEVEL,
    tMINUS_LEVEL := tMINUS_LEVEL, mMINUS_LEVEL := PySem.W.mg_of X G c_MINUS_LEVEL }
  let CC : CurT K := ⟨U, ⟨u1, u2, u3, u4⟩, u5, u6, u7⟩
  obtain ⟨oc, od, an, osl, kV, dc, pm, cd, ct, lL, cL⟩ := o_law.l
  refine ⟨PySem.W.fnOf "law" "law" (defArgs s_law) (defBody s_law) (defScope s_law) .none kV dc pm an cd ct, fun s u => .of_eq rfl, fun base _ _ => ?_⟩
  obtain ⟨BN, eN⟩ := oN.exc (P := P) (w := w) (base := base) (sp := fun _ _ => sp_no_init) (ps := ["self"]) X G (fun _ _ _ _ _ _ us hl => match us, hl with | [_], _ => rfl) fun fd F => ok_no_init F
  obtain ⟨BD, eD⟩ := oD.exc (P := P) (w := w) (base := base) (sp := fun _ _ => sp_no_init) (ps := ["self"]) X G (fun _ _ _ _ _ _ us hl => match us, hl with | [_], _ => rfl) fun fd F => ok_too_init F
  obtain ⟨B, eC⟩ := oC.exc (P := P) (w := w) (base := base) (sp := sp_bad_init) (ps := ["self", "line"]) X G (fun _ _ _ _ _ _ us hl => match us, hl with | [_, _], _ => rfl) fun fd F => ok_bad_init oC.x noL F
  subst eN; subst eC; subst eD
  have XT : XfC K B.C := ⟨ga, gg, oC.x.exC, hd⟩
  have m1 := clause_of oN.x.exC oN.c oN.x.tyC sNN
  have m2 := clause_of oN.x.exC oN.c oN.x.tyC sCN
  have m3 := clause_of oC.x.exC oC.c oC.x.tyC sCC
  have m4 := clause_of oN.x.exC oN.c oN.x.tyC sDN
  have m5 := clause_of oC.x.exC oC.c oC.x.tyC sDC
  have m6 := clause_of oD.x.exC oD.c oD.x.tyC sDD
  obtain ⟨M_kind, _⟩ := o_kind_m.md (P := P) (w := w) (mg := mg) (base := base) (ps := ["self"]) (CX := CX0) (k := 1) (sp := (sp_kind CC.C)) (fun _ _ _ _ _ _ us hl => match us, hl with | [_], _ => rfl) fun fd F => ok_kind TP CC F
  obtain ⟨M_kind_behind, _⟩ := o_kind_behind_m.md (P := P) (w := w) (mg := mg) (base := base) (ps := ["self"]) (CX := CX0) (k := 1) (sp := (sp_kindb CC.C)) (fun _ _ _ _ _ _ us hl => match us, hl with | [_], _ => rfl) fun fd F => ok_kindb TP CC F
  obtain ⟨M_refuse, _⟩ := o_refuse_m.md (P := P) (w := w) (mg := mg) (base := base) (ps := ["self"]) (CX := (L2.CX P w)) (k := 3) (sp := (sp_refuse CC.C B.C)) (fun _ _ _ _ _ _ us hl => match us, hl with | [_], _ => rfl) fun fd F => ok_refuse CC B F
  obtain ⟨M_take, _⟩ := o_take_m.md (P := P) (w := w) (mg := mg) (base := base) (ps := ["self"]) (CX := (L2.CX P w)) (k := 4) (sp := (sp_take CC.C B.C)) (fun _ _ _ _ _ _ us hl => match us, hl with | [_], _ => rfl) fun fd F => ok_take TP CC F M_kind M_refuse
  obtain ⟨M_expect, _⟩ := o_expect_m.md (P := P) (w := w) (mg := mg) (base := base) (ps := ["self", "kind"]) (CX := (L2.CX P w)) (k := 5) (sp := (sp_expect CC.C B.C)) (fun _ _ _ _ _ _ us hl => match us, hl with | [_, _], _ => rfl) fun fd F => ok_expect CC F M_kind M_refuse M_take
  have M : MT P w K mg base CC B.C := ⟨M_kind, M_kind_behind, M_refuse, M_take, M_expect⟩
  obtain ⟨oc2, od2, an2, osl2, kV2, dc2, pm2, cd2, ct2, l2, c2⟩ := oU.l
  have FU := fun_mk (st := s_Cursor____init__) l2 c2 oU.m.kp
  have CM : CurM P w K mg base CC := ⟨PySem.W.mg_of X G uC, fU, _, ⟨x1, oU.m.at_, oU.m.fn, x2⟩, ok_cinit CC FU, FU.binds (fun _ _ _ _ _ _ us hl => match us, hl with | [_, _, _], _ => rfl)⟩
  obtain ⟨R_listed⟩ := o_listed.dft (ps := ["source", "reader", "closing"]) X G (fun _ _ _ _ _ _ us hl => match us, hl with | [_, _, _], _ => rfl)
  obtain ⟨R_name_of_param⟩ := o_name_of_param.dft (ps := ["source"]) X G (fun _ _ _ _ _ _ us hl => match us, hl with | [_], _ => rfl)
  obtain ⟨R_params⟩ := o_params.dft (ps := ["source"]) X G (fun _ _ _ _ _ _ us hl => match us, hl with | [_], _ => rfl)
  obtain ⟨R_arguments⟩ := o_arguments.dft (ps := ["source"]) X G (fun _ _ _ _ _ _ us hl => match us, hl with | [_], _ => rfl)
  obtain ⟨R_block⟩ := o_block.dft (ps := ["source"]) X G (fun _ _ _ _ _ _ us hl => match us, hl with | [_], _ => rfl)
  obtain ⟨R_called_by_key⟩ := o_called_by_key.dft (ps := ["source"]) X G (fun _ _ _ _ _ _ us hl => match us, hl with | [_], _ => rfl)
  obtain ⟨R_in_parentheses⟩ := o_in_parentheses.dft (ps := ["source"]) X G (fun _ _ _ _ _ _ us hl => match us, hl with | [_], _ => rfl)
  obtain ⟨R_first⟩ := o_first.dft (ps := ["source"]) X G (fun _ _ _ _ _ _ us hl => match us, hl with | [_], _ => rfl)
  obtain ⟨R_named_behind⟩ := o_named_behind.dft (ps := ["source", "value"]) X G (fun _ _ _ _ _ _ us hl => match us, hl with | [_, _], _ => rfl)
  obtain ⟨R_behind⟩ := o_behind.dft (ps := ["source", "value"]) X G (fun _ _ _ _ _ _ us hl => match us, hl with | [_, _], _ => rfl)
  obtain ⟨R_take_ahead⟩ := o_take_ahead.dft (ps := ["source", "waiting"]) X G (fun _ _ _ _ _ _ us hl => match us, hl with | [_, _], _ => rfl)
  obtain ⟨R_bind⟩ := o_bind.dft (ps := ["waiting", "values", "level"]) X G (fun _ _ _ _ _ _ us hl => match us, hl with | [_, _, _], _ => rfl)
  obtain ⟨R_expression⟩ := o_expression.dft (ps := ["source"]) X G (fun _ _ _ _ _ _ us hl => match us, hl with | [_], _ => rfl)
  obtain ⟨R_else_block⟩ := o_else_block.dft (ps := ["source"]) X G (fun _ _ _ _ _ _ us hl => match us, hl with | [_], _ => rfl)
  obtain ⟨R_do_or_set⟩ := o_do_or_set.dft (ps := ["source"]) X G (fun _ _ _ _ _ _ us hl => match us, hl with | [_], _ => rfl)
  obtain ⟨R_statement⟩ := o_statement.dft (ps := ["source"]) X G (fun _ _ _ _ _ _ us hl => match us, hl with | [_], _ => rfl)
  obtain ⟨R_class_item⟩ := o_class_item.dft (ps := ["source"]) X G (fun _ _ _ _ _ _ us hl => match us, hl with | [_], _ => rfl)
  obtain ⟨R_item⟩ := o_item.dft (ps := ["source"]) X G (fun _ _ _ _ _ _ us hl => match us, hl with | [_], _ => rfl)
  obtain ⟨D_draw⟩ := o__law_draw.dft (ps := ["flow", "many"]) X G (fun _ _ _ _ _ _ us hl => match us, hl with | [_, _], _ => rfl)
  obtain ⟨D_name⟩ := o__law_name.dft (ps := ["flow"]) X G (fun _ _ _ _ _ _ us hl => match us, hl with | [_], _ => rfl)
  obtain ⟨D_atom⟩ := o__law_atom.dft (ps := ["flow"]) X G (fun _ _ _ _ _ _ us hl => match us, hl with | [_], _ => rfl)
  obtain ⟨D_called⟩ := o__law_called.dft (ps := ["flow"]) X G (fun _ _ _ _ _ _ us hl => match us, hl with | [_], _ => rfl)
  obtain ⟨D_some⟩ := o__law_some.dft (ps := ["flow", "left", "room"]) X G (fun _ _ _ _ _ _ us hl => match us, hl with | [_, _, _], _ => rfl)
  obtain ⟨D_e⟩ := o__law_e.dft (ps := ["flow", "left", "room"]) X G (fun _ _ _ _ _ _ us hl => match us, hl with | [_, _, _], _ => rfl)
  obtain ⟨D_rows⟩ := o__law_rows.dft (ps := ["flow", "left", "room"]) X G (fun _ _ _ _ _ _ us hl => match us, hl with | [_, _, _], _ => rfl)
  obtain ⟨D_row⟩ := o__law_row.dft (ps := ["flow", "left", "room"]) X G (fun _ _ _ _ _ _ us hl => match us, hl with | [_, _, _], _ => rfl)
  obtain ⟨D_item⟩ := o__law_item.dft (ps := ["flow", "left", "room"]) X G (fun _ _ _ _ _ _ us hl => match us, hl with | [_, _, _], _ => rfl)
  obtain ⟨I_is_of_stretch⟩ := o_is_of_stretch.dft (ps := ["sign"]) X G (fun _ _ _ _ _ _ us hl => match us, hl with | [_], _ => rfl)
  obtain ⟨I_is_plain⟩ := o_is_plain.dft (ps := ["thing"]) X G (fun _ _ _ _ _ _ us hl => match us, hl with | [_], _ => rfl)
  obtain ⟨I_is_name⟩ := o_is_name.dft (ps := ["thing"]) X G (fun _ _ _ _ _ _ us hl => match us, hl with | [_], _ => rfl)
  obtain ⟨I_is_number_word⟩ := o_is_number_word.dft (ps := ["stretch"]) X G (fun _ _ _ _ _ _ us hl => match us, hl with | [_], _ => rfl)
  obtain ⟨I_stretch_at⟩ := o_stretch_at.dft (ps := ["row", "at", "line"]) X G (fun _ _ _ _ _ _ us hl => match us, hl with | [_, _, _], _ => rfl)
  obtain ⟨I_text_at⟩ := o_text_at.dft (ps := ["row", "at", "line"]) X G (fun _ _ _ _ _ _ us hl => match us, hl with | [_, _, _], _ => rfl)
  obtain ⟨I_word_at⟩ := o_word_at.dft (ps := ["row", "at", "line"]) X G (fun _ _ _ _ _ _ us hl => match us, hl with | [_, _, _], _ => rfl)
  obtain ⟨I_words_of_line⟩ := o_words_of_line.dft (ps := ["row", "line"]) X G (fun _ _ _ _ _ _ us hl => match us, hl with | [_, _], _ => rfl)
  obtain ⟨I_words⟩ := o_words.dft (ps := ["text"]) X G (fun _ _ _ _ _ _ us hl => match us, hl with | [_], _ => rfl)
  obtain ⟨I_shape_within⟩ := o_shape_within.dft (ps := ["word"]) X G (fun _ _ _ _ _ _ us hl => match us, hl with | [_], _ => rfl)
  obtain ⟨I_within⟩ := o_within.dft (ps := ["node"]) X G (fun _ _ _ _ _ _ us hl => match us, hl with | [_], _ => rfl)
  obtain ⟨I_outermost⟩ := o_outermost.dft (ps := ["program"]) X G (fun _ _ _ _ _ _ us hl => match us, hl with | [_], _ => rfl)
  obtain ⟨I_deepest⟩ := o_deepest.dft (ps := ["program"]) X G (fun _ _ _ _ _ _ us hl => match us, hl with | [_], _ => rfl)
  obtain ⟨I_read⟩ := o_read.dft (ps := ["text"]) X G (fun _ _ _ _ _ _ us hl => match us, hl with | [_], _ => rfl)
  obtain ⟨I_flow⟩ := o__law_flow.dft (ps := ["script"]) X G (fun _ _ _ _ _ _ us hl => match us, hl with | [_], _ => rfl)
  obtain ⟨I_more⟩ := o__law_more.dft (ps := ["flow"]) X G (fun _ _ _ _ _ _ us hl => match us, hl with | [_], _ => rfl)
  obtain ⟨I_same⟩ := o__law_same.dft (ps := ["found", "due"]) X G (fun _ _ _ _ _ _ us hl => match us, hl with | [_, _], _ => rfl)
  obtain ⟨I_asked⟩ := o__law_asked.dft (ps := ["text"]) X G (fun _ _ _ _ _ _ us hl => match us, hl with | [_], _ => rfl)
  obtain ⟨I_text⟩ := o__law_text.dft (ps := ["flow"]) X G (fun _ _ _ _ _ _ us hl => match us, hl with | [_], _ => rfl)
  obtain ⟨I_long⟩ := o__law_long.dft (ps := ["flow", "text"]) X G (fun _ _ _ _ _ _ us hl => match us, hl with | [_, _], _ => rfl)
  exact law_of T TP TQ TMn CC B BN BD XT noL m3 m5 m6 M CM ⟨R_listed, R_name_of_param, R_params, R_arguments, R_block, R_called_by_key, R_in_parentheses, R_first, R_named_behind, R_behind, R_take_ahead, R_bind, R_expression, R_else_block, R_do_or_set, R_statement, R_class_item, R_item⟩ ⟨D_draw, D_name, D_atom, D_called, D_some, D_e, D_rows, D_row, D_item⟩ ⟨I_is_of_stretch, I_is_plain, I_is_name, I_is_number_word, I_stretch_at, I_text_at, I_word_at, I_words_of_line, I_words, I_shape_within, I_within, I_outermost, I_deepest, I_read, I_flow, I_more, I_same, I_asked, I_text, I_long⟩ (fun_mk (st := s_law) lL cL o_law.k)
end
/-- the head's leaf, with what the loose names are -/
theorem walk_loose {l : PySem.W.OpenLaw} {q : Program} {loose : List Str} {XP : (Str → Option Value) → Heap → Prop} {YP : World → Heap → Prop} {d : DefRec} {K : Params → PySem.W.Frag} (most : l.most = some 63) (plain0 : d.params.defaults = [])
    (written : ∀ (w : World) (h : Heap), YP w h → (K w.params).In h)
    (F : ∀ (w : World) (mg : Str → Option Value) (fa : Addr) (h : Heap), (K w.params).In h → h.Ns mainGlobals mg → mg d.name = some (.ref fa) → XP mg h →
      ∃ fd : FuncData, (∀ (s : Shared) (u : Value), BindsTo s fd ⟨[u], []⟩ [("script", u)]) ∧ ∀ base : Heap, (K w.params).In base → base.Ns mainGlobals mg → FnOk l.prog w (K w.params) mg base CX0 201 fa fd ["script"] (sp_law (K w.params))) :
    PySem.W.WalkO q loose XP YP l.row.toRowW d [] (fun f vs => PySem.call f vs) := by
  refine Att.attach_call most plain0 ?_
  intro w s0 s1 mg mb fa o pm cd doc a vs ns G Y ho hd hcd hmg hobj hints hlen hg
  obtain ⟨fd, binds, ok⟩ := F w mg fa _ (written w _ Y) G.T.g hmg G.X
  have room : Room 201 callerA := ⟨rfl, by decide, by decide⟩
  exact L2.law_call (written w _ Y) G.T.g G.T.b G.T.builtins G.T.nolimit hg hobj hints (Nat.le_trans hlen (by decide)) room ok binds
    (fun H _ hS => ⟨a, ns, rfl, hS, Nat.le_trans hlen (by decide), fun _ => rfl⟩) (fun _ _ _ z => z)
theorem greatest_of {p : Program} {mg : Str → Option Value} {h : Heap} (X : PySem.W.XL p [(Str.ofString "GREATEST", PySem.W.WData.int 576460752303423487)] mg h) : ∃ t, mg "GREATEST" = some (.int (2 ^ 59 - 1) t) := by
  obtain ⟨v, e, r⟩ := X.2.val _ (List.mem_singleton.mpr rfl)
  cases r with
  | int i t => exact ⟨t, e⟩
end Wk
set_option maxRecDepth 100000
open PySem PySem.W PyProof.Rows
set_option maxHeartbeats 0 in
theorem PySem.Challenge.cw_unseenheap_k09_whole_texts_joined_holds : PySem.Challenge.rw_unseenheap_k09_whole_texts_joined.Holds := by
  w_on; o_law; k_head; (case hw => w_witness2)
  k_fill
  refine Wk.walk_loose (l := PySem.Challenge.rw_unseenheap_k09_whole_texts_joined) rfl rfl (fun w h Y => PySem.W.kIn_of Y) ?F
  case F =>
    intro w mg fa h KX G hmg XX
    obtain ⟨tG, gG⟩ := Wk.greatest_of XX
    refine' Wk.all_of (w := w) KX G hmg gG ?z_len ?z_int ?z_abs ?z_isinstance ?z_str ?z_list ?z_tuple ?z_bool ?z_all ?z_range ?z_ord ?z_enumerate ?z_zip ?z_max ?z_min ?c_LETTERS ?e_LETTERS ?c_FIGURES ?e_FIGURES ?c_MARKS ?e_MARKS ?c_MOST_SIGNS ?c_MOST_FIGURES ?c_BARRED ?c_MOST_OPEN ?c_MOST_DEPTH ?c_NOT_LEVEL ?c_COMPARING_LEVEL ?c_MINUS_LEVEL ?c_KEYS ?l_KEYS ?b_KEYS ?v_KEYS ?c_DOUBLE_MARKS ?l_DOUBLE_MARKS ?b_DOUBLE_MARKS ?v_DOUBLE_MARKS ?c_OPENING ?l_OPENING ?b_OPENING ?v_OPENING ?c_CLOSING ?l_CLOSING ?b_CLOSING ?v_CLOSING ?c_ALONE ?l_ALONE ?b_ALONE ?v_ALONE ?c_PLACES ?l_PLACES ?b_PLACES ?v_PLACES ?c_ASKED ?l_ASKED ?b_ASKED ?v_ASKED ?c_KINDS ?l_KINDS ?t_KINDS ?b_KINDS ?v_KINDS ?c_LEVELS ?l_LEVELS ?t_LEVELS ?b_LEVELS ?v_LEVELS ?c_VALUED ?l_VALUED ?t_VALUED ?b_VALUED ?v_VALUED ?c_STATEMENT_FORMS ?l_STATEMENT_FORMS ?t_STATEMENT_FORMS ?b_STATEMENT_FORMS ?v_STATEMENT_FORMS ?l_STATEMENT_FORMS_0 ?b_STATEMENT_FORMS_0 ?v_STATEMENT_FORMS_0 ?l_STATEMENT_FORMS_1 ?b_STATEMENT_FORMS_1 ?v_STATEMENT_FORMS_1 ?l_STATEMENT_FORMS_2 ?b_STATEMENT_FORMS_2 ?v_STATEMENT_FORMS_2 ?l_STATEMENT_FORMS_3 ?b_STATEMENT_FORMS_3 ?v_STATEMENT_FORMS_3 ?l_STATEMENT_FORMS_4 ?b_STATEMENT_FORMS_4 ?v_STATEMENT_FORMS_4 ?l_STATEMENT_FORMS_5 ?b_STATEMENT_FORMS_5 ?v_STATEMENT_FORMS_5 ?l_STATEMENT_FORMS_6 ?b_STATEMENT_FORMS_6 ?v_STATEMENT_FORMS_6 ?l_STATEMENT_FORMS_7 ?b_STATEMENT_FORMS_7 ?v_STATEMENT_FORMS_7 ?l_STATEMENT_FORMS_8 ?b_STATEMENT_FORMS_8 ?v_STATEMENT_FORMS_8 ?c_STATEMENTS ?l_STATEMENTS ?t_STATEMENTS ?b_STATEMENTS ?v_STATEMENTS ?l_STATEMENTS_0 ?b_STATEMENTS_0 ?v_STATEMENTS_0 ?l_STATEMENTS_1 ?b_STATEMENTS_1 ?v_STATEMENTS_1 ?l_STATEMENTS_2 ?b_STATEMENTS_2 ?v_STATEMENTS_2 ?l_STATEMENTS_3 ?b_STATEMENTS_3 ?v_STATEMENTS_3 ?l_STATEMENTS_4 ?b_STATEMENTS_4 ?v_STATEMENTS_4 ?l_STATEMENTS_5 ?b_STATEMENTS_5 ?v_STATEMENTS_5 ?l_STATEMENTS_6 ?b_STATEMENTS_6 ?v_STATEMENTS_6 ?l_STATEMENTS_7 ?b_STATEMENTS_7 ?v_STATEMENTS_7 ?l_STATEMENTS_8 ?b_STATEMENTS_8 ?v_STATEMENTS_8 ?l_STATEMENTS_9 ?b_STATEMENTS_9 ?v_STATEMENTS_9 ?l_STATEMENTS_10 ?b_STATEMENTS_10 ?v_STATEMENTS_10 ?c_EXPRESSIONS ?l_EXPRESSIONS ?t_EXPRESSIONS ?b_EXPRESSIONS ?v_EXPRESSIONS ?l_EXPRESSIONS_0 ?b_EXPRESSIONS_0 ?v_EXPRESSIONS_0 ?l_EXPRESSIONS_1 ?b_EXPRESSIONS_1 ?v_EXPRESSIONS_1 ?l_EXPRESSIONS_2 ?b_EXPRESSIONS_2 ?v_EXPRESSIONS_2 ?l_EXPRESSIONS_3 ?b_EXPRESSIONS_3 ?v_EXPRESSIONS_3 ?l_EXPRESSIONS_4 ?b_EXPRESSIONS_4 ?v_EXPRESSIONS_4 ?l_EXPRESSIONS_5 ?b_EXPRESSIONS_5 ?v_EXPRESSIONS_5 ?l_EXPRESSIONS_6 ?b_EXPRESSIONS_6 ?v_EXPRESSIONS_6 ?l_EXPRESSIONS_7 ?b_EXPRESSIONS_7 ?v_EXPRESSIONS_7 ?l_EXPRESSIONS_8 ?b_EXPRESSIONS_8 ?v_EXPRESSIONS_8 ?l_EXPRESSIONS_9 ?b_EXPRESSIONS_9 ?v_EXPRESSIONS_9 ?l_EXPRESSIONS_10 ?b_EXPRESSIONS_10 ?v_EXPRESSIONS_10 ?l_EXPRESSIONS_11 ?b_EXPRESSIONS_11 ?v_EXPRESSIONS_11 ?l_EXPRESSIONS_12 ?b_EXPRESSIONS_12 ?v_EXPRESSIONS_12 ?l_EXPRESSIONS_13 ?b_EXPRESSIONS_13 ?v_EXPRESSIONS_13 ?l_EXPRESSIONS_14 ?b_EXPRESSIONS_14 ?v_EXPRESSIONS_14 ?l_EXPRESSIONS_15 ?b_EXPRESSIONS_15 ?v_EXPRESSIONS_15 ?l_EXPRESSIONS_16 ?b_EXPRESSIONS_16 ?v_EXPRESSIONS_16 ?l_EXPRESSIONS_17 ?b_EXPRESSIONS_17 ?v_EXPRESSIONS_17 ?l_EXPRESSIONS_18 ?b_EXPRESSIONS_18 ?v_EXPRESSIONS_18 ?l_EXPRESSIONS_19 ?b_EXPRESSIONS_19 ?v_EXPRESSIONS_19 ?l_EXPRESSIONS_20 ?b_EXPRESSIONS_20 ?v_EXPRESSIONS_20 ?l_EXPRESSIONS_21 ?b_EXPRESSIONS_21 ?v_EXPRESSIONS_21 ?l_EXPRESSIONS_22 ?b_EXPRESSIONS_22 ?v_EXPRESSIONS_22 ?l_EXPRESSIONS_23 ?b_EXPRESSIONS_23 ?v_EXPRESSIONS_23 ?l_EXPRESSIONS_24 ?b_EXPRESSIONS_24 ?v_EXPRESSIONS_24 ?l_EXPRESSIONS_25 ?b_EXPRESSIONS_25 ?v_EXPRESSIONS_25 ?l_EXPRESSIONS_26 ?b_EXPRESSIONS_26 ?v_EXPRESSIONS_26 ?l_EXPRESSIONS_27 ?b_EXPRESSIONS_27 ?v_EXPRESSIONS_27 ?l_EXPRESSIONS_28 ?b_EXPRESSIONS_28 ?v_EXPRESSIONS_28 ?l_EXPRESSIONS_29 ?b_EXPRESSIONS_29 ?v_EXPRESSIONS_29 ?l_EXPRESSIONS_30 ?b_EXPRESSIONS_30 ?v_EXPRESSIONS_30 ?oN ?oC ?oD ?noL ?ga ?gg ?hd ?sNN ?sCN ?sCC ?sDN ?sDC ?sDD ?uC ?u1 ?u2 ?u3 ?u4 ?u5 ?u6 ?u7 ?x1 ?x2 ?oU ?o_kind_m ?o_kind_behind_m ?o_refuse_m ?o_take_m ?o_expect_m ?o_listed ?o_name_of_param ?o_params ?o_arguments ?o_block ?o_called_by_key ?o_in_parentheses ?o_first ?o_named_behind ?o_behind ?o_take_ahead ?o_bind ?o_expression ?o_else_block ?o_do_or_set ?o_statement ?o_class_item ?o_item ?o__law_draw ?o__law_name ?o__law_atom ?o__law_called ?o__law_some ?o__law_e ?o__law_rows ?o__law_row ?o__law_item ?o_is_of_stretch ?o_is_plain ?o_is_name ?o_is_number_word ?o_stretch_at ?o_text_at ?o_word_at ?o_words_of_line ?o_words ?o_shape_within ?o_within ?o_outermost ?o_deepest ?o_read ?o__law_flow ?o__law_more ?o__law_same ?o__law_asked ?o__law_text ?o__law_long ?o_law
    (case z_len => k_is)
    (case z_int => k_is)
    (case z_abs => k_is)
    (case z_isinstance => k_is)
    (case z_str => k_is)
    (case z_list => k_is)
    (case z_tuple => k_is)
    (case z_bool => k_is)
    (case z_all => k_is)
    (case z_range => k_is)
    (case z_ord => k_is)
    (case z_enumerate => k_is)
    (case z_zip => k_is)
    (case z_max => k_is)
    (case z_min => k_is)
    (case c_LETTERS => k_is)
    (case e_LETTERS => first | rfl | decide +kernel | exact Wk.S_of _)
    (case c_FIGURES => k_is)
    (case e_FIGURES => first | rfl | decide +kernel | exact Wk.S_of _)
    (case c_MARKS => k_is)
    (case e_MARKS => first | rfl | decide +kernel | exact Wk.S_of _)
    (case c_MOST_SIGNS => k_is)
    (case c_MOST_FIGURES => k_is)
    (case c_BARRED => k_is)
    (case c_MOST_OPEN => k_is)
    (case c_MOST_DEPTH => k_is)
    (case c_NOT_LEVEL => k_is)
    (case c_COMPARING_LEVEL => k_is)
    (case c_MINUS_LEVEL => k_is)
    (case c_KEYS => k_is)
    (case l_KEYS => k_is)
    (case b_KEYS => first | decide | (show (_ : Nat) ≤ 1000; decide))
    (case v_KEYS => first | rfl | decide +kernel)
    (case c_DOUBLE_MARKS => k_is)
    (case l_DOUBLE_MARKS => k_is)
    (case b_DOUBLE_MARKS => first | decide | (show (_ : Nat) ≤ 1000; decide))
    (case v_DOUBLE_MARKS => first | rfl | decide +kernel)
    (case c_OPENING => k_is)
    (case l_OPENING => k_is)
    (case b_OPENING => first | decide | (show (_ : Nat) ≤ 1000; decide))
    (case v_OPENING => first | rfl | decide +kernel)
    (case c_CLOSING => k_is)
    (case l_CLOSING => k_is)
    (case b_CLOSING => first | decide | (show (_ : Nat) ≤ 1000; decide))
    (case v_CLOSING => first | rfl | decide +kernel)
    (case c_ALONE => k_is)
    (case l_ALONE => k_is)
    (case b_ALONE => first | decide | (show (_ : Nat) ≤ 1000; decide))
    (case v_ALONE => first | rfl | decide +kernel)
    (case c_PLACES => k_is)
    (case l_PLACES => k_is)
    (case b_PLACES => first | decide | (show (_ : Nat) ≤ 1000; decide))
    (case v_PLACES => first | rfl | decide +kernel)
    (case c_ASKED => k_is)
    (case l_ASKED => k_is)
    (case b_ASKED => first | decide | (show (_ : Nat) ≤ 1000; decide))
    (case v_ASKED => first | rfl | decide +kernel)
    (case c_KINDS => k_is)
    (case l_KINDS => k_is)
    (case t_KINDS => first | exact trivial | (repeat (first | exact trivial | refine ⟨⟨_, _, rfl, rfl⟩, ?_⟩)))
    (case b_KINDS => first | rfl | decide)
    (case v_KINDS => first | rfl | decide +kernel)
    (case c_LEVELS => k_is)
    (case l_LEVELS => k_is)
    (case t_LEVELS => first | exact trivial | (repeat (first | exact trivial | refine ⟨⟨_, _, rfl, rfl⟩, ?_⟩)))
    (case b_LEVELS => first | rfl | decide)
    (case v_LEVELS => first | rfl | decide +kernel)
    (case c_VALUED => k_is)
    (case l_VALUED => k_is)
    (case t_VALUED => first | exact trivial | (repeat (first | exact trivial | refine ⟨⟨_, _, rfl, rfl⟩, ?_⟩)))
    (case b_VALUED => first | rfl | decide)
    (case v_VALUED => first | rfl | decide +kernel)
    (case c_STATEMENT_FORMS => k_is)
    (case l_STATEMENT_FORMS => k_is)
    (case t_STATEMENT_FORMS => first | exact trivial | (repeat (first | exact trivial | refine ⟨⟨_, _, rfl, rfl⟩, ?_⟩)))
    (case b_STATEMENT_FORMS => first | rfl | decide)
    (case v_STATEMENT_FORMS => rfl)
    (case l_STATEMENT_FORMS_0 => k_is)
    (case b_STATEMENT_FORMS_0 => first | decide | (show (_ : Nat) ≤ 1000; decide))
    (case v_STATEMENT_FORMS_0 => first | rfl | decide +kernel)
    (case l_STATEMENT_FORMS_1 => k_is)
    (case b_STATEMENT_FORMS_1 => first | decide | (show (_ : Nat) ≤ 1000; decide))
    (case v_STATEMENT_FORMS_1 => first | rfl | decide +kernel)
    (case l_STATEMENT_FORMS_2 => k_is)
    (case b_STATEMENT_FORMS_2 => first | decide | (show (_ : Nat) ≤ 1000; decide))
    (case v_STATEMENT_FORMS_2 => first | rfl | decide +kernel)
    (case l_STATEMENT_FORMS_3 => k_is)
    (case b_STATEMENT_FORMS_3 => first | decide | (show (_ : Nat) ≤ 1000; decide))
    (case v_STATEMENT_FORMS_3 => first | rfl | decide +kernel)
    (case l_STATEMENT_FORMS_4 => k_is)
    (case b_STATEMENT_FORMS_4 => first | decide | (show (_ : Nat) ≤ 1000; decide))
    (case v_STATEMENT_FORMS_4 => first | rfl | decide +kernel)
    (case l_STATEMENT_FORMS_5 => k_is)
    (case b_STATEMENT_FORMS_5 => first | decide | (show (_ : Nat) ≤ 1000; decide))
    (case v_STATEMENT_FORMS_5 => first | rfl | decide +kernel)
    (case l_STATEMENT_FORMS_6 => k_is)
    (case b_STATEMENT_FORMS_6 => first | decide | (show (_ : Nat) ≤ 1000; decide))
    (case v_STATEMENT_FORMS_6 => first | rfl | decide +kernel)
    (case l_STATEMENT_FORMS_7 => k_is)
    (case b_STATEMENT_FORMS_7 => first | decide | (show (_ : Nat) ≤ 1000; decide))
    (case v_STATEMENT_FORMS_7 => first | rfl | decide +kernel)
    (case l_STATEMENT_FORMS_8 => k_is)
    (case b_STATEMENT_FORMS_8 => first | decide | (show (_ : Nat) ≤ 1000; decide))
    (case v_STATEMENT_FORMS_8 => first | rfl | decide +kernel)
    (case c_STATEMENTS => k_is)
    (case l_STATEMENTS => k_is)
    (case t_STATEMENTS => first | exact trivial | (repeat (first | exact trivial | refine ⟨⟨_, _, rfl, rfl⟩, ?_⟩)))
    (case b_STATEMENTS => first | rfl | decide)
    (case v_STATEMENTS => rfl)
    (case l_STATEMENTS_0 => k_is)
    (case b_STATEMENTS_0 => first | decide | (show (_ : Nat) ≤ 1000; decide))
    (case v_STATEMENTS_0 => first | rfl | decide +kernel)
    (case l_STATEMENTS_1 => k_is)
    (case b_STATEMENTS_1 => first | decide | (show (_ : Nat) ≤ 1000; decide))
    (case v_STATEMENTS_1 => first | rfl | decide +kernel)
    (case l_STATEMENTS_2 => k_is)
    (case b_STATEMENTS_2 => first | decide | (show (_ : Nat) ≤ 1000; decide))
    (case v_STATEMENTS_2 => first | rfl | decide +kernel)
    (case l_STATEMENTS_3 => k_is)
    (case b_STATEMENTS_3 => first | decide | (show (_ : Nat) ≤ 1000; decide))
    (case v_STATEMENTS_3 => first | rfl | decide +kernel)
    (case l_STATEMENTS_4 => k_is)
    (case b_STATEMENTS_4 => first | decide | (show (_ : Nat) ≤ 1000; decide))
    (case v_STATEMENTS_4 => first | rfl | decide +kernel)
    (case l_STATEMENTS_5 => k_is)
    (case b_STATEMENTS_5 => first | decide | (show (_ : Nat) ≤ 1000; decide))
    (case v_STATEMENTS_5 => first | rfl | decide +kernel)
    (case l_STATEMENTS_6 => k_is)
    (case b_STATEMENTS_6 => first | decide | (show (_ : Nat) ≤ 1000; decide))
    (case v_STATEMENTS_6 => first | rfl | decide +kernel)
    (case l_STATEMENTS_7 => k_is)
    (case b_STATEMENTS_7 => first | decide | (show (_ : Nat) ≤ 1000; decide))
    (case v_STATEMENTS_7 => first | rfl | decide +kernel)
    (case l_STATEMENTS_8 => k_is)
    (case b_STATEMENTS_8 => first | decide | (show (_ : Nat) ≤ 1000; decide))
    (case v_STATEMENTS_8 => first | rfl | decide +kernel)
    (case l_STATEMENTS_9 => k_is)
    (case b_STATEMENTS_9 => first | decide | (show (_ : Nat) ≤ 1000; decide))
    (case v_STATEMENTS_9 => first | rfl | decide +kernel)
    (case l_STATEMENTS_10 => k_is)
    (case b_STATEMENTS_10 => first | decide | (show (_ : Nat) ≤ 1000; decide))
    (case v_STATEMENTS_10 => first | rfl | decide +kernel)
    (case c_EXPRESSIONS => k_is)
    (case l_EXPRESSIONS => k_is)
    (case t_EXPRESSIONS => first | exact trivial | (repeat (first | exact trivial | refine ⟨⟨_, _, rfl, rfl⟩, ?_⟩)))
    (case b_EXPRESSIONS => first | rfl | decide)
    (case v_EXPRESSIONS => rfl)
    (case l_EXPRESSIONS_0 => k_is)
    (case b_EXPRESSIONS_0 => first | decide | (show (_ : Nat) ≤ 1000; decide))
    (case v_EXPRESSIONS_0 => first | rfl | decide +kernel)
    (case l_EXPRESSIONS_1 => k_is)
    (case b_EXPRESSIONS_1 => first | decide | (show (_ : Nat) ≤ 1000; decide))
    (case v_EXPRESSIONS_1 => first | rfl | decide +kernel)
    (case l_EXPRESSIONS_2 => k_is)
    (case b_EXPRESSIONS_2 => first | decide | (show (_ : Nat) ≤ 1000; decide))
    (case v_EXPRESSIONS_2 => first | rfl | decide +kernel)
    (case l_EXPRESSIONS_3 => k_is)
    (case b_EXPRESSIONS_3 => first | decide | (show (_ : Nat) ≤ 1000; decide))
    (case v_EXPRESSIONS_3 => first | rfl | decide +kernel)
    (case l_EXPRESSIONS_4 => k_is)
    (case b_EXPRESSIONS_4 => first | decide | (show (_ : Nat) ≤ 1000; decide))
    (case v_EXPRESSIONS_4 => first | rfl | decide +kernel)
    (case l_EXPRESSIONS_5 => k_is)
    (case b_EXPRESSIONS_5 => first | decide | (show (_ : Nat) ≤ 1000; decide))
    (case v_EXPRESSIONS_5 => first | rfl | decide +kernel)
    (case l_EXPRESSIONS_6 => k_is)
    (case b_EXPRESSIONS_6 => first | decide | (show (_ : Nat) ≤ 1000; decide))
    (case v_EXPRESSIONS_6 => first | rfl | decide +kernel)
    (case l_EXPRESSIONS_7 => k_is)
    (case b_EXPRESSIONS_7 => first | decide | (show (_ : Nat) ≤ 1000; decide))
    (case v_EXPRESSIONS_7 => first | rfl | decide +kernel)
    (case l_EXPRESSIONS_8 => k_is)
    (case b_EXPRESSIONS_8 => first | decide | (show (_ : Nat) ≤ 1000; decide))
    (case v_EXPRESSIONS_8 => first | rfl | decide +kernel)
    (case l_EXPRESSIONS_9 => k_is)
    (case b_EXPRESSIONS_9 => first | decide | (show (_ : Nat) ≤ 1000; decide))
    (case v_EXPRESSIONS_9 => first | rfl | decide +kernel)
    (case l_EXPRESSIONS_10 => k_is)
    (case b_EXPRESSIONS_10 => first | decide | (show (_ : Nat) ≤ 1000; decide))
    (case v_EXPRESSIONS_10 => first | rfl | decide +kernel)
    (case l_EXPRESSIONS_11 => k_is)
    (case b_EXPRESSIONS_11 => first | decide | (show (_ : Nat) ≤ 1000; decide))
    (case v_EXPRESSIONS_11 => first | rfl | decide +kernel)
    (case l_EXPRESSIONS_12 => k_is)
    (case b_EXPRESSIONS_12 => first | decide | (show (_ : Nat) ≤ 1000; decide))
    (case v_EXPRESSIONS_12 => first | rfl | decide +kernel)
    (case l_EXPRESSIONS_13 => k_is)
    (case b_EXPRESSIONS_13 => first | decide | (show (_ : Nat) ≤ 1000; decide))
    (case v_EXPRESSIONS_13 => first | rfl | decide +kernel)
    (case l_EXPRESSIONS_14 => k_is)
    (case b_EXPRESSIONS_14 => first | decide | (show (_ : Nat) ≤ 1000; decide))
    (case v_EXPRESSIONS_14 => first | rfl | decide +kernel)
    (case l_EXPRESSIONS_15 => k_is)
    (case b_EXPRESSIONS_15 => first | decide | (show (_ : Nat) ≤ 1000; decide))
    (case v_EXPRESSIONS_15 => first | rfl | decide +kernel)
    (case l_EXPRESSIONS_16 => k_is)
    (case b_EXPRESSIONS_16 => first | decide | (show (_ : Nat) ≤ 1000; decide))
    (case v_EXPRESSIONS_16 => first | rfl | decide +kernel)
    (case l_EXPRESSIONS_17 => k_is)
    (case b_EXPRESSIONS_17 => first | decide | (show (_ : Nat) ≤ 1000; decide))
    (case v_EXPRESSIONS_17 => first | rfl | decide +kernel)
    (case l_EXPRESSIONS_18 => k_is)
    (case b_EXPRESSIONS_18 => first | decide | (show (_ : Nat) ≤ 1000; decide))
    (case v_EXPRESSIONS_18 => first | rfl | decide +kernel)
    (case l_EXPRESSIONS_19 => k_is)
    (case b_EXPRESSIONS_19 => first | decide | (show (_ : Nat) ≤ 1000; decide))
    (case v_EXPRESSIONS_19 => first | rfl | decide +kernel)
    (case l_EXPRESSIONS_20 => k_is)
    (case b_EXPRESSIONS_20 => first | decide | (show (_ : Nat) ≤ 1000; decide))
    (case v_EXPRESSIONS_20 => first | rfl | decide +kernel)
    (case l_EXPRESSIONS_21 => k_is)
    (case b_EXPRESSIONS_21 => first | decide | (show (_ : Nat) ≤ 1000; decide))
    (case v_EXPRESSIONS_21 => first | rfl | decide +kernel)
    (case l_EXPRESSIONS_22 => k_is)
    (case b_EXPRESSIONS_22 => first | decide | (show (_ : Nat) ≤ 1000; decide))
    (case v_EXPRESSIONS_22 => first | rfl | decide +kernel)
    (case l_EXPRESSIONS_23 => k_is)
    (case b_EXPRESSIONS_23 => first | decide | (show (_ : Nat) ≤ 1000; decide))
    (case v_EXPRESSIONS_23 => first | rfl | decide +kernel)
    (case l_EXPRESSIONS_24 => k_is)
    (case b_EXPRESSIONS_24 => first | decide | (show (_ : Nat) ≤ 1000; decide))
    (case v_EXPRESSIONS_24 => first | rfl | decide +kernel)
    (case l_EXPRESSIONS_25 => k_is)
    (case b_EXPRESSIONS_25 => first | decide | (show (_ : Nat) ≤ 1000; decide))
    (case v_EXPRESSIONS_25 => first | rfl | decide +kernel)
    (case l_EXPRESSIONS_26 => k_is)
    (case b_EXPRESSIONS_26 => first | decide | (show (_ : Nat) ≤ 1000; decide))
    (case v_EXPRESSIONS_26 => first | rfl | decide +kernel)
    (case l_EXPRESSIONS_27 => k_is)
    (case b_EXPRESSIONS_27 => first | decide | (show (_ : Nat) ≤ 1000; decide))
    (case v_EXPRESSIONS_27 => first | rfl | decide +kernel)
    (case l_EXPRESSIONS_28 => k_is)
    (case b_EXPRESSIONS_28 => first | decide | (show (_ : Nat) ≤ 1000; decide))
    (case v_EXPRESSIONS_28 => first | rfl | decide +kernel)
    (case l_EXPRESSIONS_29 => k_is)
    (case b_EXPRESSIONS_29 => first | decide | (show (_ : Nat) ≤ 1000; decide))
    (case v_EXPRESSIONS_29 => first | rfl | decide +kernel)
    (case l_EXPRESSIONS_30 => k_is)
    (case b_EXPRESSIONS_30 => first | decide | (show (_ : Nat) ≤ 1000; decide))
    (case v_EXPRESSIONS_30 => first | rfl | decide +kernel)
    (case oN => (refine' Wk.own_mk ?a ?cl ?ve ?sa ?ex ?ty ?kc ?i ?t ?l ?c ?k ?ic; (case a => k_is); (case cl => k_is); (case ve => first | rfl | decide +kernel); (case sa => k_is); (case ex => k_is); (case ty => k_is); (case kc => k_is); (case i => k_is); (case t => k_is); (case l => k_is); (case c => k_is); (case k => k_is); (case ic => k_is)))
    (case oC => (refine' Wk.own_mk ?a ?cl ?ve ?sa ?ex ?ty ?kc ?i ?t ?l ?c ?k ?ic; (case a => k_is); (case cl => k_is); (case ve => first | rfl | decide +kernel); (case sa => k_is); (case ex => k_is); (case ty => k_is); (case kc => k_is); (case i => k_is); (case t => k_is); (case l => k_is); (case c => k_is); (case k => k_is); (case ic => k_is)))
    (case oD => (refine' Wk.own_mk ?a ?cl ?ve ?sa ?ex ?ty ?kc ?i ?t ?l ?c ?k ?ic; (case a => k_is); (case cl => k_is); (case ve => first | rfl | decide +kernel); (case sa => k_is); (case ex => k_is); (case ty => k_is); (case kc => k_is); (case i => k_is); (case t => k_is); (case l => k_is); (case c => k_is); (case k => k_is); (case ic => k_is)))
    (case noL => first | k_is | rfl)
    (case ga => first | k_is | rfl)
    (case gg => first | k_is | rfl)
    (case hd => first | k_is | rfl)
    (case sNN => first | k_is | rfl)
    (case sCN => first | k_is | rfl)
    (case sCC => first | k_is | rfl)
    (case sDN => first | k_is | rfl)
    (case sDC => first | k_is | rfl)
    (case sDD => first | k_is | rfl)
    (case uC => k_is)
    (case u1 => first | k_is | rfl)
    (case u2 => first | k_is | rfl)
    (case u3 => first | k_is | rfl)
    (case u4 => first | k_is | rfl)
    (case u5 => first | k_is | rfl)
    (case u6 => first | k_is | rfl)
    (case u7 => first | k_is | rfl)
    (case x1 => first | k_is | rfl)
    (case x2 => first | k_is | rfl)
    (case oU => (refine' Wk.onm_mk ?a ?l ?c ?fn ?k; (case a => k_is); (case l => k_is); (case c => k_is); (case fn => first | k_is | rfl); (case k => k_is)))
    (case o_kind_m => (refine' Wk.onm_mk ?a ?l ?c ?fn ?k; (case a => k_is); (case l => k_is); (case c => k_is); (case fn => first | k_is | rfl); (case k => k_is)))
    (case o_kind_behind_m => (refine' Wk.onm_mk ?a ?l ?c ?fn ?k; (case a => k_is); (case l => k_is); (case c => k_is); (case fn => first | k_is | rfl); (case k => k_is)))
    (case o_refuse_m => (refine' Wk.onm_mk ?a ?l ?c ?fn ?k; (case a => k_is); (case l => k_is); (case c => k_is); (case fn => first | k_is | rfl); (case k => k_is)))
    (case o_take_m => (refine' Wk.onm_mk ?a ?l ?c ?fn ?k; (case a => k_is); (case l => k_is); (case c => k_is); (case fn => first | k_is | rfl); (case k => k_is)))
    (case o_expect_m => (refine' Wk.onm_mk ?a ?l ?c ?fn ?k; (case a => k_is); (case l => k_is); (case c => k_is); (case fn => first | k_is | rfl); (case k => k_is)))
    (case o_listed => (refine' Wk.on_mk ?a ?l ?c ?k; (case a => k_is); (case l => k_is); (case c => k_is); (case k => k_is)))
    (case o_name_of_param => (refine' Wk.on_mk ?a ?l ?c ?k; (case a => k_is); (case l => k_is); (case c => k_is); (case k => k_is)))
    (case o_params => (refine' Wk.on_mk ?a ?l ?c ?k; (case a => k_is); (case l => k_is); (case c => k_is); (case k => k_is)))
    (case o_arguments => (refine' Wk.on_mk ?a ?l ?c ?k; (case a => k_is); (case l => k_is); (case c => k_is); (case k => k_is)))
    (case o_block => (refine' Wk.on_mk ?a ?l ?c ?k; (case a => k_is); (case l => k_is); (case c => k_is); (case k => k_is)))
    (case o_called_by_key => (refine' Wk.on_mk ?a ?l ?c ?k; (case a => k_is); (case l => k_is); (case c => k_is); (case k => k_is)))
    (case o_in_parentheses => (refine' Wk.on_mk ?a ?l ?c ?k; (case a => k_is); (case l => k_is); (case c => k_is); (case k => k_is)))
    (case o_first => (refine' Wk.on_mk ?a ?l ?c ?k; (case a => k_is); (case l => k_is); (case c => k_is); (case k => k_is)))
    (case o_named_behind => (refine' Wk.on_mk ?a ?l ?c ?k; (case a => k_is); (case l => k_is); (case c => k_is); (case k => k_is)))
    (case o_behind => (refine' Wk.on_mk ?a ?l ?c ?k; (case a => k_is); (case l => k_is); (case c => k_is); (case k => k_is)))
    (case o_take_ahead => (refine' Wk.on_mk ?a ?l ?c ?k; (case a => k_is); (case l => k_is); (case c => k_is); (case k => k_is)))
    (case o_bind => (refine' Wk.on_mk ?a ?l ?c ?k; (case a => k_is); (case l => k_is); (case c => k_is); (case k => k_is)))
    (case o_expression => (refine' Wk.on_mk ?a ?l ?c ?k; (case a => k_is); (case l => k_is); (case c => k_is); (case k => k_is)))
    (case o_else_block => (refine' Wk.on_mk ?a ?l ?c ?k; (case a => k_is); (case l => k_is); (case c => k_is); (case k => k_is)))
    (case o_do_or_set => (refine' Wk.on_mk ?a ?l ?c ?k; (case a => k_is); (case l => k_is); (case c => k_is); (case k => k_is)))
    (case o_statement => (refine' Wk.on_mk ?a ?l ?c ?k; (case a => k_is); (case l => k_is); (case c => k_is); (case k => k_is)))
    (case o_class_item => (refine' Wk.on_mk ?a ?l ?c ?k; (case a => k_is); (case l => k_is); (case c => k_is); (case k => k_is)))
    (case o_item => (refine' Wk.on_mk ?a ?l ?c ?k; (case a => k_is); (case l => k_is); (case c => k_is); (case k => k_is)))
    (case o__law_draw => (refine' Wk.on_mk ?a ?l ?c ?k; (case a => k_is); (case l => k_is); (case c => k_is); (case k => k_is)))
    (case o__law_name => (refine' Wk.on_mk ?a ?l ?c ?k; (case a => k_is); (case l => k_is); (case c => k_is); (case k => k_is)))
    (case o__law_atom => (refine' Wk.on_mk ?a ?l ?c ?k; (case a => k_is); (case l => k_is); (case c => k_is); (case k => k_is)))
    (case o__law_called => (refine' Wk.on_mk ?a ?l ?c ?k; (case a => k_is); (case l => k_is); (case c => k_is); (case k => k_is)))
    (case o__law_some => (refine' Wk.on_mk ?a ?l ?c ?k; (case a => k_is); (case l => k_is); (case c => k_is); (case k => k_is)))
    (case o__law_e => (refine' Wk.on_mk ?a ?l ?c ?k; (case a => k_is); (case l => k_is); (case c => k_is); (case k => k_is)))
    (case o__law_rows => (refine' Wk.on_mk ?a ?l ?c ?k; (case a => k_is); (case l => k_is); (case c => k_is); (case k => k_is)))
    (case o__law_row => (refine' Wk.on_mk ?a ?l ?c ?k; (case a => k_is); (case l => k_is); (case c => k_is); (case k => k_is)))
    (case o__law_item => (refine' Wk.on_mk ?a ?l ?c ?k; (case a => k_is); (case l => k_is); (case c => k_is); (case k => k_is)))
    (case o_is_of_stretch => (refine' Wk.on_mk ?a ?l ?c ?k; (case a => k_is); (case l => k_is); (case c => k_is); (case k => k_is)))
    (case o_is_plain => (refine' Wk.on_mk ?a ?l ?c ?k; (case a => k_is); (case l => k_is); (case c => k_is); (case k => k_is)))
    (case o_is_name => (refine' Wk.on_mk ?a ?l ?c ?k; (case a => k_is); (case l => k_is); (case c => k_is); (case k => k_is)))
    (case o_is_number_word => (refine' Wk.on_mk ?a ?l ?c ?k; (case a => k_is); (case l => k_is); (case c => k_is); (case k => k_is)))
    (case o_stretch_at => (refine' Wk.on_mk ?a ?l ?c ?k; (case a => k_is); (case l => k_is); (case c => k_is); (case k => k_is)))
    (case o_text_at => (refine' Wk.on_mk ?a ?l ?c ?k; (case a => k_is); (case l => k_is); (case c => k_is); (case k => k_is)))
    (case o_word_at => (refine' Wk.on_mk ?a ?l ?c ?k; (case a => k_is); (case l => k_is); (case c => k_is); (case k => k_is)))
    (case o_words_of_line => (refine' Wk.on_mk ?a ?l ?c ?k; (case a => k_is); (case l => k_is); (case c => k_is); (case k => k_is)))
    (case o_words => (refine' Wk.on_mk ?a ?l ?c ?k; (case a => k_is); (case l => k_is); (case c => k_is); (case k => k_is)))
    (case o_shape_within => (refine' Wk.on_mk ?a ?l ?c ?k; (case a => k_is); (case l => k_is); (case c => k_is); (case k => k_is)))
    (case o_within => (refine' Wk.on_mk ?a ?l ?c ?k; (case a => k_is); (case l => k_is); (case c => k_is); (case k => k_is)))
    (case o_outermost => (refine' Wk.on_mk ?a ?l ?c ?k; (case a => k_is); (case l => k_is); (case c => k_is); (case k => k_is)))
    (case o_deepest => (refine' Wk.on_mk ?a ?l ?c ?k; (case a => k_is); (case l => k_is); (case c => k_is); (case k => k_is)))
    (case o_read => (refine' Wk.on_mk ?a ?l ?c ?k; (case a => k_is); (case l => k_is); (case c => k_is); (case k => k_is)))
    (case o__law_flow => (refine' Wk.on_mk ?a ?l ?c ?k; (case a => k_is); (case l => k_is); (case c => k_is); (case k => k_is)))
    (case o__law_more => (refine' Wk.on_mk ?a ?l ?c ?k; (case a => k_is); (case l => k_is); (case c => k_is); (case k => k_is)))
    (case o__law_same => (refine' Wk.on_mk ?a ?l ?c ?k; (case a => k_is); (case l => k_is); (case c => k_is); (case k => k_is)))
    (case o__law_asked => (refine' Wk.on_mk ?a ?l ?c ?k; (case a => k_is); (case l => k_is); (case c => k_is); (case k => k_is)))
    (case o__law_text => (refine' Wk.on_mk ?a ?l ?c ?k; (case a => k_is); (case l => k_is); (case c => k_is); (case k => k_is)))
    (case o__law_long => (refine' Wk.on_mk ?a ?l ?c ?k; (case a => k_is); (case l => k_is); (case c => k_is); (case k => k_is)))
    (case o_law => (refine' Wk.on_mk ?a ?l ?c ?k; (case a => k_is); (case l => k_is); (case c => k_is); (case k => k_is)))
