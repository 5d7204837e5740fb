import PyProof.Rows.All
import Wide.All
import OpenK.AllK
import Wide.FinOn
import KE.KDictCopyH
import PySem.Challenge.RW_unseenheap_k51_whole_rooms_known_by_hand
import HandS.ForMost
import HandS.Exc
import HandS.WordsExc
import HandS.TryOnly
import HandS.ExcOwn
import HandS.ExcInit
import HandS.ExcField
import HandS.Wide
import HandS.IsInst
import HandS.StrMore
import HandS.Codes
import HandS.ReplaceLit
import HandS.ReplaceList
import HandS.Replace
import HandS.OwnEq
import HandS.Lambda
import HandS.EndTab
import HandS.ExcIs
import HandS.Flow
import HandS.Head0
import HandS.Head1
import HandS.Head2
import HandS.HeadEnd
import HandS.HeadHook1
import HandS.HeadHook2
import HandS.HeadHook3
import HandS.ListItems
import HandS.Conv
import HandS.More
import HandS.TupLe
import HandS.WideBits
import HandS.Small
import HandS.Dict
import HandS.Star
import HandS.CallLocal
import HandS.ClsMeth
import HandS.TupAny
set_option Elab.async false
set_option linter.all false
set_option maxRecDepth 100000
namespace Wk
open PySem L2 TL
def top (i : Nat) : Stmt := PySem.Challenge.pw_unseenheap_k51_whole_rooms_known_by_hand.main.body.getD i (.Pass ⟨0, 0, 0, 0⟩)
open SX (S S_len)
theorem S_tl (l : List Nat) : (S l).cps.toList = l := rfl
theorem S_inj {a b : List Nat} (h : S a = S b) : a = b := by
  have h2 : (S a).cps.toList = (S b).cps.toList := by rw [h]
  exact h2
theorem S_mk (x : Str) : x = S x.cps.toList := ext_tl rfl
theorem S_app (a b : List Nat) : S a ++ S b = S (a ++ b) := ext_tl (tl_append (S a) (S b))
/-- a tuple of the top that the row did not keep as written: it stands below everything -/
structure Low (base : Heap) (a : Addr) (xs : List V) : Prop where
  ex : ∃ its : List Value, L2.Vals xs its ∧ PyProof.Rows.IsTup base a its.toArray
  sz : xs.length ≤ 1000
/-- the greatest payloads -/
def greats : List V := [.non, .int (2 ^ 59 - 1), .int 1, .int 0, .int 8, .non]
/-- what the top has written beside the defs -/
structure Txt (K : PySem.W.Frag) (mg : Str → Option Value) (base : Heap) where
  n_len : mg "len" = none
  n_int : mg "int" = none
  n_abs : mg "abs" = none
  n_isinstance : mg "isinstance" = none
  n_bool : mg "bool" = none
  n_range : mg "range" = none
  n_sum : mg "sum" = none
  n_repr : mg "repr" = none
  n_list : mg "list" = none
  n_tuple : mg "tuple" = none
  n_enumerate : mg "enumerate" = none
  n_all : mg "all" = none
  n_str : mg "str" = none
  tTAGS : Tok
  mTAGS : mg "TAGS" = some (.int 8 tTAGS)
  tINTEGER_TAG : Tok
  mINTEGER_TAG : mg "INTEGER_TAG" = some (.int 1 tINTEGER_TAG)
  tLEAST_INTEGER : Tok
  mLEAST_INTEGER : mg "LEAST_INTEGER" = some (.int (-(2 ^ 59)) tLEAST_INTEGER)
  tLEAST_YOUNG : Tok
  mLEAST_YOUNG : mg "LEAST_YOUNG" = some (.int 8 tLEAST_YOUNG)
  tMOST_YOUNG : Tok
  mMOST_YOUNG : mg "MOST_YOUNG" = some (.int 100000 tMOST_YOUNG)
  tMOST_OLD : Tok
  mMOST_OLD : mg "MOST_OLD" = some (.int 1000000 tMOST_OLD)
  tMOST_PACE : Tok
  mMOST_PACE : mg "MOST_PACE" = some (.int 1000 tMOST_PACE)
  aGREATEST : Addr
  mGREATEST : mg "GREATEST" = some (.ref aGREATEST)
  kGREATEST : Low base aGREATEST greats
/-- the callee: where it stands, what it promises -/
structure Def (P : Program) (w : World) (K : PySem.W.Frag) (mg : Str → Option Value) (base : Heap) (CX : CXT) (x : Str) (ps : List Str) (k : Nat) (sp : Sp) where
  f : Addr
  fd : FuncData
  ok : FnOk P w K mg base CX k f fd ps sp
  g : mg x = some (.ref f)
  k : PySem.W.keepIn K (.ref f) = true
  b : Binds K fd ps []
section
variable {X : Cx}
def rLenLow (base : Heap) : List V → Hp → VK → Prop := fun xs H Q => ∃ p ys, xs = [.ref p] ∧ Low base p ys ∧ Q (.int ys.length) H
theorem Low.here {pins : List (Addr × Obj)} {σ : L2.St} {H : Hp} {s : Shared} {p : Addr} {ys : List V} (I : L2.Inv X pins σ H s) (l : Low X.base p ys) : ∃ its : List Value, L2.Vals ys its ∧ PyProof.Rows.IsTup s.heap p its.toArray ∧ ys.length ≤ 1000 := by
  obtain ⟨its, r, o, e, c, n, d⟩ := l.ex
  exact ⟨its, r, ⟨o, (I.bs p o e).1, c, n, d⟩, l.sz⟩
theorem call_len_low : CallR X (.builtin "len") (rLenLow X.base) := by
  intro pins s σ H xs us Q I r h
  obtain ⟨p, ys, rfl, lo, q⟩ := h
  obtain ⟨u, rfl, rx⟩ := vals1 r
  cases rx
  obtain ⟨its, rv, tu, hz⟩ := lo.here I
  have n63 := line63
  have same := rv.length
  have z := sizeLine_eq
  exact PyProof.Rows.len_tuple tu (by simp only [List.size_toArray] <;> omega) ⟨.int ys.length, H, I.tok _, ⟨s.toks + 1, by rw [List.size_toArray, same]⟩, q⟩
def rIxLow (base : Heap) : R2 := fun x y H Q => ∃ p ys i v, x = .ref p ∧ y = .int i ∧ Low base p ys ∧ atI ys i = some v ∧ Q v H
theorem ix_low : IxR X (rIxLow X.base) := by
  intro value slice pins s σ H x y v u Q I rx ry h hs
  obtain ⟨p, ys, i, z, rfl, rfl, lo, he, q⟩ := h
  cases rx
  obtain ⟨t, rfl⟩ := ry
  obtain ⟨its, rv, tu, hz⟩ := lo.here I
  obtain ⟨j, h1, h2, h3, h4, h5⟩ := atI_get he
  obtain ⟨w, ew, rw'⟩ := rv.get h2
  have same := rv.length
  have n63 := line63
  have zz := sizeLine_eq
  exact PyProof.Rows.subscriptTail_builtinR (x := w) tu.typeIs PyProof.Rows.slot_tuple_getitem.lookup
    (PyProof.Rows.getItem_tuple (j := j) (Q := fun r s' => r = w ∧ EP X pins σ Q r s') tu (by omega) (by omega) (by rw [List.size_toArray, ← same]; exact h1) (by simpa using ew) ⟨rfl, z, H, I, rw', q⟩) hs
end
end Wk
set_option maxRecDepth 100000
set_option maxHeartbeats 8000000
/-! ### the head by one run: what the top has written, looked at by facts -/
namespace Hd
open PySem PySem.Spec L2 PyProof.Rows
/-- what is seen of the heap: all that stands -/
def frag (g : Addr → Option Obj) (n : Nat) : PySem.W.Frag := He.frG g (List.range n)
inductive Ob where
  | b (x : Bool)
  | fn (x : Bool) (f : He.FnW)
  | sq (x : Bool) (l : Option (List (Option V)))
  | dk (x : Bool) (k : Option (List (Option (Str × Int)))) (v : Option (List (Option (Str × V))))
inductive Fc where
  | fa (f : He.Fa)
  | st (x z : Str)
  | it (x : Str) (i : Int)
  | df (d : He.DefD)
  | tu (x : Str) (xs : List V)
  | di (x : Str) (kvs : List (String × V))
  | ro (x : Str) (rows : List (String × List V))
  | ox (x : Str)
  | dg (x : Str) (rows : List (String × Str))
  | un (x m : Str)
  | ii (x : Str)
def absE (e : DictEntry) : Option (Str × V) := match e.key with
  | .str x _ => (absV e.val).map fun v => (x, v)
  | _ => none
def glo (K : PySem.W.Frag) (x : Str) : Bool := He.eqO (PySem.W.nsIn K mainGlobals x) (some (some (.ref (He.ga K x))))
def tupW (K : PySem.W.Frag) (a : Addr) : Option (List (Option V)) := match K.lookup a with
  | some ⟨.type c, _, .seq its _, _⟩ => (match decide (c = "tuple") with
    | true => some (its.toList.map absV)
    | false => none)
  | _ => none
theorem tupW_ok {K : PySem.W.Frag} {a : Addr} {vs : List (Option V)} (h : tupW K a = some vs) :
    ∃ (d : Option Addr) (its : Array Value) (n : Nat) (sl : Array (Option Value)), K.lookup a = some ⟨.type "tuple", d, .seq its n, sl⟩ ∧ its.toList.map absV = vs := by
  unfold tupW at h
  split at h
  · rename_i c d its n sl q
    split at h
    · rename_i e
      cases of_decide_eq_true e
      exact ⟨d, its, n, sl, q, Option.some.inj h⟩
    · cases h
  · cases h
def entW (K : PySem.W.Frag) (a : Addr) : Option (List (Option (Str × V))) := match K.lookup a with
  | some ⟨_, _, .dict es _, _⟩ => some (es.toList.map absE)
  | _ => none
theorem dict_ok {K : PySem.W.Frag} {a : Addr} {w : World} {ks : List Str} {vs : List (Option (Str × V))} (h : He.dicW K a = some (He.keysIn w.params ks)) (hv : entW K a = some vs) :
    ∃ (es : Array DictEntry) (n : Nat), K.lookup a = some ⟨.type "dict", none, .dict es n, #[]⟩ ∧ PySem.W.KeysLit w.params es.toList ∧ (a == sysModules) = false ∧ es.toList.map absE = vs := by
  obtain ⟨es, n, D⟩ := He.dicW_ok h
  unfold entW at hv
  rw [D.at_] at hv
  exact ⟨es, n, D.at_, D.lit, D.low, Option.some.inj hv⟩
/-- where the i-th value of a table stands -/
def rA (K : PySem.W.Frag) (a : Addr) (i : Nat) : Addr := match K.lookup a with
  | some ⟨_, _, .dict es _, _⟩ => (match es.toList[i]? with
    | some e => (match e.val with
      | .ref r => r
      | _ => 0)
    | none => 0)
  | _ => 0
def rowsAt (K : PySem.W.Frag) (a : Addr) : Nat → List (String × List V) → List (Option (Str × V))
  | _, [] => []
  | i, q :: r => some (Str.ofString q.1, V.ref (rA K a i)) :: rowsAt K a (i + 1) r
def rowsOk (K : PySem.W.Frag) (a : Addr) : Nat → List (String × List V) → Bool
  | _, [] => true
  | i, q :: r => decide (tupW K (rA K a i) = some (q.2.map some)) && rowsOk K a (i + 1) r
theorem rowsOk_at {K : PySem.W.Frag} {a : Addr} : ∀ {i : Nat} {l : List (String × List V)}, rowsOk K a i l = true → ∀ (j : Nat) (q : String × List V), l[j]? = some q → tupW K (rA K a (i + j)) = some (q.2.map some)
  | i, [], _, j, q, e => by cases j <;> cases e
  | i, p :: r, h, 0, q, e => by
    cases e
    exact of_decide_eq_true (He.ba h).1
  | i, p :: r, h, j + 1, q, e => by
    have z := rowsOk_at (He.ba h).2 j q e
    rw [show i + (j + 1) = i + 1 + j by omega]
    exact z
/-- an own error of the top -/
def oxB (K : PySem.W.Frag) (C : Addr) : Bool := (match K.lookup C with
  | some ⟨.type t, _, .cls cd, sl⟩ => (match cd.mro, sl.toList with
    | .ref D :: bm, [_, _, _, _, some (.builtin n), _] => decide (t = "type") && (decide (D = C) && (decide (n = "ValueError.__new__") && (!cd.hasDel && (cd.hasDict && PySem.HandSPX.refsVE bm))))
    | _, _ => false)
  | _ => false) && (He.eqO (PySem.W.findIn K (.ref C) "__setattr__") (some (some (.builtin "object.__setattr__"))) && (decide (PySem.W.subIn K (.ref C) (.type "BaseException") = some true) && (decide (PySem.W.typeIn K (.ref C) = some (.type "type")) && (PySem.W.keepIn K (.ref C) && PySem.W.isClsIn K C))))
theorem oxB_ok {K : PySem.W.Frag} {C : Addr} (h : oxB K C = true) : OexC K C ∧ PySem.W.isClsIn K C = true := by
  obtain ⟨h1, h2⟩ := He.ba h
  obtain ⟨h3, h4⟩ := He.ba h2
  obtain ⟨h5, h6⟩ := He.ba h4
  obtain ⟨h7, h8⟩ := He.ba h6
  obtain ⟨h9, hA⟩ := He.ba h8
  refine ⟨⟨?_, He.eqO_ok h3, of_decide_eq_true h5, of_decide_eq_true h7, h9⟩, hA⟩
  split at h1
  · rename_i t dd cd sl ho
    split at h1
    · rename_i D bm k0 k1 k2 k3 n k5 hm hs
      obtain ⟨a1, a2⟩ := He.ba h1
      obtain ⟨a3, a4⟩ := He.ba a2
      obtain ⟨a5, a6⟩ := He.ba a4
      obtain ⟨a7, a8⟩ := He.ba a6
      obtain ⟨a9, aA⟩ := He.ba a8
      cases of_decide_eq_true a1
      cases of_decide_eq_true a3
      cases of_decide_eq_true a5
      obtain ⟨nm, bs, mro, ns, qn, hdict, sn, sub, ab, col, dels⟩ := cd
      dsimp only at hm a7 a9
      have a7' : dels = false := by cases dels with
        | true => cases a7
        | false => rfl
      subst hm a7' a9
      have hsl : sl = #[k0, k1, k2, k3, some (.builtin "ValueError.__new__"), k5] := by
        obtain ⟨l⟩ := sl
        simp only at hs
        rw [hs]
      subst hsl
      exact ⟨nm, qn, ns, bs, bm, sn, sub, ab, col, dd, k0, k1, k2, k3, k5, ho, aA⟩
    · cases h1
  · cases h1
/-- values that are what names of the top lead to -/
def refsAt (K : PySem.W.Frag) (rows : List (String × Str)) : List (Option (Str × V)) := rows.map fun q => some (Str.ofString q.1, V.ref (He.ga K q.2))
/-- C.m is a plain def, found on the class itself -/
def unB (K : PySem.W.Frag) (C : Addr) (m : Str) : Bool := PySem.W.readsIn K C (.type "type") && (He.eqO (PySem.W.specialIn K (.ref C) "__getattribute__") (some (some (.builtin "type.__getattribute__"))) && (PySem.W.keepIn K (.ref (He.ma K C m)) && (match PySem.W.findCls K (.ref C) (.type "type") m with
  | some (.val (.ref a)) => decide (a = He.ma K C m)
  | _ => false)))
theorem unB_ok {K : PySem.W.Frag} {C : Addr} {m : Str} (h : unB K C m = true) : PySem.W.readsIn K C (.type "type") = true ∧ PySem.W.specialIn K (.ref C) "__getattribute__" = some (some (.builtin "type.__getattribute__")) ∧ PySem.W.keepIn K (.ref (He.ma K C m)) = true ∧ PySem.W.findCls K (.ref C) (.type "type") m = some (.val (.ref (He.ma K C m))) := by
  obtain ⟨h1, h2⟩ := He.ba h
  obtain ⟨h3, h4⟩ := He.ba h2
  obtain ⟨h5, h6⟩ := He.ba h4
  refine ⟨h1, He.eqO_ok h3, h5, ?_⟩
  split at h6
  · rename_i a e
    rw [e, of_decide_eq_true h6]
  · cases h6
/-- what isinstance asks of an instance's class -/
def iiB (K : PySem.W.Frag) (C : Addr) : Bool := He.eqO (PySem.W.findIn K (.ref C) "__class__") (some (some (.builtin "object.__class__"))) && (He.eqO (PySem.W.specialIn K (.builtin "object.__class__") "__get__") (some (some (.builtin "getset_descriptor.__get__"))) && (decide (PySem.W.takesIn K (.builtin "object.__class__") = some true) && decide (PySem.W.mroIn K C (.type "object") = some true)))
theorem iiB_ok {K : PySem.W.Frag} {C : Addr} (h : iiB K C = true) : PySem.W.findIn K (.ref C) "__class__" = some (some (.builtin "object.__class__")) ∧ PySem.W.specialIn K (.builtin "object.__class__") "__get__" = some (some (.builtin "getset_descriptor.__get__")) ∧ PySem.W.takesIn K (.builtin "object.__class__") = some true ∧ PySem.W.mroIn K C (.type "object") = some true := by
  obtain ⟨h1, h2⟩ := He.ba h
  obtain ⟨h3, h4⟩ := He.ba h2
  obtain ⟨h5, h6⟩ := He.ba h4
  exact ⟨He.eqO_ok h1, He.eqO_ok h3, of_decide_eq_true h5, of_decide_eq_true h6⟩
def Fc.ob (K : PySem.W.Frag) : Fc → Ob
  | .un x m => .b (unB K (He.ga K x) m)
  | .ii x => .b (iiB K (He.ga K x))
  | .fa f => .b (f.ok K)
  | .st x z => .b (match PySem.W.nsIn K mainGlobals x with
    | some (some (.str u _)) => decide (u = z)
    | _ => false)
  | .it x i => .b (match PySem.W.nsIn K mainGlobals x with
    | some (some (.int u _)) => decide (u = i)
    | _ => false)
  | .df d => .fn (d.ok K) (He.fnW K d.at_)
  | .tu x _ => .sq (glo K x) (tupW K (He.ga K x))
  | .di x _ => .dk (glo K x) (He.dicW K (He.ga K x)) (entW K (He.ga K x))
  | .ro x rows => .dk (glo K x && (decide (entW K (He.ga K x) = some (rowsAt K (He.ga K x) 0 rows)) && rowsOk K (He.ga K x) 0 rows)) (He.dicW K (He.ga K x)) none
  | .ox x => .b (glo K x && oxB K (He.ga K x))
  | .dg x rows => .dk (glo K x && decide (entW K (He.ga K x) = some (refsAt K rows))) (He.dicW K (He.ga K x)) none
def Fc.val (w : World) : Fc → Ob
  | .un _ _ => .b true
  | .ii _ => .b true
  | .fa _ => .b true
  | .st _ _ => .b true
  | .it _ _ => .b true
  | .df d => .fn true d.val
  | .tu _ xs => .sq true (some (xs.map some))
  | .di _ kvs => .dk true (some (He.keysIn w.params (kvs.map fun q => Str.ofString q.1))) (some (kvs.map fun q => some (Str.ofString q.1, q.2)))
  | .ro _ rows => .dk true (some (He.keysIn w.params (rows.map fun q => Str.ofString q.1))) none
  | .ox _ => .b true
  | .dg _ rows => .dk true (some (He.keysIn w.params (rows.map fun q => Str.ofString q.1))) none
def obs (fs : List Fc) (K : PySem.W.Frag) : List Ob := fs.map (Fc.ob K)
def val (fs : List Fc) (w : World) : List Ob := fs.map (Fc.val w)
def Says (fs : List Fc) (w : World) (K : PySem.W.Frag) : Prop := obs fs K = val fs w
def hook (fs : List Fc) : PySem.W.Hook where
  α := List Ob
  obs := fun s => obs fs (frag s.heap.get? s.heap.objs.size)
  val := val fs
  says := fun w h => ∃ K : PySem.W.Frag, K.In h ∧ Says fs w K
  of := fun _ _ e => ⟨_, He.frG_in, e⟩
  keeps := fun _ _ _ ⟨K, kin, says⟩ still => ⟨K, PySem.W.Frag.In.keeps kin still, says⟩
/-- the same, off the tree -/
def ob (fs : List Fc) (s : PySem.W.SharedT) : List Ob := obs fs (frag (HandSHeadRun.getT s) s.n)
theorem ob_eq (fs : List Fc) (s : PySem.W.SharedT) : ob fs s = (hook fs).obs s.abs := by
  have e : HandSHeadRun.getT s = s.abs.heap.get? := funext fun a => HandSHeadRun.getT_eq s a
  have n : s.abs.heap.objs.size = s.n := PySem.W.absHeap_size s.tree s.n s.life
  show obs fs (frag (HandSHeadRun.getT s) s.n) = obs fs (frag s.abs.heap.get? s.abs.heap.objs.size)
  rw [e, n]
section
variable {fs : List Fc} {w : World} {K : PySem.W.Frag}
theorem Says.at (c : Says fs w K) (i : Nat) {f : Fc} (h : fs[i]? = some f) : f.ob K = f.val w := by
  have e : (fs.map (Fc.ob K))[i]? = (fs.map (Fc.val w))[i]? := congrArg (fun z : List Ob => z[i]?) c
  rw [List.getElem?_map, List.getElem?_map, h] at e
  exact Option.some.inj e
theorem Says.fa (c : Says fs w K) (i : Nat) {f : He.Fa} (h : fs[i]? = some (.fa f)) : f.ok K = true := by
  have e := c.at i h
  exact Ob.b.inj e
theorem Says.free (c : Says fs w K) (i : Nat) {x : Str} (h : fs[i]? = some (.fa (.free x))) : PySem.W.nsIn K mainGlobals x = some none := He.eqO_ok (c.fa i h)
theorem Says.st (c : Says fs w K) (i : Nat) {x z : Str} (h : fs[i]? = some (.st x z)) : ∃ (y : Str) (t : Tok), PySem.W.nsIn K mainGlobals x = some (some (.str y t)) ∧ y = z := by
  have e : (match PySem.W.nsIn K mainGlobals x with
    | some (some (.str u _)) => decide (u = z)
    | _ => false) = true := Ob.b.inj (c.at i h)
  split at e
  · rename_i y t q
    exact ⟨y, t, q, of_decide_eq_true e⟩
  · cases e
theorem Says.it (c : Says fs w K) (i : Nat) {x : Str} {j : Int} (h : fs[i]? = some (.it x j)) : ∃ t : Tok, PySem.W.nsIn K mainGlobals x = some (some (.int j t)) := by
  have e : (match PySem.W.nsIn K mainGlobals x with
    | some (some (.int y _)) => decide (y = j)
    | _ => false) = true := Ob.b.inj (c.at i h)
  split at e
  · rename_i y t q
    cases of_decide_eq_true e
    exact ⟨t, q⟩
  · cases e
theorem Says.un (c : Says fs w K) (i : Nat) {x m : Str} (h : fs[i]? = some (.un x m)) : unB K (He.ga K x) m = true := Ob.b.inj (c.at i h)
theorem Says.ii (c : Says fs w K) (i : Nat) {x : Str} (h : fs[i]? = some (.ii x)) : iiB K (He.ga K x) = true := Ob.b.inj (c.at i h)
theorem Says.df (c : Says fs w K) (i : Nat) {d : He.DefD} (h : fs[i]? = some (.df d)) : ∃ fd, FunD K d.name d.qual d.params d.body d.scope (d.dvs K) (d.kws K) (He.fAd K d.at_) fd := by
  obtain ⟨e1, e2⟩ := Ob.fn.inj (c.at i h)
  exact He.DefD.funD e2 e1
theorem Says.tu (c : Says fs w K) (i : Nat) {x : Str} {xs : List V} (h : fs[i]? = some (.tu x xs)) :
    PySem.W.nsIn K mainGlobals x = some (some (.ref (He.ga K x))) ∧ ∃ (d : Option Addr) (its : Array Value) (n : Nat) (sl : Array (Option Value)), K.lookup (He.ga K x) = some ⟨.type "tuple", d, .seq its n, sl⟩ ∧ its.toList.map absV = xs.map some := by
  obtain ⟨e1, e2⟩ := Ob.sq.inj (c.at i h)
  exact ⟨He.eqO_ok e1, tupW_ok e2⟩
theorem Says.di (c : Says fs w K) (i : Nat) {x : Str} {kvs : List (String × V)} (h : fs[i]? = some (.di x kvs)) :
    PySem.W.nsIn K mainGlobals x = some (some (.ref (He.ga K x))) ∧ ∃ (es : Array DictEntry) (n : Nat), K.lookup (He.ga K x) = some ⟨.type "dict", none, .dict es n, #[]⟩ ∧ PySem.W.KeysLit w.params es.toList ∧ (He.ga K x == sysModules) = false ∧ es.toList.map absE = kvs.map fun q => some (Str.ofString q.1, q.2) := by
  obtain ⟨e1, e2, e3⟩ := Ob.dk.inj (c.at i h)
  exact ⟨He.eqO_ok e1, dict_ok e2 e3⟩
theorem Says.ro (c : Says fs w K) (i : Nat) {x : Str} {rows : List (String × List V)} (h : fs[i]? = some (.ro x rows)) :
    PySem.W.nsIn K mainGlobals x = some (some (.ref (He.ga K x))) ∧ (∃ (es : Array DictEntry) (n : Nat), K.lookup (He.ga K x) = some ⟨.type "dict", none, .dict es n, #[]⟩ ∧ PySem.W.KeysLit w.params es.toList ∧ (He.ga K x == sysModules) = false ∧ es.toList.map absE = rowsAt K (He.ga K x) 0 rows) ∧
      ∀ (j : Nat) (q : String × List V), rows[j]? = some q → ∃ (d : Option Addr) (its : Array Value) (n : Nat) (sl : Array (Option Value)), K.lookup (rA K (He.ga K x) j) = some ⟨.type "tuple", d, .seq its n, sl⟩ ∧ its.toList.map absV = q.2.map some := by
  obtain ⟨e1, e2, _⟩ := Ob.dk.inj (c.at i h)
  obtain ⟨g1, g2⟩ := He.ba e1
  obtain ⟨g3, g4⟩ := He.ba g2
  refine ⟨He.eqO_ok g1, dict_ok e2 (of_decide_eq_true g3), fun j q hq => ?_⟩
  have z := rowsOk_at g4 j q hq
  rw [Nat.zero_add] at z
  exact tupW_ok z
theorem Says.dg (c : Says fs w K) (i : Nat) {x : Str} {rows : List (String × Str)} (h : fs[i]? = some (.dg x rows)) :
    PySem.W.nsIn K mainGlobals x = some (some (.ref (He.ga K x))) ∧ ∃ (es : Array DictEntry) (n : Nat), K.lookup (He.ga K x) = some ⟨.type "dict", none, .dict es n, #[]⟩ ∧ PySem.W.KeysLit w.params es.toList ∧ (He.ga K x == sysModules) = false ∧ es.toList.map absE = refsAt K rows := by
  obtain ⟨e1, e2, _⟩ := Ob.dk.inj (c.at i h)
  obtain ⟨g1, g2⟩ := He.ba e1
  exact ⟨He.eqO_ok g1, dict_ok e2 (of_decide_eq_true g2)⟩
theorem Says.ox (c : Says fs w K) (i : Nat) {x : Str} (h : fs[i]? = some (.ox x)) : PySem.W.nsIn K mainGlobals x = some (some (.ref (He.ga K x))) ∧ OexC K (He.ga K x) ∧ PySem.W.isClsIn K (He.ga K x) = true := by
  obtain ⟨e1, e2⟩ := He.ba (Ob.b.inj (c.at i h))
  exact ⟨He.eqO_ok e1, oxB_ok e2⟩
end
theorem size_of {its : Array Value} {xs : List V} (v : its.toList.map absV = xs.map some) {k : Nat} (h : xs.length ≤ k) : its.size ≤ k := by
  have elen := congrArg List.length v
  rw [List.length_map, List.length_map] at elen
  have e2 : its.toList.length = its.size := Array.length_toList
  omega
/-! ### a run for each part of the facts -/
theorem opt_join {A B C : Type} {o : Option A} {l : A → B} {m : A → C} {x y z : A → List Ob} {bv : B} {cv : C} {xv yv zv : List Ob} (hz : ∀ s, z s = x s ++ y s) (hv : zv = xv ++ yv)
    (h1 : o.map (fun s => (l s, m s, x s)) = some (bv, cv, xv)) (h2 : o.map y = some yv) : o.map (fun s => (l s, m s, z s)) = some (bv, cv, zv) := by
  cases o with
  | none => cases h1
  | some s =>
    have e1 : (l s, m s, x s) = (bv, cv, xv) := Option.some.inj h1
    have e2 : y s = yv := Option.some.inj h2
    obtain ⟨a, e3⟩ := Prod.mk.inj e1
    obtain ⟨b, c⟩ := Prod.mk.inj e3
    show some (l s, m s, z s) = some (bv, cv, zv)
    rw [hz s, hv, a, b, c, e2]
def Half (r : PySem.W.OpenRow) (fb : List Fc) (M : Nat) (w : World) : Prop :=
  ∀ os : OsState, (HandSHeadRun.endF (HandSHeadRun.stepQ (HandSHeadRun.denQ HandSHeadRun.tabQ) r.prog w) M r.prog w os).map (ob fb) = some (val fb w)
theorem join {r : PySem.W.OpenRow} {q : Program} {M : Nat} {loose : List Str} {w : World} {fa fb : List Fc} (h1 : HandSHeadRun.RunEq r q (hook fa) (ob fa) M loose w) (h2 : Half r fb M w) :
    HandSHeadRun.RunEq r q (hook (fa ++ fb)) (ob (fa ++ fb)) M loose w :=
  fun os => opt_join (fun _ => List.map_append) List.map_append (h1 os) (h2 os)
end Hd
set_option maxRecDepth 100000
set_option maxHeartbeats 0
noncomputable section
namespace HdR
open PySem PySem.Spec L2 PyProof.Rows
open Wk (top greats)
def sortL : List String := ["text", "list", "object", "function", "cell", "tie"]
def numsL : List (String × V) := [("text", .int 0), ("list", .int 1), ("object", .int 2), ("function", .int 3), ("cell", .int 4), ("tie", .int 5)]
def nm0 : List PySem.Str := [("_wall" : PySem.Str), ("__name__" : PySem.Str), ("HeapError" : PySem.Str), ("NoNumber" : PySem.Str), ("NoRoom" : PySem.Str), ("NoSort" : PySem.Str), ("NoItems" : PySem.Str), ("NoHandle" : PySem.Str), ("NoThing" : PySem.Str), ("NoPlace" : PySem.Str), ("BadRoom" : PySem.Str), ("HeapFull" : PySem.Str), ("is_integer" : PySem.Str), ("TAGS" : PySem.Str), ("THING_TAG" : PySem.Str), ("INTEGER_TAG" : PySem.Str), ("NIL_WORD" : PySem.Str), ("LEAST_INTEGER" : PySem.Str), ("GREATEST_INTEGER" : PySem.Str), ("GREATEST" : PySem.Str), ("is_word" : PySem.Str), ("is_of_tag" : PySem.Str), ("SORTS" : PySem.Str), ("SORT_NUMBERS" : PySem.Str), ("TEXT_SORT" : PySem.Str), ("TIE_SORT" : PySem.Str), ("AHEAD" : PySem.Str), ("MOST_WORDS" : PySem.Str), ("FIRST_SIGN" : PySem.Str), ("LAST_SIGN" : PySem.Str), ("BARRED_SIGN" : PySem.Str), ("is_things" : PySem.Str), ("may_be" : PySem.Str), ("may_be_many" : PySem.Str), ("may_stand" : PySem.Str), ("is_signs" : PySem.Str), ("is_sign" : PySem.Str), ("Laid" : PySem.Str), ("addresses_in" : PySem.Str), ("come_to" : PySem.Str)]
def nm1 : List PySem.Str := [("room_of" : PySem.Str), ("MOST_STEPS" : PySem.Str), ("is_many_steps" : PySem.Str), ("LEAST_YOUNG" : PySem.Str), ("MOST_YOUNG" : PySem.Str), ("MOST_OLD" : PySem.Str), ("MOST_PACE" : PySem.Str), ("Room" : PySem.Str), ("check_room" : PySem.Str), ("GATHERS" : PySem.Str), ("TURNS" : PySem.Str), ("LOOKS" : PySem.Str), ("WHOLES" : PySem.Str), ("Bound" : PySem.Str), ("Endless" : PySem.Str), ("Layout" : PySem.Str), ("store_for" : PySem.Str), ("layout_with" : PySem.Str), ("Heap" : PySem.Str), ("_law_bag" : PySem.Str), ("_law_pick" : PySem.Str), ("_law_is" : PySem.Str), ("_law_chain" : PySem.Str), ("_law_lies" : PySem.Str), ("_law_turn_right" : PySem.Str), ("_law_pace_right" : PySem.Str), ("_law_great_right" : PySem.Str)]
def names : List PySem.Str := nm0 ++ nm1
abbrev s_is_integer : Stmt := top 13
abbrev d_is_integer : He.DefD := ⟨("is_integer", none), "is_integer", "is_integer", defArgs s_is_integer, defBody s_is_integer, defScope s_is_integer, [], []⟩
abbrev s_is_of_tag : Stmt := top 23
abbrev d_is_of_tag : He.DefD := ⟨("is_of_tag", none), "is_of_tag", "is_of_tag", defArgs s_is_of_tag, defBody s_is_of_tag, defScope s_is_of_tag, [], []⟩
abbrev s_is_word : Stmt := top 22
abbrev d_is_word : He.DefD := ⟨("is_word", none), "is_word", "is_word", defArgs s_is_word, defBody s_is_word, defScope s_is_word, [], []⟩
abbrev s_is_things : Stmt := top 34
abbrev d_is_things : He.DefD := ⟨("is_things", none), "is_things", "is_things", defArgs s_is_things, defBody s_is_things, defScope s_is_things, [], []⟩
abbrev s_is_sign : Stmt := top 39
abbrev d_is_sign : He.DefD := ⟨("is_sign", none), "is_sign", "is_sign", defArgs s_is_sign, defBody s_is_sign, defScope s_is_sign, [], []⟩
abbrev s_is_signs : Stmt := top 38
abbrev d_is_signs : He.DefD := ⟨("is_signs", none), "is_signs", "is_signs", defArgs s_is_signs, defBody s_is_signs, defScope s_is_signs, [], []⟩
abbrev s_may_be_many : Stmt := top 36
abbrev d_may_be_many : He.DefD := ⟨("may_be_many", none), "may_be_many", "may_be_many", defArgs s_may_be_many, defBody s_may_be_many, defScope s_may_be_many, [], []⟩
abbrev s_may_stand : Stmt := top 37
abbrev d_may_stand : He.DefD := ⟨("may_stand", none), "may_stand", "may_stand", defArgs s_may_stand, defBody s_may_stand, defScope s_may_stand, [], []⟩
abbrev s_may_be : Stmt := top 35
abbrev d_may_be : He.DefD := ⟨("may_be", none), "may_be", "may_be", defArgs s_may_be, defBody s_may_be, defScope s_may_be, [], []⟩
abbrev s_is_many_steps : Stmt := top 47
abbrev d_is_many_steps : He.DefD := ⟨("is_many_steps", none), "is_many_steps", "is_many_steps", defArgs s_is_many_steps, defBody s_is_many_steps, defScope s_is_many_steps, [], []⟩
abbrev s_Bound__begin_of : Stmt := inClass (top 60) 1
abbrev d_Bound__begin_of : He.DefD := ⟨("Bound", some "begin_of"), "begin_of", "Bound.begin_of", defArgs s_Bound__begin_of, defBody s_Bound__begin_of, defScope s_Bound__begin_of, [], []⟩
abbrev s_Bound__end_of : Stmt := inClass (top 60) 13
abbrev d_Bound__end_of : He.DefD := ⟨("Bound", some "end_of"), "end_of", "Bound.end_of", defArgs s_Bound__end_of, defBody s_Bound__end_of, defScope s_Bound__end_of, [], []⟩
abbrev s_Bound__moved : Stmt := inClass (top 60) 9
abbrev d_Bound__moved : He.DefD := ⟨("Bound", some "moved"), "moved", "Bound.moved", defArgs s_Bound__moved, defBody s_Bound__moved, defScope s_Bound__moved, [], []⟩
abbrev s_Bound__lead_on : Stmt := inClass (top 60) 10
abbrev d_Bound__lead_on : He.DefD := ⟨("Bound", some "lead_on"), "lead_on", "Bound.lead_on", defArgs s_Bound__lead_on, defBody s_Bound__lead_on, defScope s_Bound__lead_on, [], []⟩
abbrev s_Heap__root_rows : Stmt := inClass (top 69) 1
abbrev d_Heap__root_rows : He.DefD := ⟨("Heap", some "root_rows"), "root_rows", "Heap.root_rows", defArgs s_Heap__root_rows, defBody s_Heap__root_rows, defScope s_Heap__root_rows, [], []⟩
abbrev s_Bound__lead_roots : Stmt := inClass (top 60) 11
abbrev d_Bound__lead_roots : He.DefD := ⟨("Bound", some "lead_roots"), "lead_roots", "Bound.lead_roots", defArgs s_Bound__lead_roots, defBody s_Bound__lead_roots, defScope s_Bound__lead_roots, [], []⟩
abbrev s_Bound__filled_words : Stmt := inClass (top 60) 2
abbrev d_Bound__filled_words : He.DefD := ⟨("Bound", some "filled_words"), "filled_words", "Bound.filled_words", defArgs s_Bound__filled_words, defBody s_Bound__filled_words, defScope s_Bound__filled_words, [], []⟩
abbrev s_Bound__remember : Stmt := inClass (top 60) 5
abbrev d_Bound__remember : He.DefD := ⟨("Bound", some "remember"), "remember", "Bound.remember", defArgs s_Bound__remember, defBody s_Bound__remember, defScope s_Bound__remember, [], []⟩
abbrev s_Bound__empty_nursery : Stmt := inClass (top 60) 15
abbrev d_Bound__empty_nursery : He.DefD := ⟨("Bound", some "empty_nursery"), "empty_nursery", "Bound.empty_nursery", defArgs s_Bound__empty_nursery, defBody s_Bound__empty_nursery, defScope s_Bound__empty_nursery, [], []⟩
abbrev s_Bound__change_halves : Stmt := inClass (top 60) 16
abbrev d_Bound__change_halves : He.DefD := ⟨("Bound", some "change_halves"), "change_halves", "Bound.change_halves", defArgs s_Bound__change_halves, defBody s_Bound__change_halves, defScope s_Bound__change_halves, [], []⟩
abbrev s_Bound__end_if_done : Stmt := inClass (top 60) 18
abbrev d_Bound__end_if_done : He.DefD := ⟨("Bound", some "end_if_done"), "end_if_done", "Bound.end_if_done", defArgs s_Bound__end_if_done, defBody s_Bound__end_if_done, defScope s_Bound__end_if_done, [], []⟩
abbrev s_Bound__write : Stmt := inClass (top 60) 8
abbrev d_Bound__write : He.DefD := ⟨("Bound", some "write"), "write", "Bound.write", defArgs s_Bound__write, defBody s_Bound__write, defScope s_Bound__write, [], []⟩
abbrev s_Bound__lead_left : Stmt := inClass (top 60) 12
abbrev d_Bound__lead_left : He.DefD := ⟨("Bound", some "lead_left"), "lead_left", "Bound.lead_left", defArgs s_Bound__lead_left, defBody s_Bound__lead_left, defScope s_Bound__lead_left, [], []⟩
abbrev s_Bound__gather : Stmt := inClass (top 60) 14
abbrev d_Bound__gather : He.DefD := ⟨("Bound", some "gather"), "gather", "Bound.gather", defArgs s_Bound__gather, defBody s_Bound__gather, defScope s_Bound__gather, [], []⟩
abbrev s_Bound__steps : Stmt := inClass (top 60) 19
abbrev d_Bound__steps : He.DefD := ⟨("Bound", some "steps"), "steps", "Bound.steps", defArgs s_Bound__steps, defBody s_Bound__steps, defScope s_Bound__steps, [], []⟩
abbrev s_Bound__end_turn : Stmt := inClass (top 60) 20
abbrev d_Bound__end_turn : He.DefD := ⟨("Bound", some "end_turn"), "end_turn", "Bound.end_turn", defArgs s_Bound__end_turn, defBody s_Bound__end_turn, defScope s_Bound__end_turn, [], []⟩
abbrev s_Bound__turn : Stmt := inClass (top 60) 17
abbrev d_Bound__turn : He.DefD := ⟨("Bound", some "turn"), "turn", "Bound.turn", defArgs s_Bound__turn, defBody s_Bound__turn, defScope s_Bound__turn, [], []⟩
abbrev s_Bound__copy_all : Stmt := inClass (top 60) 22
abbrev d_Bound__copy_all : He.DefD := ⟨("Bound", some "copy_all"), "copy_all", "Bound.copy_all", defArgs s_Bound__copy_all, defBody s_Bound__copy_all, defScope s_Bound__copy_all, [], []⟩
abbrev s_Bound__whole : Stmt := inClass (top 60) 21
abbrev d_Bound__whole : He.DefD := ⟨("Bound", some "whole"), "whole", "Bound.whole", defArgs s_Bound__whole, defBody s_Bound__whole, defScope s_Bound__whole, [], []⟩
abbrev s_Bound__reserve : Stmt := inClass (top 60) 3
abbrev d_Bound__reserve : He.DefD := ⟨("Bound", some "reserve"), "reserve", "Bound.reserve", defArgs s_Bound__reserve, defBody s_Bound__reserve, defScope s_Bound__reserve, [], []⟩
abbrev s_Bound__place : Stmt := inClass (top 60) 4
abbrev d_Bound__place : He.DefD := ⟨("Bound", some "place"), "place", "Bound.place", defArgs s_Bound__place, defBody s_Bound__place, defScope s_Bound__place, [], []⟩
abbrev s_Laid__settled : Stmt := inClass (top 40) 1
abbrev d_Laid__settled : He.DefD := ⟨("Bound", some "settled"), "settled", "Laid.settled", defArgs s_Laid__settled, defBody s_Laid__settled, defScope s_Laid__settled, [], []⟩
abbrev s_Laid__sort_at : Stmt := inClass (top 40) 2
abbrev d_Laid__sort_at : He.DefD := ⟨("Bound", some "sort_at"), "sort_at", "Laid.sort_at", defArgs s_Laid__sort_at, defBody s_Laid__sort_at, defScope s_Laid__sort_at, [], []⟩
abbrev s_Laid__size_at : Stmt := inClass (top 40) 3
abbrev d_Laid__size_at : He.DefD := ⟨("Bound", some "size_at"), "size_at", "Laid.size_at", defArgs s_Laid__size_at, defBody s_Laid__size_at, defScope s_Laid__size_at, [], []⟩
abbrev s_Laid__number_at : Stmt := inClass (top 40) 4
abbrev d_Laid__number_at : He.DefD := ⟨("Bound", some "number_at"), "number_at", "Laid.number_at", defArgs s_Laid__number_at, defBody s_Laid__number_at, defScope s_Laid__number_at, [], []⟩
abbrev s_Laid__words_at : Stmt := inClass (top 40) 5
abbrev d_Laid__words_at : He.DefD := ⟨("Bound", some "words_at"), "words_at", "Laid.words_at", defArgs s_Laid__words_at, defBody s_Laid__words_at, defScope s_Laid__words_at, [], []⟩
abbrev s_Bound__counted_deeds : Stmt := inClass (top 60) 24
abbrev d_Bound__counted_deeds : He.DefD := ⟨("Bound", some "counted_deeds"), "counted_deeds", "Bound.counted_deeds", defArgs s_Bound__counted_deeds, defBody s_Bound__counted_deeds, defScope s_Bound__counted_deeds, [], []⟩
abbrev s_Bound__told_words : Stmt := inClass (top 60) 25
abbrev d_Bound__told_words : He.DefD := ⟨("Bound", some "told_words"), "told_words", "Bound.told_words", defArgs s_Bound__told_words, defBody s_Bound__told_words, defScope s_Bound__told_words, [], []⟩
abbrev s_addresses_in : Stmt := top 42
abbrev d_addresses_in : He.DefD := ⟨("addresses_in", none), "addresses_in", "addresses_in", defArgs s_addresses_in, defBody s_addresses_in, defScope s_addresses_in, [], []⟩
abbrev s_room_of : Stmt := top 44
abbrev d_room_of : He.DefD := ⟨("room_of", none), "room_of", "room_of", defArgs s_room_of, defBody s_room_of, defScope s_room_of, [], []⟩
abbrev s_come_to : Stmt := top 43
abbrev d_come_to : He.DefD := ⟨("come_to", none), "come_to", "come_to", defArgs s_come_to, defBody s_come_to, defScope s_come_to, [], []⟩
abbrev s_Heap__word_held : Stmt := inClass (top 69) 4
abbrev d_Heap__word_held : He.DefD := ⟨("Heap", some "word_held"), "word_held", "Heap.word_held", defArgs s_Heap__word_held, defBody s_Heap__word_held, defScope s_Heap__word_held, [], []⟩
abbrev s_Heap__address_held : Stmt := inClass (top 69) 5
abbrev d_Heap__address_held : He.DefD := ⟨("Heap", some "address_held"), "address_held", "Heap.address_held", defArgs s_Heap__address_held, defBody s_Heap__address_held, defScope s_Heap__address_held, [], []⟩
abbrev s_Heap__is_item : Stmt := inClass (top 69) 6
abbrev d_Heap__is_item : He.DefD := ⟨("Heap", some "is_item"), "is_item", "Heap.is_item", defArgs s_Heap__is_item, defBody s_Heap__is_item, defScope s_Heap__is_item, [], []⟩
abbrev s_Heap__word_of_item : Stmt := inClass (top 69) 7
abbrev d_Heap__word_of_item : He.DefD := ⟨("Heap", some "word_of_item"), "word_of_item", "Heap.word_of_item", defArgs s_Heap__word_of_item, defBody s_Heap__word_of_item, defScope s_Heap__word_of_item, [], []⟩
abbrev s_Heap__address_with_place : Stmt := inClass (top 69) 8
abbrev d_Heap__address_with_place : He.DefD := ⟨("Heap", some "address_with_place"), "address_with_place", "Heap.address_with_place", defArgs s_Heap__address_with_place, defBody s_Heap__address_with_place, defScope s_Heap__address_with_place, [], []⟩
abbrev s_Heap__give_handle : Stmt := inClass (top 69) 3
abbrev d_Heap__give_handle : He.DefD := ⟨("Heap", some "give_handle"), "give_handle", "Heap.give_handle", defArgs s_Heap__give_handle, defBody s_Heap__give_handle, defScope s_Heap__give_handle, [], []⟩
abbrev s_Heap__drop : Stmt := inClass (top 69) 11
abbrev d_Heap__drop : He.DefD := ⟨("Heap", some "drop"), "drop", "Heap.drop", defArgs s_Heap__drop, defBody s_Heap__drop, defScope s_Heap__drop, [], []⟩
abbrev s_Heap__root_pairs : Stmt := inClass (top 69) 2
abbrev d_Heap__root_pairs : He.DefD := ⟨("Heap", some "root_pairs"), "root_pairs", "Heap.root_pairs", defArgs s_Heap__root_pairs, defBody s_Heap__root_pairs, defScope s_Heap__root_pairs, [], []⟩
abbrev s_Heap__come_to_from_handles : Stmt := inClass (top 69) 27
abbrev d_Heap__come_to_from_handles : He.DefD := ⟨("Heap", some "come_to_from_handles"), "come_to_from_handles", "Heap.come_to_from_handles", defArgs s_Heap__come_to_from_handles, defBody s_Heap__come_to_from_handles, defScope s_Heap__come_to_from_handles, [], []⟩
abbrev s_Heap__filled : Stmt := inClass (top 69) 30
abbrev d_Heap__filled : He.DefD := ⟨("Heap", some "filled"), "filled", "Heap.filled", defArgs s_Heap__filled, defBody s_Heap__filled, defScope s_Heap__filled, [], []⟩
abbrev s_Heap__gather : Stmt := inClass (top 69) 21
abbrev d_Heap__gather : He.DefD := ⟨("Heap", some "gather"), "gather", "Heap.gather", defArgs s_Heap__gather, defBody s_Heap__gather, defScope s_Heap__gather, [], []⟩
abbrev s_Heap__turn : Stmt := inClass (top 69) 22
abbrev d_Heap__turn : He.DefD := ⟨("Heap", some "turn"), "turn", "Heap.turn", defArgs s_Heap__turn, defBody s_Heap__turn, defScope s_Heap__turn, [], []⟩
abbrev s_Heap__whole : Stmt := inClass (top 69) 24
abbrev d_Heap__whole : He.DefD := ⟨("Heap", some "whole"), "whole", "Heap.whole", defArgs s_Heap__whole, defBody s_Heap__whole, defScope s_Heap__whole, [], []⟩
abbrev s_Heap__steps : Stmt := inClass (top 69) 23
abbrev d_Heap__steps : He.DefD := ⟨("Heap", some "steps"), "steps", "Heap.steps", defArgs s_Heap__steps, defBody s_Heap__steps, defScope s_Heap__steps, [], []⟩
abbrev s_Heap__counts : Stmt := inClass (top 69) 26
abbrev d_Heap__counts : He.DefD := ⟨("Heap", some "counts"), "counts", "Heap.counts", defArgs s_Heap__counts, defBody s_Heap__counts, defScope s_Heap__counts, [], []⟩
abbrev s_Heap__write : Stmt := inClass (top 69) 17
abbrev d_Heap__write : He.DefD := ⟨("Heap", some "write"), "write", "Heap.write", defArgs s_Heap__write, defBody s_Heap__write, defScope s_Heap__write, [], []⟩
abbrev s_Heap__make : Stmt := inClass (top 69) 9
abbrev d_Heap__make : He.DefD := ⟨("Heap", some "make"), "make", "Heap.make", defArgs s_Heap__make, defBody s_Heap__make, defScope s_Heap__make, [], []⟩
abbrev s_check_room : Stmt := top 54
abbrev d_check_room : He.DefD := ⟨("check_room", none), "check_room", "check_room", defArgs s_check_room, defBody s_check_room, defScope s_check_room, [], []⟩
abbrev s_Layout____init__ : Stmt := inClass (top 64) 0
abbrev d_Layout____init__ : He.DefD := ⟨("Layout", some "__init__"), "__init__", "Layout.__init__", defArgs s_Layout____init__, defBody s_Layout____init__, defScope s_Layout____init__, [], []⟩
abbrev s_layout_with : Stmt := top 67
abbrev d_layout_with : He.DefD := ⟨("layout_with", none), "layout_with", "layout_with", defArgs s_layout_with, defBody s_layout_with, defScope s_layout_with, [], []⟩
abbrev s_Heap__layout : Stmt := inClass (top 69) 20
abbrev d_Heap__layout : He.DefD := ⟨("Heap", some "layout"), "layout", "Heap.layout", defArgs s_Heap__layout, defBody s_Heap__layout, defScope s_Heap__layout, [], []⟩
abbrev s_Laid____init__ : Stmt := inClass (top 40) 0
abbrev d_Laid____init__ : He.DefD := ⟨("Laid", some "__init__"), "__init__", "Laid.__init__", defArgs s_Laid____init__, defBody s_Laid____init__, defScope s_Laid____init__, [], []⟩
abbrev s_Bound____init__ : Stmt := inClass (top 60) 0
abbrev d_Bound____init__ : He.DefD := ⟨("Bound", some "__init__"), "__init__", "Bound.__init__", defArgs s_Bound____init__, defBody s_Bound____init__, defScope s_Bound____init__, [], []⟩
abbrev s_store_for : Stmt := top 66
abbrev d_store_for : He.DefD := ⟨("store_for", none), "store_for", "store_for", defArgs s_store_for, defBody s_store_for, defScope s_store_for, [], []⟩
abbrev s_Heap____init__ : Stmt := inClass (top 69) 0
abbrev d_Heap____init__ : He.DefD := ⟨("Heap", some "__init__"), "__init__", "Heap.__init__", defArgs s_Heap____init__, defBody s_Heap____init__, defScope s_Heap____init__, [], []⟩
abbrev s_Room____init__ : Stmt := inClass (top 53) 0
abbrev d_Room____init__ : He.DefD := ⟨("Room", some "__init__"), "__init__", "Room.__init__", defArgs s_Room____init__, defBody s_Room____init__, defScope s_Room____init__, [], []⟩
abbrev s__law_bag : Stmt := top 71
abbrev d__law_bag : He.DefD := ⟨("_law_bag", none), "_law_bag", "_law_bag", defArgs s__law_bag, defBody s__law_bag, defScope s__law_bag, [], []⟩
abbrev s__law_pick : Stmt := top 72
abbrev d__law_pick : He.DefD := ⟨("_law_pick", none), "_law_pick", "_law_pick", defArgs s__law_pick, defBody s__law_pick, defScope s__law_pick, [], []⟩
abbrev s__law_is : Stmt := top 73
abbrev d__law_is : He.DefD := ⟨("_law_is", none), "_law_is", "_law_is", defArgs s__law_is, defBody s__law_is, defScope s__law_is, [], []⟩
abbrev s__law_chain : Stmt := top 74
abbrev d__law_chain : He.DefD := ⟨("_law_chain", none), "_law_chain", "_law_chain", defArgs s__law_chain, defBody s__law_chain, defScope s__law_chain, [], []⟩
abbrev s__law_lies : Stmt := top 75
abbrev d__law_lies : He.DefD := ⟨("_law_lies", none), "_law_lies", "_law_lies", defArgs s__law_lies, defBody s__law_lies, defScope s__law_lies, [], []⟩
abbrev s__law_turn_right : Stmt := top 76
abbrev d__law_turn_right : He.DefD := ⟨("_law_turn_right", none), "_law_turn_right", "_law_turn_right", defArgs s__law_turn_right, defBody s__law_turn_right, defScope s__law_turn_right, [], []⟩
abbrev s__law_pace_right : Stmt := top 77
abbrev d__law_pace_right : He.DefD := ⟨("_law_pace_right", none), "_law_pace_right", "_law_pace_right", defArgs s__law_pace_right, defBody s__law_pace_right, defScope s__law_pace_right, [], []⟩
abbrev s__law_great_right : Stmt := top 78
abbrev d__law_great_right : He.DefD := ⟨("_law_great_right", none), "_law_great_right", "_law_great_right", defArgs s__law_great_right, defBody s__law_great_right, defScope s__law_great_right, [], []⟩
abbrev s_law : Stmt := top 79
abbrev d_law : He.DefD := ⟨("law", none), "law", "law", defArgs s_law, defBody s_law, defScope s_law, [], []⟩
def fs0 : List Hd.Fc := [.fa (.free "len"), .fa (.free "int"), .fa (.free "abs"), .fa (.free "isinstance"), .fa (.free "bool"), .fa (.free "range"), .fa (.free "sum"), .fa (.free "repr"), .fa (.free "list"), .fa (.free "tuple"), .fa (.free "enumerate"), .fa (.free "all"), .fa (.free "str"), .it "TAGS" (8), .it "INTEGER_TAG" (1), .it "LEAST_INTEGER" (-(2 ^ 59)), .it "LEAST_YOUNG" (8), .it "MOST_YOUNG" (100000), .it "MOST_OLD" (1000000), .it "MOST_PACE" (1000), .tu "GREATEST" (greats), .it "THING_TAG" (0), .it "NIL_WORD" (3), .it "TEXT_SORT" (0), .it "TIE_SORT" (5), .it "AHEAD" (2), .it "MOST_WORDS" (60000), .it "FIRST_SIGN" (32), .it "LAST_SIGN" (126), .it "BARRED_SIGN" (37), .it "GATHERS" (0), .it "TURNS" (1), .it "LOOKS" (2), .it "WHOLES" (3), .it "MOST_STEPS" (1000000000), .tu "SORTS" (sortL.map fun x => V.str (Str.ofString x)), .di "SORT_NUMBERS" numsL, .fa (.cls "Bound"), .fa (.noat "Bound" "words"), .fa (.noat "Bound" "room"), .fa (.noat "Bound" "owner"), .fa (.noat "Bound" "use"), .fa (.noat "Bound" "free"), .fa (.noat "Bound" "scan"), .fa (.noat "Bound" "top"), .fa (.noat "Bound" "left"), .fa (.noat "Bound" "copied"), .fa (.noat "Bound" "remembered"), .fa (.noat "Bound" "last"), .fa (.noat "Bound" "tally"), .fa (.cls "Heap"), .fa (.noat "Heap" "handles"), .fa (.noat "Heap" "next_handle"), .fa (.noat "Heap" "store"), .fa (.cls "Room"), .fa (.noat "Room" "young"), .fa (.noat "Room" "old"), .fa (.noat "Room" "pace"), .fa (.cls "Layout"), .ii "Room", .fa (.glo "Room"), .fa (.noat "Layout" "room"), .fa (.noat "Layout" "words"), .fa (.noat "Layout" "use"), .fa (.noat "Layout" "free"), .fa (.noat "Layout" "scan"), .fa (.noat "Layout" "top"), .fa (.noat "Layout" "left"), .fa (.noat "Layout" "copied"), .fa (.noat "Layout" "remembered"), .fa (.noat "Layout" "roots"), .fa (.noat "Layout" "last"), .fa (.glo "is_integer"), .df d_is_integer, .fa (.glo "is_of_tag"), .df d_is_of_tag, .fa (.glo "is_word"), .df d_is_word, .fa (.glo "is_things"), .df d_is_things, .fa (.glo "is_sign"), .df d_is_sign, .fa (.glo "is_signs"), .df d_is_signs, .fa (.glo "may_be_many"), .df d_may_be_many, .fa (.glo "may_stand"), .df d_may_stand, .fa (.glo "may_be"), .df d_may_be, .fa (.glo "is_many_steps"), .df d_is_many_steps, .fa (.meth "Bound" "begin_of"), .df d_Bound__begin_of, .fa (.meth "Bound" "end_of"), .df d_Bound__end_of, .fa (.meth "Bound" "moved"), .df d_Bound__moved, .fa (.meth "Bound" "lead_on"), .df d_Bound__lead_on, .fa (.meth "Heap" "root_rows"), .df d_Heap__root_rows, .fa (.meth "Bound" "lead_roots"), .df d_Bound__lead_roots, .fa (.meth "Bound" "filled_words"), .df d_Bound__filled_words, .fa (.meth "Bound" "remember"), .df d_Bound__remember, .fa (.meth "Bound" "empty_nursery"), .df d_Bound__empty_nursery, .fa (.meth "Bound" "change_halves"), .df d_Bound__change_halves, .fa (.meth "Bound" "end_if_done"), .df d_Bound__end_if_done, .fa (.meth "Bound" "write"), .df d_Bound__write]
def fs1 : List Hd.Fc := [.fa (.meth "Bound" "lead_left"), .df d_Bound__lead_left, .fa (.meth "Bound" "gather"), .df d_Bound__gather, .fa (.meth "Bound" "steps"), .df d_Bound__steps, .fa (.meth "Bound" "end_turn"), .df d_Bound__end_turn, .fa (.meth "Bound" "turn"), .df d_Bound__turn, .fa (.meth "Bound" "copy_all"), .df d_Bound__copy_all, .fa (.meth "Bound" "whole"), .df d_Bound__whole, .fa (.meth "Bound" "reserve"), .df d_Bound__reserve, .fa (.meth "Bound" "place"), .df d_Bound__place, .fa (.meth "Bound" "settled"), .df d_Laid__settled, .fa (.meth "Bound" "sort_at"), .df d_Laid__sort_at, .fa (.meth "Bound" "size_at"), .df d_Laid__size_at, .fa (.meth "Bound" "number_at"), .df d_Laid__number_at, .fa (.meth "Bound" "words_at"), .df d_Laid__words_at, .fa (.meth "Bound" "counted_deeds"), .df d_Bound__counted_deeds, .fa (.meth "Bound" "told_words"), .df d_Bound__told_words, .fa (.glo "addresses_in"), .df d_addresses_in, .fa (.glo "room_of"), .df d_room_of, .fa (.glo "come_to"), .df d_come_to, .fa (.meth "Heap" "word_held"), .df d_Heap__word_held, .fa (.meth "Heap" "address_held"), .df d_Heap__address_held, .fa (.meth "Heap" "is_item"), .df d_Heap__is_item, .fa (.meth "Heap" "word_of_item"), .df d_Heap__word_of_item, .fa (.meth "Heap" "address_with_place"), .df d_Heap__address_with_place, .fa (.meth "Heap" "give_handle"), .df d_Heap__give_handle, .fa (.meth "Heap" "drop"), .df d_Heap__drop, .fa (.meth "Heap" "root_pairs"), .df d_Heap__root_pairs, .fa (.meth "Heap" "come_to_from_handles"), .df d_Heap__come_to_from_handles, .fa (.meth "Heap" "filled"), .df d_Heap__filled, .fa (.meth "Heap" "gather"), .df d_Heap__gather, .fa (.meth "Heap" "turn"), .df d_Heap__turn, .fa (.meth "Heap" "whole"), .df d_Heap__whole, .fa (.meth "Heap" "steps"), .df d_Heap__steps, .fa (.meth "Heap" "counts"), .df d_Heap__counts, .fa (.meth "Heap" "write"), .df d_Heap__write, .fa (.meth "Heap" "make"), .df d_Heap__make, .fa (.glo "check_room"), .df d_check_room, .fa (.glo "Layout"), .fa (.mkr "Layout"), .fa (.meth "Layout" "__init__"), .df d_Layout____init__, .fa (.glo "layout_with"), .df d_layout_with, .fa (.meth "Heap" "layout"), .df d_Heap__layout, .fa (.glo "Laid"), .un "Laid" "__init__", .df d_Laid____init__, .fa (.glo "Bound"), .fa (.mkr "Bound"), .fa (.meth "Bound" "__init__"), .df d_Bound____init__, .fa (.glo "store_for"), .df d_store_for, .fa (.glo "Heap"), .fa (.mkr "Heap"), .fa (.meth "Heap" "__init__"), .df d_Heap____init__, .fa (.mkr "Room"), .fa (.meth "Room" "__init__"), .df d_Room____init__, .fa (.glo "_law_bag"), .df d__law_bag, .fa (.glo "_law_pick"), .df d__law_pick, .fa (.glo "_law_is"), .df d__law_is, .fa (.glo "_law_chain"), .df d__law_chain, .fa (.glo "_law_lies"), .df d__law_lies, .fa (.glo "_law_turn_right"), .df d__law_turn_right, .fa (.glo "_law_pace_right"), .df d__law_pace_right, .fa (.glo "_law_great_right"), .df d__law_great_right, .fa (.glo "law"), .df d_law]
def fs : List Hd.Fc := (fs0 ++ fs1)
abbrev Rw : PySem.W.OpenRow := PySem.W.OpenLaw.row PySem.Challenge.rw_unseenheap_k51_whole_rooms_known_by_hand
abbrev qv : Program := PySem.W.view Rw.prog [79]
theorem run0_false (w : World) : HandSHeadRun.RunEq Rw qv (Hd.hook fs0) (Hd.ob fs0) 30000 names (w.withFollow "special-get-raises" false) := by
  intro os
  kernel_rfl
theorem run0_true (w : World) : HandSHeadRun.RunEq Rw qv (Hd.hook fs0) (Hd.ob fs0) 30000 names (w.withFollow "special-get-raises" true) := by
  intro os
  kernel_rfl
theorem run0 (w : World) : HandSHeadRun.RunEq Rw qv (Hd.hook fs0) (Hd.ob fs0) 30000 names w := PySem.W.byRow2 "special-get-raises" (P := fun w => HandSHeadRun.RunEq Rw qv (Hd.hook fs0) (Hd.ob fs0) 30000 names w) run0_false run0_true w
theorem run1_false (w : World) : Hd.Half Rw fs1 30000 (w.withFollow "special-get-raises" false) := by
  intro os
  kernel_rfl
theorem run1_true (w : World) : Hd.Half Rw fs1 30000 (w.withFollow "special-get-raises" true) := by
  intro os
  kernel_rfl
theorem run1 (w : World) : Hd.Half Rw fs1 30000 w := PySem.W.byRow2 "special-get-raises" (P := fun w => Hd.Half Rw fs1 30000 w) run1_false run1_true w
theorem run (w : World) : HandSHeadRun.RunEq Rw qv (Hd.hook fs) (Hd.ob fs) 30000 names w := Hd.join (run0 w) (run1 w)
end HdR
end
set_option maxRecDepth 100000
set_option maxHeartbeats 4000000
namespace Wk
open PySem L2 TL PySem.Builtin
open PySem.Builtin.Str (tooLong)
open SX (S S_len)
theorem take_next {α : Type} : ∀ {l : List α} {i : Nat} {x : α}, l[i]? = some x → l.take (i + 1) = l.take i ++ [x]
  | [], i, x, h => by simp at h
  | a :: l, 0, x, h => by
    have e : a = x := Option.some.inj h
    subst e; rfl
  | a :: l, i + 1, x, h => by
    show a :: l.take (i + 1) = a :: l.take i ++ [x]
    rw [take_next (l := l) (i := i) (x := x) h]; rfl
theorem same_new {H : Hp} {p : Addr} (h : H p = none) (o : HO) : Same H (upd H p o) := fun b u q => by rw [upd_ne (ne_of_none q h)]; exact q
theorem same_to {H H' : Hp} {p : Addr} (g : Same H H') (h : H' p = none) (o : HO) : Same H (upd H' p o) := g.trans (same_new h o)
/-- an object that H does not know may change -/
theorem same_mut {H H' : Hp} {p : Addr} (g : Same H H') (h : H p = none) (o : HO) : Same H (upd H' p o) := fun b u q => by rw [upd_ne (ne_of_none q h)]; exact g b u q
theorem seqT {K : PySem.W.Frag} {H H' : Hp} {a : Addr} {xs : List V} (e : Same H H') (h : SqT K H a xs) : SqT K H' a xs := by
  rcases h with (h | ⟨o, h⟩) | h
  · exact .inl (.inl (e _ _ h))
  · exact .inl (.inr ⟨o, e _ _ h⟩)
  · exact .inr h
theorem line_eq : sizeLine = 16777216 := sizeLine_eq
theorem ited {p A B : Prop} [Decidable p] (h1 : p → A) (h2 : ¬ p → B) : if decide p = true then A else B := by
  by_cases h : p
  · rw [if_pos (decide_eq_true h)]; exact h1 h
  · rw [if_neg (by rw [decide_eq_false h]; exact Bool.false_ne_true)]; exact h2 h
theorem itedn {p A B : Prop} [Decidable p] (h1 : ¬ p → A) (h2 : p → B) : if (!decide p) = true then A else B := by
  by_cases h : p
  · rw [if_neg (by rw [decide_eq_true h]; exact Bool.false_ne_true)]; exact h2 h
  · rw [if_pos (by rw [decide_eq_false h]; rfl)]; exact h1 h
theorem iteb {b : Bool} {A B : Prop} (h1 : b = true → A) (h2 : b = false → B) : if b = true then A else B := by
  cases b with
  | true => rw [if_pos rfl]; exact h1 rfl
  | false => rw [if_neg Bool.false_ne_true]; exact h2 rfl
theorem itebn {b : Bool} {A B : Prop} (h1 : b = false → A) (h2 : b = true → B) : if (!b) = true then A else B := by
  cases b with
  | true => rw [if_neg (by exact Bool.false_ne_true)]; exact h2 rfl
  | false => rw [if_pos (by rfl)]; exact h1 rfl
theorem bl_to {R : VK} {x y : Bool} {H : Hp} (r : R (.bl y) H) (e : x = y) : R (.bl x) H := e ▸ r
/-- all([.. for sign in text]) -/
theorem all_text {K : PySem.W.Frag} {l : List Nat} {p : Nat → Bool} {i : Nat} {te tv : TE} {σ : L2.St} {H : Hp} {Q : VK} (hl : l.length < sizeLine)
    (hv : ∀ R : V → Hp → Prop, R (.str (S l)) H → tv σ H R) (hw : ∀ c, wipe ((wipe σ [i]).set i (some (.str (S [c])))) [i] = wipe σ [i])
    (he : ∀ c ∈ l, ∀ H' (R : VK), R (.bl (p c)) H' → te ((wipe σ [i]).set i (some (.str (S [c])))) H' R) (q : ∀ H', Same H H' → Q (.bl (l.all p)) H') :
    tCB (rAll K) (tCons (tLc (iStr tv) (gName i) tYes te [i]) tNil) σ H Q := by
  refine hv _ ⟨_, rfl, fun D hD => ?_⟩
  refine ⟨fun k m H' => k + m = l.length ∧ Same H H' ∧ H' D = some (.lst ((l.take k).map fun c => V.bl (p c))), ⟨l.length, by omega, same_new hD _, upd_same⟩, ?_⟩
  rintro k m H' ⟨e, g, hd⟩
  by_cases hk : k < l.length
  · have hg : (S l).cps.size = l.length := by simp [S]
    have hx : l[k]? = some l[k] := List.getElem?_eq_getElem hk
    refine .inr ⟨(by show k < (S l).cps.size; rw [hg]; exact hk), fun H2 => k + 1 + (m - 1) = l.length ∧ Same H H2 ∧ H2 D = some (.lst ((l.take (k + 1)).map fun c => V.bl (p c))), fun H2 h2 => ⟨m - 1, by omega, h2⟩, fun x H2 y => ?_⟩
    obtain ⟨e2, c, hc, e3⟩ := y
    subst e2; subst e3
    have hc' : l[k]? = some c := by
      have : (S l).cps.toList[k]? = some c := by rw [Array.getElem?_toList]; exact hc
      exact this
    have hm : c ∈ l := List.mem_of_getElem? hc'
    refine ⟨hw c, ?_⟩
    unfold tYes
    dsimp only
    rw [if_pos rfl]
    refine he c hm _ _ ?_
    refine ⟨_, hd, by rw [List.length_map, List.length_take]; omega, by omega, same_mut g hD _, ?_⟩
    rw [upd_same, take_next hc', List.map_append]; rfl
  · have ek : k = l.length := by omega
    have hg : (S l).cps.size = l.length := by simp [S]
    refine .inl ⟨(by show (S l).cps.size ≤ k; rw [hg]; omega), ?_⟩
    subst ek
    rw [List.take_length] at hd
    refine ⟨D, l.map p, rfl, SqL.of (by rw [List.map_map]; exact hd), ?_⟩
    have e2 : (l.map p).all id = l.all p := by rw [List.all_map]; rfl
    rw [e2]
    exact q _ g
/-- text * int, two times and more -/
theorem fold_app : ∀ (n : Nat) (l : List Nat) (acc : Array Nat), (List.replicate n l.toArray).foldl (· ++ ·) acc = (acc.toList ++ (List.replicate n l).flatten).toArray
  | 0, l, acc => by simp
  | n + 1, l, acc => by
    rw [List.replicate_succ, List.foldl_cons, fold_app n l _, List.replicate_succ, List.flatten_cons]
    simp
def rMulS : R2 := fun x y H Q => ∃ (l : List Nat) (k : Int), x = .str (S l) ∧ y = .int k ∧ 2 ≤ k ∧ k ≤ 100000 ∧ 1 ≤ l.length ∧ l.length ≤ 100 ∧ Q (.str (S (List.replicate k.toNat l).flatten)) H
section
variable {X : Cx}
theorem op_mul_str : OpR X (binaryOp .Mult) rMulS := by
  intro pins s σ H x y v u Q I rx ry h
  obtain ⟨l, k, rfl, rfl, h2, h3, h4, h5, q⟩ := h
  obtain ⟨t, rfl⟩ := rx
  obtain ⟨t', rfl⟩ := ry
  have hlen : (S l).length = l.length := S_len l
  have hz : sizeLine = 16777216 := sizeLine_eq
  have hp : l.length * k.toNat ≤ 100 * 100000 := Nat.mul_le_mul h5 (by omega)
  have e1 : (decide (k < -(2 ^ 63 : Int)) || decide (k ≥ 2 ^ 63)) = false := by
    rw [decide_eq_false (show ¬ k < -(2 ^ 63 : Int) by omega), decide_eq_false (show ¬ k ≥ 2 ^ 63 by omega)]; rfl
  have e2 : (k == 1 || (S l).length == 0) = false := by
    rw [hlen, Bool.or_eq_false_iff]
    exact ⟨beq_eq_false_iff_ne.mpr (by omega), beq_eq_false_iff_ne.mpr (by omega)⟩
  have hl : tooLong ((S l).length * k.toNat) = false := by
    unfold tooLong
    rw [hlen]
    exact decide_eq_false (by omega)
  refine PySem.P.mul_str e1 (fun _ _ => ?_) (fun _ _ => hl) ?_
  · rw [hlen]
    have : (2 ^ 63 - 1 : Int) / 100000 ≤ (2 ^ 63 - 1) / k := by
      apply Int.le_ediv_of_mul_le (by omega)
      have : (2 ^ 63 - 1 : Int) / 100000 * k ≤ (2 ^ 63 - 1 : Int) / 100000 * 100000 := Int.mul_le_mul_of_nonneg_left h3 (by decide)
      omega
    have : (92233720368547 : Int) ≤ (2 ^ 63 - 1) / k := this
    generalize (2 ^ 63 - 1 : Int) / k = q at this ⊢
    omega
  · rw [if_neg (by omega), if_neg (by rw [e2]; exact Bool.false_ne_true)]
    have e3 : (⟨(List.replicate k.toNat (S l).cps).foldl (· ++ ·) #[]⟩ : Str) = S (List.replicate k.toNat l).flatten := by
      show (⟨(List.replicate k.toNat l.toArray).foldl (· ++ ·) #[]⟩ : Str) = _
      rw [fold_app]
      rfl
    rw [e3]
    refine ⟨?_, ⟨.str _, H, I.tok _, ⟨_, rfl⟩, q⟩⟩
    rw [S_len]
    have : (List.replicate k.toNat l).flatten.length = k.toNat * l.length := by simp
    rw [this, Nat.mul_comm]
    omega
theorem pget_list : PGet X (rIxL X.K) := by
  intro pins s σ H o i ov iv Q I ro ri h
  obtain ⟨p, xs, k, z, rfl, rfl, hq, he, q⟩ := h
  cases ro
  obtain ⟨t, rfl⟩ := ri
  obtain ⟨its, r, pl, hz⟩ := I.list hq
  obtain ⟨j, h1, h2, h3, h4, h5⟩ := atI_get he
  obtain ⟨w, ew, rw'⟩ := r.get h2
  have hl := r.length
  have hn := line63
  have fin : EP X pins σ Q w s := ⟨z, H, I, rw', q⟩
  by_cases h0 : 0 ≤ k
  · have hj : k.toNat = j := by
      rw [seqIndex_of h0 h5] at h1
      exact Option.some.inj h1
    exact wpAny_getItem_list pl.isList h0 (by omega) (by rw [hj]; simpa using ew) fin
  · have hj : (k + (its.toArray.size : Int)).toNat = j := by
      rw [seqIndex_neg (by omega) h4] at h1
      rw [List.size_toArray, ← hl]
      exact Option.some.inj h1
    exact wpAny_getItem_list_neg (Q := fun r s' => EP X pins σ Q r s') pl.isList (by omega) (by rw [List.size_toArray] <;> omega) (by omega) (by rw [hj]; simpa using ew) fin
/-- a written text + what wants a token -/
theorem pe_addT {e : Expr} {te : TE} {r : R2} {c : Str} {j : Nat} {cp pos : Pos} (ho : OpR X (binaryOp .Add) r) (he : PET X e te) : PE X (.BinOp (.Constant (.str c) j cp) .Add e pos) (tOp r (tC (.str c)) te) := by
  refine ⟨fun pins s σ H Q I h => ?_⟩
  refine wpAny_BinOp (Calls.Constant_str ?_)
  exact thn (he pins _ σ H _ (by show 1 ≤ s.toks + 1; omega) (I.tok (s.toks + 1)) h) fun u s2 ⟨y, H2, I2, r2, q2⟩ => ho pins s2 σ H2 (.str c) y _ u Q I2 ⟨_, rfl⟩ r2 q2
theorem pa_consT {es : List Expr} {ta : TA} {c : Str} {j : Nat} {cp : Pos} (hr : PAT X es ta) (hs : starEach (.Constant (.str c) j cp :: es) X.env = (false, eval (.Constant (.str c) j cp) X.env) :: starEach es X.env := by rfl) : PA X (.Constant (.str c) j cp :: es) (tCons (tC (.str c)) ta) := by
  refine ⟨fun pos pins s σ H Q I h => ?_⟩
  rw [hs]
  show wpAny _ _ (spliced ((false, eval (.Constant (.str c) j cp) X.env) :: backTo pos (starEach es X.env))) _ _ s
  refine Calls.spliced_cons (Calls.Constant_str ?_)
  exact thn (hr pos pins _ σ H _ (by show 1 ≤ s.toks + 1; omega) (I.tok (s.toks + 1)) h) fun us s2 ⟨xs, H2, I2, r2, q2⟩ => ⟨.str c :: xs, H2, I2, .cons ⟨_, rfl⟩ r2, q2⟩
end
end Wk
set_option maxRecDepth 100000
set_option maxHeartbeats 4000000
namespace Wk
open PySem L2 TL PyProof.Rows
/-- a loop with one way out that is told once -/
theorem while_of {c : TT} {tb : TS} {D : Ends} {σ : L2.St} {H : Hp} (R : L2.St → Hp → Prop) (W : Nat → L2.St → Hp → Prop) (m0 : Nat) (h0 : W m0 σ H) (after : ∀ σ H, R σ H → D.nx σ H)
    (turn : ∀ NX : L2.St → Hp → Prop, (∀ σ H, R σ H → NX σ H) → ∀ m σ H, W m σ H → c σ H fun b H1 => if b = true then ∃ N : L2.St → Hp → Prop, (∀ σ' H', N σ' H' → ∃ m', m' < m ∧ W m' σ' H') ∧ tb { D with nx := N, ct := N, bk := NX } σ H1 else NX σ H1) :
    tWhile c tb D σ H := ⟨W, ⟨m0, h0⟩, turn D.nx after⟩
theorem go_next {D : Ends} {σ : L2.St} {H : Hp} (h : D.nx σ H) : tNext D σ H := h
theorem seq_set {te : TE} {u : TS} {i : Nat} {D : Ends} {σ : L2.St} {H : Hp} (h : te σ H fun x H1 => u D (σ.set i (some x)) H1) : tSeq (tAsg te (gName i)) u D σ H := h
theorem seq_setC {v : V} {u : TS} {i : Nat} {D : Ends} {σ : L2.St} {H : Hp} (h : u D (σ.set i (some v)) H) : tSeq (tAsg (tC v) (gName i)) u D σ H := h
/-- what stands behind a statement, told once -/
theorem seq_join {t u : TS} {D : Ends} {σ : L2.St} {H : Hp} (R : L2.St → Hp → Prop) (after : ∀ σ H, R σ H → u D σ H) (h : ∀ NX : L2.St → Hp → Prop, (∀ σ H, R σ H → NX σ H) → t { D with nx := NX } σ H) : tSeq t u D σ H := h _ after
theorem for_rangeR {lo : Int} {n : Nat} {g : TG} {tb : TS} {D : Ends} {σ : L2.St} {H : Hp} (R : L2.St → Hp → Prop) (Pv : Nat → L2.St → Hp → Prop) (h0 : Pv 0 σ H) (after : ∀ σ H, R σ H → D.nx σ H) (hd : ∀ σ H, Pv n σ H → R σ H)
    (turn : ∀ NX : L2.St → Hp → Prop, (∀ σ H, R σ H → NX σ H) → ∀ i σ H, i < n → Pv i σ H → g (.int (lo + i)) σ H fun σ2 H2 => tb { D with nx := Pv (i + 1), ct := Pv (i + 1), bk := NX } σ2 H2) :
    ∃ W : Nat → Nat → L2.St → Hp → Prop, (∃ m, W 0 m σ H) ∧ ∀ i m σ H, W i m σ H →
      ((Itr lo n).stop i H ∧ D.nx σ H) ∨ ((Itr lo n).go i H ∧ ∃ N : L2.St → Hp → Prop, (∀ σ' H', N σ' H' → ∃ m', m' < m ∧ W (i + 1) m' σ' H') ∧ ∀ x H', (Itr lo n).yld i H x H' → g x σ H' fun σ2 H2 => tb { D with nx := N, ct := N, bk := D.nx } σ2 H2) :=
  L2.for_range Pv h0 (fun i σ H hi hp => turn D.nx after i σ H hi hp) (fun σ H hp => after σ H (hd σ H hp))
theorem mod_in {x m : Int} (hm : 0 < m) (h : m ≤ 2 ^ 63) : -(2 ^ 64) < x % m ∧ x % m < 2 ^ 64 := by
  have h1 := Int.emod_nonneg x (Int.ne_of_gt hm)
  have h2 := Int.emod_lt_of_pos x hm
  constructor <;> omega
end Wk
set_option maxRecDepth 100000
set_option maxHeartbeats 4000000
namespace Wk
open PySem L2 TL PyProof.Rows
open SX (S S_len)
/-! ### things of all kinds, as they are handed to what judges -/
inductive Od (H : Hp) : V → Prop
  | bl (b : Bool) : Od H (.bl b)
  | non : Od H .non
  | int (i : Int) : Od H (.int i)
  | str (x : Str) : Od H (.str x)
  | tup {p : Addr} {xs : List V} (h : H p = some (.tup xs)) : Od H (.ref p)
  | lst {p : Addr} {xs : List V} (h : H p = some (.lst xs)) : Od H (.ref p)
  | dct {p : Addr} (h : H p = some (.dK [])) : Od H (.ref p)
def isI : V → Bool
  | .int _ => true
  | _ => false
def isB : V → Bool
  | .bl _ => true
  | _ => false
theorem Od.isi {K : PySem.W.Frag} {H : Hp} {v : V} (h : Od H v) : ∃ t, TyX K H v (.type t) ∧ kitB t "int" = some (isI v || isB v) ∧ kitB t "bool" = some (isB v) := by
  cases h with
  | bl b => exact ⟨"bool", .base (.bl b), (show kitB "bool" "int" = some true by decide +kernel), (show kitB "bool" "bool" = some true by decide +kernel)⟩
  | non => exact ⟨"NoneType", .base .non, (show kitB "NoneType" "int" = some false by decide +kernel), (show kitB "NoneType" "bool" = some false by decide +kernel)⟩
  | int i => exact ⟨"int", .base (.int i), (show kitB "int" "int" = some true by decide +kernel), (show kitB "int" "bool" = some false by decide +kernel)⟩
  | str x => exact ⟨"str", .base (.str x), (show kitB "str" "int" = some false by decide +kernel), (show kitB "str" "bool" = some false by decide +kernel)⟩
  | tup e => exact ⟨"tuple", .base (.tup e), (show kitB "tuple" "int" = some false by decide +kernel), (show kitB "tuple" "bool" = some false by decide +kernel)⟩
  | lst e => exact ⟨"list", .base (.lst e), (show kitB "list" "int" = some false by decide +kernel), (show kitB "list" "bool" = some false by decide +kernel)⟩
  | dct e => exact ⟨"dict", .base (.dK e), (show kitB "dict" "int" = some false by decide +kernel), (show kitB "dict" "bool" = some false by decide +kernel)⟩
theorem Od.same {H H' : Hp} {v : V} (g : Same H H') (h : Od H v) : Od H' v := by
  cases h with
  | bl b => exact .bl b
  | non => exact .non
  | int i => exact .int i
  | str x => exact .str x
  | tup e => exact .tup (g _ _ e)
  | lst e => exact .lst (g _ _ e)
  | dct e => exact .dct (g _ _ e)
section
variable {X : Cx} {K : PySem.W.Frag}
theorem isi {v : V} {T t : String} {b : Bool} {σ : L2.St} {H : Hp} {Q : Bool → Hp → Prop} {i : Nat} (hv : σ[i]? = some (some v)) (ty : TyX K H v (.type T)) (k : kitB T t = some b) (q : Q b H) : tB (tCB (rIsi K) (tCons (tVar i) (tCons (tC (V.ty t)) tNil))) σ H Q :=
  ⟨v, hv, v, .ty t, .type T, .type t, b, rfl, .ty t, ty, kit_ty k, b, rfl, q⟩
theorem isiV {v : V} {T t : String} {b : Bool} {σ : L2.St} {H : Hp} {Q : VK} {i : Nat} (hv : σ[i]? = some (some v)) (ty : TyX K H v (.type T)) (k : kitB T t = some b) (q : Q (.bl b) H) : tCB (rIsi K) (tCons (tVar i) (tCons (tC (V.ty t)) tNil)) σ H Q :=
  ⟨v, hv, v, .ty t, .type T, .type t, b, rfl, .ty t, ty, kit_ty k, q⟩
end
section
variable {P : Program} {w : World} {K : PySem.W.Frag} {mg : Str → Option Value} {base : Heap}
abbrev s_is_integer : Stmt := top 13
theorem sc_is_integer : FnScope ["thing"] ["thing"] (defScope s_is_integer) := ⟨rfl, rfl, rfl, by decide +kernel, rfl, by decide +kernel, by decide +kernel⟩
def sp_is_integer : Sp := fun vs H Q _ => ∃ v, vs = [v] ∧ Od H v ∧ Q (.bl (isI v)) H
theorem ok_is_integer (T : Txt K mg base) {f : Addr} {fd : FuncData} (F : Fun K "is_integer" "is_integer" s_is_integer f fd) : FnOk P w K mg base CX0 1 f fd ["thing"] sp_is_integer := by
  refine F.ok sc_is_integer (fun vs H Q E h => ?_) (fun cdv A outer s H vs Q E hr h => ?_)
  · obtain ⟨c, rfl, _⟩ := h; rfl
  obtain ⟨v, rfl, ho, q⟩ := h
  refine ⟨_, (pss_one (ps_ret (pe_and (pe_callB call_isi rfl T.n_isinstance boot_isinstance (pa_cons (pv 0) (pa_cons (pe_bltn (v := .ty "int") rfl T.n_int boot_int rfl) pa_nil))) (pe_one (pe_not (pe_callB call_isi rfl T.n_isinstance boot_isinstance (pa_cons (pv 0) (pa_cons (pe_bltn (v := .ty "bool") rfl T.n_bool boot_bool rfl) pa_nil)))))))), ?_⟩
  obtain ⟨t, ty, k1, k2⟩ := ho.isi (K := K)
  refine isiV (K := K) rfl ty k1 ⟨_, rfl, ?_⟩
  have e : isI v = ((isI v || isB v) && !isB v) := by cases v <;> rfl
  rw [e] at q
  revert q
  generalize (isI v || isB v) = b1 at *
  intro q
  cases b1 with
  | false => exact iteF q
  | true => exact iteT (isiV (K := K) rfl ty k2 ⟨_, rfl, q⟩)
end
/-! ### words -/
/-- what a word may be made of -/
def okT (t p : Int) : Bool := decide ((t = 1 ∧ -(2 ^ 59) ≤ p ∧ p ≤ 2 ^ 59 - 1) ∨ ((t = 0 ∨ t = 5) ∧ 0 ≤ p) ∨ (t = 2 ∧ 0 ≤ p ∧ p ≤ 1) ∨ (t = 3 ∧ p = 0) ∨ (t = 4 ∧ 0 ≤ p ∧ p ≤ 8))
def okW : V → V → Bool
  | .int t, .int p => okT t p
  | _, _ => false
def isW : V → Bool
  | .int n => okT (n % 8) (n / 8)
  | _ => false
theorem isI_ex {v : V} (h : isI v = true) : ∃ i, v = .int i := by
  cases v <;> first | exact ⟨_, rfl⟩ | cases h
theorem okW_l {v u : V} (h : isI v = false) : okW v u = false := by cases v <;> first | rfl | cases h
theorem okW_r {v u : V} (h : isI u = false) : okW v u = false := by
  cases v <;> cases u <;> first | rfl | cases h
theorem isW_l {v : V} (h : isI v = false) : isW v = false := by cases v <;> first | rfl | cases h
section
variable {P : Program} {w : World} {K : PySem.W.Frag} {mg : Str → Option Value} {base : Heap}
abbrev s_is_of_tag : Stmt := top 23
theorem sc_is_of_tag : FnScope ["tag", "payload", "least"] ["tag", "payload"] (defScope s_is_of_tag) := ⟨rfl, rfl, rfl, by decide +kernel, rfl, by decide +kernel, by decide +kernel⟩
def sp_is_of_tag : Sp := fun vs H Q _ => ∃ v u, vs = [v, u] ∧ Od H v ∧ Od H u ∧ Q (.bl (okW v u)) H
theorem ok_is_of_tag (T : Txt K mg base) {f : Addr} {fd : FuncData} (F : Fun K "is_of_tag" "is_of_tag" s_is_of_tag f fd)
    (D_is_integer : Def P w K mg base CX0 "is_integer" ["thing"] 1 sp_is_integer) : FnOk P w K mg base CX0 2 f fd ["tag", "payload"] sp_is_of_tag := by
  refine F.ok sc_is_of_tag (fun vs H Q E h => ?_) (fun cdv A outer s H vs Q E hr h => ?_)
  · obtain ⟨c, d, rfl, _⟩ := h; rfl
  obtain ⟨v, u, rfl, ho, hp, q⟩ := h
  refine ⟨_, (pss_cons (ps_if (PW.pt (pw_or (pt_not (pt_val (pe_call D_is_integer.ok (hr.mono (by omega)) rfl D_is_integer.g D_is_integer.k D_is_integer.b .nil pass0 (pa_cons (pv 0) pa_nil)))) (pw_or (pt_not (pt_val (pe_call D_is_integer.ok (hr.mono (by omega)) rfl D_is_integer.g D_is_integer.k D_is_integer.b .nil pass0 (pa_cons (pv 1) pa_nil)))) (pw_or1 (pt_not (pt_chain op_le op_lt pe_int (pv 0) (pe_callB call_len_low rfl T.n_len boot_len (pa_cons (pe_glob (v := .ref T.aGREATEST) rfl T.mGREATEST rfl) pa_nil)))))))) (pss_one (ps_ret pe_bl)) pss_nil)
    (pss_cons (ps_set (i := 2) sc_is_of_tag.nd rfl (Or.inl rfl) (pe_ifExp (pt_cmpR op_eq (pv 0) (pe_glob (v := .int 1) rfl T.mINTEGER_TAG ⟨_, rfl⟩) (nomark _)) (pe_glob (v := .int (-(2 ^ 59))) rfl T.mLEAST_INTEGER ⟨_, rfl⟩) pe_int))
    (pss_one (ps_ret (pe_and (pe_cmpR op_ge (pv 1) (pv 2) (nomark _)) (pe_one (pe_or (pe_cmpR op_isN (pe_ix ix_low (pe_glob (v := .ref T.aGREATEST) rfl T.mGREATEST rfl) (pv 0) (fun _ _ => rfl)) pe_non (nomark _)) (pe_one (pe_cmpR op_le (pv 1) (pe_ix ix_low (pe_glob (v := .ref T.aGREATEST) rfl T.mGREATEST rfl) (pv 0) (fun _ _ => rfl)) (nomark _)))))))))), ?_⟩
  refine seq_join (fun σ H' => H' = H ∧ ∃ t p : Int, v = .int t ∧ u = .int p ∧ σ = [some (.int t), some (.int p), none] ∧ 0 ≤ t ∧ t ≤ 5) ?_ ?_
  rotate_left
  · intro NX nx
    refine ⟨_, rfl, v, rfl, ho, _, rfl, ?_⟩
    refine itebn (fun h1 => ?_) (fun h1 => ?_)
    · rw [okW_l h1] at q; exact q
    obtain ⟨t, rfl⟩ := isI_ex h1
    refine ⟨_, rfl, u, rfl, hp, _, rfl, ?_⟩
    refine itebn (fun h2 => ?_) (fun h2 => ?_)
    · rw [okW_r h2] at q; exact q
    obtain ⟨p, rfl⟩ := isI_ex h2
    refine ⟨_, rfl, _, _, rfl, rfl, _, rfl, ?_⟩
    have out : ¬ (0 ≤ t ∧ t ≤ 5) → okW (.int t) (.int p) = false := fun h => decide_eq_false (by omega)
    refine ited (fun h3 => ?_) (fun h3 => ?_)
    · refine ⟨_, greats, rfl, T.kGREATEST, _, _, rfl, rfl, _, rfl, ?_⟩
      refine itedn (fun h4 => ?_) (fun h4 => ?_)
      · have h5 : ¬ t < 6 := h4
        rw [out (by omega)] at q; exact q
      · have h5 : t < 6 := h4
        exact go_next (nx _ _ ⟨rfl, t, p, rfl, rfl, rfl, h3, by omega⟩)
    · rw [out (by omega)] at q
      exact ⟨_, rfl, iteT q⟩
  rintro σ H' ⟨rfl, t, p, rfl, rfl, rfl, h0, h5⟩
  refine seq_join (fun σ H2 => H2 = H' ∧ ∃ l : Int, σ = [some (.int t), some (.int p), some (.int l)] ∧ l = (if t = 1 then -(2 ^ 59) else 0)) ?_ ?_
  rotate_left
  · intro NX nx
    refine ⟨_, rfl, rfl, _, rfl, ?_⟩
    refine ited (fun e => ?_) (fun e => ?_)
    · have e1 : t = 1 := V.int.inj e
      exact nx _ _ ⟨rfl, _, rfl, by rw [if_pos e1]⟩
    · have e1 : ¬ t = 1 := fun z => e (by rw [z])
      exact nx _ _ ⟨rfl, _, rfl, by rw [if_neg e1]⟩
  rintro σ H2 ⟨rfl, l, rfl, hl⟩
  have fin : ∀ {b : Bool}, b = okT t p → Q (.bl b) H2 := fun e => by rw [e]; exact q
  refine ⟨_, rfl, _, rfl, _, _, rfl, rfl, _, rfl, ?_⟩
  have at_ : ∃ v, atI greats t = some v ∧ (v = .non ↔ t = 0 ∨ t = 5) ∧ (v = .non ∨ ∃ g : Int, v = .int g ∧ (t = 1 → g = 2 ^ 59 - 1) ∧ (t = 2 → g = 1) ∧ (t = 3 → g = 0) ∧ (t = 4 → g = 8)) := by
    have : t = 0 ∨ t = 1 ∨ t = 2 ∨ t = 3 ∨ t = 4 ∨ t = 5 := by omega
    rcases this with rfl | rfl | rfl | rfl | rfl | rfl
    · exact ⟨.non, rfl, by simp, .inl rfl⟩
    · exact ⟨.int (2 ^ 59 - 1), rfl, by simp, .inr ⟨_, rfl, by simp⟩⟩
    · exact ⟨.int 1, rfl, by simp, .inr ⟨_, rfl, by simp⟩⟩
    · exact ⟨.int 0, rfl, by simp, .inr ⟨_, rfl, by simp⟩⟩
    · exact ⟨.int 8, rfl, by simp, .inr ⟨_, rfl, by simp⟩⟩
    · exact ⟨.non, rfl, by simp, .inl rfl⟩
  obtain ⟨v, a1, a2, a3⟩ := at_
  refine ited (fun h1 => ?_) (fun h1 => ?_)
  · refine ⟨_, rfl, _, greats, t, v, rfl, rfl, T.kGREATEST, a1, rfl, _, rfl, ?_⟩
    refine ited (fun h2 => ?_) (fun h2 => ?_)
    · refine fin (decide_eq_true ?_).symm
      have := a2.mp h2
      have h1' : l ≤ p := h1
      rw [if_neg (by omega)] at hl
      omega
    · rcases a3 with z | ⟨g, rfl, g1, g2, g3, g4⟩
      · exact absurd z h2
      refine ⟨_, rfl, _, rfl, _, greats, t, _, rfl, rfl, T.kGREATEST, a1, _, _, rfl, rfl, fin ?_⟩
      have : ¬ (t = 0 ∨ t = 5) := fun z => h2 (a2.mpr z)
      have h1' : l ≤ p := h1
      rw [Bool.eq_iff_iff]
      unfold okT
      rw [decide_eq_true_eq, decide_eq_true_eq]
      by_cases e1 : t = 1
      · rw [if_pos e1] at hl
        have := g1 e1
        omega
      · rw [if_neg e1] at hl
        omega
  · refine fin (decide_eq_false ?_).symm
    have h1' : ¬ l ≤ p := h1
    by_cases e1 : t = 1
    · rw [if_pos e1] at hl; omega
    · rw [if_neg e1] at hl; omega
abbrev s_is_word : Stmt := top 22
theorem sc_is_word : FnScope ["thing"] ["thing"] (defScope s_is_word) := ⟨rfl, rfl, rfl, by decide +kernel, rfl, by decide +kernel, by decide +kernel⟩
def sp_is_word : Sp := fun vs H Q _ => ∃ v, vs = [v] ∧ Od H v ∧ Q (.bl (isW v)) H
theorem ok_is_word (T : Txt K mg base) {f : Addr} {fd : FuncData} (F : Fun K "is_word" "is_word" s_is_word f fd)
    (D_is_integer : Def P w K mg base CX0 "is_integer" ["thing"] 1 sp_is_integer) (D_is_of_tag : Def P w K mg base CX0 "is_of_tag" ["tag", "payload"] 2 sp_is_of_tag) : FnOk P w K mg base CX0 3 f fd ["thing"] sp_is_word := by
  refine F.ok sc_is_word (fun vs H Q E h => ?_) (fun cdv A outer s H vs Q E hr h => ?_)
  · obtain ⟨c, rfl, _⟩ := h; rfl
  obtain ⟨v, rfl, ho, q⟩ := h
  refine ⟨_, (pss_cons (ps_if (pt_not (pt_val (pe_call D_is_integer.ok (hr.mono (by omega)) rfl D_is_integer.g D_is_integer.k D_is_integer.b .nil pass0 (pa_cons (pv 0) pa_nil)))) (pss_one (ps_ret pe_bl)) pss_nil)
    (pss_one (ps_ret (pe_call D_is_of_tag.ok (hr.mono (by omega)) rfl D_is_of_tag.g D_is_of_tag.k D_is_of_tag.b .nil pass0 (pa_cons (pe_op op_sub (pv 0) (pe_op op_mul (pe_op op_fdivW (pv 0) (pe_glob (v := .int 8) rfl T.mTAGS ⟨_, rfl⟩)) (pe_glob (v := .int 8) rfl T.mTAGS ⟨_, rfl⟩))) (pa_cons (pe_op op_fdivW (pv 0) (pe_glob (v := .int 8) rfl T.mTAGS ⟨_, rfl⟩)) pa_nil)))))), ?_⟩
  refine ⟨_, rfl, v, rfl, ho, _, rfl, ?_⟩
  refine itebn (fun h1 => ?_) (fun h1 => go_next ?_)
  · rw [isW_l h1] at q; exact q
  obtain ⟨n, rfl⟩ := isI_ex h1
  have e : okW (.int (n - n / 8 * 8)) (.int (n / 8)) = isW (.int n) := by
    have : n - n / 8 * 8 = n % 8 := by omega
    show okT _ _ = okT _ _
    rw [this]
  refine ⟨_, rfl, _, rfl, _, _, rfl, rfl, ⟨by decide, by decide⟩, _, _, rfl, rfl, .inr ⟨by decide, by decide⟩, _, _, rfl, rfl, _, rfl, _, _, rfl, rfl, ⟨by decide, by decide⟩, _, _, rfl, .int _, .int _, ?_⟩
  rw [e]; exact q
end
end Wk
set_option maxRecDepth 100000
set_option maxHeartbeats 4000000
namespace Wk
open PySem PySem.Spec L2 TL PyProof.Rows
open SX (S S_len)
/-! ### repr of data -/
def rRepr (K : PySem.W.Frag) : List V → Hp → VK → Prop := fun xs H Q => ∃ a d, xs = [V.ref a] ∧ Dp K H (.ref a) d ∧ d.showable = true ∧ d.hasDict = false ∧ d.depth ≤ 60 ∧ d.shown.length ≤ sizeLine ∧ Q (.str d.shown) H
theorem call_repr_deep {X : Cx} (hG : X.A.guards = some []) (hu : X.A.units + 64 < cLine) : CallR X (.builtin "repr") (rRepr X.K) := by
  intro pins s σ H xs us Q I r h
  obtain ⟨a, d, rfl, hd, hs, hn, hp, hz, q⟩ := h
  obtain ⟨u, rfl, rx⟩ := vals1 r
  obtain ⟨as, rd⟩ := Dp.reads I d _ u hd rx
  cases rx
  exact repr_of_reads' rd hs (PyData.noDict_hsm hn) hG (by omega) (fun _ _ e => e) (fun h' t tk hk => ⟨.str d.shown, H, I.kept hk, ⟨_, rfl⟩, q⟩) hz
/-! ### a def that wants to know that no repr is under way -/
structure FnG (P : Program) (w : World) (K : PySem.W.Frag) (mg : Str → Option Value) (base : Heap) (k : Nat) (f : Addr) (fd : FuncData) (ps : List Str) (sp : Sp) : Prop where
  len : ∀ vs H Q E, sp vs H Q E → vs.length = ps.length
  runG : ∀ (A : Around) (outer : List Env) (s : Shared) (H : Hp) (args : Args) (us : List Value) (vs : List V) (Q : VK) (E : XK), A.guards = some [] → Room k A → Env0 P w K mg base A outer s H → BindsTo s fd args (ps.zip us) → L2.Vals vs us → sp vs H Q E →
    codeAny (model P w) A (.call (.ref f) args) (CR CX0 outer P w H s Q E) s
section
variable {P : Program} {w : World} {K : PySem.W.Frag} {mg : Str → Option Value} {base : Heap}
theorem okG {x qual : Str} {st : Stmt} {f : Addr} {fd : FuncData} {N ps : List Str} {k : Nat} {sp : Sp} (F : Fun K x qual st f fd) (hS : FnScope N ps (defScope st)) (len : ∀ vs H Q E, sp vs H Q E → vs.length = ps.length)
    (body : ∀ (cdv : Value) (A : Around) (outer : List Env) (s : Shared) (H : Hp) (vs : List V) (Q : VK) (E : XK), (A.deeper (envOfC qual (defScope st) s.heap.objs.size f cdv)).guards = some [] → Room k (A.deeper (envOfC qual (defScope st) s.heap.objs.size f cdv)) → (∃ oc od kV doc pm an ct osl, K.lookup f = some ⟨oc, od, .func (PySem.W.fnOf x qual (defArgs st) (defBody st) (defScope st) .none kV doc pm an cdv ct), osl⟩) → sp vs H Q E →
      ∃ t, PSs (cxOf CX0 P w K mg base N qual (defScope st) f cdv A outer s H E).nox (defBody st) t ∧ t { nx := fun _ H' => Q .non H', rt := Q } (L2.start N vs) H) : FnG P w K mg base (k + 1) f fd ps sp := by
  obtain ⟨oc, od, kV, doc, pm, an, cdv, ct, osl, rfl, lk, hcd⟩ := F.ex
  refine ⟨len, fun A outer s H args us vs Q E hG hr e0 hb r hsp => ?_⟩
  refine LamX.run_ofS lk hcd hS hr e0 hb r (len _ _ _ _ hsp) fun hr' => ?_
  obtain ⟨t, h, q⟩ := body cdv A outer s H vs Q E hG hr' ⟨oc, od, kV, doc, pm, an, ct, osl, lk⟩ hsp
  exact ⟨t, h.nox, q⟩
end
structure DefG (P : Program) (w : World) (K : PySem.W.Frag) (mg : Str → Option Value) (base : Heap) (x : Str) (ps : List Str) (k : Nat) (sp : Sp) where
  f : Addr
  fd : FuncData
  ok : FnG P w K mg base k f fd ps sp
  g : mg x = some (.ref f)
  k : PySem.W.keepIn K (.ref f) = true
  b : Binds K fd ps []
section
variable {X : Cx} {k : Nat} {f : Addr} {fd : FuncData} {ps : List Str} {sp : Sp} {x : Str} {p pos : Pos} {e : Expr} {es : List Expr} {t : TA}
theorem pe_callG (F : FnG X.prog X.w X.K X.mg X.base k f fd ps sp) (hG : X.A.guards = some []) (hr : Room k X.A) (hg : Gl X x) (hm : X.mg x = some (.ref f)) (hk : PySem.W.keepIn X.K (.ref f) = true) (hb : Binds X.K fd ps [])
    (ha : PA X (e :: es) t) (hdb : (x == ("__debug__" : Str)) = false := by decide) (he : starEach (e :: es) X.env = (false, eval e X.env) :: starEach es X.env := by rfl) (hpl : (backTo pos (starEach es X.env)).any (·.1) = false := by rfl) :
    PE X (.Call (.Name x p) (e :: es) [] pos) (tCall sp [] E0 t) := by
  refine ⟨fun pins s σ H Q I want => wpAny_Call_Name_kw (ld_glob I hg hm ?_ hdb)⟩
  refine PySem.W.callWith_K (h₀ := X.base) I.ok.mod.kin hk (thn (ha.run pos pins s σ H _ I want) fun us s1 ⟨vs, H1, I1, r, q⟩ => ⟨I1.kIn, ?_⟩) he hpl
  have q' : sp vs H1 Q E0 := by rw [← List.append_nil vs]; exact q
  have many : (us ++ []).length = ps.length := by rw [List.append_nil, ← r.length]; exact F.len _ _ _ _ q'
  have bound := hb s1 us I1.kIn many
  rw [List.append_nil] at bound
  refine wpAny_call (codeAny_mono (F.runG X.A X.stack s1 H1 ⟨us, []⟩ us vs Q E0 hG hr I1.env0 bound r q') fun res s2 hq => ?_)
  match res, hq with
  | .error _, z => exact (show False from z).elim
  | .ok (.ret u), z => exact I1.after z
end
end Wk
set_option maxRecDepth 100000
set_option maxHeartbeats 8000000
namespace Wk
open PySem L2 TL PyProof.Rows
open SX (S S_len)
/-! ### the bag of drawn numbers -/
def Bag (H : Hp) (a g : Addr) : Prop := ∃ (s n : Int) (z : V) (gs : List Int), H a = some (.lst [.int s, .int n, .ref g, z]) ∧ H g = some (.lst (gs.map V.int)) ∧ g ≠ a ∧ (z = .non ∨ ∃ k : Int, z = .int k) ∧ gs.length ≤ 63
/-- all that was tracked is as it was, but the bag -/
def But (a g : Addr) (H H' : Hp) : Prop := ∀ b u, b ≠ a → b ≠ g → H b = some u → H' b = some u
theorem But.refl (a g : Addr) (H : Hp) : But a g H H := fun _ _ _ _ h => h
theorem But.trans {a g : Addr} {H H1 H2 : Hp} (x : But a g H H1) (y : But a g H1 H2) : But a g H H2 := fun b u n m h => y b u n m (x b u n m h)
theorem But.same {a g : Addr} {H H1 : Hp} (s : Same H H1) : But a g H H1 := fun b u _ _ h => s b u h
theorem But.one {a g : Addr} {H : Hp} {o : HO} : But a g H (upd H a o) := fun b u n _ h => by rw [upd_ne n]; exact h
theorem But.two {a g : Addr} {H : Hp} {o : HO} : But a g H (upd H g o) := fun b u _ n h => by rw [upd_ne n]; exact h
theorem But.new {a g : Addr} {H H1 : Hp} (x : But a g H H1) {p : Addr} (h : H1 p = none) (o : HO) : But a g H (upd H1 p o) := x.trans (.same (same_new h o))
theorem Bag.same {a g : Addr} {H H1 : Hp} (b : Bag H a g) (s : Same H H1) : Bag H1 a g := by
  obtain ⟨x, n, z, gs, h1, h2, h3⟩ := b
  exact ⟨x, n, z, gs, s _ _ h1, s _ _ h2, h3⟩
theorem Bag.new {a g : Addr} {H : Hp} (b : Bag H a g) {p : Addr} (h : H p = none) (o : HO) : Bag (upd H p o) a g := b.same (same_new h o)
theorem Bag.lists {a g : Addr} {H : Hp} (b : Bag H a g) : (∃ xs, H a = some (.lst xs)) ∧ ∃ xs, H g = some (.lst xs) := by
  obtain ⟨x, n, z, gs, h1, h2, _⟩ := b
  exact ⟨⟨_, h1⟩, ⟨_, h2⟩⟩
theorem Bag.off {a g p : Addr} {H : Hp} (b : Bag H a g) (h : H p = none) : p ≠ a ∧ p ≠ g := by
  obtain ⟨⟨xs, h1⟩, ⟨ys, h2⟩⟩ := b.lists
  exact ⟨fun e => (by rw [e, h1] at h; cases h), fun e => (by rw [e, h2] at h; cases h)⟩
theorem Od.but {a g : Addr} {H H1 : Hp} {v : V} (h : Od H v) (x : But a g H H1) (b : Bag H a g) (b1 : Bag H1 a g) : Od H1 v := by
  obtain ⟨⟨xs, h1⟩, ⟨ys, h2⟩⟩ := b.lists
  obtain ⟨⟨xs', h1'⟩, ⟨ys', h2'⟩⟩ := b1.lists
  cases h with
  | bl b => exact .bl b
  | non => exact .non
  | int i => exact .int i
  | str x => exact .str x
  | tup e => exact .tup (x _ _ (fun z => by rw [z, h1] at e; cases e) (fun z => by rw [z, h2] at e; cases e) e)
  | @lst p zs e =>
    by_cases ea : p = a
    · rw [ea]; exact .lst h1'
    · by_cases eg : p = g
      · rw [eg]; exact .lst h2'
      · exact .lst (x _ _ ea eg e)
  | dct e => exact .dct (x _ _ (fun z => by rw [z, h1] at e; cases e) (fun z => by rw [z, h2] at e; cases e) e)
section
variable {P : Program} {w : World} {K : PySem.W.Frag} {mg : Str → Option Value} {base : Heap}
abbrev s__law_pick : Stmt := top 72
theorem sc__law_pick : FnScope ["_law_bag_here", "_law_many", "_law_great", "_law_digit", "_law_number"] ["_law_bag_here", "_law_many"] (defScope s__law_pick) := ⟨rfl, rfl, rfl, by decide +kernel, rfl, by decide +kernel, by decide +kernel⟩
/-- a drawn number below n -/
def sp_pick : Sp := fun vs H Q _ => ∃ (a g : Addr) (n : Nat), vs = [.ref a, .int (n : Int)] ∧ 0 < n ∧ n < 2 ^ 100 ∧ Bag H a g ∧ ∀ H' (d : Nat), d < n → But a g H H' → Bag H' a g → Q (.int (d : Int)) H'
theorem ok_pick (T : Txt K mg base) {f : Addr} {fd : FuncData} (F : Fun K "_law_pick" "_law_pick" s__law_pick f fd) : FnOk P w K mg base CX0 1 f fd ["_law_bag_here", "_law_many"] sp_pick := by
  refine F.ok sc__law_pick (fun vs H Q E h => ?_) (fun cdv A outer s H vs Q E hr h => ?_)
  · obtain ⟨a, g, n, rfl, _⟩ := h; rfl
  obtain ⟨a, g, n, rfl, hn, hn2, ⟨sd, nm, z, gs, ha, hg, hne, hz, hl⟩, q⟩ := h
  refine ⟨_, (pss_cons (ps_if (pt_cmpR op_notN (pe_ix ix_list (pv 0) pe_int (fun _ _ => rfl)) pe_non (nomark _)) (pss_one (ps_ret (pe_op op_mod (pe_callTy call_int1 rfl T.n_int boot_int (pa_cons (pe_ix ix_list (pv 0) pe_int (fun _ _ => rfl)) pa_nil)) (pv 1)))) pss_nil)
    (pss_cons (ps_asg (pe_op op_add (pe_ix ix_list (pv 0) pe_int (fun _ _ => rfl)) pe_int) (pg_sub (pv 0) pe_int set_list))
    (pss_cons (ps_set (i := 2) sc__law_pick.nd rfl (Or.inl rfl) (pe_ix ix_list (pv 0) pe_int (fun _ _ => rfl)))
    (pss_cons (ps_if (pt_cmpR op_gt (pe_callB call_len_seq rfl T.n_len boot_len (pa_cons (pv 2) pa_nil)) pe_int (nomark _)) (pss_cons (ps_set (i := 3) sc__law_pick.nd rfl (Or.inl rfl) (pe_op op_mod (pe_callTy call_int1 rfl T.n_int boot_int (pa_cons (pe_ix ix_list (pv 2) pe_int (fun _ _ => rfl)) pa_nil)) (pv 1)))
      (pss_cons (ps_asg (pe_op op_fdivW (pe_callTy call_int1 rfl T.n_int boot_int (pa_cons (pe_ix ix_list (pv 2) pe_int (fun _ _ => rfl)) pa_nil)) (pv 1)) (pg_sub (pv 2) pe_int set_list))
      (pss_cons (ps_if (pt_cmpR op_eq (pe_ix ix_list (pv 2) pe_int (fun _ _ => rfl)) pe_int (nomark _)) (pss_one (ps_expr (pe_bm PySem.F.plainAttrs_list PySem.F.slot_list_pop PySem.F.type_list_pop mt_popAt (pv 2) (pa_cons pe_int pa_nil)))) pss_nil)
      (pss_one (ps_ret (pv 3)))))) pss_nil)
    (pss_cons (ps_set (i := 4) sc__law_pick.nd rfl (Or.inl rfl) (pe_op op_mod (pe_callTy call_int1 rfl T.n_int boot_int (pa_cons (pe_op op_mul (pe_op op_add (pe_ix ix_list (pv 0) pe_int (fun _ _ => rfl)) (pe_op op_mul pe_int (pe_ix ix_list (pv 0) pe_int (fun _ _ => rfl)))) pe_int) pa_nil)) pe_int))
    (pss_cons (ps_set (i := 4) sc__law_pick.nd rfl (Or.inl rfl) (pe_op op_mod (pe_callTy call_int1 rfl T.n_int boot_int (pa_cons (pe_op op_mul (pv 4) (pe_op op_add (pe_op op_fdivW (pv 4) pe_int) pe_int)) pa_nil)) pe_int))
    (pss_cons (ps_set (i := 4) sc__law_pick.nd rfl (Or.inl rfl) (pe_op op_mod (pe_callTy call_int1 rfl T.n_int boot_int (pa_cons (pe_op op_mul (pv 4) (pe_op op_add (pe_op op_fdivW (pv 4) pe_int) pe_int)) pa_nil)) pe_int))
    (pss_one (ps_ret (pe_op op_mod (pe_callTy call_int1 rfl T.n_int boot_int (pa_cons (pe_op op_fdivW (pv 4) pe_int) pa_nil)) (pv 1))))))))))), ?_⟩
  have hpos : (0 : Int) < (n : Int) := by omega
  have hlog : ((n : Int)).natAbs.log2 < 9000 := by
    have : ((n : Int)).natAbs = n := Int.natAbs_natCast n
    rw [this]
    have := (Nat.log2_lt (Nat.ne_of_gt hn)).mpr hn2
    omega
  have out : ∀ (x : Int) (H' : Hp), But a g H H' → Bag H' a g → Q (.int (x % (n : Int))) H' := fun x H' b bg => by
    have h0 := Int.emod_nonneg x (Int.ne_of_gt hpos)
    have h1 := Int.emod_lt_of_pos x hpos
    have e : V.int (x % (n : Int)) = V.int (((x % (n : Int)).toNat : Nat) : Int) := congrArg V.int (by omega)
    rw [e]
    exact q H' _ (by omega) b bg
  -- bag[3] is not None
  refine seq_join (fun σ H' => H' = H ∧ z = .non ∧ σ = [some (.ref a), some (.int (n : Int)), none, none, none]) ?_ ?_
  rotate_left
  · intro NX nx
    refine ⟨_, rfl, a, _, _, _, rfl, rfl, SqL.of ha, atI_nat (j := 3) rfl, rfl, _, rfl, ?_⟩
    refine itedn (fun h1 => ?_) (fun h1 => go_next (nx _ _ ⟨rfl, h1, rfl⟩))
    rcases hz with e | ⟨k, rfl⟩
    · exact absurd e h1
    refine ⟨_, rfl, a, _, _, _, rfl, rfl, SqL.of ha, atI_nat (j := 3) rfl, .inl ⟨_, rfl, _, rfl, _, _, rfl, rfl, hpos, ?_⟩⟩
    exact out k H (.refl a g H) ⟨sd, nm, _, gs, ha, hg, hne, .inr ⟨k, rfl⟩, hl⟩
  rintro σ H' ⟨rfl, rfl, rfl⟩
  -- bag[1] = bag[1] + 1
  refine ⟨_, rfl, a, _, _, _, rfl, rfl, SqL.of ha, atI_nat (j := 1) rfl, _, _, rfl, rfl, _, rfl, a, _, _, 1, rfl, rfl, ha, rfl, ?_⟩
  have b1 : But a g H' (upd H' a (.lst [V.int sd, V.int (nm + 1), V.ref g, V.non])) := .one
  have ha1 : (upd H' a (.lst [V.int sd, V.int (nm + 1), V.ref g, V.non])) a = some (.lst [V.int sd, V.int (nm + 1), V.ref g, V.non]) := upd_same
  have hg1 : (upd H' a (.lst [V.int sd, V.int (nm + 1), V.ref g, V.non])) g = some (.lst (gs.map V.int)) := by rw [upd_ne hne]; exact hg
  dsimp only
  show tSeq (tAsg _ (gName 2)) _ _ _ (upd H' a (.lst [V.int sd, V.int (nm + 1), V.ref g, V.non]))
  generalize upd H' a (.lst [V.int sd, V.int (nm + 1), V.ref g, V.non]) = H1 at *
  generalize nm + 1 = nm at *
  refine seq_set ?_
  refine ⟨_, rfl, a, _, _, _, rfl, rfl, SqL.of ha1, atI_nat (j := 2) rfl, ?_⟩
  refine seq_join (fun σ H2 => H2 = H1 ∧ σ = [some (.ref a), some (.int (n : Int)), some (.ref g), none, none]) ?_ ?_
  rotate_left
  · intro NX nx
    refine ⟨_, rfl, g, _, rfl, .inl (SqL.of hg1), _, _, rfl, rfl, _, rfl, ?_⟩
    refine ited (fun h1 => ?_) (fun h1 => go_next (nx _ _ ⟨rfl, rfl⟩))
    obtain ⟨c, r, rfl⟩ : ∃ c r, gs = c :: r := by
      cases gs with
      | nil => exact absurd h1 (by decide)
      | cons c r => exact ⟨c, r, rfl⟩
    refine seq_set ?_
    refine ⟨_, rfl, g, _, _, _, rfl, rfl, SqL.of hg1, atI_nat (j := 0) rfl, .inl ⟨_, rfl, _, rfl, _, _, rfl, rfl, hpos, ?_⟩⟩
    refine ⟨_, rfl, g, _, _, _, rfl, rfl, SqL.of hg1, atI_nat (j := 0) rfl, .inl ⟨_, rfl, _, rfl, _, _, rfl, rfl, ⟨hpos, hlog⟩, ?_⟩⟩
    refine ⟨_, rfl, g, _, _, 0, rfl, rfl, hg1, by simp [ixN], ?_⟩
    have b2 : But a g H1 (upd H1 g (.lst (((c / (n : Int)) :: r).map V.int))) := .two
    have ha2 : (upd H1 g (.lst (((c / (n : Int)) :: r).map V.int))) a = some (.lst [V.int sd, V.int nm, V.ref g, V.non]) := by rw [upd_ne hne.symm]; exact ha1
    have hg2 : (upd H1 g (.lst (((c / (n : Int)) :: r).map V.int))) g = some (.lst (((c / (n : Int)) :: r).map V.int)) := upd_same
    dsimp only
    show tSeq (tIfS _ _ _) _ _ _ (upd H1 g (.lst (((c / (n : Int)) :: r).map V.int)))
    generalize upd H1 g (.lst (((c / (n : Int)) :: r).map V.int)) = H2 at *
    generalize c / (n : Int) = c2 at *
    have fin : ∀ H3, But a g H2 H3 → Bag H3 a g → Q (.int (c % (n : Int))) H3 := fun H3 b bg => out c H3 ((b1.trans b2).trans b) bg
    refine seq_join (fun σ H3 => But a g H2 H3 ∧ Bag H3 a g ∧ σ = [some (.ref a), some (.int (n : Int)), some (.ref g), some (.int (c % (n : Int))), none]) ?_ ?_
    · rintro σ H3 ⟨b3, bg3, rfl⟩
      exact ⟨_, rfl, fin H3 b3 bg3⟩
    intro NX2 nx2
    refine ⟨_, rfl, g, _, _, _, rfl, rfl, SqL.of hg2, atI_nat (j := 0) rfl, rfl, _, rfl, ?_⟩
    have hl2 : (c2 :: r).length ≤ 63 := hl
    refine ited (fun h2 => ?_) (fun h2 => go_next (nx2 _ _ ⟨.refl a g H2, ⟨sd, nm, _, _, ha2, hg2, hne, .inl rfl, hl2⟩, rfl⟩))
    refine ⟨_, rfl, .inl ⟨rfl, _, SqL.of hg2⟩, g, _, 0, 0, _, rfl, rfl, hg2, by decide, by decide, seqIndex_of (by decide) (by simp only [List.length_map, List.length_cons]; omega), rfl, ?_⟩
    exact nx2 _ _ ⟨.two, ⟨sd, nm, _, r, by rw [upd_ne hne.symm]; exact ha2, upd_same, hne, .inl rfl, by simp only [List.length_cons] at hl2; omega⟩, rfl⟩
  rintro σ H2 ⟨rfl, rfl⟩
  have fin : ∀ x : Int, Q (.int (x % (n : Int))) H2 := fun x => out x H2 b1 ⟨sd, nm, _, gs, ha1, hg1, hne, .inl rfl, hl⟩
  have at0 := atI_nat (xs := [V.int sd, V.int nm, V.ref g, V.non]) (j := 0) rfl
  have at1 := atI_nat (xs := [V.int sd, V.int nm, V.ref g, V.non]) (j := 1) rfl
  refine seq_set ?_
  refine ⟨_, rfl, a, _, _, _, rfl, rfl, SqL.of ha1, at0, _, rfl, a, _, _, _, rfl, rfl, SqL.of ha1, at1, _, _, rfl, rfl, .inl ⟨by decide, by decide⟩, _, _, rfl, rfl, _, _, rfl, rfl, .inr ⟨by decide, by decide⟩, .inl ⟨_, rfl, _, _, rfl, rfl, (show (0 : Int) < 2147483647 by decide), ?_⟩⟩
  refine seq_set ?_
  refine ⟨_, rfl, _, rfl, _, _, rfl, rfl, ⟨by decide, by decide⟩, _, _, rfl, rfl, _, _, rfl, rfl, .inl (mod_in (by decide) (by decide)), .inl ⟨_, rfl, _, _, rfl, rfl, (show (0 : Int) < 2147483647 by decide), ?_⟩⟩
  refine seq_set ?_
  refine ⟨_, rfl, _, rfl, _, _, rfl, rfl, ⟨by decide, by decide⟩, _, _, rfl, rfl, _, _, rfl, rfl, .inl (mod_in (by decide) (by decide)), .inl ⟨_, rfl, _, _, rfl, rfl, (show (0 : Int) < 2147483399 by decide), ?_⟩⟩
  refine ⟨_, rfl, _, _, rfl, rfl, ⟨by decide, by decide⟩, .inl ⟨_, rfl, _, rfl, _, _, rfl, rfl, hpos, fin _⟩⟩
end
end Wk
set_option maxRecDepth 100000
set_option maxHeartbeats 8000000
namespace Wk
open PySem L2 TL PyProof.Rows
open SX (S S_len)
section
variable {P : Program} {w : World} {K : PySem.W.Frag} {mg : Str → Option Value} {base : Heap}
/-! ### what is told and due -/
abbrev s__law_is : Stmt := top 73
theorem sc__law_is : FnScope ["_law_found", "_law_due"] ["_law_found", "_law_due"] (defScope s__law_is) := ⟨rfl, rfl, rfl, by decide +kernel, rfl, by decide +kernel, by decide +kernel⟩
def sp_is (K : PySem.W.Frag) : Sp := fun vs H Q _ => ∃ a b d, vs = [.ref a, .ref b] ∧ Dp K H (.ref a) d ∧ Dp K H (.ref b) d ∧ SeqAt.shaped d = true ∧ d.showable = true ∧ d.hasDict = false ∧ d.depth ≤ 60 ∧ d.shown.length ≤ sizeLine ∧ Q (.bl true) H
theorem ok_is (T : Txt K mg base) {f : Addr} {fd : FuncData} (F : Fun K "_law_is" "_law_is" s__law_is f fd) : FnG P w K mg base 1 f fd ["_law_found", "_law_due"] (sp_is K) := by
  refine okG F sc__law_is (fun vs H Q E h => ?_) (fun cdv A outer s H vs Q E hG hr lk h => ?_)
  · obtain ⟨a, b, d, rfl, _⟩ := h; rfl
  obtain ⟨a, b, d, rfl, da, db, h1, h2, h3, h4, h5, q⟩ := h
  refine ⟨_, (pss_one (ps_ret (pe_and (pe_cmpR (op_eqD hr.units) (pv 0) (pv 1) (nomark _)) (pe_one (pe_cmpR op_eq (pe_callB (call_repr_deep hG hr.units) rfl T.n_repr (by decide +kernel) (pa_cons (pv 0) pa_nil)) (pe_callB (call_repr_deep hG hr.units) rfl T.n_repr (by decide +kernel) (pa_cons (pv 1) pa_nil)) (nomark _)))))), ?_⟩
  refine ⟨_, rfl, _, rfl, d, d, da, db, h1, h1, _, rfl, ?_⟩
  rw [SeqAt.eqv_refl d (SeqAt.canLay_of_shaped h1)]
  refine iteT ?_
  refine ⟨_, rfl, a, d, rfl, da, h2, h3, h4, h5, _, rfl, b, d, rfl, db, h2, h3, h4, h5, rfl, ?_⟩
  rw [decide_eq_true rfl]
  exact q
end
end Wk
set_option maxRecDepth 100000
set_option maxHeartbeats 8000000
namespace Wk
open PySem L2 TL PyProof.Rows
open SX (S S_len)
section
variable {P : Program} {w : World} {K : PySem.W.Frag} {mg : Str → Option Value} {base : Heap}
theorem cut_ints (ns : List Int) (lo hi : Option Int) : ∃ ms : List Int, cutV (ns.map V.int) lo hi = ms.map V.int ∧ ms.length ≤ ns.length := by
  refine ⟨(ns.drop (HT.sIx (ns.map V.int).length 0 lo)).take (HT.sIx (ns.map V.int).length (ns.map V.int).length hi - HT.sIx (ns.map V.int).length 0 lo), ?_, ?_⟩
  · unfold cutV
    rw [List.map_take, List.map_drop]
  · rw [List.length_take, List.length_drop]; omega
theorem cut_mem {xs : List V} {lo hi : Option Int} {x : V} (h : x ∈ cutV xs lo hi) : x ∈ xs := List.mem_of_mem_drop (List.mem_of_mem_take h)
abbrev s__law_bag : Stmt := top 71
theorem sc__law_bag : FnScope ["_law_script", "_law_seed", "_law_cell", "_law_great", "_law_always"] ["_law_script"] (defScope s__law_bag) := ⟨rfl, rfl, rfl, by decide +kernel, rfl, by decide +kernel, by decide +kernel⟩
def sp_bag (K : PySem.W.Frag) : Sp := fun vs H Q _ => ∃ (l : Addr) (ns : List Int), vs = [.ref l] ∧ SqL K H l (ns.map V.int) ∧ ns.length ≤ 63 ∧ ∀ H' a g, Same H H' → Bag H' a g → Q (.ref a) H'
theorem ok_bag (T : Txt K mg base) {f : Addr} {fd : FuncData} (F : Fun K "_law_bag" "_law_bag" s__law_bag f fd) : FnOk P w K mg base CX0 1 f fd ["_law_script"] (sp_bag K) := by
  refine F.ok sc__law_bag (fun vs H Q E h => ?_) (fun cdv A outer s H vs Q E hr h => ?_)
  · obtain ⟨l, ns, rfl, _⟩ := h; rfl
  obtain ⟨l, ns, rfl, hl, hn, q⟩ := h
  refine ⟨_, (pss_cons (ps_set (i := 1) sc__law_bag.nd rfl (Or.inl rfl) (pe_op op_add pe_int (pe_callB call_len_seq rfl T.n_len boot_len (pa_cons (pv 0) pa_nil))))
    (pss_cons (ps_for PassesOwn.never rfl (pi_list (pe_slice sl_list (pv 0) po_none (po_some pe_int))) (pg_name (i := 2) sc__law_bag.nd rfl (Or.inl rfl)) (pss_one (ps_set (i := 1) sc__law_bag.nd rfl (Or.inl rfl) (pe_op op_mod (pe_callTy call_int1 rfl T.n_int boot_int (pa_cons (pe_op op_add (pe_op op_add (pe_op op_mul (pv 1) pe_int) (pe_op op_mod (pe_callTy call_int1 rfl T.n_int boot_int (pa_cons (pv 2) pa_nil)) pe_int)) pe_int) pa_nil)) pe_int))))
    (pss_cons (ps_setLc (i := 3) (own := [("_law_cell", 2)]) (g := gName 2) rfl sc__law_bag.nd rfl rfl (sw_true rfl rfl rfl (by decide +kernel)) (pi_list (pe_slice sl_list (pv 0) po_none (po_some pe_int))) (blkOk_by (N := ["_law_script", "_law_seed", "_law_cell", "_law_great", "_law_always"]) (sc := defScope s__law_bag) (by decide +kernel)) (fun _ _ _ _ _ => pg_name (i := 2) sc__law_bag.nd rfl (Or.inl rfl)) (fun _ _ _ _ _ => pts_one (pt_cmpR op_ge (pe_callB call_abs rfl T.n_abs boot_abs (pa_cons (pe_callTy call_int1 rfl T.n_int boot_int (pa_cons (pv 2) pa_nil)) pa_nil)) (pe_op op_pow pe_int pe_int) (nomark _))) (fun _ _ _ _ _ => (pe_callB call_abs rfl T.n_abs boot_abs (pa_cons (pe_callTy call_int1 rfl T.n_int boot_int (pa_cons (pv 2) pa_nil)) pa_nil))))
    (pss_cons (ps_set (i := 4) sc__law_bag.nd rfl (Or.inl rfl) pe_non)
    (pss_cons (ps_if (PW.pt (pw_and (pt_cmpR op_lt (pe_callB call_len_seq rfl T.n_len boot_len (pa_cons (pv 0) pa_nil)) pe_int (nomark _)) (pw_and1 (pt_cmpR op_eq (pe_callB call_len_seq rfl T.n_len boot_len (pa_cons (pv 3) pa_nil)) pe_int (nomark _))))) (pss_one (ps_set (i := 4) sc__law_bag.nd rfl (Or.inl rfl) (pe_callB call_abs rfl T.n_abs boot_abs (pa_cons (pe_callB (cr_sum rfl) rfl T.n_sum boot_sum (pa_cons (pe_lc (own := [("_law_cell", 2)]) (g := gName 2) (tt := tYes) rfl sc__law_bag.nd (pi_list (pv 0)) (blkOk_by (N := ["_law_script", "_law_seed", "_law_cell", "_law_great", "_law_always"]) (sc := defScope s__law_bag) (by decide +kernel)) (fun _ _ _ _ _ => pg_name (i := 2) sc__law_bag.nd rfl (Or.inl rfl)) (fun _ _ _ _ _ => pts_nil) (fun _ _ _ _ _ => (pe_callTy call_int1 rfl T.n_int boot_int (pa_cons (pv 2) pa_nil)))) pa_nil)) pa_nil)))) pss_nil)
    (pss_one (ps_ret (pe_lst (pa_cons (pv 1) (pa_cons pe_int (pa_cons (pv 3) (pa_cons (pv 4) pa_nil)))))))))))), ?_⟩
  have hz := line_eq
  refine seq_set ?_
  refine ⟨_, rfl, l, _, rfl, .inl hl, _, _, rfl, rfl, ?_⟩
  refine seq_join (fun σ H' => Same H H' ∧ ∃ (x : Int) (o : Option V), σ = [some (.ref l), some (.int x), o, none, none]) ?_ ?_
  rotate_left
  · intro NX nx
    refine ⟨_, rfl, _, rfl, l, _, rfl, hl, fun p np => ?_⟩
    obtain ⟨ms, em, lm⟩ := cut_ints ns none (some 63)
    rw [em]
    refine ⟨p, rfl, ⟨_, SqL.of upd_same⟩, ?_⟩
    refine for_list (xs := ms.map V.int) (fun _ σ H' => Same H H' ∧ H' p = some (.lst (ms.map V.int)) ∧ ∃ (x : Int) (o : Option V), σ = [some (.ref l), some (.int x), o, none, none]) ⟨same_new np _, upd_same, _, _, rfl⟩ (fun i σ H' _ h => SqL.of h.2.1) ?_ (fun σ H' h => nx _ _ ⟨h.1, h.2.2⟩)
    rintro i v σ H' hv ⟨g, hp, x, o, rfl⟩
    obtain ⟨m, rfl⟩ : ∃ m : Int, v = .int m := by
      rw [List.getElem?_map] at hv
      cases e : ms[i]? with
      | none => rw [e] at hv; cases hv
      | some m => rw [e] at hv; exact ⟨m, (Option.some.inj hv).symm⟩
    refine ⟨_, rfl, _, _, rfl, rfl, .inr ⟨by decide, by decide⟩, _, rfl, .inl ⟨_, rfl, _, _, rfl, rfl, (show (0 : Int) < 1000003 by decide), _, _, rfl, rfl, _, _, rfl, rfl, .inl ⟨_, rfl, _, _, rfl, rfl, (show (0 : Int) < 2147483647 by decide), ?_⟩⟩⟩
    exact ⟨g, hp, _, _, rfl⟩
  rintro σ H1 ⟨g1, sd, o, rfl⟩
  have hl1 := g1.seq hl
  -- great = [..]
  refine seq_join (fun σ H' => Same H1 H' ∧ ∃ (p : Addr) (gs : List Int), H' p = some (.lst (gs.map V.int)) ∧ gs.length ≤ 63 ∧ H1 p = none ∧ σ = [some (.ref l), some (.int sd), o, some (.ref p), none]) ?_ ?_
  rotate_left
  · intro NX nx
    refine ⟨_, rfl, _, rfl, l, _, rfl, hl1, fun p np => ?_⟩
    obtain ⟨ms, em, lm⟩ := cut_ints ns none (some 63)
    rw [em]
    refine ⟨p, rfl, ⟨_, SqL.of upd_same⟩, fun D hD => ?_⟩
    have pD : p ≠ D := ne_of_none upd_same hD
    have nD : H1 D = none := by rw [upd_ne pD.symm] at hD; exact hD
    refine lc_list (xs := ms.map V.int) (fun i H' => Same H1 H' ∧ H' p = some (.lst (ms.map V.int)) ∧ ∃ gs : List Int, H' D = some (.lst (gs.map V.int)) ∧ gs.length ≤ i ∧ i ≤ ms.length) ⟨(same_new np _).trans (same_new hD _), by rw [upd_ne pD]; exact upd_same, [], upd_same, Nat.le_refl _, Nat.zero_le _⟩ (fun i H' _ h => SqL.of h.2.1) ?_ ?_
    · rintro i v H' hv ⟨g, hp, gs, hd, hi, hi2⟩
      have hlt : i < ms.length := by
        rcases Nat.lt_or_ge i ms.length with z | z
        · exact z
        · rw [List.getElem?_eq_none (by rw [List.length_map]; exact z)] at hv; cases hv
      obtain ⟨m, rfl⟩ : ∃ m : Int, v = .int m := by
        rw [List.getElem?_map] at hv
        cases e : ms[i]? with
        | none => rw [e] at hv; cases hv
        | some m => rw [e] at hv; exact ⟨m, (Option.some.inj hv).symm⟩
      refine ⟨rfl, ?_⟩
      refine ⟨_, rfl, .inl ⟨_, rfl, _, rfl, _, _, rfl, rfl, ⟨by decide, by decide, by decide⟩, _, _, rfl, rfl, _, rfl, ?_⟩⟩
      refine ited (fun h1 => ?_) (fun h1 => ⟨g, hp, gs, hd, Nat.le_succ_of_le hi, hlt⟩)
      refine ⟨_, rfl, .inl ⟨_, rfl, _, rfl, _, hd, by rw [List.length_map]; omega, ?_⟩⟩
      refine ⟨same_mut g nD _, by rw [upd_ne pD]; exact hp, gs ++ [if m < 0 then -m else m], ?_, by rw [List.length_append]; exact Nat.succ_le_succ hi, hlt⟩
      rw [upd_same, List.map_append]; rfl
    · rintro H' ⟨g, hp, gs, hd, hi, hi2⟩
      rw [List.length_map] at hi
      exact nx _ _ ⟨g, D, gs, hd, by omega, nD, rfl⟩
  rintro σ H2 ⟨g2, p, gs, hp, hgs, np, rfl⟩
  have hl2 := g2.seq hl1
  refine seq_setC ?_
  refine seq_join (fun σ H' => Same H2 H' ∧ ∃ z : V, (z = .non ∨ ∃ k : Int, z = .int k) ∧ σ = [some (.ref l), some (.int sd), o, some (.ref p), some z]) ?_ ?_
  rotate_left
  · intro NX nx
    refine ⟨_, rfl, l, _, rfl, .inl hl2, _, _, rfl, rfl, _, rfl, ?_⟩
    refine ited (fun h1 => ?_) (fun h1 => go_next (nx _ _ ⟨Same.refl H2, .non, .inl rfl, rfl⟩))
    refine ⟨_, rfl, p, _, rfl, .inl (SqL.of hp), rfl, _, rfl, ?_⟩
    refine ited (fun h2 => ?_) (fun h2 => go_next (nx _ _ ⟨Same.refl H2, .non, .inl rfl, rfl⟩))
    refine ⟨_, rfl, l, rfl, ⟨_, hl2⟩, fun D hD => ?_⟩
    have lD : ∀ {H'}, Same H2 H' → SqL K H' l (ns.map V.int) := fun g => g.seq hl2
    refine lc_list (xs := ns.map V.int) (fun i H' => Same H2 H' ∧ ∃ gs : List Int, H' D = some (.lst (gs.map V.int)) ∧ gs.length ≤ i ∧ i ≤ ns.length) ⟨same_new hD _, [], upd_same, Nat.le_refl _, Nat.zero_le _⟩ (fun i H' _ h => lD h.1) ?_ ?_
    · rintro i v H' hv ⟨g, gs, hd, hi, hi2⟩
      have hlt : i < ns.length := by
        rcases Nat.lt_or_ge i ns.length with z | z
        · exact z
        · rw [List.getElem?_eq_none (by rw [List.length_map]; exact z)] at hv; cases hv
      obtain ⟨m, rfl⟩ : ∃ m : Int, v = .int m := by
        rw [List.getElem?_map] at hv
        cases e : ns[i]? with
        | none => rw [e] at hv; cases hv
        | some m => rw [e] at hv; exact ⟨m, (Option.some.inj hv).symm⟩
      refine ⟨rfl, ?_⟩
      unfold tYes
      dsimp only
      rw [if_pos rfl]
      refine ⟨_, rfl, .inl ⟨_, rfl, _, hd, by rw [List.length_map]; omega, ?_⟩⟩
      refine ⟨same_mut g hD _, gs ++ [m], ?_, by rw [List.length_append]; exact Nat.succ_le_succ hi, hlt⟩
      rw [upd_same, List.map_append]; rfl
    · rintro H' ⟨g, gs, hd, hi, hi2⟩
      refine ⟨D, gs, rfl, SqL.of hd, _, rfl, ?_⟩
      exact nx _ _ ⟨g, _, .inr ⟨_, rfl⟩, rfl⟩
  rintro σ H3 ⟨g3, z, hz3, rfl⟩
  refine ⟨_, rfl, _, rfl, _, rfl, by show 4 ≤ sizeLine; omega, fun a na => ?_⟩
  have pa : p ≠ a := ne_of_none (g3 _ _ hp) na
  exact q _ a p (((g1.trans g2).trans g3).trans (same_new na _)) ⟨sd, 1, z, gs, upd_same, by rw [upd_ne pa]; exact g3 _ _ hp, pa, hz3, hgs⟩
end
end Wk
set_option maxRecDepth 100000
set_option maxHeartbeats 4000000
/-! Rules of my own: tuple(d) and list(d.values()) of a dict, xs[a:b] = ys. -/
namespace Wk
open PySem PySem.Spec PyProof.Rows L2
section
variable {P : Program} {w : World} {A : Around} {E : Value → Shared → Prop} {s : Shared} {T : String} {r d : Addr} {n : Nat} {R : Nat → Value → Prop} {OK : Heap → Prop}
/-- all that a source tells, in a list that nobody sees -/
theorem collect_src {Q : List Value → Shared → Prop} (K : PySem.W.KdlSrc P w T r d n R OK) (hh : A.handled = none) (hok : OK s.heap) (hn : n ≤ sizeLine)
    (hQ : ∀ (h' : Heap) (tk : Nat) (got : Array Value), (∀ b o, s.heap.get? b = some o → h'.get? b = some o) → ItemsOf R got n → Q got.toList { s with heap := h', toks := tk }) :
    wpAny (model P w) A (collect (.ref r)) Q E s := by
  unfold collect
  refine wpAny_bind (wpAny_runValue (codeAny_builtin F.entry_proto_collect ?_)); rw [Around.under_plainId F.plain_proto_collect _]
  show wpAny _ A.in1 (newList [] >>= fun x => again (.builtin "list.__iadd__" ⟨[x, .ref r], []⟩)) _ _ s
  refine wpAny_bind (wpAny_newObj_type (wpAny_pure ⟨plainId_quiet F.plain_list_iadd _, codeAny_builtin F.entry_list_iadd ?_⟩)); rw [Around.under_plainId F.plain_list_iadd _]
  show wpAny _ A.in1 (Builtin.List.listExtendWith (.ref s.heap.objs.size) (.ref r) (.ref s.heap.objs.size)) _ _ _
  have hl := K.there _ hok
  have new : (s.heap.push { cls := .type "list", data := .seq ([] : List Value).toArray }).get? s.heap.objs.size = some { cls := .type "list", data := .seq #[] 0 } := Heap.get?_push_size _ rfl
  refine wpAny_mono (PySem.W.kdl_extend (A := A) (s := { s with heap := s.heap.push { cls := .type "list", data := .seq ([] : List Value).toArray } })
    (R := fun q s' => q = .ok (.ret (.ref s.heap.objs.size)) ∧ ∃ (h' : Heap) (tk : Nat) (got : Array Value) (c' : Nat), s' = { s with heap := h', toks := tk } ∧ (∀ b o, s.heap.get? b = some o → h'.get? b = some o) ∧ h'.get? s.heap.objs.size = some { cls := .type "list", dict := none, data := .seq got c', slots := #[] } ∧ ItemsOf R got n)
    K hh (K.keep _ _ hok fun b _ o q => Heap.get?_push_of_some _ q) s.heap.objs.size (Nat.ne_of_gt hl.1) (Nat.ne_of_gt hl.2) _ 0 new
    (fun h' tk got c' hk e hi => ⟨rfl, h', tk, got, c', rfl, fun b o q => hk b o (Nat.ne_of_lt (Heap.lt_size q)) (Heap.get?_push_of_some _ q), e, hi⟩) hn) (fun fin s' h => ?_) (fun e s' h => absurd h.1 (by simp))
  cases fin with
  | done f =>
    obtain ⟨e, h', tk, got, c', rfl, hk, hS, hi⟩ := h
    cases e
    show wpAny _ A (load s.heap.objs.size >>= _) _ _ _
    exact wpAny_bind (wpAny_load hS (wpAny_pure (hQ h' tk got hk hi)))
  | again c' =>
    refine ⟨h.1, codeAny_mono h.2 fun q s'' hq => ?_⟩
    obtain ⟨rfl, h', tk, got, c', rfl, hk, hS, hi⟩ := hq
    show wpAny _ A (load s.heap.objs.size >>= _) _ _ _
    exact wpAny_bind (wpAny_load hS (wpAny_pure (hQ h' tk got hk hi)))
theorem tuple_src {Q : Value → Shared → Prop} (K : PySem.W.KdlSrc P w T r d n R OK) (hT : T ≠ "tuple") (hh : A.handled = none) (hok : OK s.heap) (hn : n ≤ sizeLine)
    (hQ : ∀ (h' : Heap) (tk : Nat) (got : Array Value), (∀ b o, s.heap.get? b = some o → h'.get? b = some o) → ItemsOf R got n → Q (.ref h'.objs.size) { s with heap := h'.push { cls := .type "tuple", data := .seq got }, toks := tk }) :
    wpAny (model P w) A (call (.type "tuple") [.ref r]) Q E s := by
  have made : ∀ {Q₁ : Value → Shared → Prop}, (∀ (h' : Heap) (tk : Nat) (got : Array Value), (∀ b o, s.heap.get? b = some o → h'.get? b = some o) → ItemsOf R got n → Q₁ (.ref h'.objs.size) { s with heap := h'.push { cls := .type "tuple", data := .seq got }, toks := tk }) →
      codeAny (model P w) A.in1 (.call (.builtin "tuple.__new__") ⟨[.type "tuple", .ref r], []⟩) (wants Q₁ E) s := fun {Q₁} h => by
    refine codeAny_of_tree ?_
    show wpAny _ A.in1.in1 (do checkBuiltinCall "tuple.__new__" ⟨[.type "tuple", .ref r], []⟩; again (.builtin "tuple.__new__" ⟨[.type "tuple", .ref r], []⟩)) _ _ s
    refine wpAny_bind (wpAny_of_eq (F.newCall_tuple_1 _) (wpAny_pure ⟨plainId_quiet F.plain_tuple_new _, codeAny_builtin F.entry_tuple_new ?_⟩)); rw [Around.under_plainId F.plain_tuple_new _]
    have a1 := sub_tuple_self
    have a2 := init_tuple_lookup
    have a3 := madeHere_tuple
    have a4 := K.type s hok
    have a5 : A.in1.in1.handled = none := hh
    wp_walk using wpAny_typeOf a4, collect_src (A := A.in1.in1) K a5 hok hn
    intro h' tk got hk hi
    show wpAny _ _ (Builtin.Tuple.tupleExact got.toList.toArray >>= fun v => ret v) _ _ _
    unfold Builtin.Tuple.tupleExact
    have e : got.toList.toArray = got := by simp
    rw [e]
    exact wpAny_bind (wpAny_newObj_type (wpAny_pure (h h' tk got hk hi)) (by show got.size ≤ sizeLine; rw [hi.1]; exact hn))
  refine callType_codes (Q₁ := fun o s₁ => s₁.TypeIs o "tuple" ∧ Q o s₁) F.called_tuple (F.typeCall_tuple_1 _) F.entry_object_init (made fun h' tk got hk hi => ⟨⟨_, Heap.get?_push_size _ rfl, rfl⟩, hQ h' tk got hk hi⟩) fun o s₁ h₁ => ?_
  exact ⟨h₁.1, F.args_object_init_2 o _, object_init_meets F.called_tuple.init.lookup F.called_tuple.made (by decide) P w A.in1 _ s₁ ⟨h₁.1, rfl, h₁.2⟩⟩
end
section
variable {X : Cx} {e : Expr} {te : TE} {p apos cpos pos : Pos}
/-- tuple(d) of a dict: its keys -/
def rTupD : List V → Hp → VK → Prop := fun xs H Q => ∃ d kvs, xs = [.ref d] ∧ H d = some (.dK kvs) ∧ ∀ q, H q = none → Q (.ref q) (upd H q (.tup (kvs.map fun kv => kV kv.1)))
theorem call_tup_dK (hc : X.calm = true) : CallR X (.type "tuple") rTupD := by
  intro pins s σ H xs us Q I r h
  obtain ⟨d, kvs, rfl, hd, q⟩ := h
  obtain ⟨u, rfl, rx⟩ := vals1 r
  obtain rfl : u = Value.ref d := rx
  obtain ⟨z, lo, vs, rk, ho⟩ := (show ObjOk X.prog X.w H s.heap d (.dK kvs) from I.hok d _ hd)
  obtain ⟨ep, at_⟩ := ho.dictAt
  have hl : kvs.length = vs.length := Paired.length rk
  refine tuple_src (PySem.W.kdl_dict (knd := mixKind X.prog X.w) (kvs := vs) (ep := ep) lo) (by decide) (I.ok.hd hc) at_ (by rw [← hl]; exact z) fun h' tk got keep hi => ?_
  have J : Inv X pins σ H { s with heap := h', toks := tk } := I.kept keep
  refine ⟨.ref h'.objs.size, upd H h'.objs.size (.tup (kvs.map fun kv => kV kv.1)), J.laid (t' := tk) (fun b o q => Heap.get?_push_of_some _ q) (Nat.le_refl _) (show ObjOk X.prog X.w _ _ _ (.tup (kvs.map fun kv => kV kv.1)) from ⟨by rw [List.length_map]; exact z, got.toList, ?_, ?_⟩), rfl, q _ (J.hok.fresh (Nat.le_refl _))⟩
  · have el : got.toList.length = got.size := by simp
    refine vals_of_at (by rw [List.length_map, el, hi.1, hl]) fun j x v h1 h2 => ?_
    obtain ⟨k, y, hk, hv⟩ := hi.2 j v (by rw [← Array.getElem?_toList]; exact h2)
    have e1 : (kvs.map (·.1))[j]? = some k := by rw [KV.keys rk, List.getElem?_map, hk]; rfl
    have e2 : (kvs.map fun kv => kV kv.1)[j]? = some (kV k) := by
      rw [show (kvs.map fun kv => kV kv.1) = (kvs.map (·.1)).map kV from by rw [List.map_map]; rfl, List.getElem?_map, e1]; rfl
    cases h1.symm.trans e2
    exact keyIs_rel hv
  · rw [Array.toArray_toList]; exact IsTup.new _ _
/-- list(e.values()) -/
def rValsL : V → Hp → VK → Prop := fun x H Q => ∃ (d : Addr) (kvs : List (Key × V)), x = .ref d ∧ H d = some (.dK kvs) ∧ ∀ q, H q = none → Q (.ref q) (upd H q (.lst (kvs.map Prod.snd)))
def tListVals (te : TE) : TE := fun σ H Q => te σ H fun x H1 => rValsL x H1 Q
theorem kv_get : ∀ {kvs : List (Key × V)} {vs : List (Key × Value)}, KV kvs vs → ∀ {j : Nat} {k : Key} {v : Value}, vs[j]? = some (k, v) → ∃ x, kvs[j]? = some (k, x) ∧ RelV x v
  | _, _, .cons r t, 0, k, v, h => by
    cases h
    exact ⟨_, congrArg some (Prod.ext r.1 rfl), r.2⟩
  | _, _, .cons r t, j + 1, k, v, h => kv_get t (j := j) h
theorem pe_listVals (hc : X.calm = true) (he : PE X e te) (hg : Gl X "list") (hm : X.mg "list" = none) (hv : bootBuiltins "list" = some (.type "list")) (hbase : attributeBase e "values" X.env (eval e X.env) = eval e X.env := by rfl) (hline : (apos.endLine == cpos.line) = true := by rfl)
    (hs : starEach [.Call (.Attribute e "values" apos) [] [] cpos] X.env = (false, eval (.Call (.Attribute e "values" apos) [] [] cpos) X.env) :: starEach [] X.env := by rfl) : PE X (.Call (.Name "list" p) [.Call (.Attribute e "values" apos) [] [] cpos] [] pos) (tListVals te) := by
  refine ⟨fun pins s σ H Q I hq => wpAny_Call_Name_kw (ld_blt I hg hm hv (PyProof.Rows.callWith_type1 ?_ hs rfl))⟩
  rw [hs]
  show wpAny _ _ (spliced ((false, eval (.Call (.Attribute e "values" apos) [] [] cpos) X.env) :: backTo pos (starEach [] X.env))) _ _ s
  refine Calls.spliced_cons (wpAny_Call_method (T := "dict") (id := "dict.values") hbase rfl hline F.plainAttrs_dict F.slot_dict_values F.type_dict_values (thn (he.run pins s σ H _ I hq) fun u s1 ⟨x, H1, I1, rx, d, kvs, ex, hd, q⟩ => ?_))
  subst ex
  obtain rfl : u = Value.ref d := rx
  obtain ⟨hz, lo, vs, kv, ho⟩ := I1.hok d _ hd
  obtain ⟨ep, at_⟩ := ho.dictAt
  have hl : kvs.length = vs.length := Paired.length kv
  have I2 : Inv X pins σ H1 { s1 with heap := s1.heap.push { cls := .type "dict_values", data := .fields #[.ref d] } } := I1.kept (t' := s1.toks) fun b ob q => Heap.get?_push_of_some _ q
  refine ⟨ho.typeIs, ho.mapOf.noDict, ?_⟩
  show wpAny _ _ (callWith cpos (.builtin "dict.values") [.ref d] [] []) _ X.xe s1
  refine method_meetsIn F.slot_dict_values F.entry_dict_values rfl (PySem.evalArgs_none ⟨rfl, ho.typeIs, F.args_dict_values_1 _, _, meets_dict_values (mixKind X.prog X.w) d lo, ⟨vs, ho⟩, Calls.spliced_nil ?_⟩)
  refine PySem.W.kdl_call (PySem.W.kdl_values (knd := mixKind X.prog X.w) (kvs := vs) (ep := ep)) (I1.ok.hd hc) ⟨⟨_, Heap.get?_push_size _ rfl, rfl, rfl⟩, at_.push _⟩ (by omega) fun h' tk got c keep hS hi => ?_
  have new := I2.hok.fresh (Nat.le_refl _)
  refine ⟨.ref _, upd H1 _ (.lst (kvs.map Prod.snd)), I2.laid (t' := tk) keep (Nat.le_refl _) (show ObjOk X.prog X.w _ _ _ (.lst (kvs.map Prod.snd)) from ⟨by rw [List.length_map]; exact hz, got.toList, c, ?_, by rw [Array.toArray_toList]; exact hS⟩), rfl, q _ new⟩
  have el : got.toList.length = got.size := by simp
  refine vals_of_at (by rw [List.length_map, el, hi.1, hl]) fun j x v h1 h2 => ?_
  obtain ⟨k, hk⟩ := hi.2 j v (by rw [← Array.getElem?_toList]; exact h2)
  obtain ⟨y, e1, e2⟩ := kv_get kv hk
  rw [List.getElem?_map, e1] at h1
  cases h1
  exact e2
/-- xs[a:b] = ys, ys another list -/
def gSlice (to : TE) (tl th : TO) : TG := fun v σ H Q => to σ H fun x H1 => tl σ H1 fun a H2 => th σ H2 fun c H3 => ∃ (l b : Addr) (xs ys : List V) (i j : Int), x = .ref l ∧ v = .ref b ∧ a = some i ∧ c = some j ∧ H3 l = some (.lst xs) ∧ H3 b = some (.lst ys) ∧ l ≠ b ∧ 0 ≤ i ∧ i ≤ j ∧ j ≤ xs.length ∧ xs.length + ys.length ≤ sizeLine ∧ Q σ (upd H3 l (.lst (xs.take i.toNat ++ ys ++ xs.drop j.toNat)))
theorem pg_slice {o lo hi : Expr} {to : TE} {tl th : TO} {p2 : Pos} (ho : PE X o to) (hl : PO X (some lo) tl) (hu : PO X (some hi) th)
    (ha : ∀ v, assign (.Subscript o (.Slice (some lo) (some hi) none p2) pos) X.env v = (do
      let a ← holding [v] (eval o X.env)
      let b ← holding [v, a] (eval (.Slice (some lo) (some hi) none p2) X.env)
      standAt pos
      holding [v, a, b] (setItem a b v)
      release [b, v, a] []) := by intro _; rfl) : PG X (.Subscript o (.Slice (some lo) (some hi) none p2) pos) (gSlice to tl th) := by
  refine ⟨fun pins s σ H v u Q I r h => ?_⟩
  rw [ha]
  refine wpAny_bind (wpAny_holding (thn (ho.run pins s σ H _ I h) fun ov s1 ⟨x, H1, I1, r1, q1⟩ => wpAny_bind (wpAny_holding ?_)))
  refine wpAny_Slice (thn (hl.run pins s1 σ H1 _ I1 q1) fun vl s2 ⟨l, H2, I2, pl, q2⟩ => thn (hu.run pins s2 σ H2 _ I2 q2) fun vu s3 ⟨c, H3, I3, pu, q3⟩ => ?_)
  obtain ⟨L, b, xs, ys, i, j, rfl, rfl, rfl, rfl, hL, hb, hne, h0, h1, h2, hz, q⟩ := q3
  cases r1
  cases r
  rw [evalPart_none]
  refine wpAny_pure ?_
  have I4 : Inv X pins σ H3 { s3 with heap := s3.heap.push { cls := .type "slice", data := .fields #[vl, vu, .none] } } := I3.kept (t' := s3.toks) fun a ob z => Heap.get?_push_of_some _ z
  refine wpAny_bind (wpAny_standAt (wpAny_bind (wpAny_holding ?_)))
  exact set_slice I4 hL hb hne (Heap.IsSliceOf.new ..) (by cases pl; exact ⟨_, rfl⟩) (by cases pu; exact ⟨_, rfl⟩) h0 h1 h2 hz fun s4 I5 => wpAny_release ⟨σ, _, I5, q⟩
end
end Wk
set_option maxRecDepth 100000
/-! A bounded heap as the program keeps it, worked out by functions that say none where the program would leave its way. -/
namespace Hm
structure Bd where
  words : List Int
  young : Int
  old : Int
  pace : Int
  use : Int
  free : Int
  scan : Int
  top : Int
  left : Int
  copied : Int
  rem : List Int
  last : Int
  tally : List Int
  rows : List (Int × Int)
  next : Int
def gI (ws : List Int) (i : Int) : Option Int := if 0 ≤ i then ws[i.toNat]? else none
def sI (ws : List Int) (i : Int) (v : Int) : Option (List Int) := if 0 ≤ i ∧ i < ws.length then some (ws.set i.toNat v) else none
def gS (ws : List Int) (a b : Int) : Option (List Int) := if 0 ≤ a ∧ a ≤ b ∧ b ≤ ws.length then some ((ws.drop a.toNat).take (b.toNat - a.toNat)) else none
def setS (ws : List Int) (a b : Int) (ys : List Int) : Option (List Int) := if 0 ≤ a ∧ a ≤ b ∧ b ≤ ws.length ∧ b - a = ys.length then some (ws.take a.toNat ++ ys ++ ws.drop b.toNat) else none
def beginOf (s : Bd) (h : Int) : Int := s.young + h * s.old
def filledW (s : Bd) : Int := s.free - beginOf s s.use + s.top + s.left - s.copied
def isT (w : Int) : Bool := w % 8 == 0
def remember (s : Bd) (p w : Int) : Option Bd :=
  if isT w && decide (w / 8 < s.young) then (if s.rem.contains p then some s else if s.rem.length < 1000000 then some { s with rem := s.rem ++ [p] } else none) else some s
def moved (s : Bd) (a : Int) : Option (Int × Bd) :=
  match gI s.words a with
  | none => none
  | some h => if h < 0 then some (-1 - h, s) else
    match gS s.words a (a + (h / 8 + 2)) with
    | none => none
    | some part => match setS s.words s.free (s.free + (h / 8 + 2)) part with
      | none => none
      | some w1 => match sI w1 a (-1 - s.free) with
        | none => none
        | some w2 => some (s.free, { s with words := w2, free := s.free + (h / 8 + 2) })
def within (lo hi w : Int) : Bool := isT w && (decide (lo ≤ w / 8) && decide (w / 8 < hi))
def leadAt (lo hi p : Int) (s : Bd) : Option Bd :=
  match gI s.words p with
  | none => none
  | some w => if within lo hi w then (match moved s (w / 8) with
      | none => none
      | some (n, s1) => match sI s1.words p (n * 8 + 0) with
        | none => none
        | some ws => some { s1 with words := ws })
    else some s
def leadOn (lo hi : Int) : List Int → Bd → Option Bd
  | [], s => some s
  | p :: ps, s => match leadAt lo hi p s with
    | none => none
    | some s1 => leadOn lo hi ps s1
/-- the rows from the k-th on -/
def leadRows (lo hi : Int) : Nat → Nat → Bd → Option Bd
  | 0, _, s => some s
  | f + 1, k, s => match s.rows[k]? with
    | none => some s
    | some (h, w) => if within lo hi w then (match moved s (w / 8) with
        | none => none
        | some (n, s1) => leadRows lo hi f (k + 1) { s1 with rows := s1.rows.set k (h, n * 8 + 0) })
      else leadRows lo hi f (k + 1) s
def leadRoots (lo hi : Int) (s : Bd) : Option Bd := leadRows lo hi s.rows.length 0 s
def upTo : Nat → Int → List Int
  | 0, _ => []
  | n + 1, a => a :: upTo n (a + 1)
def range (a b : Int) : List Int := upTo (b - a).toNat a
/-- the places from a on, below b -/
def leadR (lo hi a b : Int) (s : Bd) : Option Bd := if 0 ≤ a ∧ a ≤ b ∧ b ≤ 3000000 then leadOn lo hi (range a b) s else none
def leadLeft (b e : Int) (s : Bd) : Option Bd :=
  match leadR (beginOf s (1 - s.use)) (beginOf s (1 - s.use) + s.old) b e s with
  | none => none
  | some s1 => some { s1 with copied := s1.copied + (s1.free - s.free) }
def endOf (s : Bd) (a : Int) : Option Int := match gI s.words a with
  | none => none
  | some h => some (a + 2 + h / 8)
def bump (l : List Int) (i : Nat) (n : Int) : List Int := l.set i (l.getD i 0 + n)
def gatherGo : Nat → Int → Int → Bd → Option (Int × Bd)
  | 0, _, _, _ => none
  | f + 1, a, many, s => if a < s.free then (match gI s.words a with
      | none => none
      | some h => match (if h % 8 != 0 then leadR 0 s.young (a + 2) (a + 2 + h / 8) s else some s) with
        | none => none
        | some s1 => match endOf s1 a with
          | none => none
          | some e => gatherGo f e (many + 1) s1)
    else some (many, s)
def emptyNur (s : Bd) : Bd := { s with top := 0, rem := [], scan := if s.left = 0 then s.free else s.scan }
def gather (s : Bd) : Option (Int × Bd) :=
  match leadRoots 0 s.young { s with tally := bump s.tally 0 1 } with
  | none => none
  | some s1 => match leadOn 0 s.young s1.rem s1 with
    | none => none
    | some s2 => match gatherGo (s.words.length + 1) s.free 0 s2 with
      | none => none
      | some (many, s3) => some (many, emptyNur s3)
def changeH (s : Bd) : Bd := { s with use := 1 - s.use, free := beginOf s (1 - s.use), scan := beginOf s (1 - s.use) }
def endIf (s : Bd) : Bd := if s.scan = s.free then { s with left := 0, copied := 0 } else s
def turn (s : Bd) : Option (Int × Bd) :=
  if s.left > 0 then some (0, s) else
  match gather s with
  | none => none
  | some (_, s1) =>
    match leadRoots (beginOf s1 s1.use) (beginOf s1 s1.use + s1.old) (changeH { s1 with tally := bump s1.tally 1 1, left := s1.free - beginOf s1 s1.use }) with
    | none => none
    | some s2 => some (1, endIf { s2 with copied := s2.free - beginOf s1 (1 - s1.use) })
def stepsGo : Nat → Int → Int → Bd → Option (Int × Bd)
  | 0, _, _, _ => none
  | f + 1, many, looked, s => if s.left > 0 ∧ looked < many then (match gI s.words s.scan with
      | none => none
      | some h => match (if h % 8 != 0 then leadLeft (s.scan + 2) (s.scan + 2 + h / 8) { s with scan := s.scan + 2 + h / 8 } else some { s with scan := s.scan + 2 + h / 8 }) with
        | none => none
        | some s1 => stepsGo f many (looked + 1) (endIf s1))
    else some (looked, s)
def steps (s : Bd) (many : Int) : Option (Int × Bd) :=
  match stepsGo (s.words.length + 1) many 0 s with
  | none => none
  | some (l, s1) => some (l, { s1 with tally := bump s1.tally 2 l })
def copyGo : Nat → Bool → Int → Bd → Option Bd
  | 0, _, _, _ => none
  | f + 1, tie, a, s => if a < s.free then (match gI s.words a with
      | none => none
      | some h => match (if h % 8 != 0 && (tie || h % 8 != 5) then leadR 0 s.words.length (a + 2) (a + 2 + h / 8) s else some s) with
        | none => none
        | some s1 => match endOf s1 a with
          | none => none
          | some e => copyGo f tie e s1)
    else some s
def copyAll (s : Bd) (tie : Bool) : Option (Int × Bd) :=
  match leadRoots 0 s.words.length (changeH s) with
  | none => none
  | some s2 => match copyGo (s.words.length + 1) tie (beginOf s (1 - s.use)) s2 with
    | none => none
    | some s3 => some (beginOf s (1 - s.use), emptyNur s3)
def whole (s : Bd) : Option (Int × Bd) :=
  match steps s s.words.length with
  | none => none
  | some (_, s1) => match copyAll { s1 with tally := bump s1.tally 3 1 } true with
    | none => none
    | some (b, s2) => some (s2.free - b, s2)
def reserve (s : Bd) (many : Int) : Option Bd :=
  match (if filledW s + many > s.old then (steps s s.words.length).map Prod.snd else some s) with
  | none => none
  | some s1 => match (if filledW s1 + many > s1.old then (whole s1).map Prod.snd else some s1) with
    | none => none
    | some s2 => if filledW s2 + many > s2.old then none else
      if many ≤ s2.young ∧ s2.young < s2.top + many then (gather s2).map Prod.snd else some s2
def rememberAll (a : Int) : Nat → List Int → Bd → Option Bd
  | _, [], s => some s
  | k, w :: ws, s => match remember s (a + 2 + (k : Int)) w with
    | none => none
    | some s1 => rememberAll a (k + 1) ws s1
def placeAt (s : Bd) (found : List Int) : Int := if (found.length : Int) + 2 ≤ s.young then s.top else s.free
/-- behind the words that are laid -/
def placed (s : Bd) (found : List Int) : Option Bd :=
  if (found.length : Int) + 2 ≤ s.young then some { s with top := s.top + ((found.length : Int) + 2) } else
  match rememberAll s.free 0 found { s with free := s.free + ((found.length : Int) + 2) } with
  | none => none
  | some a => some (if a.left = 0 then { a with scan := a.free } else a)
def place (s : Bd) (sort : Nat) (found : List Int) : Option (Int × Bd) :=
  match setS s.words (placeAt s found) (placeAt s found + ((found.length : Int) + 2)) (((found.length : Int) * 8 + (sort : Int)) :: (s.last + 1) :: found) with
  | none => none
  | some ws => match placed { s with last := s.last + 1, words := ws } found with
    | none => none
    | some s2 => match (if s2.left > 0 then (steps s2 s2.pace).map Prod.snd else some s2) with
      | none => none
      | some s3 => some (placeAt s found * 8 + 0, s3)
def bwrite (s : Bd) (a p v : Int) : Option Bd :=
  match sI s.words (a + 2 + p) v with
  | none => none
  | some ws => if s.young ≤ a then remember { s with words := ws } (a + 2 + p) v else some { s with words := ws }
/-! ### by handles -/
inductive It
  | word (n : Int)
  | held (h : Int)
def look : List (Int × Int) → Int → Option Int
  | [], _ => none
  | (k, w) :: r, h => if k = h then some w else look r h
def worth (s : Bd) : It → Option Int
  | .word n => some n
  | .held h => look s.rows h
def worths (s : Bd) : List It → Option (List Int)
  | [] => some []
  | i :: r => match worth s i, worths s r with
    | some a, some b => some (a :: b)
    | _, _ => none
def itemOk (s : Bd) : It → Bool
  | .word n => Wk.isW (.int n) && !isT n
  | .held h => (look s.rows h).isSome
def isSigns (w : Int) : Bool := w % 8 == 1 && (decide (32 ≤ w / 8) && decide (w / 8 ≤ 126) && w / 8 != 37)
def mayMany (sort many : Nat) : Bool := if sort = 4 ∨ sort = 5 then many == 1 else decide (many ≤ 60000) && (decide (0 < many) || sort == 0 || sort == 1)
def mayStand (sort place : Nat) (w : Int) : Bool := if sort = 0 then isSigns w else if sort = 5 then isT w || w == 3 else decide (0 < place) || (sort == 1 || sort == 4) || w % 8 == 1
def mayAll (sort : Nat) : Nat → List Int → Bool
  | _, [] => true
  | k, w :: ws => mayStand sort k w && mayAll sort (k + 1) ws
def mayBe (sort : Nat) (ws : List Int) : Bool := mayMany sort ws.length && mayAll sort 0 ws
def give (s : Bd) (w : Int) : Option (Int × Bd) := if (look s.rows s.next).isSome = true ∨ 100000 ≤ s.rows.length then none else some (s.next, { s with rows := s.rows ++ [(s.next, w)], next := s.next + 1 })
def make (s : Bd) (sort : Nat) (items : List It) : Option (Int × Bd) :=
  if sort ≤ 5 ∧ items.all (itemOk s) = true ∧ s.rows.length < 100000 then (match worths s items with
    | none => none
    | some w0 => if mayBe sort w0 then (match reserve s ((items.length : Int) + 2) with
        | none => none
        | some s1 => match worths s1 items with
          | none => none
          | some ws => match place s1 sort ws with
            | none => none
            | some (w, s2) => give s2 w)
      else none)
  else none
def dropH (l : List (Int × Int)) (h : Int) : List (Int × Int) := l.filter fun q => !decide (q.1 = h)
def drop (s : Bd) (h : Int) : Option Bd := match look s.rows h with
  | none => none
  | some _ => some { s with rows := dropH s.rows h }
def write (s : Bd) (h : Int) (p : Nat) (it : It) : Option Bd :=
  match look s.rows h with
  | none => none
  | some w => if isT w then (match gI s.words (w / 8) with
      | none => none
      | some hd => if (p : Int) < hd / 8 ∧ hd % 8 ≤ 5 ∧ itemOk s it = true then (match worth s it with
          | none => none
          | some v => if mayStand (hd % 8).toNat p v then bwrite s (w / 8) p v else none)
        else none)
    else none
def start (y o p : Nat) : Bd := { words := List.replicate (y + 2 * o) 0, young := y, old := o, pace := p, use := 0, free := y, scan := y, top := 0, left := 0, copied := 0, rem := [], last := 0, tally := [0,0,0,0,0], rows := [], next := 0 }
/-- the words as they are told -/
def told (s : Bd) : Option (List Int) :=
  let other := beginOf s (1 - s.use)
  let b := beginOf s s.use
  match gS s.words 0 s.top, gS s.words b s.free, gS s.words other (other + s.left) with
  | some p1, some p2, some p3 => match setS (List.replicate s.words.length (0 : Int)) 0 s.top p1 with
    | none => none
    | some f1 => match setS f1 b s.free p2 with
      | none => none
      | some f2 => setS f2 other (other + s.left) p3
  | _, _, _ => none
def settled (s : Bd) (a : Int) : Option Int := match gI s.words a with
  | none => none
  | some h => some (if h ≥ 0 then a else -1 - h)
def addrs (s : Bd) : List Int → Option (List Int)
  | [] => some []
  | w :: r => if isT w then (match settled s (w / 8), addrs s r with
      | some a, some b => some (a :: b)
      | _, _ => none)
    else addrs s r
/-- waiting is kept the last first -/
def comeGo (tie : Bool) (s : Bd) : Nat → List Int → List (Int × Int) → Option (List (Int × Int))
  | 0, _, _ => none
  | _ + 1, [], found => some found
  | f + 1, a :: r, found => match gI s.words (a + 1) with
    | none => none
    | some n => if (look found n).isSome then comeGo tie s f r found else
      match gI s.words a with
      | none => none
      | some h => if h % 8 ≤ 5 ∧ found.length < 1000000 then (if h % 8 != 0 && (tie || h % 8 != 5) then (match gS s.words (a + 2) (a + 2 + h / 8) with
          | none => none
          | some part => match addrs s part with
            | none => none
            | some more => if more.length + r.length < 1000000 then comeGo tie s f (more.reverse ++ r) (found ++ [(n, a)]) else none)
        else comeGo tie s f r (found ++ [(n, a)])) else none
def sizes (s : Bd) : List (Int × Int) → Option Int
  | [] => some 0
  | (_, a) :: r => match gI s.words a, sizes s r with
    | some h, some n => some (h / 8 + 2 + n)
    | _, _ => none
def filled (s : Bd) : Option Int := match addrs s (s.rows.map Prod.snd) with
  | none => none
  | some b => match comeGo true s 1000000 b.reverse [] with
    | none => none
    | some found => sizes s found
/-! ### what the law asks of them -/
def chain : Nat → Int → Bd → Option (Int × Bd)
  | 0, last, s => some (last, s)
  | n + 1, last, s => match make s 1 [.held last] with
    | none => none
    | some (l, s1) => match drop s1 last with
      | none => none
      | some s2 => chain n l s2
def chain0 (s : Bd) (many : Nat) : Option (Int × Bd) := match make s 1 [.word 3] with
  | none => none
  | some (l, s1) => chain (many - 1) l s1
def lies (ws : List Int) (b : Int) : Nat → List Int → Bool
  | _, [] => true
  | k, n :: ns => gS ws (b + 3 * (k : Int)) (b + 3 * (k : Int) + 2) == some [9, n] && lies ws b (k + 1) ns
def downTo : Nat → List Int
  | 0 => []
  | n + 1 => ((n : Int) + 1) :: downTo n
def turnLoop (many : Nat) : Nat → Nat → Bd → Option Bd
  | 0, _, s => some s
  | f + 1, k, s => match turn s with
    | some (0, s1) => (match steps s1 1 with
      | some (1, s2) => if (told s2).isSome && s2.left == (if k + 1 < many then 3 * (many : Int) else 0) && s2.copied == (if k + 1 < many then 3 * ((k : Int) + 2) else 0) then turnLoop many f (k + 1) s2 else none
      | _ => none)
    | _ => none
def turnRight (many : Nat) : Bool := match chain0 (start (3 * many + 8) (3 * many + 60) 1) many with
  | none => false
  | some (_, s1) => (told s1).isSome && s1.top == 3 * (many : Int) && (match gather s1 with
    | none => false
    | some (g, s2) => g == (many : Int) && s2.free == s2.young + 3 * (many : Int) && (match told s2 with
      | none => false
      | some w2 => lies w2 s2.young 0 (downTo many) && (match turn s2 with
        | some (1, s3) => (told s3).isSome && s3.left == 3 * (many : Int) && s3.copied == 3 && s3.use == 1 && s3.free == s3.young + s3.old + 3 && (match turnLoop many many 0 s3 with
          | none => false
          | some s4 => match steps s4 5 with
            | some (0, s5) => (match told s5 with
              | none => false
              | some w5 => lies w5 (s5.young + s5.old) 0 (downTo many) && s5.tally == [2, 1, (many : Int), 0, 0] && (match whole s5 with
                | none => false
                | some (w, s6) => w == 3 * (many : Int) && filled s6 == some (3 * (many : Int))))
            | _ => false)
        | _ => false)))
def paceGo : Nat → Nat → Bd → Option (Nat × Bd)
  | 0, _, _ => none
  | f + 1, made, s => match told s with
    | none => none
    | some _ => if s.left > 0 ∧ made < 40 then (match make s 4 [.word 3] with
        | none => none
        | some (h, s1) => match drop s1 h with
          | none => none
          | some s2 => paceGo f (made + 1) s2)
      else some (made, s)
def paceRight (many pace : Nat) : Bool := match chain0 (start (3 * many + 8) 200 pace) many with
  | none => false
  | some (_, s1) => match turn s1 with
    | none => false
    | some (_, s2) => match paceGo 42 0 s2 with
      | none => false
      | some (made, s3) => (made : Int) == ((many : Int) + pace - 1) / pace && s3.free - s3.young == 200 + 3 * (many : Int) &&
        s3.tally == [if (made : Int) > 0 then 1 + (3 * (made : Int) - 1) / (3 * ((3 * (many : Int) + 8) / 3)) else 1, 1, (many : Int), 0, 0]
def writes (g two : Int) : Nat → Bd → Option Bd
  | 0, s => some s
  | n + 1, s => match write s g 0 (.held two) with
    | none => none
    | some s1 => writes g two n s1
def greatRight (many p : Nat) : Bool := match make (start 8 (3 * many) 0) 4 [.word 9] with
  | none => false
  | some (one, s1) => match make s1 1 ((List.replicate many (It.word 3)).set p (.held one)) with
    | none => false
    | some (g, s2) => (told s2).isSome && s2.top == 3 && s2.free == 8 + (many : Int) + 2 && s2.rem == [10 + (p : Int)] && (match drop s2 one with
      | none => false
      | some s3 => match gather s3 with
        | some (1, s4) => (match told s4 with
          | none => false
          | some w4 => s4.rem == [] && gI w4 (10 + (p : Int)) == some (8 * (8 + (many : Int) + 2)) && (match make s4 4 [.word 3] with
            | none => false
            | some (two, s5) => match writes g two 3 s5 with
              | none => false
              | some s6 => (told s6).isSome && s6.rem == [10] && filled s6 == some ((many : Int) + 2 + (if p > 0 then 6 else 3)) && (match write s6 g 0 (.word 3) with
                | none => false
                | some s7 => match drop s7 two with
                  | none => false
                  | some s8 => match whole s8 with
                    | none => false
                    | some (n, s9) => n == (many : Int) + 2 + (if p > 0 then 3 else 0) && (told s9).isSome && s9.rem == [])))
        | _ => false)
end Hm
set_option maxRecDepth 100000
set_option maxHeartbeats 4000000
namespace Wk
open PySem L2 TL PyProof.Rows Hm
open SX (S S_len)
/-! ### a bounded heap, as it lies in the program's objects -/
/-- a method, and its promise -/
structure MD (P : Program) (w : World) (K : PySem.W.Frag) (mg : Str → Option Value) (base : Heap) (CX : CXT) (C : Addr) (m : Str) (ps : List Str) (k : Nat) (sp : Sp) where
  f : Addr
  fd : FuncData
  ok : FnOk P w K mg base CX k f fd ps sp
  m : Meth K C m f
  b : Binds K fd ps []
def sortL : List String := ["text", "list", "object", "function", "cell", "tie"]
section
variable {X : Cx} {st : Stmt} {e : Expr}
/-- what nobody comes to -/
theorem ps_no : PS X st (fun _ _ _ => False) := ⟨fun _ _ _ _ _ _ h => h.elim⟩
theorem pe_no : PE X e (fun _ _ _ => False) := ⟨fun _ _ _ _ _ _ h => h.elim⟩
end
/-- what the top has written for heaps -/
structure Txt5 (K : PySem.W.Frag) (w : World) (mg : Str → Option Value) where
  tTHING_TAG : Tok
  mTHING_TAG : mg "THING_TAG" = some (.int 0 tTHING_TAG)
  tNIL_WORD : Tok
  mNIL_WORD : mg "NIL_WORD" = some (.int 3 tNIL_WORD)
  tTEXT_SORT : Tok
  mTEXT_SORT : mg "TEXT_SORT" = some (.int 0 tTEXT_SORT)
  tTIE_SORT : Tok
  mTIE_SORT : mg "TIE_SORT" = some (.int 5 tTIE_SORT)
  tAHEAD : Tok
  mAHEAD : mg "AHEAD" = some (.int 2 tAHEAD)
  tMOST_WORDS : Tok
  mMOST_WORDS : mg "MOST_WORDS" = some (.int 60000 tMOST_WORDS)
  tFIRST_SIGN : Tok
  mFIRST_SIGN : mg "FIRST_SIGN" = some (.int 32 tFIRST_SIGN)
  tLAST_SIGN : Tok
  mLAST_SIGN : mg "LAST_SIGN" = some (.int 126 tLAST_SIGN)
  tBARRED_SIGN : Tok
  mBARRED_SIGN : mg "BARRED_SIGN" = some (.int 37 tBARRED_SIGN)
  tGATHERS : Tok
  mGATHERS : mg "GATHERS" = some (.int 0 tGATHERS)
  tTURNS : Tok
  mTURNS : mg "TURNS" = some (.int 1 tTURNS)
  tLOOKS : Tok
  mLOOKS : mg "LOOKS" = some (.int 2 tLOOKS)
  tWHOLES : Tok
  mWHOLES : mg "WHOLES" = some (.int 3 tWHOLES)
  tMOST_STEPS : Tok
  mMOST_STEPS : mg "MOST_STEPS" = some (.int 1000000000 tMOST_STEPS)
  aSORTS : Addr
  mSORTS : mg "SORTS" = some (.ref aSORTS)
  kSORTS : ∀ H, SqT K H aSORTS (sortL.map fun x => V.str (Str.ofString x))
  aNUMBERS : Addr
  mNUMBERS : mg "SORT_NUMBERS" = some (.ref aNUMBERS)
def roomF (v1 v2 v3 : V) : List (Str × V) := [("young", v1), ("old", v2), ("pace", v3)]
/-- the classes, as the top has left them -/
structure Cs (K : PySem.W.Frag) where
  B : Addr
  bcl : Cls K B
  H : Addr
  hcl : Cls K H
  R : Addr
  rcl : Cls K R
  words : NoAttr K B "words"
  room : NoAttr K B "room"
  owner : NoAttr K B "owner"
  use : NoAttr K B "use"
  free : NoAttr K B "free"
  scan : NoAttr K B "scan"
  top : NoAttr K B "top"
  left : NoAttr K B "left"
  copied : NoAttr K B "copied"
  rem : NoAttr K B "remembered"
  last : NoAttr K B "last"
  tally : NoAttr K B "tally"
  handles : NoAttr K H "handles"
  next : NoAttr K H "next_handle"
  store : NoAttr K H "store"
  young : NoAttr K R "young"
  old : NoAttr K R "old"
  pace : NoAttr K R "pace"
/-- where it lies -/
structure Fx where
  ho : Addr
  hd : Addr
  bo : Addr
  bd : Addr
  aw : Addr
  ro : Addr
  rd : Addr
  tl : Addr
  ah : Addr
def bdF (F : Fx) (ar : Addr) (s : Bd) : List (Str × V) := [("words", .ref F.aw), ("room", .ref F.ro), ("owner", .ref F.ho), ("use", .int s.use), ("free", .int s.free), ("scan", .int s.scan), ("top", .int s.top), ("left", .int s.left), ("copied", .int s.copied), ("remembered", .ref ar), ("last", .int s.last), ("tally", .ref F.tl)]
def hdF (F : Fx) (s : Bd) : List (Str × V) := [("handles", .ref F.ah), ("next_handle", .int s.next), ("store", .ref F.bo)]
def rowD : List (Int × Int) → List Addr → List (Key × V)
  | q :: qs, r :: rs => (.inl q.1, .ref r) :: rowD qs rs
  | _, _ => []
def remD (l : List Int) : List (Key × V) := l.map fun p => (.inl p, .bl true)
def Rows (H : Hp) : List Addr → List (Int × Int) → Prop
  | [], [] => True
  | r :: rs, q :: qs => H r = some (.lst [.int q.2]) ∧ Rows H rs qs
  | _, _ => False
def own7 (F : Fx) (ar : Addr) : List Addr := [F.ho, F.bo, F.aw, F.tl, F.ah, ar]
def Own (F : Fx) (ar : Addr) (rws : List Addr) (b : Addr) : Prop := b ∈ own7 F ar ∨ b ∈ rws
structure St {K : PySem.W.Frag} (C : Cs K) (H : Hp) (F : Fx) (ar : Addr) (rws : List Addr) (s : Bd) : Prop where
  bo : H F.bo = some (.ins C.B F.bd (bdF F ar s))
  aw : H F.aw = some (.lst (s.words.map V.int))
  rmd : H ar = some (.dK (remD s.rem))
  tl : H F.tl = some (.lst (s.tally.map V.int))
  ho : H F.ho = some (.ins C.H F.hd (hdF F s))
  ah : H F.ah = some (.dK (rowD s.rows rws))
  rw : Rows H rws s.rows
  ro : H F.ro = some (.ins C.R F.rd (roomF (.int s.young) (.int s.old) (.int s.pace)))
  nd : (F.ro :: (own7 F ar ++ rws)).Nodup
  z1 : s.words.length ≤ 3000000
  z2 : s.rows.length ≤ 100000
  z3 : s.rem.length ≤ 1000000
  z4 : 0 ≤ s.young ∧ s.young ≤ 100000 ∧ 0 ≤ s.old ∧ s.old ≤ 1000000
  z5 : s.tally.length = 5
/-- what was there and is not the heap's own stays, and is not the heap's own -/
def Ch (F : Fx) (ar : Addr) (rws : List Addr) (H : Hp) (ar' : Addr) (rws' : List Addr) (H' : Hp) : Prop := ∀ b u, ¬ Own F ar rws b → H b = some u → ¬ Own F ar' rws' b ∧ H' b = some u
theorem Ch.refl {F : Fx} {ar : Addr} {rws : List Addr} {H : Hp} : Ch F ar rws H ar rws H := fun _ _ n h => ⟨n, h⟩
theorem Ch.trans {F : Fx} {ar a1 a2 : Addr} {rws r1 r2 : List Addr} {H H1 H2 : Hp} (x : Ch F ar rws H a1 r1 H1) (y : Ch F a1 r1 H1 a2 r2 H2) : Ch F ar rws H a2 r2 H2 := fun b u n h => by
  obtain ⟨n1, h1⟩ := x b u n h
  exact y b u n1 h1
theorem Ch.own {F : Fx} {ar : Addr} {rws : List Addr} {H : Hp} {b : Addr} (h : Own F ar rws b) (o : HO) : Ch F ar rws H ar rws (upd H b o) := fun c u n e => ⟨n, by rw [upd_ne (fun z => n (by rw [z]; exact h))]; exact e⟩
theorem Ch.new {F : Fx} {ar : Addr} {rws : List Addr} {H : Hp} {b : Addr} (h : H b = none) (o : HO) : Ch F ar rws H ar rws (upd H b o) := fun c u n e => ⟨n, by rw [upd_ne (fun z => by rw [z, h] at e; cases e)]; exact e⟩
/-- the heap stands as s says, and what else there was stands as it did -/
structure Go {K : PySem.W.Frag} (C : Cs K) (F : Fx) (a0 : Addr) (r0 : List Addr) (H0 H : Hp) (ar : Addr) (rws : List Addr) (s : Bd) : Prop where
  st : St C H F ar rws s
  ch : Ch F a0 r0 H0 ar rws H
section
variable {K : PySem.W.Frag} {C : Cs K} {F : Fx} {ar a0 a1 : Addr} {rws r0 r1 : List Addr} {H H0 H1 : Hp} {s s1 s2 : Bd}
theorem St.go (S : St C H F ar rws s) : Go C F ar rws H H ar rws s := ⟨S, .refl⟩
theorem Go.trans (x : Go C F a0 r0 H0 H1 a1 r1 s1) (y : Go C F a1 r1 H1 H ar rws s) : Go C F a0 r0 H0 H ar rws s := ⟨y.st, x.ch.trans y.ch⟩
theorem rows_len : ∀ {rs : List Addr} {qs : List (Int × Int)}, Rows H rs qs → rs.length = qs.length
  | [], [], _ => rfl
  | _ :: _, _ :: _, h => congrArg Nat.succ (rows_len h.2)
  | [], _ :: _, h => h.elim
  | _ :: _, [], h => h.elim
theorem rows_mem : ∀ {rs : List Addr} {qs : List (Int × Int)}, Rows H rs qs → ∀ r ∈ rs, ∃ v, H r = some (.lst [V.int v])
  | [], [], _, r, hr => by cases hr
  | _ :: _, q :: _, h, r, hr => by
    rcases List.mem_cons.mp hr with rfl | hr
    · exact ⟨_, h.1⟩
    · exact rows_mem h.2 r hr
  | [], _ :: _, h, _, _ => h.elim
  | _ :: _, [], h, _, _ => h.elim
theorem rows_keep (g : ∀ r ∈ rws, ∀ u, H r = some u → H1 r = some u) : ∀ {qs : List (Int × Int)}, Rows H rws qs → Rows H1 rws qs := by
  induction rws with
  | nil => exact fun {qs} h => by cases qs <;> first | trivial | exact h.elim
  | cons r rs ih =>
    intro qs h
    cases qs with
    | nil => exact h.elim
    | cons q qs => exact ⟨g r List.mem_cons_self _ h.1, ih (fun r hr => g r (List.mem_cons_of_mem _ hr)) h.2⟩
theorem rows_off {b : Addr} {o : HO} (n : b ∉ rws) {qs : List (Int × Int)} (h : Rows H rws qs) : Rows (upd H b o) rws qs :=
  rows_keep (fun r hr u e => by rw [upd_ne (fun z => n (by rw [← z]; exact hr))]; exact e) h
theorem rows_at : ∀ {rs : List Addr} {qs : List (Int × Int)} {k : Nat} {q : Int × Int}, Rows H rs qs → qs[k]? = some q → ∃ r, rs[k]? = some r ∧ H r = some (.lst [.int q.2])
  | [], [], _, _, _, e => by simp at e
  | r :: _, _ :: _, 0, _, h, e => by cases e; exact ⟨r, rfl, h.1⟩
  | _ :: _, _ :: _, k + 1, _, h, e => rows_at (k := k) h.2 e
  | [], _ :: _, _, _, h, _ => h.elim
  | _ :: _, [], _, _, h, _ => h.elim
theorem rows_set {v h0 : Int} {o : HO} : ∀ {rs : List Addr} {qs : List (Int × Int)} {k : Nat} {r : Addr}, rs.Nodup → Rows H rs qs → rs[k]? = some r → o = .lst [.int v] → Rows (upd H r o) rs (qs.set k (h0, v))
  | [], _, _, _, _, _, e, _ => by simp at e
  | _ :: _, [], _, _, _, h, _, _ => h.elim
  | r :: rs, q :: qs, 0, _, nd, h, e, ho => by
    cases e
    exact ⟨by rw [upd_same, ho], rows_off (List.nodup_cons.mp nd).1 h.2⟩
  | r :: rs, q :: qs, k + 1, b, nd, h, e, ho => by
    have hb : b ∈ rs := List.mem_of_getElem? (show rs[k]? = some b from e)
    refine ⟨?_, rows_set (k := k) (List.nodup_cons.mp nd).2 h.2 e ho⟩
    rw [upd_ne (fun z => (List.nodup_cons.mp nd).1 (by rw [z]; exact hb))]
    exact h.1
theorem rowD_set {v h0 : Int} : ∀ {rs : List Addr} {qs : List (Int × Int)} {k : Nat} {w : Int}, qs[k]? = some (h0, w) → rowD (qs.set k (h0, v)) rs = rowD qs rs
  | _, [], _, _, e => by simp at e
  | [], _ :: _, k, _, e => by cases k <;> rfl
  | _ :: _, _ :: _, 0, _, e => by cases e; rfl
  | r :: rs, q :: qs, k + 1, w, e => by
    show (Sum.inl q.1, V.ref r) :: rowD (qs.set k (h0, v)) rs = _
    rw [rowD_set (k := k) (w := w) e]; rfl
theorem rowD_snd : ∀ {rs : List Addr} {qs : List (Int × Int)}, rs.length = qs.length → (rowD qs rs).map Prod.snd = rs.map V.ref
  | [], [], _ => rfl
  | r :: rs, q :: qs, h => congrArg (V.ref r :: ·) (rowD_snd (Nat.succ.inj h))
  | [], _ :: _, h => by cases h
  | _ :: _, [], h => by cases h
/-! #### the parts lie apart -/
theorem St.ndo (S : St C H F ar rws s) : F.ho ≠ F.bo ∧ F.ho ≠ F.aw ∧ F.ho ≠ F.tl ∧ F.ho ≠ F.ah ∧ F.ho ≠ ar ∧ F.bo ≠ F.aw ∧ F.bo ≠ F.tl ∧ F.bo ≠ F.ah ∧ F.bo ≠ ar ∧ F.aw ≠ F.tl ∧ F.aw ≠ F.ah ∧ F.aw ≠ ar ∧ F.tl ≠ F.ah ∧ F.tl ≠ ar ∧ F.ah ≠ ar := by
  have h := (List.nodup_append.mp (List.nodup_cons.mp S.nd).2).1
  simp only [own7, List.nodup_cons, List.mem_cons, List.not_mem_nil, or_false, not_or] at h
  obtain ⟨⟨h1, h2, h3, h4, h5⟩, ⟨h6, h7, h8, h9⟩, ⟨h10, h11, h12⟩, ⟨h13, h14⟩, h15, _⟩ := h
  exact ⟨h1, h2, h3, h4, h5, h6, h7, h8, h9, h10, h11, h12, h13, h14, h15⟩
theorem St.ndr (S : St C H F ar rws s) : ∀ b ∈ own7 F ar, b ∉ rws ∧ b ≠ F.ro := fun b hb => by
  obtain ⟨h1, h2⟩ := List.nodup_cons.mp S.nd
  exact ⟨fun z => (List.nodup_append.mp h2).2.2 b hb b z rfl, fun z => h1 (by rw [← z]; exact List.mem_append_left _ hb)⟩
theorem St.nrw (S : St C H F ar rws s) : rws.Nodup ∧ F.ro ∉ rws := by
  obtain ⟨h1, h2⟩ := List.nodup_cons.mp S.nd
  exact ⟨(List.nodup_append.mp h2).2.1, fun z => h1 (List.mem_append_right _ z)⟩
theorem own_bo : Own F ar rws F.bo := .inl (by simp [own7])
theorem own_aw : Own F ar rws F.aw := .inl (by simp [own7])
theorem own_tl : Own F ar rws F.tl := .inl (by simp [own7])
theorem own_ho : Own F ar rws F.ho := .inl (by simp [own7])
theorem own_ah : Own F ar rws F.ah := .inl (by simp [own7])
theorem own_ar : Own F ar rws ar := .inl (by simp [own7])
/-- nothing but the plain numbers differs -/
structure Alk (s t : Bd) : Prop where
  words : t.words = s.words
  rem : t.rem = s.rem
  tally : t.tally = s.tally
  rows : t.rows = s.rows
  next : t.next = s.next
  young : t.young = s.young
  old : t.old = s.old
  pace : t.pace = s.pace
theorem St.put {t : Bd} (S : St C H F ar rws s) (k : Alk s t) {fs : List (Str × V)} (e : fs = bdF F ar t) : St C (upd H F.bo (.ins C.B F.bd fs)) F ar rws t := by
  obtain ⟨n1, n2, n3, n4, n5, n6, n7, n8, n9, n10, n11, n12, n13, n14, n15⟩ := S.ndo
  have nr := S.ndr F.bo (by simp [own7])
  obtain ⟨k1, k2, k3, k4, k5, k6, k7, k8⟩ := k
  refine ⟨by rw [upd_same, e], ?_, ?_, ?_, ?_, ?_, ?_, ?_, S.nd, ?_, ?_, ?_, ?_, ?_⟩
  · rw [upd_ne n6.symm, k1]; exact S.aw
  · rw [upd_ne n9.symm, k2]; exact S.rmd
  · rw [upd_ne n7.symm, k3]; exact S.tl
  · rw [upd_ne n1, S.ho, hdF, hdF, k5]
  · rw [upd_ne n8.symm, k4]; exact S.ah
  · rw [k4]; exact rows_off nr.1 S.rw
  · rw [upd_ne nr.2.symm, k6, k7, k8]; exact S.ro
  · rw [k1]; exact S.z1
  · rw [k4]; exact S.z2
  · rw [k2]; exact S.z3
  · rw [k6, k7]; exact S.z4
  · rw [k3]; exact S.z5
theorem St.setW {ws : List Int} (S : St C H F ar rws s) (hl : ws.length = s.words.length) : St C (upd H F.aw (.lst (ws.map V.int))) F ar rws { s with words := ws } := by
  obtain ⟨n1, n2, n3, n4, n5, n6, n7, n8, n9, n10, n11, n12, n13, n14, n15⟩ := S.ndo
  have nr := S.ndr F.aw (by simp [own7])
  refine ⟨by rw [upd_ne n6]; exact S.bo, upd_same, by rw [upd_ne n12.symm]; exact S.rmd, by rw [upd_ne n10.symm]; exact S.tl, by rw [upd_ne n2]; exact S.ho, by rw [upd_ne n11.symm]; exact S.ah, rows_off nr.1 S.rw, by rw [upd_ne nr.2.symm]; exact S.ro, S.nd, by rw [hl]; exact S.z1, S.z2, S.z3, S.z4, S.z5⟩
theorem St.setT {l : List Int} (S : St C H F ar rws s) (hl : l.length = 5) : St C (upd H F.tl (.lst (l.map V.int))) F ar rws { s with tally := l } := by
  obtain ⟨n1, n2, n3, n4, n5, n6, n7, n8, n9, n10, n11, n12, n13, n14, n15⟩ := S.ndo
  have nr := S.ndr F.tl (by simp [own7])
  refine ⟨by rw [upd_ne n7]; exact S.bo, by rw [upd_ne n10]; exact S.aw, by rw [upd_ne n14.symm]; exact S.rmd, upd_same, by rw [upd_ne n3]; exact S.ho, by rw [upd_ne n13.symm]; exact S.ah, rows_off nr.1 S.rw, by rw [upd_ne nr.2.symm]; exact S.ro, S.nd, S.z1, S.z2, S.z3, S.z4, hl⟩
theorem St.setR {l : List Int} (S : St C H F ar rws s) (hl : l.length ≤ 1000000) : St C (upd H ar (.dK (remD l))) F ar rws { s with rem := l } := by
  obtain ⟨n1, n2, n3, n4, n5, n6, n7, n8, n9, n10, n11, n12, n13, n14, n15⟩ := S.ndo
  have nr := S.ndr ar (by simp [own7])
  refine ⟨by rw [upd_ne n9]; exact S.bo, by rw [upd_ne n12]; exact S.aw, upd_same, by rw [upd_ne n14]; exact S.tl, by rw [upd_ne n5]; exact S.ho, by rw [upd_ne n15]; exact S.ah, rows_off nr.1 S.rw, by rw [upd_ne nr.2.symm]; exact S.ro, S.nd, S.z1, S.z2, hl, S.z4, S.z5⟩
theorem St.setRow {h0 v w : Int} {k : Nat} {r : Addr} (S : St C H F ar rws s) (hr : rws[k]? = some r) (hq : s.rows[k]? = some (h0, w)) : St C (upd H r (.lst [.int v])) F ar rws { s with rows := s.rows.set k (h0, v) } := by
  have hm : r ∈ rws := List.mem_of_getElem? hr
  have ne : ∀ b ∈ own7 F ar, b ≠ r := fun b hb z => (S.ndr b hb).1 (by rw [z]; exact hm)
  have nro : F.ro ≠ r := fun z => S.nrw.2 (by rw [z]; exact hm)
  refine ⟨by rw [upd_ne (ne F.bo (by simp [own7]))]; exact S.bo, by rw [upd_ne (ne F.aw (by simp [own7]))]; exact S.aw, by rw [upd_ne (ne ar (by simp [own7]))]; exact S.rmd, by rw [upd_ne (ne F.tl (by simp [own7]))]; exact S.tl, by rw [upd_ne (ne F.ho (by simp [own7]))]; exact S.ho, ?_, rows_set S.nrw.1 S.rw hr rfl, by rw [upd_ne nro]; exact S.ro, S.nd, S.z1, by rw [List.length_set]; exact S.z2, S.z3, S.z4, S.z5⟩
  rw [upd_ne (ne F.ah (by simp [own7])), S.ah, rowD_set hq]
theorem St.same (S : St C H F ar rws s) (g : Same H H1) : St C H1 F ar rws s :=
  ⟨g _ _ S.bo, g _ _ S.aw, g _ _ S.rmd, g _ _ S.tl, g _ _ S.ho, g _ _ S.ah, rows_keep (fun r _ u e => g _ _ e) S.rw, g _ _ S.ro, S.nd, S.z1, S.z2, S.z3, S.z4, S.z5⟩
theorem St.off (S : St C H F ar rws s) {p : Addr} (h : H p = none) : ¬ Own F ar rws p := fun z => by
  rcases z with z | z
  · simp only [own7, List.mem_cons, List.not_mem_nil, or_false] at z
    rcases z with rfl | rfl | rfl | rfl | rfl | rfl
    · rw [S.ho] at h; cases h
    · rw [S.bo] at h; cases h
    · rw [S.aw] at h; cases h
    · rw [S.tl] at h; cases h
    · rw [S.ah] at h; cases h
    · rw [S.rmd] at h; cases h
  · obtain ⟨v, e⟩ := rows_mem S.rw p z
    rw [e] at h; cases h
/-- the nursery's places are remembered anew, in another dict -/
theorem St.newR {p : Addr} (S : St C H F ar rws s) (hp : H p = some (.dK (remD []))) (ho : ¬ Own F ar rws p) (hro : p ≠ F.ro) {fs : List (Str × V)} (e : fs = bdF F p s) : St C (upd H F.bo (.ins C.B F.bd fs)) F p rws { s with rem := [] } := by
  obtain ⟨n1, n2, n3, n4, n5, n6, n7, n8, n9, n10, n11, n12, n13, n14, n15⟩ := S.ndo
  have nr := S.ndr F.bo (by simp [own7])
  have nb : p ≠ F.bo := fun z => ho (by rw [z]; exact own_bo)
  refine ⟨by rw [upd_same, e]; rfl, by rw [upd_ne n6.symm]; exact S.aw, by rw [upd_ne nb]; exact hp, by rw [upd_ne n7.symm]; exact S.tl, by rw [upd_ne n1]; exact S.ho, by rw [upd_ne n8.symm]; exact S.ah, rows_off nr.1 S.rw, by rw [upd_ne nr.2.symm]; exact S.ro, ?_, S.z1, S.z2, Nat.zero_le _, S.z4, S.z5⟩
  obtain ⟨h1, h2⟩ := List.nodup_cons.mp S.nd
  obtain ⟨h3, h4, h5⟩ := List.nodup_append.mp h2
  have hs : ∀ b, b = F.ho ∨ b = F.bo ∨ b = F.aw ∨ b = F.tl ∨ b = F.ah → b ∈ own7 F ar := fun b hb => by
    simp only [own7, List.mem_cons, List.not_mem_nil, or_false]
    rcases hb with h | h | h | h | h <;> simp [h]
  have hs2 : ∀ b ∈ own7 F p, b = p ∨ b ∈ own7 F ar := fun b hb => by
    simp only [own7, List.mem_cons, List.not_mem_nil, or_false] at hb
    rcases hb with h | h | h | h | h | h
    · exact .inr (hs b (by simp [h]))
    · exact .inr (hs b (by simp [h]))
    · exact .inr (hs b (by simp [h]))
    · exact .inr (hs b (by simp [h]))
    · exact .inr (hs b (by simp [h]))
    · exact .inl h
  have np : ∀ b ∈ own7 F ar, b ≠ p := fun b hb z => ho (.inl (by rw [← z]; exact hb))
  refine List.nodup_cons.mpr ⟨fun z => ?_, List.nodup_append.mpr ⟨?_, h4, fun b hb c hc z => ?_⟩⟩
  · rcases List.mem_append.mp z with z | z
    · rcases hs2 _ z with z | z
      · exact hro z.symm
      · exact h1 (List.mem_append_left _ z)
    · exact h1 (List.mem_append_right _ z)
  · have q1 := np F.ho (hs _ (by simp))
    have q2 := np F.bo (hs _ (by simp))
    have q3 := np F.aw (hs _ (by simp))
    have q4 := np F.tl (hs _ (by simp))
    have q5 := np F.ah (hs _ (by simp))
    simp only [own7, List.nodup_cons, List.mem_cons, List.not_mem_nil, or_false, not_or, not_false_eq_true, List.nodup_nil, and_true]
    exact ⟨⟨n1, n2, n3, n4, q1⟩, ⟨n6, n7, n8, q2⟩, ⟨n10, n11, q3⟩, ⟨n13, q4⟩, q5⟩
  · rcases hs2 b hb with e | e
    · exact ho (.inr (by rw [← e, z]; exact hc))
    · exact h5 b e c hc z
theorem Ch.newR {p : Addr} (hp : H p = none) : Ch F ar rws H p rws H := fun b u n h => by
  refine ⟨fun z => ?_, h⟩
  rcases z with z | z
  · simp only [own7, List.mem_cons, List.not_mem_nil, or_false] at z
    rcases z with e | e | e | e | e | e
    · exact n (.inl (by simp [own7, e]))
    · exact n (.inl (by simp [own7, e]))
    · exact n (.inl (by simp [own7, e]))
    · exact n (.inl (by simp [own7, e]))
    · exact n (.inl (by simp [own7, e]))
    · rw [e, hp] at h; cases h
  · exact n (.inr z)
/-! #### words by their places -/
theorem gI_at {ws : List Int} {i v : Int} (h : gI ws i = some v) : atI (ws.map V.int) i = some (.int v) := by
  unfold gI at h
  split at h
  · rename_i h0
    obtain ⟨n, rfl⟩ := Int.eq_ofNat_of_zero_le h0
    rw [Int.toNat_natCast] at h
    exact atI_nat (j := n) (by rw [List.getElem?_map, h]; rfl)
  · cases h
theorem sI_set {ws us : List Int} {i v : Int} (h : sI ws i v = some us) : ∃ n : Nat, i = (n : Int) ∧ n < ws.length ∧ us = ws.set n v := by
  unfold sI at h
  split at h
  · rename_i h0
    obtain ⟨n, rfl⟩ := Int.eq_ofNat_of_zero_le h0.1
    cases h
    rw [Int.toNat_natCast]
    exact ⟨n, rfl, by omega, rfl⟩
  · cases h
theorem sI_len {ws us : List Int} {i v : Int} (h : sI ws i v = some us) : us.length = ws.length := by
  obtain ⟨n, _, _, rfl⟩ := sI_set h
  exact List.length_set
theorem setS_len {ws us ys : List Int} {a b : Int} (h : setS ws a b ys = some us) : us.length = ws.length := by
  unfold setS at h
  split at h
  · cases h
    rw [List.length_append, List.length_append, List.length_take, List.length_drop]; omega
  · cases h
end
end Wk
set_option maxRecDepth 100000
set_option maxHeartbeats 4000000
namespace Wk
open PySem L2 TL PyProof.Rows Hm
open SX (S S_len)
theorem hu1 {k : Nat} {A : Around} (r : Room k A) : A.units + 1 < cLine := by have := r.un; omega
theorem St.mul {K : PySem.W.Frag} {C : Cs K} {H : Hp} {F : Fx} {ar : Addr} {rws : List Addr} {s : Bd} (S : St C H F ar rws s) (i : Int) : CMul i s.old := .inr ⟨by have := S.z4; omega, by have := S.z4; omega⟩
section
variable {P : Program} {w : World} {K : PySem.W.Frag} {mg : Str → Option Value} {base : Heap}
abbrev s_Bound__begin_of : Stmt := inClass (top 60) 1
theorem sc_Bound__begin_of : FnScope ["self", "half"] ["self", "half"] (defScope s_Bound__begin_of) := ⟨rfl, rfl, rfl, by decide +kernel, rfl, by decide +kernel, by decide +kernel⟩
def sp_bbegin (C : Cs K) : Sp := fun vs H Q _ => ∃ F ar rws s h, vs = [.ref F.bo, .int h] ∧ St C H F ar rws s ∧ Q (.int (beginOf s h)) H
theorem ok_bbegin (C : Cs K) {f : Addr} {fd : FuncData} (F : Fun K "begin_of" "Bound.begin_of" s_Bound__begin_of f fd) : FnOk P w K mg base CX0 1 f fd ["self", "half"] (sp_bbegin C) := by
  refine F.ok sc_Bound__begin_of (fun vs H Q E h => ?_) (fun cdv A outer s H vs Q E hr h => ?_)
  · obtain ⟨_, _, _, _, _, rfl, _⟩ := h; rfl
  obtain ⟨F, ar, rws, s, h, rfl, S, q⟩ := h
  refine ⟨_, (pss_one (ps_ret (pe_op op_add (pe_fld (pe_fld (pv 0) rfl) rfl) (pe_op op_mul (pv 1) (pe_fld (pe_fld (pv 0) rfl) rfl))))), ?_⟩
  exact (⟨_, rfl, _, _, _, _, _, rfl, St.bo S, Cs.bcl _, Cs.room _, rfl, _, _, _, _, _, rfl, St.ro S, Cs.rcl _, C.young, rfl, ⟨_, rfl, ((⟨_, rfl, _, _, _, _, _, rfl, St.bo S, Cs.bcl _, Cs.room _, rfl, _, _, _, _, _, rfl, St.ro S, Cs.rcl _, C.old, rfl, ⟨_, _, rfl, rfl, S.mul h, _, _, rfl, rfl, q⟩⟩))⟩⟩)
abbrev s_Bound__end_of : Stmt := inClass (top 60) 13
theorem sc_Bound__end_of : FnScope ["self", "at"] ["self", "at"] (defScope s_Bound__end_of) := ⟨rfl, rfl, rfl, by decide +kernel, rfl, by decide +kernel, by decide +kernel⟩
def sp_bend (C : Cs K) : Sp := fun vs H Q _ => ∃ F ar rws s a e, vs = [.ref F.bo, .int a] ∧ St C H F ar rws s ∧ endOf s a = some e ∧ Q (.int e) H
theorem ok_bend (T : Txt K mg base) (T5 : Txt5 K w mg) (C : Cs K) {f : Addr} {fd : FuncData} (F : Fun K "end_of" "Bound.end_of" s_Bound__end_of f fd) : FnOk P w K mg base CX0 1 f fd ["self", "at"] (sp_bend C) := by
  refine F.ok sc_Bound__end_of (fun vs H Q E h => ?_) (fun cdv A outer s H vs Q E hr h => ?_)
  · obtain ⟨_, _, _, _, _, _, rfl, _⟩ := h; rfl
  obtain ⟨F, ar, rws, s, a, e, rfl, S, he, q⟩ := h
  refine ⟨_, (pss_one (ps_ret (pe_op op_add (pe_op op_add (pv 1) (pe_glob (v := .int 2) rfl T5.mAHEAD ⟨_, rfl⟩)) (pe_op op_fdivW (pe_ix ix_list (pe_fld (pv 0) rfl) (pv 1) (fun _ _ => rfl)) (pe_glob (v := .int 8) rfl T.mTAGS ⟨_, rfl⟩))))), ?_⟩
  unfold endOf at he
  cases hh : gI s.words a with
  | none => rw [hh] at he; cases he
  | some hd =>
    rw [hh] at he
    cases he
    refine ⟨_, rfl, _, _, rfl, rfl, ?_⟩
    refine (⟨_, rfl, _, _, _, _, _, rfl, St.bo S, Cs.bcl _, C.words, rfl, ⟨_, rfl, _, _, _, _, rfl, rfl, SqL.of S.aw, gI_at hh, _, _, rfl, rfl, ⟨by decide, by decide⟩, _, _, rfl, rfl, q⟩⟩)
end
end Wk
set_option maxRecDepth 100000
set_option maxHeartbeats 4000000
namespace Wk
open PySem L2 TL PyProof.Rows Hm
open SX (S S_len)
theorem gS_cut {ws part : List Int} {a b : Int} (h : gS ws a b = some part) : cutV (ws.map V.int) (some a) (some b) = part.map V.int ∧ (part.length : Int) = b - a ∧ 0 ≤ a ∧ a ≤ b ∧ b ≤ ws.length := by
  unfold gS at h
  split at h
  · rename_i h0
    obtain ⟨h1, h2, h3⟩ := h0
    obtain ⟨n, rfl⟩ := Int.eq_ofNat_of_zero_le h1
    obtain ⟨m, rfl⟩ := Int.eq_ofNat_of_zero_le (Int.le_trans h1 h2)
    cases h
    refine ⟨?_, ?_, h1, h2, h3⟩
    · unfold cutV
      rw [HT.sIx_nat, HT.sIx_nat, List.length_map, Int.toNat_natCast, Int.toNat_natCast, List.map_take, List.map_drop, Nat.min_eq_left (by omega), Nat.min_eq_left (by omega)]
    · rw [Int.toNat_natCast, Int.toNat_natCast, List.length_take, List.length_drop]; omega
  · cases h
theorem setS_put {ws us ys : List Int} {a b : Int} (h : setS ws a b ys = some us) : 0 ≤ a ∧ a ≤ b ∧ b ≤ ws.length ∧ us.map V.int = (ws.map V.int).take a.toNat ++ ys.map V.int ++ (ws.map V.int).drop b.toNat := by
  unfold setS at h
  split at h
  · rename_i h0
    cases h
    exact ⟨h0.1, h0.2.1, h0.2.2.1, by rw [List.map_append, List.map_append, List.map_take, List.map_drop]⟩
  · cases h
theorem ixN_of {n j : Nat} (h : j < n) : ixN n (j : Int) = some j := by
  unfold ixN
  rw [if_pos (Int.natCast_nonneg j), if_pos (by omega), Int.toNat_natCast]
theorem ixN_in {ws us : List Int} {i v : Int} (h : sI ws i v = some us) : ∃ j, ixN (ws.map V.int).length i = some j ∧ us.map V.int = (ws.map V.int).set j (.int v) := by
  obtain ⟨n, rfl, hn, rfl⟩ := sI_set h
  refine ⟨n, ixN_of (by rw [List.length_map]; exact hn), ?_⟩
  rw [List.map_set]
section
variable {P : Program} {w : World} {K : PySem.W.Frag} {mg : Str → Option Value} {base : Heap}
abbrev s_Bound__moved : Stmt := inClass (top 60) 9
theorem sc_Bound__moved : FnScope ["self", "at", "head", "new", "many"] ["self", "at"] (defScope s_Bound__moved) := ⟨rfl, rfl, rfl, by decide +kernel, rfl, by decide +kernel, by decide +kernel⟩
def sp_bmoved (C : Cs K) : Sp := fun vs H Q _ => ∃ F ar rws s a n s', vs = [.ref F.bo, .int a] ∧ St C H F ar rws s ∧ moved s a = some (n, s') ∧ ∀ H', Go C F ar rws H H' ar rws s' → Q (.int n) H'
theorem ok_bmoved (T : Txt K mg base) (T5 : Txt5 K w mg) (C : Cs K) {f : Addr} {fd : FuncData} (F : Fun K "moved" "Bound.moved" s_Bound__moved f fd) : FnOk P w K mg base CX0 1 f fd ["self", "at"] (sp_bmoved C) := by
  refine F.ok sc_Bound__moved (fun vs H Q E h => ?_) (fun cdv A outer s H vs Q E hr h => ?_)
  · obtain ⟨_, _, _, _, _, _, _, rfl, _⟩ := h; rfl
  obtain ⟨F, ar, rws, s, a, n, s', rfl, S, hm, q⟩ := h
  refine ⟨_, (pss_cons (ps_set (i := 2) sc_Bound__moved.nd rfl (Or.inl rfl) (pe_ix ix_list (pe_fld (pv 0) rfl) (pv 1) (fun _ _ => rfl)))
    (pss_cons (ps_if (pt_cmpR op_lt (pv 2) pe_int (nomark _)) (pss_one (ps_ret (pe_op op_sub (pe_un un_neg pe_int) (pv 2)))) pss_nil)
    (pss_cons (ps_set (i := 3) sc_Bound__moved.nd rfl (Or.inl rfl) (pe_fld (pv 0) rfl))
    (pss_cons (ps_set (i := 4) sc_Bound__moved.nd rfl (Or.inl rfl) (pe_op op_add (pe_op op_fdivW (pv 2) (pe_glob (v := .int 8) rfl T.mTAGS ⟨_, rfl⟩)) (pe_glob (v := .int 2) rfl T5.mAHEAD ⟨_, rfl⟩)))
    (pss_cons (ps_asg (pe_slice sl_list (pe_fld (pv 0) rfl) (po_some (pv 1)) (po_some (pe_op op_add (pv 1) (pv 4)))) (pg_slice (pe_fld (pv 0) rfl) (po_some (pv 3)) (po_some (pe_op op_add (pv 3) (pv 4)))))
    (pss_cons (ps_asg (pe_op op_sub (pe_un un_neg pe_int) (pv 3)) (pg_sub (pe_fld (pv 0) rfl) (pv 1) set_list))
    (pss_cons (ps_fldaug (pv 0) (pv 4) in_add)
    (pss_one (ps_ret (pv 3)))))))))), ?_⟩
  generalize hσ : L2.start _ _ = σ0
  have hσ : σ0 = [some (.ref F.bo), some (.int a), none, none, none] := hσ.symm
  subst hσ
  have hz := line_eq
  unfold moved at hm
  cases hh : gI s.words a with
  | none => rw [hh] at hm; cases hm
  | some hd =>
  rw [hh] at hm
  dsimp only at hm
  refine seq_set ?_
  refine (⟨_, rfl, _, _, _, _, _, rfl, St.bo S, Cs.bcl _, C.words, rfl, ⟨_, rfl, _, _, _, _, rfl, rfl, SqL.of S.aw, gI_at hh, ?_⟩⟩)
  refine ⟨_, rfl, _, _, rfl, rfl, _, rfl, ?_⟩
  by_cases hneg : hd < 0
  · rw [if_pos hneg] at hm
    cases hm
    rw [decide_eq_true hneg]
    exact iteT ⟨_, rfl, _, rfl, _, _, rfl, rfl, q _ S.go⟩
  rw [if_neg hneg] at hm
  rw [decide_eq_false hneg]
  cases hp : gS s.words a (a + (hd / 8 + 2)) with
  | none => rw [hp] at hm; cases hm
  | some part =>
  rw [hp] at hm
  dsimp only at hm
  cases hw1 : setS s.words s.free (s.free + (hd / 8 + 2)) part with
  | none => rw [hw1] at hm; cases hm
  | some w1 =>
  rw [hw1] at hm
  dsimp only at hm
  cases hw2 : sI w1 a (-1 - s.free) with
  | none => rw [hw2] at hm; cases hm
  | some w2 =>
  rw [hw2] at hm
  cases hm
  obtain ⟨c1, c2, c3, c4, c5⟩ := gS_cut hp
  obtain ⟨d1, d2, d3, d4⟩ := setS_put hw1
  have l1 := setS_len hw1
  have l2 := sI_len hw2
  refine iteF (go_next ?_)
  dsimp only
  refine seq_set ?_
  refine (⟨_, rfl, _, _, _, _, _, rfl, St.bo S, Cs.bcl _, C.free, rfl, ?_⟩)
  refine seq_set ?_
  refine ⟨_, rfl, _, _, rfl, rfl, ⟨by decide, by decide⟩, _, _, rfl, rfl, ?_⟩
  refine (⟨_, rfl, _, _, _, _, _, rfl, St.bo S, Cs.bcl _, C.words, rfl, ⟨_, rfl, _, rfl, _, rfl, _, rfl, _, _, rfl, rfl, _, rfl, F.aw, _, rfl, SqL.of S.aw, fun p np => ?_⟩⟩)
  rw [c1]
  have S1 := S.same (same_new np (.lst (part.map V.int)))
  have g1 : Ch F ar rws H ar rws (upd H p (.lst (part.map V.int))) := .new np _
  have hpp : (upd H p (.lst (part.map V.int))) p = some (.lst (part.map V.int)) := upd_same
  have npw : F.aw ≠ p := fun z => by rw [← z, S.aw] at np; cases np
  show gSlice _ _ _ _ _ (upd H p (.lst (part.map V.int))) _
  generalize upd H p (.lst (part.map V.int)) = H1 at S1 g1 hpp ⊢
  refine (⟨_, rfl, _, _, _, _, _, rfl, St.bo S1, Cs.bcl _, C.words, rfl, ⟨_, rfl, _, rfl, _, rfl, _, rfl, _, _, rfl, rfl, _, rfl, F.aw, p, _, _, _, _, rfl, rfl, rfl, rfl, S1.aw, hpp, npw, d1, d2, (by rw [List.length_map]; exact d3), (by rw [List.length_map, List.length_map]; have := S.z1; omega), ?_⟩⟩)
  rw [← d4]
  have S2 := S1.setW l1
  have g2 : Ch F ar rws H ar rws (upd H1 F.aw (.lst (w1.map V.int))) := g1.trans (.own own_aw _)
  dsimp only
  generalize upd H1 F.aw (.lst (w1.map V.int)) = H2 at S2 g2 ⊢
  obtain ⟨j, j1, j2⟩ := ixN_in hw2
  refine ⟨_, rfl, _, rfl, _, _, rfl, rfl, ?_⟩
  refine (⟨_, rfl, _, _, _, _, _, rfl, St.bo S2, Cs.bcl _, C.words, rfl, ⟨_, rfl, _, _, _, _, rfl, rfl, S2.aw, j1, ?_⟩⟩)
  rw [← j2]
  have S3 := S2.setW (ws := w2) l2
  have g3 : Ch F ar rws H ar rws (upd H2 F.aw (.lst (w2.map V.int))) := g2.trans (.own own_aw _)
  dsimp only
  generalize upd H2 F.aw (.lst (w2.map V.int)) = H3 at S3 g3 ⊢
  refine (⟨_, rfl, _, _, _, _, _, rfl, St.bo S3, Cs.bcl _, C.free, rfl, ⟨_, rfl, _, _, rfl, rfl, _, _, S3.bo, (by show 12 < 1000; omega), ?_⟩⟩)
  refine ⟨_, rfl, q _ ⟨S3.put (t := { s with words := w2, free := s.free + (hd / 8 + 2) }) (⟨rfl, rfl, rfl, rfl, rfl, rfl, rfl, rfl⟩) rfl, g3.trans (.own own_bo _)⟩⟩
end
end Wk
set_option maxRecDepth 100000
set_option maxHeartbeats 4000000
namespace Wk
open PySem L2 TL PyProof.Rows Hm
open SX (S S_len)
theorem ints_at {ps : List Int} {k : Nat} {x : V} (h : (ps.map V.int)[k]? = some x) : ∃ p, ps[k]? = some p ∧ x = .int p ∧ ps.drop k = p :: ps.drop (k + 1) := by
  rw [List.getElem?_map] at h
  cases e : ps[k]? with
  | none => rw [e] at h; cases h
  | some p =>
    rw [e] at h
    cases h
    obtain ⟨hk, rfl⟩ := List.getElem?_eq_some_iff.mp e
    exact ⟨_, rfl, rfl, List.drop_eq_getElem_cons hk⟩
theorem within_read {i lo hi : Nat} {l h w : Int} {σ : L2.St} {H : Hp} {Q : Bool → Hp → Prop} (e1 : σ[i]? = some (some (.int w))) (e2 : σ[lo]? = some (some (.int l))) (e3 : σ[hi]? = some (some (.int h))) (q : Q (within l h w) H) :
    tAnd (tTest (tOp rEq (tOp (fun x y H Q => ∃ (i : Int) (k : Nat), x = V.int i ∧ y = V.int (2 ^ k - 1) ∧ Q (V.int (i % 2 ^ k)) H) (tVar i) (tOp (rI0 fun i j => V.int (i - j)) (tC (V.int 8)) (tC (V.int 1)))) (tC (V.int 0))))
      (tTest (tChain (rI0 fun i j => V.bl (decide (i ≤ j))) (rI0 fun i j => V.bl (decide (i < j))) (tVar lo) (tOp (rI CDivW fun i j => V.int (i / j)) (tVar i) (tC (V.int 8))) (tVar hi))) σ H Q := by
  unfold within isT at q
  refine ⟨_, e1, _, _, rfl, rfl, w, 3, rfl, rfl, rfl, _, rfl, ?_⟩
  have e8 : (2 : Int) ^ 3 = 8 := by decide
  rw [e8]
  by_cases h0 : w % 8 = 0
  · rw [show decide (V.int (w % 8) = V.int 0) = true from decide_eq_true (by rw [h0])]
    rw [show (w % 8 == 0) = true from beq_iff_eq.mpr h0, Bool.true_and] at q
    refine iteT ⟨_, e2, _, e1, _, _, rfl, rfl, ⟨by decide, by decide⟩, _, _, rfl, rfl, _, rfl, ?_⟩
    by_cases h1 : l ≤ w / 8
    · rw [decide_eq_true h1]
      rw [decide_eq_true h1, Bool.true_and] at q
      exact iteT ⟨_, e3, _, _, rfl, rfl, _, rfl, q⟩
    · rw [decide_eq_false h1]
      rw [decide_eq_false h1, Bool.false_and] at q
      exact iteF ⟨_, rfl, q⟩
  · rw [show decide (V.int (w % 8) = V.int 0) = false from decide_eq_false (fun z => h0 (V.int.inj z))]
    rw [show (w % 8 == 0) = false from by simpa using h0, Bool.false_and] at q
    exact iteF q
section
variable {P : Program} {w : World} {K : PySem.W.Frag} {mg : Str → Option Value} {base : Heap}
abbrev s_Bound__lead_on : Stmt := inClass (top 60) 10
theorem sc_Bound__lead_on : FnScope ["self", "places", "low", "high", "place", "word"] ["self", "places", "low", "high"] (defScope s_Bound__lead_on) := ⟨rfl, rfl, rfl, by decide +kernel, rfl, by decide +kernel, by decide +kernel⟩
def sp_bleadon (C : Cs K) : Sp := fun vs H Q _ => ∃ F ar rws s pl ps lo hi s', vs = [.ref F.bo, .ref pl, .int lo, .int hi] ∧ St C H F ar rws s ∧ H pl = some (.lst (ps.map V.int)) ∧ ¬ Own F ar rws pl ∧ leadOn lo hi ps s = some s' ∧ ∀ H', Go C F ar rws H H' ar rws s' → Q .non H'
theorem ok_bleadon (T : Txt K mg base) (T5 : Txt5 K w mg) (C : Cs K) {f : Addr} {fd : FuncData} (F : Fun K "lead_on" "Bound.lead_on" s_Bound__lead_on f fd) (Mb_moved : MD P w K mg base CX0 C.B "moved" ["self", "at"] 1 (sp_bmoved C)) : FnOk P w K mg base CX0 2 f fd ["self", "places", "low", "high"] (sp_bleadon C) := by
  refine F.ok sc_Bound__lead_on (fun vs H Q E h => ?_) (fun cdv A outer s H vs Q E hr h => ?_)
  · obtain ⟨_, _, _, _, _, _, _, _, _, rfl, _⟩ := h; rfl
  obtain ⟨F, ar, rws, s, pl, ps, lo, hi, s', rfl, S, hpl, npl, hm, q⟩ := h
  refine ⟨_, (pss_one (ps_for PassesOwn.never rfl (pi_list (pv 1)) (pg_name (i := 4) sc_Bound__lead_on.nd rfl (Or.inl rfl)) (pss_cons (ps_set (i := 5) sc_Bound__lead_on.nd rfl (Or.inl rfl) (pe_ix ix_list (pe_fld (pv 0) rfl) (pv 4) (fun _ _ => rfl)))
      (pss_one (ps_if (PW.pt (pw_and (pt_cmpR op_eq (pe_op op_andM (pv 5) (pe_op op_sub (pe_glob (v := .int 8) rfl T.mTAGS ⟨_, rfl⟩) pe_int)) (pe_glob (v := .int 0) rfl T5.mTHING_TAG ⟨_, rfl⟩) (nomark _)) (pw_and1 (pt_chain op_le op_lt (pv 2) (pe_op op_fdivW (pv 5) (pe_glob (v := .int 8) rfl T.mTAGS ⟨_, rfl⟩)) (pv 3))))) (pss_one (ps_asg (pe_op op_add (pe_op op_mul (pe_meth (pv 0) C.bcl Mb_moved.m Mb_moved.ok (hr.mono (by omega)) Mb_moved.b .nil pass0 (pa_cons (pe_op op_fdivW (pv 5) (pe_glob (v := .int 8) rfl T.mTAGS ⟨_, rfl⟩)) pa_nil)) (pe_glob (v := .int 8) rfl T.mTAGS ⟨_, rfl⟩)) (pe_glob (v := .int 0) rfl T5.mTHING_TAG ⟨_, rfl⟩)) (pg_sub (pe_fld (pv 0) rfl) (pv 4) set_list))) pss_nil))))), ?_⟩
  generalize hσ : L2.start _ _ = σ0
  have hσ : σ0 = [some (.ref F.bo), some (.ref pl), some (.int lo), some (.int hi), none, none] := hσ.symm
  subst hσ
  have hz := line_eq
  refine ⟨_, rfl, pl, rfl, ⟨_, SqL.of hpl⟩, ?_⟩
  refine for_list (xs := ps.map V.int) (fun k σ H' => ∃ sk x4 x5, σ = [some (.ref F.bo), some (.ref pl), some (.int lo), some (.int hi), x4, x5] ∧ Go C F ar rws H H' ar rws sk ∧ leadOn lo hi (ps.drop k) sk = some s') ⟨s, none, none, rfl, S.go, hm⟩ (fun k σ H' _ ⟨sk, x4, x5, _, g, _⟩ => SqL.of (g.ch pl _ npl hpl).2) ?_ ?_
  · rintro k x σ H' hk ⟨sk, x4, x5, rfl, g, hm⟩
    obtain ⟨p, ep, rfl, ed⟩ := ints_at hk
    rw [ed, leadOn] at hm
    have S1 := g.st
    cases hw : gI sk.words p with
    | none => rw [leadAt, hw] at hm; cases hm
    | some wd =>
    refine seq_set ?_
    refine (⟨_, rfl, _, _, _, _, _, rfl, St.bo S1, Cs.bcl _, C.words, rfl, ⟨_, rfl, _, _, _, _, rfl, rfl, SqL.of S1.aw, gI_at hw, ?_⟩⟩)
    refine within_read rfl rfl rfl ?_
    rw [leadAt, hw] at hm
    dsimp only at hm
    cases hwi : within lo hi wd with
    | false =>
      rw [hwi] at hm
      exact iteF (go_next ⟨sk, _, _, rfl, g, hm⟩)
    | true =>
    rw [hwi, if_pos rfl] at hm
    cases hmv : moved sk (wd / 8) with
    | none => rw [hmv] at hm; cases hm
    | some nm =>
    obtain ⟨n, s1⟩ := nm
    rw [hmv] at hm
    dsimp only at hm
    cases hs : sI s1.words p (n * 8 + 0) with
    | none => rw [hs] at hm; cases hm
    | some ws =>
    rw [hs] at hm
    dsimp only at hm
    refine iteT ⟨_, rfl, F.bo, F.bd, _, rfl, S1.bo, rfl, _, rfl, _, _, rfl, rfl, ⟨by decide, by decide⟩, F, ar, rws, sk, wd / 8, n, s1, rfl, S1, hmv, fun H2 g2 => ?_⟩
    have S2 := g2.st
    obtain ⟨j, j1, j2⟩ := ixN_in hs
    refine ⟨_, _, rfl, rfl, .inr ⟨by decide, by decide⟩, _, _, rfl, rfl, ?_⟩
    refine (⟨_, rfl, _, _, _, _, _, rfl, St.bo S2, Cs.bcl _, C.words, rfl, ⟨_, rfl, _, _, _, _, rfl, rfl, S2.aw, j1, ?_⟩⟩)
    rw [← j2]
    exact ⟨_, _, _, rfl, (g.trans g2).trans ⟨S2.setW (sI_len hs), .own own_aw _⟩, hm⟩
  · rintro σ H' ⟨sk, x4, x5, rfl, g, hm⟩
    rw [List.length_map, List.drop_length, leadOn] at hm
    cases hm
    exact q _ g
end
end Wk
set_option maxRecDepth 100000
set_option maxHeartbeats 4000000
namespace Wk
open PySem L2 TL PyProof.Rows Hm
open SX (S S_len)
theorem moved_rows {s s' : Bd} {a n : Int} (h : moved s a = some (n, s')) : s'.rows = s.rows := by
  unfold moved at h
  split at h
  · cases h
  · split at h
    · cases h; rfl
    · split at h
      · cases h
      · split at h
        · cases h
        · split at h
          · cases h
          · cases h; rfl
section
variable {P : Program} {w : World} {K : PySem.W.Frag} {mg : Str → Option Value} {base : Heap}
abbrev s_Heap__root_rows : Stmt := inClass (top 69) 1
theorem sc_Heap__root_rows : FnScope ["self"] ["self"] (defScope s_Heap__root_rows) := ⟨rfl, rfl, rfl, by decide +kernel, rfl, by decide +kernel, by decide +kernel⟩
def sp_hrows (C : Cs K) : Sp := fun vs H Q _ => ∃ F ar rws s, vs = [.ref F.ho] ∧ St C H F ar rws s ∧ ∀ p, H p = none → Q (.ref p) (upd H p (.lst (rws.map V.ref)))
theorem ok_hrows (T : Txt K mg base) (C : Cs K) {f : Addr} {fd : FuncData} (F : Fun K "root_rows" "Heap.root_rows" s_Heap__root_rows f fd) : FnOk P w K mg base CX0 1 f fd ["self"] (sp_hrows C) := by
  refine F.ok sc_Heap__root_rows (fun vs H Q E h => ?_) (fun cdv A outer s H vs Q E hr h => ?_)
  · obtain ⟨_, _, _, _, rfl, _⟩ := h; rfl
  obtain ⟨F, ar, rws, s, rfl, S, q⟩ := h
  refine ⟨_, (pss_one (ps_ret (pe_listVals rfl (pe_fld (pv 0) rfl) rfl T.n_list boot_list))), ?_⟩
  refine (⟨_, rfl, _, _, _, _, _, rfl, St.ho S, Cs.hcl _, C.handles, rfl, ⟨F.ah, _, rfl, S.ah, fun p np => ?_⟩⟩)
  rw [rowD_snd (rows_len S.rw)]
  exact q p np
abbrev s_Bound__lead_roots : Stmt := inClass (top 60) 11
theorem sc_Bound__lead_roots : FnScope ["self", "low", "high", "row", "place", "word"] ["self", "low", "high"] (defScope s_Bound__lead_roots) := ⟨rfl, rfl, rfl, by decide +kernel, rfl, by decide +kernel, by decide +kernel⟩
def sp_bleadroots (C : Cs K) : Sp := fun vs H Q _ => ∃ F ar rws s lo hi s', vs = [.ref F.bo, .int lo, .int hi] ∧ St C H F ar rws s ∧ leadRoots lo hi s = some s' ∧ ∀ H', Go C F ar rws H H' ar rws s' → Q .non H'
theorem ok_bleadroots (T : Txt K mg base) (T5 : Txt5 K w mg) (C : Cs K) {f : Addr} {fd : FuncData} (F : Fun K "lead_roots" "Bound.lead_roots" s_Bound__lead_roots f fd) (Mb_moved : MD P w K mg base CX0 C.B "moved" ["self", "at"] 1 (sp_bmoved C)) (Mh_root_rows : MD P w K mg base CX0 C.H "root_rows" ["self"] 1 (sp_hrows C)) : FnOk P w K mg base CX0 2 f fd ["self", "low", "high"] (sp_bleadroots C) := by
  refine F.ok sc_Bound__lead_roots (fun vs H Q E h => ?_) (fun cdv A outer s H vs Q E hr h => ?_)
  · obtain ⟨_, _, _, _, _, _, _, rfl, _⟩ := h; rfl
  obtain ⟨F, ar, rws, s, lo, hi, s', rfl, S, hm, q⟩ := h
  refine ⟨_, (pss_one (ps_for PassesOwn.never rfl (pi_list (pe_meth0 (pe_fld (pv 0) rfl) C.hcl Mh_root_rows.m Mh_root_rows.ok (hr.mono (by omega)) Mh_root_rows.b .nil pass0)) (pg_name (i := 3) sc_Bound__lead_roots.nd rfl (Or.inl rfl)) (pss_one (ps_for PassesOwn.never rfl (pi_range1 rfl T.n_range (pa_cons (pe_callB call_len_seq rfl T.n_len boot_len (pa_cons (pv 3) pa_nil)) pa_nil)) (pg_name (i := 4) sc_Bound__lead_roots.nd rfl (Or.inl rfl)) (pss_cons (ps_set (i := 5) sc_Bound__lead_roots.nd rfl (Or.inl rfl) (pe_ix ix_list (pv 3) (pv 4) (fun _ _ => rfl)))
        (pss_one (ps_if (PW.pt (pw_and (pt_cmpR op_eq (pe_op op_andM (pv 5) (pe_op op_sub (pe_glob (v := .int 8) rfl T.mTAGS ⟨_, rfl⟩) pe_int)) (pe_glob (v := .int 0) rfl T5.mTHING_TAG ⟨_, rfl⟩) (nomark _)) (pw_and1 (pt_chain op_le op_lt (pv 1) (pe_op op_fdivW (pv 5) (pe_glob (v := .int 8) rfl T.mTAGS ⟨_, rfl⟩)) (pv 2))))) (pss_one (ps_asg (pe_op op_add (pe_op op_mul (pe_meth (pv 0) C.bcl Mb_moved.m Mb_moved.ok (hr.mono (by omega)) Mb_moved.b .nil pass0 (pa_cons (pe_op op_fdivW (pv 5) (pe_glob (v := .int 8) rfl T.mTAGS ⟨_, rfl⟩)) pa_nil)) (pe_glob (v := .int 8) rfl T.mTAGS ⟨_, rfl⟩)) (pe_glob (v := .int 0) rfl T5.mTHING_TAG ⟨_, rfl⟩)) (pg_sub (pv 3) (pv 4) set_list))) pss_nil))))))), ?_⟩
  generalize hσ : L2.start _ _ = σ0
  have hσ : σ0 = [some (.ref F.bo), some (.int lo), some (.int hi), none, none, none] := hσ.symm
  subst hσ
  have hz := line_eq
  have hlr := rows_len S.rw
  refine (⟨_, rfl, _, _, _, _, _, rfl, St.bo S, Cs.bcl _, C.owner, rfl, ⟨F.ho, F.hd, _, rfl, S.ho, rfl, F, ar, rws, s, rfl, S, fun p np => ?_⟩⟩)
  have S1 := S.same (same_new np (.lst (rws.map V.ref)))
  have g1 : Go C F ar rws H (upd H p (.lst (rws.map V.ref))) ar rws s := ⟨S1, .new np _⟩
  have hp : (upd H p (.lst (rws.map V.ref))) p = some (.lst (rws.map V.ref)) := upd_same
  have hop := S.off np
  generalize upd H p (.lst (rws.map V.ref)) = H1 at S1 g1 hp ⊢
  refine ⟨p, rfl, ⟨_, SqL.of hp⟩, ?_⟩
  refine for_list (xs := rws.map V.ref) (fun k σ H' => ∃ sk x3 x4 x5, σ = [some (.ref F.bo), some (.int lo), some (.int hi), x3, x4, x5] ∧ Go C F ar rws H1 H' ar rws sk ∧ k ≤ rws.length ∧ leadRows lo hi (rws.length - k) k sk = some s') ⟨s, none, none, none, rfl, S1.go, Nat.zero_le _, by unfold leadRoots at hm; rw [hlr]; exact hm⟩ (fun k σ H' _ ⟨sk, x3, x4, x5, _, g, _⟩ => SqL.of (g.ch p _ hop hp).2) ?_ ?_
  · rintro k x σ H' hk ⟨sk, x3, x4, x5, rfl, g, hkl, hm⟩
    rw [List.getElem?_map] at hk
    have S2 := g.st
    have hl2 := rows_len S2.rw
    cases er : rws[k]? with
    | none => rw [er] at hk; cases hk
    | some r =>
    rw [er] at hk
    cases hk
    have hkr : k < rws.length := (List.getElem?_eq_some_iff.mp er).1
    obtain ⟨q0, eq0⟩ : ∃ q0, sk.rows[k]? = some q0 := ⟨_, List.getElem?_eq_getElem (by omega)⟩
    obtain ⟨r', er', hr'⟩ := rows_at S2.rw eq0
    cases er.symm.trans er'
    obtain ⟨h0, wd⟩ := q0
    rw [show rws.length - k = (rws.length - (k + 1)) + 1 from by omega, leadRows, eq0] at hm
    dsimp only at hm
    show tFor _ _ _ _ [some (.ref F.bo), some (.int lo), some (.int hi), some (.ref r), x4, x5] H'
    refine ⟨_, rfl, r, [V.int wd], rfl, .inl (SqL.of hr'), _, rfl, (by show -2 ^ 62 ≤ (1 : Int); decide), (by show (1 : Int) < 2 ^ 62; decide), ?_⟩
    rw [show ((([V.int wd] : List V).length : Nat) : Int).toNat = 1 from rfl]
    have stay : ∀ {sa sb : Bd} {Ha Hb : Hp}, Go C F ar rws Ha Hb ar rws sb → sb.rows = sa.rows → Go C F ar rws H1 Ha ar rws sa → Hb r = Ha r := fun {sa sb Ha Hb} ga e gb => by
      have e1 : sa.rows.length = rws.length := (rows_len gb.st.rw).symm
      obtain ⟨q1, eq1⟩ : ∃ q1, sa.rows[k]? = some q1 := ⟨_, List.getElem?_eq_getElem (by omega)⟩
      obtain ⟨r1, a1, a2⟩ := rows_at gb.st.rw eq1
      obtain ⟨r2, b1, b2⟩ := rows_at ga.st.rw (by rw [e]; exact eq1)
      cases er.symm.trans a1
      cases er.symm.trans b1
      rw [a2, b2]
    refine for_range (fun i σ H' => ∃ sk x4 x5, σ = [some (.ref F.bo), some (.int lo), some (.int hi), some (.ref r), x4, x5] ∧ Go C F ar rws H1 H' ar rws sk ∧ ((i = 0 ∧ sk.rows[k]? = some (h0, wd) ∧ H' r = some (.lst [V.int wd]) ∧ (if within lo hi wd then (match moved sk (wd / 8) with
        | none => none
        | some (n, s1) => leadRows lo hi (rws.length - (k + 1)) (k + 1) { s1 with rows := s1.rows.set k (h0, n * 8 + 0) }) else leadRows lo hi (rws.length - (k + 1)) (k + 1) sk) = some s') ∨ (i = 1 ∧ leadRows lo hi (rws.length - (k + 1)) (k + 1) sk = some s'))) ⟨sk, _, _, rfl, g, .inl ⟨rfl, eq0, hr', hm⟩⟩ ?_ ?_
    · rintro i σ H2 hi1 ⟨sk, x4, x5, rfl, g, h⟩
      have i0 : i = 0 := by omega
      subst i0
      rcases h with ⟨_, eq0, hr2, hm⟩ | ⟨h, _⟩
      rotate_left
      · omega
      show tSeq _ _ _ [some (.ref F.bo), some (.int lo), some (.int hi), some (.ref r), some (.int (0 + ((0 : Nat) : Int))), x5] H2
      refine seq_set ?_
      refine ⟨_, rfl, _, rfl, r, _, _, _, rfl, rfl, SqL.of hr2, atI_nat (j := 0) rfl, ?_⟩
      refine within_read rfl rfl rfl ?_
      cases hwi : within lo hi wd with
      | false =>
        rw [hwi] at hm
        exact iteF (go_next ⟨sk, _, _, rfl, g, .inr ⟨rfl, hm⟩⟩)
      | true =>
      rw [hwi, if_pos rfl] at hm
      cases hmv : moved sk (wd / 8) with
      | none => rw [hmv] at hm; cases hm
      | some nm =>
      obtain ⟨n, s1⟩ := nm
      rw [hmv] at hm
      dsimp only at hm
      have hrows := moved_rows hmv
      refine iteT ⟨_, rfl, F.bo, F.bd, _, rfl, g.st.bo, rfl, _, rfl, _, _, rfl, rfl, ⟨by decide, by decide⟩, F, ar, rws, sk, wd / 8, n, s1, rfl, g.st, hmv, fun H3 g3 => ?_⟩
      have hr3 := (stay g3 hrows g).trans hr2
      refine ⟨_, _, rfl, rfl, .inr ⟨by decide, by decide⟩, _, _, rfl, rfl, ?_⟩
      refine ⟨_, rfl, _, rfl, r, _, _, 0, rfl, rfl, hr3, rfl, ?_⟩
      have S4 := g3.st.setRow (v := n * 8 + 0) (h0 := h0) (w := wd) er (by rw [hrows]; exact eq0)
      exact ⟨_, _, _, rfl, (g.trans g3).trans ⟨S4, .own (.inr (List.mem_of_getElem? er)) _⟩, .inr ⟨rfl, hm⟩⟩
    · rintro σ H2 ⟨sk, x4, x5, rfl, g, h⟩
      rcases h with ⟨h, _⟩ | ⟨_, hm⟩
      · cases h
      · exact ⟨sk, _, _, _, rfl, g, by omega, hm⟩
  · rintro σ H' ⟨sk, x3, x4, x5, rfl, g, _, hm⟩
    rw [List.length_map, Nat.sub_self, leadRows] at hm
    cases hm
    exact q _ (g1.trans g)
end
end Wk
set_option maxRecDepth 100000
set_option maxHeartbeats 4000000
namespace Wk
open PySem L2 TL PyProof.Rows Hm
open SX (S S_len)
section
variable {P : Program} {w : World} {K : PySem.W.Frag} {mg : Str → Option Value} {base : Heap}
abbrev s_is_things : Stmt := top 34
theorem sc_is_things : FnScope ["word"] ["word"] (defScope s_is_things) := ⟨rfl, rfl, rfl, by decide +kernel, rfl, by decide +kernel, by decide +kernel⟩
def sp_isthings : Sp := fun vs H Q _ => ∃ w, vs = [.int w] ∧ Q (.bl (isT w)) H
theorem ok_isthings (T : Txt K mg base) (T5 : Txt5 K w mg) {f : Addr} {fd : FuncData} (F : Fun K "is_things" "is_things" s_is_things f fd) : FnOk P w K mg base CX0 1 f fd ["word"] sp_isthings := by
  refine F.ok sc_is_things (fun vs H Q E h => ?_) (fun cdv A outer s H vs Q E hr h => ?_)
  · obtain ⟨_, rfl, _⟩ := h; rfl
  obtain ⟨wd, rfl, q⟩ := h
  refine ⟨_, (pss_one (ps_ret (pe_cmpR op_eq (pe_op op_andM (pv 0) (pe_op op_sub (pe_glob (v := .int 8) rfl T.mTAGS ⟨_, rfl⟩) pe_int)) (pe_glob (v := .int 0) rfl T5.mTHING_TAG ⟨_, rfl⟩) (nomark _)))), ?_⟩
  have e8 : (2 : Int) ^ 3 = 8 := by decide
  refine ⟨_, rfl, _, _, rfl, rfl, wd, 3, rfl, rfl, rfl, ?_⟩
  rw [e8]
  have e : decide (V.int (wd % 8) = V.int 0) = isT wd := by
    unfold isT
    by_cases h : wd % 8 = 0
    · rw [h]; rfl
    · rw [decide_eq_false (fun z => h (V.int.inj z))]; exact (beq_eq_false_iff_ne.mpr h).symm
  show Q (.bl (decide (V.int (wd % 8) = V.int 0))) H
  rw [e]; exact q
abbrev s_Bound__filled_words : Stmt := inClass (top 60) 2
theorem sc_Bound__filled_words : FnScope ["self"] ["self"] (defScope s_Bound__filled_words) := ⟨rfl, rfl, rfl, by decide +kernel, rfl, by decide +kernel, by decide +kernel⟩
def sp_bfilled (C : Cs K) : Sp := fun vs H Q _ => ∃ F ar rws s, vs = [.ref F.bo] ∧ St C H F ar rws s ∧ Q (.int (filledW s)) H
theorem ok_bfilled (C : Cs K) {f : Addr} {fd : FuncData} (F : Fun K "filled_words" "Bound.filled_words" s_Bound__filled_words f fd) (Mb_begin_of : MD P w K mg base CX0 C.B "begin_of" ["self", "half"] 1 (sp_bbegin C)) : FnOk P w K mg base CX0 2 f fd ["self"] (sp_bfilled C) := by
  refine F.ok sc_Bound__filled_words (fun vs H Q E h => ?_) (fun cdv A outer s H vs Q E hr h => ?_)
  · obtain ⟨_, _, _, _, rfl, _⟩ := h; rfl
  obtain ⟨F, ar, rws, s, rfl, S, q⟩ := h
  refine ⟨_, (pss_one (ps_ret (pe_op op_sub (pe_op op_add (pe_op op_add (pe_op op_sub (pe_fld (pv 0) rfl) (pe_meth (pv 0) C.bcl Mb_begin_of.m Mb_begin_of.ok (hr.mono (by omega)) Mb_begin_of.b .nil pass0 (pa_cons (pe_fld (pv 0) rfl) pa_nil))) (pe_fld (pv 0) rfl)) (pe_fld (pv 0) rfl)) (pe_fld (pv 0) rfl)))), ?_⟩
  refine (⟨_, rfl, _, _, _, _, _, rfl, St.bo S, Cs.bcl _, C.free, rfl, ⟨_, rfl, F.bo, F.bd, _, rfl, S.bo, rfl, (⟨_, rfl, _, _, _, _, _, rfl, St.bo S, Cs.bcl _, C.use, rfl, ⟨F, ar, rws, s, s.use, rfl, S, ?_⟩⟩)⟩⟩)
  exact ⟨_, _, rfl, rfl, (⟨_, rfl, _, _, _, _, _, rfl, St.bo S, Cs.bcl _, C.top, rfl, ⟨_, _, rfl, rfl, (⟨_, rfl, _, _, _, _, _, rfl, St.bo S, Cs.bcl _, C.left, rfl, ⟨_, _, rfl, rfl, (⟨_, rfl, _, _, _, _, _, rfl, St.bo S, Cs.bcl _, C.copied, rfl, ⟨_, _, rfl, rfl, q⟩⟩)⟩⟩)⟩⟩)⟩
theorem remD_put {l : List Int} {p : Int} : putK (remD l) (.inl p : Key) (.bl true) = remD (if l.contains p = true then l else l ++ [p]) := by
  have e : ((remD l).any fun kv => decide (kv.1 = (.inl p : Key))) = l.contains p := by
    unfold remD
    induction l with
    | nil => rfl
    | cons a l ih =>
      rw [List.map_cons, List.any_cons, ih, List.contains_cons]
      congr 1
      by_cases h : a = p
      · rw [h]; simp
      · rw [decide_eq_false (fun z => h (Sum.inl.inj z)), beq_eq_false_iff_ne.mpr (fun z => h z.symm)]
  unfold putK
  rw [e]
  cases hc : l.contains p with
  | true =>
    rw [if_pos rfl, if_pos rfl]
    unfold remD
    rw [List.map_map]
    refine List.map_congr_left fun x _ => ?_
    show (if (Sum.inl x : Key) = Sum.inl p then ((Sum.inl x : Key), V.bl true) else (Sum.inl x, V.bl true)) = _
    split <;> rfl
  | false =>
    rw [if_neg Bool.false_ne_true, if_neg Bool.false_ne_true]
    unfold remD
    rw [List.map_append]; rfl
abbrev s_Bound__remember : Stmt := inClass (top 60) 5
theorem sc_Bound__remember : FnScope ["self", "place", "word"] ["self", "place", "word"] (defScope s_Bound__remember) := ⟨rfl, rfl, rfl, by decide +kernel, rfl, by decide +kernel, by decide +kernel⟩
def sp_bremember (C : Cs K) : Sp := fun vs H Q _ => ∃ F ar rws s p v s', vs = [.ref F.bo, .int p, .int v] ∧ St C H F ar rws s ∧ remember s p v = some s' ∧ ∀ H', Go C F ar rws H H' ar rws s' → Q .non H'
theorem ok_bremember (T : Txt K mg base) (C : Cs K) {f : Addr} {fd : FuncData} (F : Fun K "remember" "Bound.remember" s_Bound__remember f fd) (D_is_things : Def P w K mg base CX0 "is_things" ["word"] 1 sp_isthings) : FnOk P w K mg base CX0 2 f fd ["self", "place", "word"] (sp_bremember C) := by
  refine F.ok sc_Bound__remember (fun vs H Q E h => ?_) (fun cdv A outer s H vs Q E hr h => ?_)
  · obtain ⟨_, _, _, _, _, _, _, rfl, _⟩ := h; rfl
  obtain ⟨F, ar, rws, s, p, v, s', rfl, S, hm, q⟩ := h
  refine ⟨_, (pss_one (ps_if (PW.pt (pw_and (pt_val (pe_call D_is_things.ok (hr.mono (by omega)) rfl D_is_things.g D_is_things.k D_is_things.b .nil pass0 (pa_cons (pv 2) pa_nil))) (pw_and1 (pt_cmpR op_lt (pe_op op_fdivW (pv 2) (pe_glob (v := .int 8) rfl T.mTAGS ⟨_, rfl⟩)) (pe_fld (pe_fld (pv 0) rfl) rfl) (nomark _))))) (pss_one (ps_dput (hu1 hr) (pe_fld (pv 0) rfl) (pv 1) pe_bl rfl)) pss_nil)), ?_⟩
  unfold remember at hm
  refine ⟨_, rfl, v, rfl, ?_⟩
  cases ht : isT v with
  | false =>
    rw [ht] at hm
    cases hm
    exact ⟨_, rfl, iteF (q _ S.go)⟩
  | true =>
  rw [ht] at hm
  refine ⟨_, rfl, iteT ⟨_, rfl, _, _, rfl, rfl, ⟨by decide, by decide⟩, ?_⟩⟩
  refine (⟨_, rfl, _, _, _, _, _, rfl, St.bo S, Cs.bcl _, Cs.room _, rfl, _, _, _, _, _, rfl, St.ro S, Cs.rcl _, C.young, rfl, ⟨_, _, rfl, rfl, _, rfl, ?_⟩⟩)
  by_cases hy : v / 8 < s.young
  · rw [decide_eq_true hy] at hm ⊢
    refine iteT ?_
    rw [Bool.true_and, if_pos rfl] at hm
    refine (⟨_, rfl, _, _, _, _, _, rfl, St.bo S, Cs.bcl _, C.rem, rfl, ⟨_, rfl, ar, _, rfl, DPut.k (k := Sum.inl p) S.rmd (by unfold remD; rw [List.length_map]; have := S.z3; have := line_eq; omega), ?_⟩⟩)
    rw [remD_put]
    cases hc : s.rem.contains p with
    | true =>
      rw [hc, if_pos rfl] at hm
      cases hm
      rw [if_pos rfl]
      exact q _ ⟨S.setR S.z3, .own own_ar _⟩
    | false =>
      rw [hc, if_neg Bool.false_ne_true] at hm
      rw [if_neg Bool.false_ne_true]
      split at hm
      · rename_i hl
        cases hm
        exact q _ ⟨S.setR (by rw [List.length_append]; exact hl), .own own_ar _⟩
      · cases hm
  · rw [decide_eq_false hy] at hm ⊢
    cases hm
    exact iteF (q _ S.go)
abbrev s_Bound__empty_nursery : Stmt := inClass (top 60) 15
theorem sc_Bound__empty_nursery : FnScope ["self"] ["self"] (defScope s_Bound__empty_nursery) := ⟨rfl, rfl, rfl, by decide +kernel, rfl, by decide +kernel, by decide +kernel⟩
def sp_bempty (C : Cs K) : Sp := fun vs H Q _ => ∃ F ar rws s, vs = [.ref F.bo] ∧ St C H F ar rws s ∧ ∀ H' ar', Go C F ar rws H H' ar' rws (emptyNur s) → Q .non H'
theorem ok_bempty (C : Cs K) {f : Addr} {fd : FuncData} (F : Fun K "empty_nursery" "Bound.empty_nursery" s_Bound__empty_nursery f fd) : FnOk P w K mg base CX0 1 f fd ["self"] (sp_bempty C) := by
  refine F.ok sc_Bound__empty_nursery (fun vs H Q E h => ?_) (fun cdv A outer s H vs Q E hr h => ?_)
  · obtain ⟨_, _, _, _, rfl, _⟩ := h; rfl
  obtain ⟨F, ar, rws, s, rfl, S, q⟩ := h
  refine ⟨_, (pss_cons (ps_fld (pv 0) pe_int rfl)
    (pss_cons (ps_fld (pv 0) pe_dnewK rfl)
    (pss_one (ps_if (pt_cmpR op_eq (pe_fld (pv 0) rfl) pe_int (nomark _)) (pss_one (ps_fld (pv 0) (pe_fld (pv 0) rfl) rfl)) pss_nil)))), ?_⟩
  have S1 := S.put (t := { s with top := 0 }) (⟨rfl, rfl, rfl, rfl, rfl, rfl, rfl, rfl⟩) rfl
  have g1 : Ch F ar rws H ar rws (upd H F.bo (.ins C.B F.bd (bdF F ar { s with top := 0 }))) := .own own_bo _
  refine (⟨_, rfl, _, _, _, _, rfl, St.bo S, Cs.bcl _, C.top, (by show 12 < 1000; omega), ?_⟩)
  dsimp only
  show tSeq _ _ _ _ (upd H F.bo (.ins C.B F.bd (bdF F ar { s with top := 0 })))
  generalize upd H F.bo (.ins C.B F.bd (bdF F ar { s with top := 0 })) = H1 at S1 g1 ⊢
  intro p np
  have S2 := S1.same (same_new np (.dK []))
  have g2 : Ch F ar rws H ar rws (upd H1 p (.dK [])) := g1.trans (.new np _)
  have hp : (upd H1 p (.dK [])) p = some (.dK (remD [])) := upd_same
  have hop := S1.off np
  have hro : p ≠ F.ro := fun z => by rw [z, S1.ro] at np; cases np
  have g3 : Ch F ar rws H p rws (upd H1 p (.dK [])) := (g1.trans (.newR np)).trans (fun b u n h => ⟨n, by rw [upd_ne (fun z => by rw [z, np] at h; cases h)]; exact h⟩)
  generalize upd H1 p (.dK []) = H2 at S2 g2 g3 hp ⊢
  have S3 := S2.newR hp hop hro rfl
  have g4 : Ch F ar rws H p rws (upd H2 F.bo (.ins C.B F.bd (bdF F p { s with top := 0 }))) := g3.trans (.own own_bo _)
  refine (⟨_, rfl, _, _, _, _, rfl, St.bo S2, Cs.bcl _, C.rem, (by show 12 < 1000; omega), ?_⟩)
  dsimp only
  show tIfS _ _ _ _ _ (upd H2 F.bo (.ins C.B F.bd (bdF F p { s with top := 0 })))
  generalize upd H2 F.bo (.ins C.B F.bd (bdF F p { s with top := 0 })) = H3 at S3 g4 ⊢
  refine (⟨_, rfl, _, _, _, _, _, rfl, St.bo S3, Cs.bcl _, C.left, rfl, ⟨rfl, _, rfl, ?_⟩⟩)
  have q := q
  unfold emptyNur at q
  by_cases hl : s.left = 0
  · rw [if_pos hl] at q
    rw [decide_eq_true (by rw [hl])]
    exact iteT ((⟨_, rfl, _, _, _, _, _, rfl, St.bo S3, Cs.bcl _, C.free, rfl, ((⟨_, rfl, _, _, _, _, rfl, St.bo S3, Cs.bcl _, C.scan, (by show 12 < 1000; omega), (q _ p ⟨S3.put (t := { s with top := 0, rem := [], scan := s.free }) (⟨rfl, rfl, rfl, rfl, rfl, rfl, rfl, rfl⟩) rfl, g4.trans (.own own_bo _)⟩)⟩))⟩))
  · rw [if_neg hl] at q
    rw [decide_eq_false (fun z => hl (V.int.inj z))]
    exact iteF (q _ p ⟨S3, g4⟩)
abbrev s_Bound__change_halves : Stmt := inClass (top 60) 16
theorem sc_Bound__change_halves : FnScope ["self"] ["self"] (defScope s_Bound__change_halves) := ⟨rfl, rfl, rfl, by decide +kernel, rfl, by decide +kernel, by decide +kernel⟩
def sp_bchange (C : Cs K) : Sp := fun vs H Q _ => ∃ F ar rws s, vs = [.ref F.bo] ∧ St C H F ar rws s ∧ ∀ H', Go C F ar rws H H' ar rws (changeH s) → Q (.int (beginOf s (1 - s.use))) H'
theorem ok_bchange (C : Cs K) {f : Addr} {fd : FuncData} (F : Fun K "change_halves" "Bound.change_halves" s_Bound__change_halves f fd) (Mb_begin_of : MD P w K mg base CX0 C.B "begin_of" ["self", "half"] 1 (sp_bbegin C)) : FnOk P w K mg base CX0 2 f fd ["self"] (sp_bchange C) := by
  refine F.ok sc_Bound__change_halves (fun vs H Q E h => ?_) (fun cdv A outer s H vs Q E hr h => ?_)
  · obtain ⟨_, _, _, _, rfl, _⟩ := h; rfl
  obtain ⟨F, ar, rws, s, rfl, S, q⟩ := h
  refine ⟨_, (pss_cons (ps_fld (pv 0) (pe_op op_sub pe_int (pe_fld (pv 0) rfl)) rfl)
    (pss_cons (ps_fld (pv 0) (pe_meth (pv 0) C.bcl Mb_begin_of.m Mb_begin_of.ok (hr.mono (by omega)) Mb_begin_of.b .nil pass0 (pa_cons (pe_fld (pv 0) rfl) pa_nil)) rfl)
    (pss_cons (ps_fld (pv 0) (pe_fld (pv 0) rfl) rfl)
    (pss_one (ps_ret (pe_fld (pv 0) rfl)))))), ?_⟩
  have S1 := S.put (t := { s with use := 1 - s.use }) (⟨rfl, rfl, rfl, rfl, rfl, rfl, rfl, rfl⟩) rfl
  have g1 : Ch F ar rws H ar rws (upd H F.bo (.ins C.B F.bd (bdF F ar { s with use := 1 - s.use }))) := .own own_bo _
  refine (⟨_, rfl, _, _, _, _, _, rfl, St.bo S, Cs.bcl _, C.use, rfl, ⟨_, _, rfl, rfl, ?_⟩⟩)
  refine (⟨_, rfl, _, _, _, _, rfl, St.bo S, Cs.bcl _, C.use, (by show 12 < 1000; omega), ?_⟩)
  dsimp only
  show tSeq _ _ _ _ (upd H F.bo (.ins C.B F.bd (bdF F ar { s with use := 1 - s.use })))
  generalize upd H F.bo (.ins C.B F.bd (bdF F ar { s with use := 1 - s.use })) = H1 at S1 g1 ⊢
  refine ⟨_, rfl, F.bo, F.bd, _, rfl, S1.bo, rfl, (⟨_, rfl, _, _, _, _, _, rfl, St.bo S1, Cs.bcl _, C.use, rfl, ⟨F, ar, rws, _, _, rfl, S1, ?_⟩⟩)⟩
  have S2 := S1.put (t := { s with use := 1 - s.use, free := beginOf s (1 - s.use) }) (⟨rfl, rfl, rfl, rfl, rfl, rfl, rfl, rfl⟩) rfl
  have g2 : Ch F ar rws H ar rws (upd H1 F.bo (.ins C.B F.bd (bdF F ar { s with use := 1 - s.use, free := beginOf s (1 - s.use) }))) := g1.trans (.own own_bo _)
  refine (⟨_, rfl, _, _, _, _, rfl, St.bo S1, Cs.bcl _, C.free, (by show 12 < 1000; omega), ?_⟩)
  dsimp only
  show tSeq _ _ _ _ (upd H1 F.bo (.ins C.B F.bd (bdF F ar { s with use := 1 - s.use, free := beginOf s (1 - s.use) })))
  generalize upd H1 F.bo (.ins C.B F.bd (bdF F ar { s with use := 1 - s.use, free := beginOf s (1 - s.use) })) = H2 at S2 g2 ⊢
  refine (⟨_, rfl, _, _, _, _, _, rfl, St.bo S2, Cs.bcl _, C.free, rfl, ((⟨_, rfl, _, _, _, _, rfl, St.bo S2, Cs.bcl _, C.scan, (by show 12 < 1000; omega), ?_⟩))⟩)
  have S3 := S2.put (t := changeH s) (⟨rfl, rfl, rfl, rfl, rfl, rfl, rfl, rfl⟩) rfl
  have g3 : Ch F ar rws H ar rws (upd H2 F.bo (.ins C.B F.bd (bdF F ar (changeH s)))) := g2.trans (.own own_bo _)
  dsimp only
  refine ((⟨_, rfl, _, _, _, _, _, rfl, St.bo S3, Cs.bcl _, C.free, rfl, (q _ ⟨S3, g3⟩)⟩))
abbrev s_Bound__end_if_done : Stmt := inClass (top 60) 18
theorem sc_Bound__end_if_done : FnScope ["self"] ["self"] (defScope s_Bound__end_if_done) := ⟨rfl, rfl, rfl, by decide +kernel, rfl, by decide +kernel, by decide +kernel⟩
def sp_bendif (C : Cs K) : Sp := fun vs H Q _ => ∃ F ar rws s, vs = [.ref F.bo] ∧ St C H F ar rws s ∧ ∀ H', Go C F ar rws H H' ar rws (endIf s) → Q .non H'
theorem ok_bendif (C : Cs K) {f : Addr} {fd : FuncData} (F : Fun K "end_if_done" "Bound.end_if_done" s_Bound__end_if_done f fd) : FnOk P w K mg base CX0 1 f fd ["self"] (sp_bendif C) := by
  refine F.ok sc_Bound__end_if_done (fun vs H Q E h => ?_) (fun cdv A outer s H vs Q E hr h => ?_)
  · obtain ⟨_, _, _, _, rfl, _⟩ := h; rfl
  obtain ⟨F, ar, rws, s, rfl, S, q⟩ := h
  refine ⟨_, (pss_one (ps_if (pt_cmpR op_eq (pe_fld (pv 0) rfl) (pe_fld (pv 0) rfl) (nomark _)) (pss_cons (ps_fld (pv 0) pe_int rfl)
      (pss_one (ps_fld (pv 0) pe_int rfl))) pss_nil)), ?_⟩
  refine (⟨_, rfl, _, _, _, _, _, rfl, St.bo S, Cs.bcl _, C.scan, rfl, ((⟨_, rfl, _, _, _, _, _, rfl, St.bo S, Cs.bcl _, C.free, rfl, ⟨rfl, _, rfl, ?_⟩⟩))⟩)
  unfold endIf at q
  by_cases hd : s.scan = s.free
  · rw [if_pos hd] at q
    rw [hd, decide_eq_true rfl]
    refine iteT ?_
    have S1 := S.put (t := { s with left := 0 }) (⟨rfl, rfl, rfl, rfl, rfl, rfl, rfl, rfl⟩) rfl
    have g1 : Ch F ar rws H ar rws (upd H F.bo (.ins C.B F.bd (bdF F ar { s with left := 0 }))) := .own own_bo _
    refine (⟨_, rfl, _, _, _, _, rfl, St.bo S, Cs.bcl _, C.left, (by show 12 < 1000; omega), ?_⟩)
    dsimp only
    show sFld _ _ _ _ _ _ (upd H F.bo (.ins C.B F.bd (bdF F ar { s with left := 0 })))
    generalize upd H F.bo (.ins C.B F.bd (bdF F ar { s with left := 0 })) = H1 at S1 g1 ⊢
    exact (⟨_, rfl, _, _, _, _, rfl, St.bo S1, Cs.bcl _, C.copied, (by show 12 < 1000; omega), (q _ ⟨S1.put (t := { s with left := 0, copied := 0 }) (⟨rfl, rfl, rfl, rfl, rfl, rfl, rfl, rfl⟩) rfl, g1.trans (.own own_bo _)⟩)⟩)
  · rw [if_neg hd] at q
    rw [decide_eq_false (fun z => hd (V.int.inj z))]
    exact iteF (q _ S.go)
end
end Wk
set_option maxRecDepth 100000
set_option maxHeartbeats 4000000
namespace Wk
open PySem L2 TL PyProof.Rows Hm
open SX (S S_len)
theorem rgV_upTo (a b : Int) : rgV a b = (range a b).map V.int := by
  unfold rgV range
  generalize (b - a).toNat = n
  induction n generalizing a with
  | zero => rfl
  | succ n ih =>
    rw [Hm.upTo, List.map_cons, ← ih (a + 1), List.range_succ_eq_map, List.map_cons, List.map_map]
    congr 1
    · show V.int (a + ((0 : Nat) : Int)) = _
      rw [show a + ((0 : Nat) : Int) = a from by omega]
    · refine List.map_congr_left fun i _ => ?_
      show V.int (a + ((i + 1 : Nat) : Int)) = V.int (a + 1 + (i : Int))
      congr 1; omega
theorem moved_fix {s s' : Bd} {a n : Int} (h : moved s a = some (n, s')) : s'.words.length = s.words.length ∧ s'.young = s.young ∧ s'.old = s.old ∧ s'.pace = s.pace ∧ s'.use = s.use ∧ s'.rem = s.rem := by
  unfold moved at h
  split at h
  · cases h
  · split at h
    · cases h; exact ⟨rfl, rfl, rfl, rfl, rfl, rfl⟩
    · split at h
      · cases h
      · split at h
        · cases h
        · rename_i w1 e1
          split at h
          · cases h
          · rename_i w2 e2
            cases h
            exact ⟨(sI_len e2).trans (setS_len e1), rfl, rfl, rfl, rfl, rfl⟩
theorem leadOn_fix {lo hi : Int} : ∀ {ps : List Int} {s s' : Bd}, leadOn lo hi ps s = some s' → s'.words.length = s.words.length ∧ s'.young = s.young ∧ s'.old = s.old ∧ s'.pace = s.pace ∧ s'.use = s.use ∧ s'.rem = s.rem
  | [], s, s', h => by cases h; exact ⟨rfl, rfl, rfl, rfl, rfl, rfl⟩
  | p :: ps, s, s', h => by
    rw [leadOn] at h
    split at h
    · cases h
    · rename_i s1 e
      obtain ⟨h1, h2, h3, h4, h5, h6⟩ := leadOn_fix h
      unfold leadAt at e
      split at e
      · cases e
      · split at e
        · split at e
          · cases e
          · rename_i n s2 em
            obtain ⟨g1, g2, g3, g4, g5, g6⟩ := moved_fix em
            split at e
            · cases e
            · rename_i ws es
              cases e
              exact ⟨h1.trans ((sI_len es).trans g1), h2.trans g2, h3.trans g3, h4.trans g4, h5.trans g5, h6.trans g6⟩
        · cases e; exact ⟨h1, h2, h3, h4, h5, h6⟩
theorem tal_at {l : List Int} {i : Nat} (hl : l.length = 5) (hi : i < 5) : atI (l.map V.int) (i : Int) = some (.int (l.getD i 0)) := by
  refine atI_nat (j := i) ?_
  rw [List.getElem?_map, List.getD_eq_getElem?_getD, List.getElem?_eq_getElem (by omega)]; rfl
theorem tal_set {l : List Int} {i : Nat} {n : Int} : (l.map V.int).set i (.int (l.getD i 0 + n)) = (Hm.bump l i n).map V.int := by
  rw [Hm.bump, List.map_set]
theorem bump_len {l : List Int} {i : Nat} {n : Int} (hl : l.length = 5) : (Hm.bump l i n).length = 5 := by rw [Hm.bump, List.length_set]; exact hl
/-- the sort of a head -/
theorem head_ne {h : Int} : (!decide (V.int (h % 2 ^ 3) = V.int 0)) = (h % 8 != 0) := by
  rw [show (2 : Int) ^ 3 = 8 from by decide]
  by_cases e : h % 8 = 0
  · rw [e]; rfl
  · rw [decide_eq_false (fun z => e (V.int.inj z))]
    exact (bne_iff_ne.mpr e).symm
theorem leadRows_fix {lo hi : Int} : ∀ {f k : Nat} {s s' : Bd}, leadRows lo hi f k s = some s' → s'.young = s.young
  | 0, k, s, s', h => by cases h; rfl
  | f + 1, k, s, s', h => by
    rw [leadRows] at h
    split at h
    · cases h; rfl
    · split at h
      · split at h
        · cases h
        · rename_i n s1 em
          exact (leadRows_fix (s := { s1 with rows := _ }) h).trans (moved_fix em).2.1
      · exact leadRows_fix h
theorem leadRoots_fix {lo hi : Int} {s s' : Bd} (h : leadRoots lo hi s = some s') : s'.young = s.young := leadRows_fix h
section
variable {P : Program} {w : World} {K : PySem.W.Frag} {mg : Str → Option Value} {base : Heap}
abbrev s_Bound__write : Stmt := inClass (top 60) 8
theorem sc_Bound__write : FnScope ["self", "at", "place", "word"] ["self", "at", "place", "word"] (defScope s_Bound__write) := ⟨rfl, rfl, rfl, by decide +kernel, rfl, by decide +kernel, by decide +kernel⟩
def sp_bwrite (C : Cs K) : Sp := fun vs H Q _ => ∃ F ar rws s a p v s', vs = [.ref F.bo, .int a, .int p, .int v] ∧ St C H F ar rws s ∧ bwrite s a p v = some s' ∧ ∀ H', Go C F ar rws H H' ar rws s' → Q .non H'
theorem ok_bwrite (T : Txt K mg base) (T5 : Txt5 K w mg) (C : Cs K) {f : Addr} {fd : FuncData} (F : Fun K "write" "Bound.write" s_Bound__write f fd) (Mb_remember : MD P w K mg base CX0 C.B "remember" ["self", "place", "word"] 2 (sp_bremember C)) : FnOk P w K mg base CX0 3 f fd ["self", "at", "place", "word"] (sp_bwrite C) := by
  refine F.ok sc_Bound__write (fun vs H Q E h => ?_) (fun cdv A outer s H vs Q E hr h => ?_)
  · obtain ⟨_, _, _, _, _, _, _, _, rfl, _⟩ := h; rfl
  obtain ⟨F, ar, rws, s, a, p, v, s', rfl, S, hm, q⟩ := h
  refine ⟨_, (pss_cons (ps_asg (pv 3) (pg_sub (pe_fld (pv 0) rfl) (pe_op op_add (pe_op op_add (pv 1) (pe_glob (v := .int 2) rfl T5.mAHEAD ⟨_, rfl⟩)) (pv 2)) set_list))
    (pss_one (ps_if (pt_cmpR op_ge (pv 1) (pe_fld (pe_fld (pv 0) rfl) rfl) (nomark _)) (pss_one (ps_expr (pe_meth (pv 0) C.bcl Mb_remember.m Mb_remember.ok (hr.mono (by omega)) Mb_remember.b .nil pass0 (pa_cons (pe_op op_add (pe_op op_add (pv 1) (pe_glob (v := .int 2) rfl T5.mAHEAD ⟨_, rfl⟩)) (pv 2)) (pa_cons (pv 3) pa_nil))))) pss_nil))), ?_⟩
  unfold bwrite at hm
  cases hs : sI s.words (a + 2 + p) v with
  | none => rw [hs] at hm; cases hm
  | some ws =>
  rw [hs] at hm
  dsimp only at hm
  obtain ⟨j, j1, j2⟩ := ixN_in hs
  refine ⟨_, rfl, ?_⟩
  refine (⟨_, rfl, _, _, _, _, _, rfl, St.bo S, Cs.bcl _, C.words, rfl, ⟨_, rfl, _, _, rfl, rfl, _, rfl, _, _, rfl, rfl, _, _, _, _, rfl, rfl, S.aw, j1, ?_⟩⟩)
  rw [← j2]
  have S1 := S.setW (sI_len hs)
  have g1 : Go C F ar rws H (upd H F.aw (.lst (ws.map V.int))) ar rws { s with words := ws } := ⟨S1, .own own_aw _⟩
  dsimp only
  generalize upd H F.aw (.lst (ws.map V.int)) = H1 at S1 g1 ⊢
  refine ⟨_, rfl, (⟨_, rfl, _, _, _, _, _, rfl, St.bo S1, Cs.bcl _, Cs.room _, rfl, _, _, _, _, _, rfl, St.ro S1, Cs.rcl _, C.young, rfl, ⟨_, _, rfl, rfl, _, rfl, ?_⟩⟩)⟩
  by_cases hy : s.young ≤ a
  · rw [if_pos hy] at hm
    rw [decide_eq_true hy]
    exact iteT ⟨_, rfl, F.bo, F.bd, _, rfl, S1.bo, rfl, _, rfl, _, _, rfl, rfl, _, rfl, _, _, rfl, rfl, _, rfl, F, ar, rws, _, _, v, s', rfl, S1, hm, fun H2 g2 => q _ (g1.trans g2)⟩
  · rw [if_neg hy] at hm
    cases hm
    rw [decide_eq_false hy]
    exact iteF (q _ g1)
abbrev s_Bound__lead_left : Stmt := inClass (top 60) 12
theorem sc_Bound__lead_left : FnScope ["self", "begin", "end", "ahead", "low"] ["self", "begin", "end"] (defScope s_Bound__lead_left) := ⟨rfl, rfl, rfl, by decide +kernel, rfl, by decide +kernel, by decide +kernel⟩
def sp_bleadleft (C : Cs K) : Sp := fun vs H Q _ => ∃ F ar rws s b e s', vs = [.ref F.bo, .int b, .int e] ∧ St C H F ar rws s ∧ leadLeft b e s = some s' ∧ ∀ H', Go C F ar rws H H' ar rws s' → Q .non H'
theorem ok_bleadleft (T : Txt K mg base) (C : Cs K) {f : Addr} {fd : FuncData} (F : Fun K "lead_left" "Bound.lead_left" s_Bound__lead_left f fd) (Mb_begin_of : MD P w K mg base CX0 C.B "begin_of" ["self", "half"] 1 (sp_bbegin C)) (Mb_lead_on : MD P w K mg base CX0 C.B "lead_on" ["self", "places", "low", "high"] 2 (sp_bleadon C)) : FnOk P w K mg base CX0 3 f fd ["self", "begin", "end"] (sp_bleadleft C) := by
  refine F.ok sc_Bound__lead_left (fun vs H Q E h => ?_) (fun cdv A outer s H vs Q E hr h => ?_)
  · obtain ⟨_, _, _, _, _, _, _, rfl, _⟩ := h; rfl
  obtain ⟨F, ar, rws, s, b, e, s', rfl, S, hm, q⟩ := h
  refine ⟨_, (pss_cons (ps_set (i := 3) sc_Bound__lead_left.nd rfl (Or.inl rfl) (pe_fld (pv 0) rfl))
    (pss_cons (ps_set (i := 4) sc_Bound__lead_left.nd rfl (Or.inl rfl) (pe_meth (pv 0) C.bcl Mb_begin_of.m Mb_begin_of.ok (hr.mono (by omega)) Mb_begin_of.b .nil pass0 (pa_cons (pe_op op_sub pe_int (pe_fld (pv 0) rfl)) pa_nil)))
    (pss_cons (ps_expr (pe_meth (pv 0) C.bcl Mb_lead_on.m Mb_lead_on.ok (hr.mono (by omega)) Mb_lead_on.b .nil pass0 (pa_cons (pe_listRg rfl rfl T.n_list (prg_2 rfl T.n_range (pv 1) (pv 2))) (pa_cons (pv 4) (pa_cons (pe_op op_add (pv 4) (pe_fld (pe_fld (pv 0) rfl) rfl)) pa_nil)))))
    (pss_one (ps_fldaug (pv 0) (pe_op op_sub (pe_fld (pv 0) rfl) (pv 3)) in_add))))), ?_⟩
  unfold leadLeft leadR at hm
  split at hm
  · cases hm
  rename_i s1 hm1
  cases hm
  split at hm1
  rotate_left
  · cases hm1
  rename_i hb
  refine seq_set ((⟨_, rfl, _, _, _, _, _, rfl, St.bo S, Cs.bcl _, C.free, rfl, (seq_set ⟨_, rfl, F.bo, F.bd, _, rfl, S.bo, rfl, (⟨_, rfl, _, _, _, _, _, rfl, St.bo S, Cs.bcl _, C.use, rfl, ⟨_, _, rfl, rfl, F, ar, rws, s, _, rfl, S, ?_⟩⟩)⟩)⟩))
  refine ⟨_, rfl, F.bo, F.bd, _, rfl, S.bo, rfl, _, rfl, _, rfl, _, _, rfl, rfl, RgOk.of_le (by omega) (by omega) (by omega) (by omega), fun p np => ?_⟩
  rw [rgV_upTo]
  have S1 := S.same (same_new np (.lst ((range b e).map V.int)))
  have g1 : Go C F ar rws H (upd H p (.lst ((range b e).map V.int))) ar rws s := ⟨S1, .new np _⟩
  have hp : (upd H p (.lst ((range b e).map V.int))) p = some (.lst ((range b e).map V.int)) := upd_same
  have hop := S.off np
  generalize upd H p (.lst ((range b e).map V.int)) = H1 at S1 g1 hp ⊢
  refine ⟨_, rfl, _, rfl, (⟨_, rfl, _, _, _, _, _, rfl, St.bo S1, Cs.bcl _, Cs.room _, rfl, _, _, _, _, _, rfl, St.ro S1, Cs.rcl _, C.old, rfl, ⟨_, _, rfl, rfl, F, ar, rws, s, p, _, _, _, _, rfl, S1, hp, hop, hm1, fun H2 g2 => ?_⟩⟩)⟩
  have S2 := g2.st
  refine (⟨_, rfl, _, _, _, _, _, rfl, St.bo S2, Cs.bcl _, C.copied, rfl, ((⟨_, rfl, _, _, _, _, _, rfl, St.bo S2, Cs.bcl _, C.free, rfl, ⟨_, rfl, _, _, rfl, rfl, _, _, rfl, rfl, _, _, S2.bo, (by show 12 < 1000; omega), ?_⟩⟩))⟩)
  exact q _ ((g1.trans g2).trans ⟨S2.put (t := { s1 with copied := s1.copied + (s1.free - s.free) }) (⟨rfl, rfl, rfl, rfl, rfl, rfl, rfl, rfl⟩) rfl, .own own_bo _⟩)
abbrev s_Bound__gather : Stmt := inClass (top 60) 14
theorem sc_Bound__gather : FnScope ["self", "at", "many"] ["self"] (defScope s_Bound__gather) := ⟨rfl, rfl, rfl, by decide +kernel, rfl, by decide +kernel, by decide +kernel⟩
def sp_bgather (C : Cs K) : Sp := fun vs H Q _ => ∃ F ar rws s n s', vs = [.ref F.bo] ∧ St C H F ar rws s ∧ gather s = some (n, s') ∧ ∀ H' ar', Go C F ar rws H H' ar' rws s' → Q (.int n) H'
theorem ok_bgather (T : Txt K mg base) (T5 : Txt5 K w mg) (C : Cs K) {f : Addr} {fd : FuncData} (F : Fun K "gather" "Bound.gather" s_Bound__gather f fd) (Mb_end_of : MD P w K mg base CX0 C.B "end_of" ["self", "at"] 1 (sp_bend C)) (Mb_lead_on : MD P w K mg base CX0 C.B "lead_on" ["self", "places", "low", "high"] 2 (sp_bleadon C)) (Mb_lead_roots : MD P w K mg base CX0 C.B "lead_roots" ["self", "low", "high"] 2 (sp_bleadroots C)) (Mb_empty_nursery : MD P w K mg base CX0 C.B "empty_nursery" ["self"] 1 (sp_bempty C)) : FnOk P w K mg base CX0 3 f fd ["self"] (sp_bgather C) := by
  refine F.ok sc_Bound__gather (fun vs H Q E h => ?_) (fun cdv A outer s H vs Q E hr h => ?_)
  · obtain ⟨_, _, _, _, _, _, rfl, _⟩ := h; rfl
  obtain ⟨F, ar, rws, s, n, s', rfl, S, hm, q⟩ := h
  refine ⟨_, (pss_cons (ps_augS (pe_fld (pv 0) rfl) (pe_glob (v := .int 0) rfl T5.mGATHERS ⟨_, rfl⟩) pget_list pe_int ip_add set_list)
    (pss_cons (ps_set (i := 1) sc_Bound__gather.nd rfl (Or.inl rfl) (pe_fld (pv 0) rfl))
    (pss_cons (ps_expr (pe_meth (pv 0) C.bcl Mb_lead_roots.m Mb_lead_roots.ok (hr.mono (by omega)) Mb_lead_roots.b .nil pass0 (pa_cons pe_int (pa_cons (pe_fld (pe_fld (pv 0) rfl) rfl) pa_nil))))
    (pss_cons (ps_expr (pe_meth (pv 0) C.bcl Mb_lead_on.m Mb_lead_on.ok (hr.mono (by omega)) Mb_lead_on.b .nil pass0 (pa_cons (pe_callTy (call_list_dK rfl) rfl T.n_list boot_list (pa_cons (pe_fld (pv 0) rfl) pa_nil)) (pa_cons pe_int (pa_cons (pe_fld (pe_fld (pv 0) rfl) rfl) pa_nil)))))
    (pss_cons (ps_set (i := 2) sc_Bound__gather.nd rfl (Or.inl rfl) pe_int)
    (pss_cons (ps_while PassesOwn.never (pt_cmpR op_lt (pv 1) (pe_fld (pv 0) rfl) (nomark _)) (pss_cons (ps_if (pt_cmpR op_ne (pe_op op_andM (pe_ix ix_list (pe_fld (pv 0) rfl) (pv 1) (fun _ _ => rfl)) (pe_op op_sub (pe_glob (v := .int 8) rfl T.mTAGS ⟨_, rfl⟩) pe_int)) (pe_glob (v := .int 0) rfl T5.mTEXT_SORT ⟨_, rfl⟩) (nomark _)) (pss_one (ps_expr (pe_meth (pv 0) C.bcl Mb_lead_on.m Mb_lead_on.ok (hr.mono (by omega)) Mb_lead_on.b .nil pass0 (pa_cons (pe_listRg rfl rfl T.n_list (prg_2 rfl T.n_range (pe_op op_add (pv 1) (pe_glob (v := .int 2) rfl T5.mAHEAD ⟨_, rfl⟩)) (pe_meth (pv 0) C.bcl Mb_end_of.m Mb_end_of.ok (hr.mono (by omega)) Mb_end_of.b .nil pass0 (pa_cons (pv 1) pa_nil)))) (pa_cons pe_int (pa_cons (pe_fld (pe_fld (pv 0) rfl) rfl) pa_nil)))))) pss_nil)
      (pss_cons (ps_set (i := 1) sc_Bound__gather.nd rfl (Or.inl rfl) (pe_meth (pv 0) C.bcl Mb_end_of.m Mb_end_of.ok (hr.mono (by omega)) Mb_end_of.b .nil pass0 (pa_cons (pv 1) pa_nil)))
      (pss_one (ps_aug (i := 2) sc_Bound__gather.nd rfl (Or.inl rfl) pe_int ip_add)))))
    (pss_cons (ps_expr (pe_meth0 (pv 0) C.bcl Mb_empty_nursery.m Mb_empty_nursery.ok (hr.mono (by omega)) Mb_empty_nursery.b .nil pass0))
    (pss_one (ps_ret (pv 2)))))))))), ?_⟩
  unfold gather at hm
  split at hm
  · cases hm
  rename_i s1 h1
  split at hm
  · cases hm
  rename_i s2 h2
  split at hm
  · cases hm
  rename_i many s3 h3
  cases hm
  have hz := line_eq
  generalize hσ : L2.start _ _ = σ0
  have hσ : σ0 = [some (.ref F.bo), none, none] := hσ.symm
  subst hσ
  -- self.tally[GATHERS] += 1
  refine (⟨_, rfl, _, _, _, _, _, rfl, St.bo S, Cs.bcl _, C.tally, rfl, ⟨F.tl, _, _, _, rfl, rfl, SqL.of S.tl, tal_at (i := 0) S.z5 (by omega), _, _, rfl, rfl, F.tl, _, _, 0, rfl, rfl, S.tl, ixN_of (j := 0) (by rw [List.length_map, S.z5]; omega), ?_⟩⟩)
  rw [tal_set]
  have S0 := S.setT (l := Hm.bump s.tally 0 1) (bump_len S.z5)
  have g0 : Go C F ar rws H (upd H F.tl (.lst ((Hm.bump s.tally 0 1).map V.int))) ar rws { s with tally := Hm.bump s.tally 0 1 } := ⟨S0, .own own_tl _⟩
  dsimp only
  show tSeq _ _ _ _ (upd H F.tl (.lst ((Hm.bump s.tally 0 1).map V.int)))
  generalize upd H F.tl (.lst ((Hm.bump s.tally 0 1).map V.int)) = H0 at S0 g0 ⊢
  refine seq_set ((⟨_, rfl, _, _, _, _, _, rfl, St.bo S0, Cs.bcl _, C.free, rfl, ?_⟩))
  refine ⟨_, rfl, F.bo, F.bd, _, rfl, S0.bo, rfl, (⟨_, rfl, _, _, _, _, _, rfl, St.bo S0, Cs.bcl _, Cs.room _, rfl, _, _, _, _, _, rfl, St.ro S0, Cs.rcl _, C.young, rfl, ⟨F, ar, rws, _, _, _, s1, rfl, S0, h1, fun H1 g1 => ?_⟩⟩)⟩
  have S1 := g1.st
  dsimp only
  have fy : s1.young = s.young := leadRoots_fix (s := { s with tally := Hm.bump s.tally 0 1 }) h1
  refine ⟨_, rfl, F.bo, F.bd, _, rfl, S1.bo, rfl, (⟨_, rfl, _, _, _, _, _, rfl, St.bo S1, Cs.bcl _, C.rem, rfl, ⟨ar, _, rfl, S1.rmd, fun p np => ?_⟩⟩)⟩
  have er : (remD s1.rem).map (fun kv => kV kv.1) = s1.rem.map V.int := by unfold remD; rw [List.map_map]; rfl
  rw [er]
  have S1' := S1.same (same_new np (.lst (s1.rem.map V.int)))
  have g1' : Go C F ar rws H1 (upd H1 p (.lst (s1.rem.map V.int))) ar rws s1 := ⟨S1', .new np _⟩
  have hp : (upd H1 p (.lst (s1.rem.map V.int))) p = some (.lst (s1.rem.map V.int)) := upd_same
  have hop := S1.off np
  generalize upd H1 p (.lst (s1.rem.map V.int)) = H1' at S1' g1' hp ⊢
  refine (⟨_, rfl, _, _, _, _, _, rfl, St.bo S1', Cs.bcl _, Cs.room _, rfl, _, _, _, _, _, rfl, St.ro S1', Cs.rcl _, C.young, rfl, ⟨F, ar, rws, s1, p, _, _, _, s2, rfl, S1', hp, hop, by rw [fy]; exact h2, fun H2 g2 => ?_⟩⟩)
  dsimp only
  have g := ((g0.trans g1).trans g1').trans g2
  refine seq_setC ?_
  refine seq_join (fun σ H' => ∃ x1 : V, σ = [some (.ref F.bo), some x1, some (.int n)] ∧ Go C F ar rws H H' ar rws s3) ?_ ?_
  · rintro σ H3 ⟨x1, rfl, g3⟩
    refine ⟨_, rfl, F.bo, F.bd, _, rfl, g3.st.bo, rfl, F, ar, rws, s3, rfl, g3.st, fun H4 ar' g4 => ?_⟩
    exact ⟨_, rfl, q _ _ (g3.trans g4)⟩
  · intro NX nx
    refine while_of (fun σ H' => ∃ x1 : V, σ = [some (.ref F.bo), some x1, some (.int n)] ∧ Go C F ar rws H H' ar rws s3) (fun m σ H' => ∃ a many sk, σ = [some (.ref F.bo), some (.int a), some (.int many)] ∧ Go C F ar rws H H' ar rws sk ∧ gatherGo m a many sk = some (n, s3)) (s.words.length + 1) ⟨_, _, _, rfl, g, h3⟩ nx ?_
    rintro NX nx m σ H3 ⟨a, many, sk, rfl, g3, hg⟩
    have S3 := g3.st
    cases m with
    | zero => cases hg
    | succ m =>
    rw [gatherGo] at hg
    refine ⟨_, rfl, (⟨_, rfl, _, _, _, _, _, rfl, St.bo S3, Cs.bcl _, C.free, rfl, ⟨_, _, rfl, rfl, _, rfl, ?_⟩⟩)⟩
    by_cases ha : a < sk.free
    rotate_left
    · rw [if_neg ha] at hg
      cases hg
      rw [decide_eq_false ha]
      rw [if_neg Bool.false_ne_true]
      exact nx _ _ ⟨_, rfl, g3⟩
    rw [if_pos ha] at hg
    rw [decide_eq_true ha, if_pos rfl]
    cases hh : gI sk.words a with
    | none => rw [hh] at hg; cases hg
    | some hd =>
    rw [hh] at hg
    dsimp only at hg
    split at hg
    · cases hg
    rename_i s4 h4
    cases he : endOf s4 a with
    | none => rw [he] at hg; cases hg
    | some e =>
    rw [he] at hg
    dsimp only at hg
    refine ⟨fun σ H' => ∃ a many sk, σ = [some (.ref F.bo), some (.int a), some (.int many)] ∧ Go C F ar rws H H' ar rws sk ∧ gatherGo m a many sk = some (n, s3), fun σ' H' h => ⟨m, Nat.lt_succ_self m, h⟩, ?_⟩
    refine seq_join (fun σ H' => σ = [some (.ref F.bo), some (.int a), some (.int many)] ∧ Go C F ar rws H H' ar rws s4) ?_ ?_
    · rintro σ H4 ⟨rfl, g4⟩
      refine seq_set ⟨_, rfl, F.bo, F.bd, _, rfl, g4.st.bo, rfl, _, rfl, F, ar, rws, s4, a, e, rfl, g4.st, he, ?_⟩
      exact ⟨_, rfl, _, _, rfl, rfl, _, _, _, rfl, g4, hg⟩
    · intro NX2 nx2
      refine (⟨_, rfl, _, _, _, _, _, rfl, St.bo S3, Cs.bcl _, C.words, rfl, ⟨_, rfl, _, _, _, _, rfl, rfl, SqL.of S3.aw, gI_at hh, _, _, rfl, rfl, hd, 3, rfl, rfl, rfl, _, rfl, ?_⟩⟩)
      rw [head_ne]
      cases hs : (hd % 8 != 0) with
      | false =>
        rw [hs] at h4
        cases h4
        exact iteF (nx2 _ _ ⟨rfl, g3⟩)
      | true =>
      rw [hs, if_pos rfl] at h4
      unfold leadR at h4
      split at h4
      rotate_left
      · cases h4
      rename_i hb
      refine iteT ⟨_, rfl, F.bo, F.bd, _, rfl, S3.bo, rfl, ?_⟩
      have hend : endOf sk a = some (a + 2 + hd / 8) := by unfold endOf; rw [hh]
      refine ⟨_, rfl, _, _, rfl, rfl, _, rfl, F.bo, F.bd, _, rfl, S3.bo, rfl, _, rfl, F, ar, rws, sk, a, _, rfl, S3, hend, _, _, rfl, rfl, RgOk.of_le (by omega) (by omega) (by omega) (by omega), fun p np => ?_⟩
      rw [rgV_upTo]
      have S4 := S3.same (same_new np (.lst ((range (a + 2) (a + 2 + hd / 8)).map V.int)))
      have g4 : Go C F ar rws H3 (upd H3 p (.lst ((range (a + 2) (a + 2 + hd / 8)).map V.int))) ar rws sk := ⟨S4, .new np _⟩
      have hp : (upd H3 p (.lst ((range (a + 2) (a + 2 + hd / 8)).map V.int))) p = some (.lst ((range (a + 2) (a + 2 + hd / 8)).map V.int)) := upd_same
      have hop := S3.off np
      generalize upd H3 p (.lst ((range (a + 2) (a + 2 + hd / 8)).map V.int)) = H4 at S4 g4 hp ⊢
      exact (⟨_, rfl, _, _, _, _, _, rfl, St.bo S4, Cs.bcl _, Cs.room _, rfl, _, _, _, _, _, rfl, St.ro S4, Cs.rcl _, C.young, rfl, ⟨F, ar, rws, sk, p, _, _, _, _, rfl, S4, hp, hop, h4, fun H5 g5 => nx2 _ _ ⟨rfl, (g3.trans g4).trans g5⟩⟩⟩)
end
end Wk
set_option maxRecDepth 100000
set_option maxHeartbeats 4000000
namespace Wk
open PySem L2 TL PyProof.Rows Hm
open SX (S S_len)
theorem leadLeft_fix {b e : Int} {s s' : Bd} (h : leadLeft b e s = some s') : s'.words.length = s.words.length ∧ s'.scan = s.scan := by
  unfold leadLeft leadR at h
  split at h
  · cases h
  · rename_i s1 h1
    cases h
    split at h1
    · have := leadOn_fix h1
      refine ⟨this.1, ?_⟩
      exact leadOn_scan (s' := s1) h1
    · cases h1
where
  moved_scan {s s' : Bd} {a n : Int} (h : moved s a = some (n, s')) : s'.scan = s.scan := by
    unfold moved at h
    split at h
    · cases h
    · split at h
      · cases h; rfl
      · split at h
        · cases h
        · split at h
          · cases h
          · split at h
            · cases h
            · cases h; rfl
  leadOn_scan {lo hi : Int} : ∀ {ps : List Int} {s s' : Bd}, leadOn lo hi ps s = some s' → s'.scan = s.scan
    | [], s, s', h => by cases h; rfl
    | p :: ps, s, s', h => by
      rw [leadOn] at h
      split at h
      · cases h
      · rename_i s1 e
        refine (leadOn_scan h).trans ?_
        unfold leadAt at e
        split at e
        · cases e
        · split at e
          · split at e
            · cases e
            · rename_i n s2 em
              split at e
              · cases e
              · cases e
                exact moved_scan (s' := s2) em
          · cases e; rfl
section
variable {P : Program} {w : World} {K : PySem.W.Frag} {mg : Str → Option Value} {base : Heap}
abbrev s_Bound__steps : Stmt := inClass (top 60) 19
theorem sc_Bound__steps : FnScope ["self", "many", "looked", "at"] ["self", "many"] (defScope s_Bound__steps) := ⟨rfl, rfl, rfl, by decide +kernel, rfl, by decide +kernel, by decide +kernel⟩
def sp_bsteps (C : Cs K) : Sp := fun vs H Q _ => ∃ F ar rws s many n s', vs = [.ref F.bo, .int many] ∧ St C H F ar rws s ∧ steps s many = some (n, s') ∧ ∀ H', Go C F ar rws H H' ar rws s' → Q (.int n) H'
theorem ok_bsteps (T : Txt K mg base) (T5 : Txt5 K w mg) (C : Cs K) {f : Addr} {fd : FuncData} (F : Fun K "steps" "Bound.steps" s_Bound__steps f fd) (Mb_end_of : MD P w K mg base CX0 C.B "end_of" ["self", "at"] 1 (sp_bend C)) (Mb_lead_left : MD P w K mg base CX0 C.B "lead_left" ["self", "begin", "end"] 3 (sp_bleadleft C)) (Mb_end_if_done : MD P w K mg base CX0 C.B "end_if_done" ["self"] 1 (sp_bendif C)) : FnOk P w K mg base CX0 4 f fd ["self", "many"] (sp_bsteps C) := by
  refine F.ok sc_Bound__steps (fun vs H Q E h => ?_) (fun cdv A outer s H vs Q E hr h => ?_)
  · obtain ⟨_, _, _, _, _, _, _, rfl, _⟩ := h; rfl
  obtain ⟨F, ar, rws, s, many, n, s', rfl, S, hm, q⟩ := h
  refine ⟨_, (pss_cons (ps_set (i := 2) sc_Bound__steps.nd rfl (Or.inl rfl) pe_int)
    (pss_cons (ps_while PassesOwn.never (PW.pt (pw_and (pt_cmpR op_gt (pe_fld (pv 0) rfl) pe_int (nomark _)) (pw_and1 (pt_cmpR op_lt (pv 2) (pv 1) (nomark _))))) (pss_cons (ps_set (i := 3) sc_Bound__steps.nd rfl (Or.inl rfl) (pe_fld (pv 0) rfl))
      (pss_cons (ps_fld (pv 0) (pe_meth (pv 0) C.bcl Mb_end_of.m Mb_end_of.ok (hr.mono (by omega)) Mb_end_of.b .nil pass0 (pa_cons (pv 3) pa_nil)) rfl)
      (pss_cons (ps_if (pt_cmpR op_ne (pe_op op_andM (pe_ix ix_list (pe_fld (pv 0) rfl) (pv 3) (fun _ _ => rfl)) (pe_op op_sub (pe_glob (v := .int 8) rfl T.mTAGS ⟨_, rfl⟩) pe_int)) (pe_glob (v := .int 0) rfl T5.mTEXT_SORT ⟨_, rfl⟩) (nomark _)) (pss_one (ps_expr (pe_meth (pv 0) C.bcl Mb_lead_left.m Mb_lead_left.ok (hr.mono (by omega)) Mb_lead_left.b .nil pass0 (pa_cons (pe_op op_add (pv 3) (pe_glob (v := .int 2) rfl T5.mAHEAD ⟨_, rfl⟩)) (pa_cons (pe_fld (pv 0) rfl) pa_nil))))) pss_nil)
      (pss_cons (ps_expr (pe_meth0 (pv 0) C.bcl Mb_end_if_done.m Mb_end_if_done.ok (hr.mono (by omega)) Mb_end_if_done.b .nil pass0))
      (pss_one (ps_aug (i := 2) sc_Bound__steps.nd rfl (Or.inl rfl) pe_int ip_add)))))))
    (pss_cons (ps_augS (pe_fld (pv 0) rfl) (pe_glob (v := .int 2) rfl T5.mLOOKS ⟨_, rfl⟩) pget_list (pv 2) ip_add set_list)
    (pss_one (ps_ret (pv 2)))))), ?_⟩
  unfold steps at hm
  split at hm
  · cases hm
  rename_i l s1 h1
  cases hm
  have hz := line_eq
  generalize hσ : L2.start _ _ = σ0
  have hσ : σ0 = [some (.ref F.bo), some (.int many), none, none] := hσ.symm
  subst hσ
  refine seq_setC ?_
  refine seq_join (fun σ H' => ∃ x3 : Option V, σ = [some (.ref F.bo), some (.int many), some (.int n), x3] ∧ Go C F ar rws H H' ar rws s1) ?_ ?_
  · rintro σ H3 ⟨x3, rfl, g3⟩
    have S3 := g3.st
    refine (⟨_, rfl, _, _, _, _, _, rfl, St.bo S3, Cs.bcl _, C.tally, rfl, ⟨F.tl, _, _, _, rfl, rfl, SqL.of S3.tl, tal_at (i := 2) S3.z5 (by omega), _, rfl, _, _, rfl, rfl, F.tl, _, _, 2, rfl, rfl, S3.tl, ixN_of (j := 2) (by rw [List.length_map, S3.z5]; omega), ?_⟩⟩)
    rw [tal_set]
    exact ⟨_, rfl, q _ (g3.trans ⟨S3.setT (bump_len S3.z5), .own own_tl _⟩)⟩
  · intro NX nx
    refine while_of (fun σ H' => ∃ x3 : Option V, σ = [some (.ref F.bo), some (.int many), some (.int n), x3] ∧ Go C F ar rws H H' ar rws s1) (fun m σ H' => ∃ looked x3 sk, σ = [some (.ref F.bo), some (.int many), some (.int looked), x3] ∧ Go C F ar rws H H' ar rws sk ∧ stepsGo m many looked sk = some (n, s1)) (s.words.length + 1) ⟨_, _, _, rfl, S.go, h1⟩ nx ?_
    rintro NX nx m σ H3 ⟨looked, x3, sk, rfl, g3, hg⟩
    have S3 := g3.st
    cases m with
    | zero => cases hg
    | succ m =>
    rw [stepsGo] at hg
    refine (⟨_, rfl, _, _, _, _, _, rfl, St.bo S3, Cs.bcl _, C.left, rfl, ⟨_, _, rfl, rfl, _, rfl, ?_⟩⟩)
    by_cases hc : sk.left > 0 ∧ looked < many
    rotate_left
    · rw [if_neg hc] at hg
      cases hg
      by_cases hl : s1.left > 0
      · have hk : ¬ n < many := fun z => hc ⟨hl, z⟩
        rw [decide_eq_true hl]
        refine iteT ⟨_, rfl, _, rfl, _, _, rfl, rfl, _, rfl, ?_⟩
        rw [decide_eq_false hk]
        refine iteF ?_
        exact nx _ _ ⟨_, rfl, g3⟩
      · rw [decide_eq_false hl]
        refine iteF (iteF ?_)
        exact nx _ _ ⟨_, rfl, g3⟩
    rw [if_pos hc] at hg
    rw [decide_eq_true hc.1]
    refine iteT ⟨_, rfl, _, rfl, _, _, rfl, rfl, _, rfl, ?_⟩
    rw [decide_eq_true hc.2]
    refine iteT ?_
    cases hh : gI sk.words sk.scan with
    | none => rw [hh] at hg; cases hg
    | some hd =>
    rw [hh] at hg
    dsimp only at hg
    split at hg
    · cases hg
    rename_i s4 h4
    have hend : endOf sk sk.scan = some (sk.scan + 2 + hd / 8) := by unfold endOf; rw [hh]
    refine ⟨fun σ H' => ∃ looked x3 sk, σ = [some (.ref F.bo), some (.int many), some (.int looked), x3] ∧ Go C F ar rws H H' ar rws sk ∧ stepsGo m many looked sk = some (n, s1), fun σ' H' h => ⟨m, Nat.lt_succ_self m, h⟩, ?_⟩
    refine seq_set ((⟨_, rfl, _, _, _, _, _, rfl, St.bo S3, Cs.bcl _, C.scan, rfl, ?_⟩))
    refine ⟨_, rfl, F.bo, F.bd, _, rfl, S3.bo, rfl, _, rfl, F, ar, rws, sk, _, _, rfl, S3, hend, ?_⟩
    have S4 := S3.put (t := { sk with scan := sk.scan + 2 + hd / 8 }) (⟨rfl, rfl, rfl, rfl, rfl, rfl, rfl, rfl⟩) rfl
    have g4 : Go C F ar rws H (upd H3 F.bo (.ins C.B F.bd (bdF F ar { sk with scan := sk.scan + 2 + hd / 8 }))) ar rws { sk with scan := sk.scan + 2 + hd / 8 } := g3.trans ⟨S4, .own own_bo _⟩
    refine (⟨_, rfl, _, _, _, _, rfl, St.bo S3, Cs.bcl _, C.scan, (by show 12 < 1000; omega), ?_⟩)
    dsimp only
    show tSeq _ _ _ _ (upd H3 F.bo (.ins C.B F.bd (bdF F ar { sk with scan := sk.scan + 2 + hd / 8 })))
    generalize upd H3 F.bo (.ins C.B F.bd (bdF F ar { sk with scan := sk.scan + 2 + hd / 8 })) = H4 at S4 g4 ⊢
    refine seq_join (fun σ H' => σ = [some (.ref F.bo), some (.int many), some (.int looked), some (.int sk.scan)] ∧ Go C F ar rws H H' ar rws s4) ?_ ?_
    · rintro σ H5 ⟨rfl, g5⟩
      refine ⟨_, rfl, F.bo, F.bd, _, rfl, g5.st.bo, rfl, F, ar, rws, s4, rfl, g5.st, fun H6 g6 => ?_⟩
      exact ⟨_, rfl, _, _, rfl, rfl, _, _, _, rfl, g5.trans g6, hg⟩
    · intro NX2 nx2
      refine (⟨_, rfl, _, _, _, _, _, rfl, St.bo S4, Cs.bcl _, C.words, rfl, ⟨_, rfl, _, _, _, _, rfl, rfl, SqL.of S4.aw, gI_at hh, _, _, rfl, rfl, hd, 3, rfl, rfl, rfl, _, rfl, ?_⟩⟩)
      rw [head_ne]
      cases hs : (hd % 8 != 0) with
      | false =>
        rw [hs] at h4
        cases h4
        exact iteF (nx2 _ _ ⟨rfl, g4⟩)
      | true =>
      rw [hs, if_pos rfl] at h4
      refine iteT ⟨_, rfl, F.bo, F.bd, _, rfl, S4.bo, rfl, _, rfl, _, _, rfl, rfl, (⟨_, rfl, _, _, _, _, _, rfl, St.bo S4, Cs.bcl _, C.scan, rfl, ⟨F, ar, rws, _, _, _, _, rfl, S4, h4, fun H5 g5 => nx2 _ _ ⟨rfl, g4.trans g5⟩⟩⟩)⟩
abbrev s_Bound__end_turn : Stmt := inClass (top 60) 20
theorem sc_Bound__end_turn : FnScope ["self"] ["self"] (defScope s_Bound__end_turn) := ⟨rfl, rfl, rfl, by decide +kernel, rfl, by decide +kernel, by decide +kernel⟩
def sp_bendturn (C : Cs K) : Sp := fun vs H Q _ => ∃ F ar rws s n s', vs = [.ref F.bo] ∧ St C H F ar rws s ∧ steps s s.words.length = some (n, s') ∧ ∀ H', Go C F ar rws H H' ar rws s' → Q .non H'
theorem ok_bendturn (T : Txt K mg base) (C : Cs K) {f : Addr} {fd : FuncData} (F : Fun K "end_turn" "Bound.end_turn" s_Bound__end_turn f fd) (Mb_steps : MD P w K mg base CX0 C.B "steps" ["self", "many"] 4 (sp_bsteps C)) : FnOk P w K mg base CX0 5 f fd ["self"] (sp_bendturn C) := by
  refine F.ok sc_Bound__end_turn (fun vs H Q E h => ?_) (fun cdv A outer s H vs Q E hr h => ?_)
  · obtain ⟨_, _, _, _, _, _, rfl, _⟩ := h; rfl
  obtain ⟨F, ar, rws, s, n, s', rfl, S, hm, q⟩ := h
  refine ⟨_, (pss_one (ps_expr (pe_meth (pv 0) C.bcl Mb_steps.m Mb_steps.ok (hr.mono (by omega)) Mb_steps.b .nil pass0 (pa_cons (pe_callB call_len_seq rfl T.n_len boot_len (pa_cons (pe_fld (pv 0) rfl) pa_nil)) pa_nil)))), ?_⟩
  refine ⟨_, rfl, F.bo, F.bd, _, rfl, S.bo, rfl, (⟨_, rfl, _, _, _, _, _, rfl, St.bo S, Cs.bcl _, C.words, rfl, ⟨F.aw, _, rfl, .inl (SqL.of S.aw), F, ar, rws, s, _, n, s', (by rw [List.length_map]; rfl), S, hm, fun H' g => q _ g⟩⟩)⟩
theorem leadRows_fix2 {lo hi : Int} : ∀ {f k : Nat} {s s' : Bd}, leadRows lo hi f k s = some s' → s'.old = s.old ∧ s'.young = s.young ∧ s'.use = s.use
  | 0, k, s, s', h => by cases h; exact ⟨rfl, rfl, rfl⟩
  | f + 1, k, s, s', h => by
    rw [leadRows] at h
    split at h
    · cases h; exact ⟨rfl, rfl, rfl⟩
    · split at h
      · split at h
        · cases h
        · rename_i n s1 em
          have a := leadRows_fix2 (s := { s1 with rows := _ }) h
          have b := moved_fix em
          exact ⟨a.1.trans b.2.2.1, a.2.1.trans b.2.1, a.2.2.trans b.2.2.2.2.1⟩
      · exact leadRows_fix2 h
theorem leadRoots_fix2 {lo hi : Int} {s s' : Bd} (h : leadRoots lo hi s = some s') : s'.old = s.old ∧ s'.young = s.young ∧ s'.use = s.use := leadRows_fix2 h
theorem gatherGo_fix : ∀ {f : Nat} {a m n : Int} {s s' : Bd}, gatherGo f a m s = some (n, s') → s'.old = s.old ∧ s'.young = s.young ∧ s'.use = s.use
  | 0, _, _, _, _, _, h => by cases h
  | f + 1, a, m, n, s, s', h => by
    rw [gatherGo] at h
    split at h
    · split at h
      · cases h
      · rename_i hd _
        split at h
        · cases h
        · rename_i s1 h1
          split at h
          · cases h
          · have b := gatherGo_fix h
            split at h1
            · unfold leadR at h1
              split at h1
              · have c := leadOn_fix h1
                exact ⟨b.1.trans c.2.2.1, b.2.1.trans c.2.1, b.2.2.trans c.2.2.2.2.1⟩
              · cases h1
            · cases h1; exact b
    · cases h; exact ⟨rfl, rfl, rfl⟩
theorem gather_fix {n : Int} {s s' : Bd} (h : gather s = some (n, s')) : s'.old = s.old ∧ s'.young = s.young ∧ s'.use = s.use := by
  unfold gather at h
  split at h
  · cases h
  rename_i s1 h1
  split at h
  · cases h
  rename_i s2 h2
  split at h
  · cases h
  rename_i many s3 h3
  cases h
  have a1 := leadRoots_fix2 h1
  have a2 := leadOn_fix h2
  have a3 := gatherGo_fix h3
  exact ⟨a3.1.trans (a2.2.2.1.trans a1.1), a3.2.1.trans (a2.2.1.trans a1.2.1), a3.2.2.trans (a2.2.2.2.2.1.trans a1.2.2)⟩
abbrev s_Bound__turn : Stmt := inClass (top 60) 17
theorem sc_Bound__turn : FnScope ["self", "low", "begin"] ["self"] (defScope s_Bound__turn) := ⟨rfl, rfl, rfl, by decide +kernel, rfl, by decide +kernel, by decide +kernel⟩
def sp_bturn (C : Cs K) : Sp := fun vs H Q _ => ∃ F ar rws s n s', vs = [.ref F.bo] ∧ St C H F ar rws s ∧ turn s = some (n, s') ∧ ∀ H' ar', Go C F ar rws H H' ar' rws s' → Q (.int n) H'
theorem ok_bturn (T : Txt K mg base) (T5 : Txt5 K w mg) (C : Cs K) {f : Addr} {fd : FuncData} (F : Fun K "turn" "Bound.turn" s_Bound__turn f fd) (Mb_begin_of : MD P w K mg base CX0 C.B "begin_of" ["self", "half"] 1 (sp_bbegin C)) (Mb_gather : MD P w K mg base CX0 C.B "gather" ["self"] 3 (sp_bgather C)) (Mb_change_halves : MD P w K mg base CX0 C.B "change_halves" ["self"] 2 (sp_bchange C)) (Mb_lead_roots : MD P w K mg base CX0 C.B "lead_roots" ["self", "low", "high"] 2 (sp_bleadroots C)) (Mb_end_if_done : MD P w K mg base CX0 C.B "end_if_done" ["self"] 1 (sp_bendif C)) : FnOk P w K mg base CX0 4 f fd ["self"] (sp_bturn C) := by
  refine F.ok sc_Bound__turn (fun vs H Q E h => ?_) (fun cdv A outer s H vs Q E hr h => ?_)
  · obtain ⟨_, _, _, _, _, _, rfl, _⟩ := h; rfl
  obtain ⟨F, ar, rws, s, n, s', rfl, S, hm, q⟩ := h
  refine ⟨_, (pss_cons (ps_if (pt_cmpR op_gt (pe_fld (pv 0) rfl) pe_int (nomark _)) (pss_one (ps_ret pe_int)) pss_nil)
    (pss_cons (ps_expr (pe_meth0 (pv 0) C.bcl Mb_gather.m Mb_gather.ok (hr.mono (by omega)) Mb_gather.b .nil pass0))
    (pss_cons (ps_augS (pe_fld (pv 0) rfl) (pe_glob (v := .int 1) rfl T5.mTURNS ⟨_, rfl⟩) pget_list pe_int ip_add set_list)
    (pss_cons (ps_fld (pv 0) (pe_op op_sub (pe_fld (pv 0) rfl) (pe_meth (pv 0) C.bcl Mb_begin_of.m Mb_begin_of.ok (hr.mono (by omega)) Mb_begin_of.b .nil pass0 (pa_cons (pe_fld (pv 0) rfl) pa_nil))) rfl)
    (pss_cons (ps_set (i := 1) sc_Bound__turn.nd rfl (Or.inl rfl) (pe_meth (pv 0) C.bcl Mb_begin_of.m Mb_begin_of.ok (hr.mono (by omega)) Mb_begin_of.b .nil pass0 (pa_cons (pe_fld (pv 0) rfl) pa_nil)))
    (pss_cons (ps_set (i := 2) sc_Bound__turn.nd rfl (Or.inl rfl) (pe_meth0 (pv 0) C.bcl Mb_change_halves.m Mb_change_halves.ok (hr.mono (by omega)) Mb_change_halves.b .nil pass0))
    (pss_cons (ps_expr (pe_meth (pv 0) C.bcl Mb_lead_roots.m Mb_lead_roots.ok (hr.mono (by omega)) Mb_lead_roots.b .nil pass0 (pa_cons (pv 1) (pa_cons (pe_op op_add (pv 1) (pe_fld (pe_fld (pv 0) rfl) rfl)) pa_nil))))
    (pss_cons (ps_fld (pv 0) (pe_op op_sub (pe_fld (pv 0) rfl) (pv 2)) rfl)
    (pss_cons (ps_expr (pe_meth0 (pv 0) C.bcl Mb_end_if_done.m Mb_end_if_done.ok (hr.mono (by omega)) Mb_end_if_done.b .nil pass0))
    (pss_one (ps_ret pe_int))))))))))), ?_⟩
  unfold turn at hm
  refine (⟨_, rfl, _, _, _, _, _, rfl, St.bo S, Cs.bcl _, C.left, rfl, ⟨_, _, rfl, rfl, _, rfl, ?_⟩⟩)
  by_cases hl : s.left > 0
  · rw [if_pos hl] at hm
    cases hm
    rw [decide_eq_true hl]
    exact iteT (q _ _ S.go)
  rw [if_neg hl] at hm
  rw [decide_eq_false hl]
  refine iteF (go_next ?_)
  split at hm
  · cases hm
  rename_i n1 s1 h1
  split at hm
  · cases hm
  rename_i s2 h2
  cases hm
  refine ⟨_, rfl, F.bo, F.bd, _, rfl, S.bo, rfl, F, ar, rws, s, n1, s1, rfl, S, h1, fun H1 ar1 g1 => ?_⟩
  have S1 := g1.st
  refine (⟨_, rfl, _, _, _, _, _, rfl, St.bo S1, Cs.bcl _, C.tally, rfl, ⟨F.tl, _, _, _, rfl, rfl, SqL.of S1.tl, tal_at (i := 1) S1.z5 (by omega), _, _, rfl, rfl, F.tl, _, _, 1, rfl, rfl, S1.tl, ixN_of (j := 1) (by rw [List.length_map, S1.z5]; omega), ?_⟩⟩)
  rw [tal_set]
  have S2 := S1.setT (l := Hm.bump s1.tally 1 1) (bump_len S1.z5)
  have g2 : Go C F ar rws H (upd H1 F.tl (.lst ((Hm.bump s1.tally 1 1).map V.int))) ar1 rws { s1 with tally := Hm.bump s1.tally 1 1 } := g1.trans ⟨S2, .own own_tl _⟩
  dsimp only
  show tSeq _ _ _ _ (upd H1 F.tl (.lst ((Hm.bump s1.tally 1 1).map V.int)))
  generalize upd H1 F.tl (.lst ((Hm.bump s1.tally 1 1).map V.int)) = H2 at S2 g2 ⊢
  refine (⟨_, rfl, _, _, _, _, _, rfl, St.bo S2, Cs.bcl _, C.free, rfl, ⟨_, rfl, F.bo, F.bd, _, rfl, S2.bo, rfl, (⟨_, rfl, _, _, _, _, _, rfl, St.bo S2, Cs.bcl _, C.use, rfl, ⟨F, ar1, rws, _, _, rfl, S2, ?_⟩⟩)⟩⟩)
  refine ⟨_, _, rfl, rfl, (⟨_, rfl, _, _, _, _, rfl, St.bo S2, Cs.bcl _, C.left, (by show 12 < 1000; omega), ?_⟩)⟩
  have S3 := S2.put (t := { s1 with tally := Hm.bump s1.tally 1 1, left := s1.free - beginOf s1 s1.use }) (⟨rfl, rfl, rfl, rfl, rfl, rfl, rfl, rfl⟩) rfl
  have g3 : Go C F ar rws H (upd H2 F.bo (.ins C.B F.bd (bdF F ar1 { s1 with tally := Hm.bump s1.tally 1 1, left := s1.free - beginOf s1 s1.use }))) ar1 rws { s1 with tally := Hm.bump s1.tally 1 1, left := s1.free - beginOf s1 s1.use } := g2.trans ⟨S3, .own own_bo _⟩
  dsimp only
  show tSeq _ _ _ _ (upd H2 F.bo (.ins C.B F.bd (bdF F ar1 { s1 with tally := Hm.bump s1.tally 1 1, left := s1.free - beginOf s1 s1.use })))
  generalize upd H2 F.bo (.ins C.B F.bd (bdF F ar1 { s1 with tally := Hm.bump s1.tally 1 1, left := s1.free - beginOf s1 s1.use })) = H3 at S3 g3 ⊢
  refine seq_set ⟨_, rfl, F.bo, F.bd, _, rfl, S3.bo, rfl, (⟨_, rfl, _, _, _, _, _, rfl, St.bo S3, Cs.bcl _, C.use, rfl, ⟨F, ar1, rws, _, _, rfl, S3, ?_⟩⟩)⟩
  refine seq_set ⟨_, rfl, F.bo, F.bd, _, rfl, S3.bo, rfl, F, ar1, rws, _, rfl, S3, fun H4 g4 => ?_⟩
  have S4 := g4.st
  refine ⟨_, rfl, F.bo, F.bd, _, rfl, S4.bo, rfl, _, rfl, _, rfl, (⟨_, rfl, _, _, _, _, _, rfl, St.bo S4, Cs.bcl _, Cs.room _, rfl, _, _, _, _, _, rfl, St.ro S4, Cs.rcl _, C.old, rfl, ⟨_, _, rfl, rfl, F, ar1, rws, _, _, _, s2, rfl, S4, h2, fun H5 g5 => ?_⟩⟩)⟩
  have S5 := g5.st
  dsimp only
  refine (⟨_, rfl, _, _, _, _, _, rfl, St.bo S5, Cs.bcl _, C.free, rfl, ⟨_, rfl, _, _, rfl, rfl, (⟨_, rfl, _, _, _, _, rfl, St.bo S5, Cs.bcl _, C.copied, (by show 12 < 1000; omega), ?_⟩)⟩⟩)
  have S6 := S5.put (t := { s2 with copied := s2.free - beginOf s1 (1 - s1.use) }) (⟨rfl, rfl, rfl, rfl, rfl, rfl, rfl, rfl⟩) rfl
  have g6 : Go C F ar rws H (upd H5 F.bo (.ins C.B F.bd (bdF F ar1 { s2 with copied := s2.free - beginOf s1 (1 - s1.use) }))) ar1 rws { s2 with copied := s2.free - beginOf s1 (1 - s1.use) } := ((g3.trans g4).trans g5).trans ⟨S6, .own own_bo _⟩
  dsimp only
  show tSeq _ _ _ _ (upd H5 F.bo (.ins C.B F.bd (bdF F ar1 { s2 with copied := s2.free - beginOf s1 (1 - s1.use) })))
  generalize upd H5 F.bo (.ins C.B F.bd (bdF F ar1 { s2 with copied := s2.free - beginOf s1 (1 - s1.use) })) = H6 at S6 g6 ⊢
  refine ⟨_, rfl, F.bo, F.bd, _, rfl, S6.bo, rfl, F, ar1, rws, _, rfl, S6, fun H7 g7 => ?_⟩
  exact q _ _ (g6.trans g7)
end
end Wk
set_option maxRecDepth 100000
set_option maxHeartbeats 4000000
namespace Wk
open PySem L2 TL PyProof.Rows Hm
open SX (S S_len)
theorem neI {a b : Int} : (!decide (V.int a = V.int b)) = (a != b) := by
  by_cases e : a = b
  · rw [e]; simp
  · rw [decide_eq_false (fun z => e (V.int.inj z))]
    exact (bne_iff_ne.mpr e).symm
theorem tie_read {i j : Nat} {h : Int} {t : Bool} {σ : L2.St} {H : Hp} {Q : Bool → Hp → Prop} (e1 : σ[i]? = some (some (.int h))) (e2 : σ[j]? = some (some (.bl t))) (q : Q (h != 0 && (t || h != 5)) H) :
    tAnd (tTest (tOp rNe (tVar i) (tC (V.int 0)))) (tOr (tB (tVar j)) (tTest (tOp rNe (tVar i) (tC (V.int 5))))) σ H Q := by
  refine ⟨_, e1, rfl, _, rfl, ?_⟩
  rw [neI]
  cases h0 : (h != 0) with
  | false =>
    rw [h0, Bool.false_and] at q
    exact iteF q
  | true =>
  rw [h0, Bool.true_and] at q
  refine iteT ⟨_, e2, _, rfl, ?_⟩
  cases t with
  | true => exact iteT q
  | false =>
    rw [Bool.false_or] at q
    refine iteF ⟨_, e1, rfl, _, rfl, ?_⟩
    rw [neI]
    exact q
section
variable {P : Program} {w : World} {K : PySem.W.Frag} {mg : Str → Option Value} {base : Heap}
abbrev s_Bound__copy_all : Stmt := inClass (top 60) 22
theorem sc_Bound__copy_all : FnScope ["self", "is_tie_followed", "at", "begin", "sort"] ["self", "is_tie_followed"] (defScope s_Bound__copy_all) := ⟨rfl, rfl, rfl, by decide +kernel, rfl, by decide +kernel, by decide +kernel⟩
def sp_bcopyall (C : Cs K) : Sp := fun vs H Q _ => ∃ F ar rws s tie n s', vs = [.ref F.bo, .bl tie] ∧ St C H F ar rws s ∧ copyAll s tie = some (n, s') ∧ ∀ H' ar', Go C F ar rws H H' ar' rws s' → Q (.int n) H'
theorem ok_bcopyall (T : Txt K mg base) (T5 : Txt5 K w mg) (C : Cs K) {f : Addr} {fd : FuncData} (F : Fun K "copy_all" "Bound.copy_all" s_Bound__copy_all f fd) (Mb_end_of : MD P w K mg base CX0 C.B "end_of" ["self", "at"] 1 (sp_bend C)) (Mb_lead_on : MD P w K mg base CX0 C.B "lead_on" ["self", "places", "low", "high"] 2 (sp_bleadon C)) (Mb_lead_roots : MD P w K mg base CX0 C.B "lead_roots" ["self", "low", "high"] 2 (sp_bleadroots C)) (Mb_empty_nursery : MD P w K mg base CX0 C.B "empty_nursery" ["self"] 1 (sp_bempty C)) (Mb_change_halves : MD P w K mg base CX0 C.B "change_halves" ["self"] 2 (sp_bchange C)) : FnOk P w K mg base CX0 3 f fd ["self", "is_tie_followed"] (sp_bcopyall C) := by
  refine F.ok sc_Bound__copy_all (fun vs H Q E h => ?_) (fun cdv A outer s H vs Q E hr h => ?_)
  · obtain ⟨_, _, _, _, _, _, _, rfl, _⟩ := h; rfl
  obtain ⟨F, ar, rws, s, tie, n, s', rfl, S, hm, q⟩ := h
  refine ⟨_, (pss_cons (ps_set (i := 2) sc_Bound__copy_all.nd rfl (Or.inl rfl) (pe_meth0 (pv 0) C.bcl Mb_change_halves.m Mb_change_halves.ok (hr.mono (by omega)) Mb_change_halves.b .nil pass0))
    (pss_cons (ps_set (i := 3) sc_Bound__copy_all.nd rfl (Or.inl rfl) (pv 2))
    (pss_cons (ps_expr (pe_meth (pv 0) C.bcl Mb_lead_roots.m Mb_lead_roots.ok (hr.mono (by omega)) Mb_lead_roots.b .nil pass0 (pa_cons pe_int (pa_cons (pe_callB call_len_seq rfl T.n_len boot_len (pa_cons (pe_fld (pv 0) rfl) pa_nil)) pa_nil))))
    (pss_cons (ps_while PassesOwn.never (pt_cmpR op_lt (pv 2) (pe_fld (pv 0) rfl) (nomark _)) (pss_cons (ps_set (i := 4) sc_Bound__copy_all.nd rfl (Or.inl rfl) (pe_op op_andM (pe_ix ix_list (pe_fld (pv 0) rfl) (pv 2) (fun _ _ => rfl)) (pe_op op_sub (pe_glob (v := .int 8) rfl T.mTAGS ⟨_, rfl⟩) pe_int)))
      (pss_cons (ps_if (PW.pt (pw_and (pt_cmpR op_ne (pv 4) (pe_glob (v := .int 0) rfl T5.mTEXT_SORT ⟨_, rfl⟩) (nomark _)) (pw_and1 (PW.pt (pw_or (pt_val (pv 1)) (pw_or1 (pt_cmpR op_ne (pv 4) (pe_glob (v := .int 5) rfl T5.mTIE_SORT ⟨_, rfl⟩) (nomark _)))))))) (pss_one (ps_expr (pe_meth (pv 0) C.bcl Mb_lead_on.m Mb_lead_on.ok (hr.mono (by omega)) Mb_lead_on.b .nil pass0 (pa_cons (pe_listRg rfl rfl T.n_list (prg_2 rfl T.n_range (pe_op op_add (pv 2) (pe_glob (v := .int 2) rfl T5.mAHEAD ⟨_, rfl⟩)) (pe_meth (pv 0) C.bcl Mb_end_of.m Mb_end_of.ok (hr.mono (by omega)) Mb_end_of.b .nil pass0 (pa_cons (pv 2) pa_nil)))) (pa_cons pe_int (pa_cons (pe_callB call_len_seq rfl T.n_len boot_len (pa_cons (pe_fld (pv 0) rfl) pa_nil)) pa_nil)))))) pss_nil)
      (pss_one (ps_set (i := 2) sc_Bound__copy_all.nd rfl (Or.inl rfl) (pe_meth (pv 0) C.bcl Mb_end_of.m Mb_end_of.ok (hr.mono (by omega)) Mb_end_of.b .nil pass0 (pa_cons (pv 2) pa_nil)))))))
    (pss_cons (ps_expr (pe_meth0 (pv 0) C.bcl Mb_empty_nursery.m Mb_empty_nursery.ok (hr.mono (by omega)) Mb_empty_nursery.b .nil pass0))
    (pss_one (ps_ret (pv 3)))))))), ?_⟩
  unfold copyAll at hm
  split at hm
  · cases hm
  rename_i s2 h2
  split at hm
  · cases hm
  rename_i s3 h3
  cases hm
  have hz := line_eq
  generalize hσ : L2.start _ _ = σ0
  have hσ : σ0 = [some (.ref F.bo), some (.bl tie), none, none, none] := hσ.symm
  subst hσ
  refine seq_set ⟨_, rfl, F.bo, F.bd, _, rfl, S.bo, rfl, F, ar, rws, s, rfl, S, fun H1 g1 => ?_⟩
  have S1 := g1.st
  refine seq_set ⟨_, rfl, ?_⟩
  refine ⟨_, rfl, F.bo, F.bd, _, rfl, S1.bo, rfl, (⟨_, rfl, _, _, _, _, _, rfl, St.bo S1, Cs.bcl _, C.words, rfl, ⟨F.aw, _, rfl, .inl (SqL.of S1.aw), F, ar, rws, _, _, _, s2, (by rw [List.length_map]; rfl), S1, h2, fun H2 g2 => ?_⟩⟩)⟩
  have g := g1.trans g2
  dsimp only
  refine seq_join (fun σ H' => ∃ (x2 : V) (x4 : Option V), σ = [some (.ref F.bo), some (.bl tie), some x2, some (.int (beginOf s (1 - s.use))), x4] ∧ Go C F ar rws H H' ar rws s3) ?_ ?_
  · rintro σ H3 ⟨x2, x4, rfl, g3⟩
    refine ⟨_, rfl, F.bo, F.bd, _, rfl, g3.st.bo, rfl, F, ar, rws, s3, rfl, g3.st, fun H4 ar' g4 => ?_⟩
    exact ⟨_, rfl, q _ _ (g3.trans g4)⟩
  · intro NX nx
    refine while_of (fun σ H' => ∃ (x2 : V) (x4 : Option V), σ = [some (.ref F.bo), some (.bl tie), some x2, some (.int (beginOf s (1 - s.use))), x4] ∧ Go C F ar rws H H' ar rws s3) (fun m σ H' => ∃ a x4 sk, σ = [some (.ref F.bo), some (.bl tie), some (.int a), some (.int (beginOf s (1 - s.use))), x4] ∧ Go C F ar rws H H' ar rws sk ∧ copyGo m tie a sk = some s3) (s.words.length + 1) ⟨_, _, _, rfl, g, h3⟩ nx ?_
    rintro NX nx m σ H3 ⟨a, x4, sk, rfl, g3, hg⟩
    have S3 := g3.st
    cases m with
    | zero => cases hg
    | succ m =>
    rw [copyGo] at hg
    refine ⟨_, rfl, (⟨_, rfl, _, _, _, _, _, rfl, St.bo S3, Cs.bcl _, C.free, rfl, ⟨_, _, rfl, rfl, _, rfl, ?_⟩⟩)⟩
    by_cases ha : a < sk.free
    rotate_left
    · rw [if_neg ha] at hg
      cases hg
      rw [decide_eq_false ha]
      exact iteF (nx _ _ ⟨_, _, rfl, g3⟩)
    rw [if_pos ha] at hg
    rw [decide_eq_true ha]
    refine iteT ?_
    cases hh : gI sk.words a with
    | none => rw [hh] at hg; cases hg
    | some hd =>
    rw [hh] at hg
    dsimp only at hg
    split at hg
    · cases hg
    rename_i s4 h4
    cases he : endOf s4 a with
    | none => rw [he] at hg; cases hg
    | some e =>
    rw [he] at hg
    dsimp only at hg
    refine ⟨fun σ H' => ∃ a x4 sk, σ = [some (.ref F.bo), some (.bl tie), some (.int a), some (.int (beginOf s (1 - s.use))), x4] ∧ Go C F ar rws H H' ar rws sk ∧ copyGo m tie a sk = some s3, fun σ' H' h => ⟨m, Nat.lt_succ_self m, h⟩, ?_⟩
    refine seq_set ((⟨_, rfl, _, _, _, _, _, rfl, St.bo S3, Cs.bcl _, C.words, rfl, ⟨_, rfl, _, _, _, _, rfl, rfl, SqL.of S3.aw, gI_at hh, _, _, rfl, rfl, hd, 3, rfl, rfl, ?_⟩⟩))
    refine seq_join (fun σ H' => ∃ x4 : Option V, σ = [some (.ref F.bo), some (.bl tie), some (.int a), some (.int (beginOf s (1 - s.use))), x4] ∧ Go C F ar rws H H' ar rws s4) ?_ ?_
    · rintro σ H4 ⟨x4, rfl, g4⟩
      refine ⟨_, rfl, F.bo, F.bd, _, rfl, g4.st.bo, rfl, _, rfl, F, ar, rws, s4, a, e, rfl, g4.st, he, ?_⟩
      exact ⟨_, _, _, rfl, g4, hg⟩
    · intro NX2 nx2
      rw [show (2 : Int) ^ 3 = 8 from by decide]
      refine tie_read rfl rfl ?_
      cases hs : (hd % 8 != 0 && (tie || hd % 8 != 5)) with
      | false =>
        rw [hs] at h4
        cases h4
        exact iteF (nx2 _ _ ⟨_, rfl, g3⟩)
      | true =>
      rw [hs, if_pos rfl] at h4
      unfold leadR at h4
      split at h4
      rotate_left
      · cases h4
      rename_i hb
      have hend : endOf sk a = some (a + 2 + hd / 8) := by unfold endOf; rw [hh]
      refine iteT ⟨_, rfl, F.bo, F.bd, _, rfl, S3.bo, rfl, ?_⟩
      refine ⟨_, rfl, _, _, rfl, rfl, _, rfl, F.bo, F.bd, _, rfl, S3.bo, rfl, _, rfl, F, ar, rws, sk, a, _, rfl, S3, hend, _, _, rfl, rfl, RgOk.of_le (by omega) (by omega) (by omega) (by omega), fun p np => ?_⟩
      rw [rgV_upTo]
      have S4 := S3.same (same_new np (.lst ((range (a + 2) (a + 2 + hd / 8)).map V.int)))
      have g4 : Go C F ar rws H3 (upd H3 p (.lst ((range (a + 2) (a + 2 + hd / 8)).map V.int))) ar rws sk := ⟨S4, .new np _⟩
      have hp : (upd H3 p (.lst ((range (a + 2) (a + 2 + hd / 8)).map V.int))) p = some (.lst ((range (a + 2) (a + 2 + hd / 8)).map V.int)) := upd_same
      have hop := S3.off np
      generalize upd H3 p (.lst ((range (a + 2) (a + 2 + hd / 8)).map V.int)) = H4 at S4 g4 hp ⊢
      exact (⟨_, rfl, _, _, _, _, _, rfl, St.bo S4, Cs.bcl _, C.words, rfl, ⟨F.aw, _, rfl, .inl (SqL.of S4.aw), F, ar, rws, sk, p, _, _, _, _, (by rw [List.length_map]; rfl), S4, hp, hop, h4, fun H5 g5 => nx2 _ _ ⟨_, rfl, (g3.trans g4).trans g5⟩⟩⟩)
abbrev s_Bound__whole : Stmt := inClass (top 60) 21
theorem sc_Bound__whole : FnScope ["self", "begin"] ["self"] (defScope s_Bound__whole) := ⟨rfl, rfl, rfl, by decide +kernel, rfl, by decide +kernel, by decide +kernel⟩
def sp_bwhole (C : Cs K) : Sp := fun vs H Q _ => ∃ F ar rws s n s', vs = [.ref F.bo] ∧ St C H F ar rws s ∧ whole s = some (n, s') ∧ ∀ H' ar', Go C F ar rws H H' ar' rws s' → Q (.int n) H'
theorem ok_bwhole (T : Txt K mg base) (T5 : Txt5 K w mg) (C : Cs K) {f : Addr} {fd : FuncData} (F : Fun K "whole" "Bound.whole" s_Bound__whole f fd) (Mb_end_turn : MD P w K mg base CX0 C.B "end_turn" ["self"] 5 (sp_bendturn C)) (Mb_copy_all : MD P w K mg base CX0 C.B "copy_all" ["self", "is_tie_followed"] 3 (sp_bcopyall C)) : FnOk P w K mg base CX0 6 f fd ["self"] (sp_bwhole C) := by
  refine F.ok sc_Bound__whole (fun vs H Q E h => ?_) (fun cdv A outer s H vs Q E hr h => ?_)
  · obtain ⟨_, _, _, _, _, _, rfl, _⟩ := h; rfl
  obtain ⟨F, ar, rws, s, n, s', rfl, S, hm, q⟩ := h
  refine ⟨_, (pss_cons (ps_expr (pe_meth0 (pv 0) C.bcl Mb_end_turn.m Mb_end_turn.ok (hr.mono (by omega)) Mb_end_turn.b .nil pass0))
    (pss_cons (ps_augS (pe_fld (pv 0) rfl) (pe_glob (v := .int 3) rfl T5.mWHOLES ⟨_, rfl⟩) pget_list pe_int ip_add set_list)
    (pss_cons (ps_set (i := 1) sc_Bound__whole.nd rfl (Or.inl rfl) (pe_meth (pv 0) C.bcl Mb_copy_all.m Mb_copy_all.ok (hr.mono (by omega)) Mb_copy_all.b .nil pass0 (pa_cons pe_bl pa_nil)))
    (pss_one (ps_ret (pe_op op_sub (pe_fld (pv 0) rfl) (pv 1))))))), ?_⟩
  unfold whole at hm
  split at hm
  · cases hm
  rename_i n1 s1 h1
  split at hm
  · cases hm
  rename_i b s2 h2
  injection hm with hm
  injection hm with hm1 hm2
  subst hm1
  subst hm2
  refine ⟨_, rfl, F.bo, F.bd, _, rfl, S.bo, rfl, F, ar, rws, s, _, s1, rfl, S, h1, fun H1 g1 => ?_⟩
  have S1 := g1.st
  refine (⟨_, rfl, _, _, _, _, _, rfl, St.bo S1, Cs.bcl _, C.tally, rfl, ⟨F.tl, _, _, _, rfl, rfl, SqL.of S1.tl, tal_at (i := 3) S1.z5 (by omega), _, _, rfl, rfl, F.tl, _, _, 3, rfl, rfl, S1.tl, ixN_of (j := 3) (by rw [List.length_map, S1.z5]; omega), ?_⟩⟩)
  rw [tal_set]
  have S2 := S1.setT (l := Hm.bump s1.tally 3 1) (bump_len S1.z5)
  have g2 : Go C F ar rws H (upd H1 F.tl (.lst ((Hm.bump s1.tally 3 1).map V.int))) ar rws { s1 with tally := Hm.bump s1.tally 3 1 } := g1.trans ⟨S2, .own own_tl _⟩
  dsimp only
  show tSeq _ _ _ _ (upd H1 F.tl (.lst ((Hm.bump s1.tally 3 1).map V.int)))
  generalize upd H1 F.tl (.lst ((Hm.bump s1.tally 3 1).map V.int)) = H2 at S2 g2 ⊢
  refine seq_set ⟨_, rfl, F.bo, F.bd, _, rfl, S2.bo, rfl, F, ar, rws, _, _, _, s2, rfl, S2, h2, fun H3 ar3 g3 => ?_⟩
  exact (⟨_, rfl, _, _, _, _, _, rfl, St.bo g3.st, Cs.bcl _, C.free, rfl, ⟨_, rfl, _, _, rfl, rfl, q _ _ (g2.trans g3)⟩⟩)
abbrev s_Bound__reserve : Stmt := inClass (top 60) 3
theorem sc_Bound__reserve : FnScope ["self", "many"] ["self", "many"] (defScope s_Bound__reserve) := ⟨rfl, rfl, rfl, by decide +kernel, rfl, by decide +kernel, by decide +kernel⟩
def sp_breserve (C : Cs K) : Sp := fun vs H Q _ => ∃ F ar rws s many s', vs = [.ref F.bo, .int many] ∧ St C H F ar rws s ∧ reserve s many = some s' ∧ ∀ H' ar', Go C F ar rws H H' ar' rws s' → Q .non H'
theorem ok_breserve (T : Txt K mg base) (T5 : Txt5 K w mg) (C : Cs K) {f : Addr} {fd : FuncData} (F : Fun K "reserve" "Bound.reserve" s_Bound__reserve f fd) (Mb_filled_words : MD P w K mg base CX0 C.B "filled_words" ["self"] 2 (sp_bfilled C)) (Mb_end_turn : MD P w K mg base CX0 C.B "end_turn" ["self"] 5 (sp_bendturn C)) (Mb_whole : MD P w K mg base CX0 C.B "whole" ["self"] 6 (sp_bwhole C)) (Mb_gather : MD P w K mg base CX0 C.B "gather" ["self"] 3 (sp_bgather C)) : FnOk P w K mg base CX0 7 f fd ["self", "many"] (sp_breserve C) := by
  refine F.ok sc_Bound__reserve (fun vs H Q E h => ?_) (fun cdv A outer s H vs Q E hr h => ?_)
  · obtain ⟨_, _, _, _, _, _, rfl, _⟩ := h; rfl
  obtain ⟨F, ar, rws, s, many, s', rfl, S, hm, q⟩ := h
  refine ⟨_, (pss_cons (ps_if (pt_cmpR op_gt (pe_op op_add (pe_meth0 (pv 0) C.bcl Mb_filled_words.m Mb_filled_words.ok (hr.mono (by omega)) Mb_filled_words.b .nil pass0) (pv 1)) (pe_fld (pe_fld (pv 0) rfl) rfl) (nomark _)) (pss_one (ps_expr (pe_meth0 (pv 0) C.bcl Mb_end_turn.m Mb_end_turn.ok (hr.mono (by omega)) Mb_end_turn.b .nil pass0))) pss_nil)
    (pss_cons (ps_if (pt_cmpR op_gt (pe_op op_add (pe_meth0 (pv 0) C.bcl Mb_filled_words.m Mb_filled_words.ok (hr.mono (by omega)) Mb_filled_words.b .nil pass0) (pv 1)) (pe_fld (pe_fld (pv 0) rfl) rfl) (nomark _)) (pss_one (ps_expr (pe_meth0 (pv 0) C.bcl Mb_whole.m Mb_whole.ok (hr.mono (by omega)) Mb_whole.b .nil pass0))) pss_nil)
    (pss_cons (ps_if (pt_cmpR op_gt (pe_op op_add (pe_meth0 (pv 0) C.bcl Mb_filled_words.m Mb_filled_words.ok (hr.mono (by omega)) Mb_filled_words.b .nil pass0) (pv 1)) (pe_fld (pe_fld (pv 0) rfl) rfl) (nomark _)) (pss_one ps_no) pss_nil)
    (pss_one (ps_if (pt_chain op_le op_lt (pv 1) (pe_fld (pe_fld (pv 0) rfl) rfl) (pe_op op_add (pe_fld (pv 0) rfl) (pv 1))) (pss_one (ps_expr (pe_meth0 (pv 0) C.bcl Mb_gather.m Mb_gather.ok (hr.mono (by omega)) Mb_gather.b .nil pass0))) pss_nil))))), ?_⟩
  unfold reserve at hm
  generalize hσ : L2.start _ _ = σ0
  have hσ : σ0 = [some (.ref F.bo), some (.int many)] := hσ.symm
  subst hσ
  split at hm
  · cases hm
  rename_i s1 h1
  split at hm
  · cases hm
  rename_i s2 h2
  split at hm
  · cases hm
  rename_i hfull
  refine seq_join (fun σ H' => σ = [some (.ref F.bo), some (.int many)] ∧ Go C F ar rws H H' ar rws s1) ?_ ?_
  rotate_left
  · intro NX nx
    refine ⟨_, rfl, F.bo, F.bd, _, rfl, S.bo, rfl, F, ar, rws, s, rfl, S, _, rfl, _, _, rfl, rfl, (⟨_, rfl, _, _, _, _, _, rfl, St.bo S, Cs.bcl _, Cs.room _, rfl, _, _, _, _, _, rfl, St.ro S, Cs.rcl _, C.old, rfl, ⟨_, _, rfl, rfl, _, rfl, ?_⟩⟩)⟩
    by_cases hf : filledW s + many > s.old
    · rw [if_pos hf] at h1
      cases he : steps s s.words.length with
      | none => rw [he] at h1; cases h1
      | some z =>
      obtain ⟨n1, sz⟩ := z
      rw [he] at h1
      cases h1
      rw [decide_eq_true hf]
      exact iteT ⟨_, rfl, F.bo, F.bd, _, rfl, S.bo, rfl, F, ar, rws, s, _, sz, rfl, S, he, fun H1 g1 => nx _ _ ⟨rfl, g1⟩⟩
    · rw [if_neg hf] at h1
      cases h1
      rw [decide_eq_false hf]
      exact iteF (nx _ _ ⟨rfl, S.go⟩)
  rintro σ H1 ⟨rfl, g1⟩
  have S1 := g1.st
  refine seq_join (fun σ H' => σ = [some (.ref F.bo), some (.int many)] ∧ ∃ ar1, Go C F ar rws H H' ar1 rws s2) ?_ ?_
  rotate_left
  · intro NX nx
    refine ⟨_, rfl, F.bo, F.bd, _, rfl, S1.bo, rfl, F, ar, rws, s1, rfl, S1, _, rfl, _, _, rfl, rfl, (⟨_, rfl, _, _, _, _, _, rfl, St.bo S1, Cs.bcl _, Cs.room _, rfl, _, _, _, _, _, rfl, St.ro S1, Cs.rcl _, C.old, rfl, ⟨_, _, rfl, rfl, _, rfl, ?_⟩⟩)⟩
    by_cases hf : filledW s1 + many > s1.old
    · rw [if_pos hf] at h2
      cases he : whole s1 with
      | none => rw [he] at h2; cases h2
      | some z =>
      obtain ⟨n1, sz⟩ := z
      rw [he] at h2
      cases h2
      rw [decide_eq_true hf]
      exact iteT ⟨_, rfl, F.bo, F.bd, _, rfl, S1.bo, rfl, F, ar, rws, s1, _, sz, rfl, S1, he, fun H1 ar1 g2 => nx _ _ ⟨rfl, ar1, g1.trans g2⟩⟩
    · rw [if_neg hf] at h2
      cases h2
      rw [decide_eq_false hf]
      exact iteF (nx _ _ ⟨rfl, ar, g1⟩)
  rintro σ H2 ⟨rfl, ar1, g2⟩
  have S2 := g2.st
  refine ⟨_, rfl, F.bo, F.bd, _, rfl, S2.bo, rfl, F, ar1, rws, s2, rfl, S2, _, rfl, _, _, rfl, rfl, (⟨_, rfl, _, _, _, _, _, rfl, St.bo S2, Cs.bcl _, Cs.room _, rfl, _, _, _, _, _, rfl, St.ro S2, Cs.rcl _, C.old, rfl, ⟨_, _, rfl, rfl, _, rfl, ?_⟩⟩)⟩
  rw [decide_eq_false hfull]
  refine iteF (go_next ?_)
  refine ⟨_, rfl, (⟨_, rfl, _, _, _, _, _, rfl, St.bo S2, Cs.bcl _, Cs.room _, rfl, _, _, _, _, _, rfl, St.ro S2, Cs.rcl _, C.young, rfl, ⟨_, _, rfl, rfl, ?_⟩⟩)⟩
  by_cases hy : many ≤ s2.young
  rotate_left
  · rw [if_neg (fun z => hy z.1)] at hm
    cases hm
    refine ⟨_, rfl, ?_⟩
    rw [decide_eq_false hy]
    exact iteF ⟨_, rfl, iteF (q _ _ g2)⟩
  refine ⟨_, rfl, ?_⟩
  rw [decide_eq_true hy]
  refine iteT ((⟨_, rfl, _, _, _, _, _, rfl, St.bo S2, Cs.bcl _, C.top, rfl, ⟨_, rfl, _, _, rfl, rfl, _, _, rfl, rfl, _, rfl, ?_⟩⟩))
  by_cases hy2 : s2.young < s2.top + many
  · rw [if_pos ⟨hy, hy2⟩] at hm
    cases he : gather s2 with
    | none => rw [he] at hm; cases hm
    | some z =>
    obtain ⟨n1, sz⟩ := z
    rw [he] at hm
    cases hm
    rw [decide_eq_true hy2]
    exact iteT ⟨_, rfl, F.bo, F.bd, _, rfl, S2.bo, rfl, F, ar1, rws, s2, _, _, rfl, S2, he, fun H3 ar3 g3 => q _ _ (g2.trans g3)⟩
  · rw [if_neg (fun z => hy2 z.2)] at hm
    cases hm
    rw [decide_eq_false hy2]
    exact iteF (q _ _ g2)
end
end Wk
set_option maxRecDepth 100000
set_option maxHeartbeats 8000000
namespace Wk
open PySem L2 TL PyProof.Rows
open SX (S S_len)
def codes (s : String) : List Nat := s.toList.map Char.toNat
theorem S_of (s : String) : Str.ofString s = S (codes s) := ext_tl (tl_ofString s)
/-! ### a dict of the top whose keys are texts -/
def absE (e : DictEntry) : Option (Str × V) := match e.key with
  | .str x _ => (absV e.val).map fun v => (x, v)
  | _ => none
theorem abs_rel {u : Value} {v : V} (h : absV u = some v) : RelV v u := by
  cases u <;> first
    | (cases h; first | rfl | exact ⟨_, rfl⟩)
    | cases h
structure WD (K : PySem.W.Frag) (w : World) (a : Addr) (kvs : List (String × V)) : Prop where
  d : ∃ es n, KDict K w a es n ∧ es.toList.map absE = kvs.map fun q => some (Str.ofString q.1, q.2)
def valD (kvs : List (String × V)) (l : List Nat) : Option V := (kvs.find? fun q => decide (codes q.1 = l)).map Prod.snd
theorem find_abs (l : List Nat) : ∀ {es : List DictEntry} {kvs : List (String × V)}, es.map absE = (kvs.map fun q => some (Str.ofString q.1, q.2)) → es.any (·.refKey) = false ∧
    (match es.find? (·.key.isStr (S l)) with
      | some e => ∃ v, valD kvs l = some v ∧ RelV v e.val
      | none => valD kvs l = none)
  | [], [], _ => ⟨rfl, rfl⟩
  | [], _ :: _, h => by cases h
  | _ :: _, [], h => by cases h
  | e :: es, q :: kvs, h => by
    rw [List.map_cons, List.map_cons] at h
    obtain ⟨h1, h2⟩ := List.cons.inj h
    have ih := find_abs l h2
    obtain ⟨v, hk, hv⟩ := e
    unfold absE at h1
    cases hk with
    | str x t =>
      dsimp only at h1
      cases ea : absV hv with
      | none => rw [ea] at h1; cases h1
      | some u =>
        rw [ea] at h1
        have h1 := Option.some.inj h1
        have e1 : x = Str.ofString q.1 := congrArg Prod.fst h1
        have e2 : u = q.2 := congrArg Prod.snd h1
        refine ⟨?_, ?_⟩
        · rw [List.any_cons, ih.1]; rfl
        · rw [List.find?_cons]
          by_cases he : codes q.1 = l
          · have : (Value.str x t).isStr (S l) = true := by
              show (x == S l) = true
              rw [e1, S_of, he]; exact beq_self_eq_true _
            rw [show ({ hash := v, key := Value.str x t, val := hv } : DictEntry).key.isStr (S l) = true from this]
            refine ⟨q.2, ?_, ?_⟩
            · unfold valD
              rw [List.find?_cons, decide_eq_true he]; rfl
            · rw [← e2]; exact abs_rel ea
          · have : (Value.str x t).isStr (S l) = false := by
              show (x == S l) = false
              rw [e1, S_of]
              exact beq_eq_false_iff_ne.mpr fun z => he (S_inj z)
            rw [show ({ hash := v, key := Value.str x t, val := hv } : DictEntry).key.isStr (S l) = false from this]
            have e3 : valD (q :: kvs) l = valD kvs l := by
              unfold valD
              rw [List.find?_cons, decide_eq_false he]
            rw [e3]
            exact ih.2
    | _ => cases h1
theorem WD.ns {K : PySem.W.Frag} {w : World} {a : Addr} {kvs : List (String × V)} (D : WD K w a kvs) (l : List Nat) : ∃ es n, KDict K w a es n ∧ ∃ r, PySem.W.nsIn K a (S l) = some r ∧ (match r with
    | some u => ∃ v, valD kvs l = some v ∧ RelV v u
    | none => valD kvs l = none) := by
  obtain ⟨es, n, kd, e⟩ := D.d
  have h := find_abs l e
  refine ⟨es, n, kd, ?_⟩
  unfold PySem.W.nsIn
  rw [kd.at_]
  dsimp only
  cases ef : es.toList.find? (·.key.isStr (S l)) with
  | some d =>
    rw [ef] at h
    exact ⟨some d.val, rfl, h.2⟩
  | none =>
    rw [ef] at h
    dsimp only
    rw [if_neg (by rw [h.1]; exact Bool.false_ne_true)]
    exact ⟨none, rfl, h.2⟩
section
variable {X : Cx} {d : Addr} {kvs : List (String × V)}
theorem op_in_wd (D : WD X.K X.w d kvs) : OpR X (compareOp .In) (fun x y H Q => ∃ l, x = .str (S l) ∧ y = .ref d ∧ Q (.bl (valD kvs l).isSome) H) := by
  intro pins s σ H x y v u Q I rx ry h
  obtain ⟨l, rfl, rfl, q⟩ := h
  obtain ⟨es, n, kd, r, hr, hv⟩ := D.ns l
  refine op_in_kd kd pins s σ H _ _ v u Q I rx ry ⟨S l, r, rfl, rfl, hr, ?_⟩
  cases r with
  | none => rw [hv] at q; exact q
  | some u => obtain ⟨v, e, _⟩ := hv; rw [e] at q; exact q
theorem op_notIn_wd (D : WD X.K X.w d kvs) : OpR X (compareOp .NotIn) (fun x y H Q => ∃ l, x = .str (S l) ∧ y = .ref d ∧ Q (.bl (!(valD kvs l).isSome)) H) := by
  intro pins s σ H x y v u Q I rx ry h
  obtain ⟨l, rfl, rfl, q⟩ := h
  obtain ⟨es, n, kd, r, hr, hv⟩ := D.ns l
  refine op_notIn_kd kd pins s σ H _ _ v u Q I rx ry ⟨S l, r, rfl, rfl, hr, ?_⟩
  cases r with
  | none => rw [hv] at q; exact q
  | some u => obtain ⟨v, e, _⟩ := hv; rw [e] at q; exact q
theorem ix_wd (D : WD X.K X.w d kvs) : IxR X (fun x y H Q => ∃ l v, x = .ref d ∧ y = .str (S l) ∧ valD kvs l = some v ∧ Q v H) := by
  intro value slice pins s σ H x y v u Q I rx ry h hs
  obtain ⟨l, v0, rfl, rfl, hv0, q⟩ := h
  obtain ⟨es, n, kd, r, hr, hv⟩ := D.ns l
  cases r with
  | none => rw [hv] at hv0; cases hv0
  | some u0 =>
    obtain ⟨v1, e, ru⟩ := hv
    rw [hv0] at e
    cases e
    exact ix_kdict value slice pins s σ H _ _ v u Q I rx ry ⟨d, S l, v0, rfl, rfl, ⟨es, n, u0, kd.at_, kd.lit, hr, ru⟩, q⟩ hs
end
/-- the numbers of sorts -/
def numsL : List (String × V) := [("text", .int 0), ("list", .int 1), ("object", .int 2), ("function", .int 3), ("cell", .int 4), ("tie", .int 5)]
structure TxtN (K : PySem.W.Frag) (w : World) {mg : Str → Option Value} (T5 : Txt5 K w mg) : Prop where
  dNUM : WD K w T5.aNUMBERS numsL
/-- a sort's name and its number -/
def SortIs (x : String) (k : Nat) : Prop := sortL[k]? = some x
theorem SortIs.num {x : String} {k : Nat} (h : SortIs x k) : valD numsL (codes x) = some (.int k) := by
  unfold SortIs sortL at h
  rcases k with _ | _ | _ | _ | _ | _ | k
  · cases h; decide +kernel
  · cases h; decide +kernel
  · cases h; decide +kernel
  · cases h; decide +kernel
  · cases h; decide +kernel
  · cases h; decide +kernel
  · simp at h
theorem SortIs.lt {x : String} {k : Nat} (h : SortIs x k) : k < 6 := by
  unfold SortIs at h
  exact (List.getElem?_eq_some_iff.mp h).1
end Wk
set_option maxRecDepth 100000
set_option maxHeartbeats 4000000
namespace Wk
open PySem L2 TL PyProof.Rows Hm
open SX (S S_len)
theorem remember_fix {s s' : Bd} {p v : Int} (h : remember s p v = some s') : s'.left = s.left ∧ s'.free = s.free ∧ s'.rows = s.rows ∧ s'.words = s.words := by
  unfold remember at h
  split at h
  · split at h
    · cases h; exact ⟨rfl, rfl, rfl, rfl⟩
    · split at h
      · cases h; exact ⟨rfl, rfl, rfl, rfl⟩
      · cases h
  · cases h; exact ⟨rfl, rfl, rfl, rfl⟩
/-- for k, x in enumerate(xs), xs as it was all the time -/
theorem for_enum {K : PySem.W.Frag} {a : Addr} {xs : List V} {g : TG} {tb : TS} {D : Ends} {σ : L2.St} {H : Hp} (Pv : Nat → L2.St → Hp → Prop) (h0 : Pv 0 σ H) (hl : ∀ i σ H, i ≤ xs.length → Pv i σ H → SqL K H a xs)
    (hs : ∀ i x σ H T, xs[i]? = some x → Pv i σ H → H T = none → g (.ref T) σ (upd H T (.tup [.int (i : Nat), x])) fun σ2 H2 => tb { D with nx := Pv (i + 1), ct := Pv (i + 1), bk := D.nx } σ2 H2) (hd : ∀ σ H, Pv xs.length σ H → D.nx σ H) :
    ∃ W : Nat → Nat → L2.St → Hp → Prop, (∃ m, W 0 m σ H) ∧ ∀ i m σ H, W i m σ H →
      ((Ite K a).stop i H ∧ D.nx σ H) ∨ ((Ite K a).go i H ∧ ∃ N : L2.St → Hp → Prop, (∀ σ' H', N σ' H' → ∃ m', m' < m ∧ W (i + 1) m' σ' H') ∧ ∀ x H', (Ite K a).yld i H x H' → g x σ H' fun σ2 H2 => tb { D with nx := N, ct := N, bk := D.nx } σ2 H2) := by
  refine ⟨fun i m σ H => m = xs.length - i ∧ i ≤ xs.length ∧ Pv i σ H, ⟨xs.length, by simp, Nat.zero_le _, h0⟩, ?_⟩
  rintro i m σ H ⟨rfl, hi, p⟩
  have q := hl i σ H hi p
  by_cases hlt : i < xs.length
  · refine .inr ⟨⟨xs, xs[i], q, by simp [hlt]⟩, Pv (i + 1), fun σ' H' p' => ⟨xs.length - (i + 1), by omega, rfl, hlt, p'⟩, fun x H' y => ?_⟩
    obtain ⟨T, v, rfl, hT, rfl, hx⟩ := y
    exact hs i v σ H T (hx xs q) p hT
  · have e : i = xs.length := by omega
    subst e
    exact .inl ⟨⟨xs, q, Nat.le_refl _⟩, hd σ H p⟩
section
variable {P : Program} {w : World} {K : PySem.W.Frag} {mg : Str → Option Value} {base : Heap}
abbrev s_Bound__place : Stmt := inClass (top 60) 4
theorem sc_Bound__place : FnScope ["self", "sort", "found", "many", "at", "place", "word"] ["self", "sort", "found"] (defScope s_Bound__place) := ⟨rfl, rfl, rfl, by decide +kernel, rfl, by decide +kernel, by decide +kernel⟩
def sp_bplace (C : Cs K) : Sp := fun vs H Q _ => ∃ F ar rws s x k pl found n s', vs = [.ref F.bo, .str (S (codes x)), .ref pl] ∧ SortIs x k ∧ St C H F ar rws s ∧ H pl = some (.lst (found.map V.int)) ∧ ¬ Own F ar rws pl ∧ found.length ≤ 60000 ∧ place s k found = some (n, s') ∧ ∀ H', Go C F ar rws H H' ar rws s' → Q (.int n) H'
theorem ok_bplace (T : Txt K mg base) (T5 : Txt5 K w mg) (TN : TxtN K w T5) (C : Cs K) {f : Addr} {fd : FuncData} (F : Fun K "place" "Bound.place" s_Bound__place f fd) (Mb_remember : MD P w K mg base CX0 C.B "remember" ["self", "place", "word"] 2 (sp_bremember C)) (Mb_steps : MD P w K mg base CX0 C.B "steps" ["self", "many"] 4 (sp_bsteps C)) : FnOk P w K mg base CX0 5 f fd ["self", "sort", "found"] (sp_bplace C) := by
  refine F.ok sc_Bound__place (fun vs H Q E h => ?_) (fun cdv A outer s H vs Q E hr h => ?_)
  · obtain ⟨_, _, _, _, _, _, _, _, _, _, rfl, _⟩ := h; rfl
  obtain ⟨F, ar, rws, s, x, k, pl, found, n, s', rfl, hx, S, hpl, npl, hl, hm, q⟩ := h
  refine ⟨_, (pss_cons (ps_set (i := 3) sc_Bound__place.nd rfl (Or.inl rfl) (pe_op op_add (pe_callB call_len_seq rfl T.n_len boot_len (pa_cons (pv 2) pa_nil)) (pe_glob (v := .int 2) rfl T5.mAHEAD ⟨_, rfl⟩)))
    (pss_cons (ps_fldaug (pv 0) pe_int in_add)
    (pss_cons (ps_set (i := 4) sc_Bound__place.nd rfl (Or.inl rfl) (pe_ifExp (pt_cmpR op_le (pv 3) (pe_fld (pe_fld (pv 0) rfl) rfl) (nomark _)) (pe_fld (pv 0) rfl) (pe_fld (pv 0) rfl)))
    (pss_cons (ps_asg (pe_lst (pa_cons (pe_op op_add (pe_op op_mul (pe_callB call_len_seq rfl T.n_len boot_len (pa_cons (pv 2) pa_nil)) (pe_glob (v := .int 8) rfl T.mTAGS ⟨_, rfl⟩)) (pe_ix (ix_wd TN.dNUM) (pe_glob (v := .ref T5.aNUMBERS) rfl T5.mNUMBERS rfl) (pv 1) (fun _ _ => rfl))) (pa_cons (pe_fld (pv 0) rfl) (StX.pa_star (pv 2) pa_nil)))) (pg_slice (pe_fld (pv 0) rfl) (po_some (pv 4)) (po_some (pe_op op_add (pv 4) (pv 3)))))
    (pss_cons (ps_if (pt_cmpR op_le (pv 3) (pe_fld (pe_fld (pv 0) rfl) rfl) (nomark _)) (pss_one (ps_fldaug (pv 0) (pv 3) in_add)) (pss_cons (ps_fldaug (pv 0) (pv 3) in_add)
      (pss_cons (ps_for PassesOwn.never rfl (pi_enum rfl T.n_enumerate (pa_cons (pv 2) pa_nil)) (pg_tup rfl (pgs_cons (pg_name (i := 5) sc_Bound__place.nd rfl (Or.inl rfl)) (pgs_cons (pg_name (i := 6) sc_Bound__place.nd rfl (Or.inl rfl)) pgs_nil))) (pss_one (ps_expr (pe_meth (pv 0) C.bcl Mb_remember.m Mb_remember.ok (hr.mono (by omega)) Mb_remember.b .nil pass0 (pa_cons (pe_op op_add (pe_op op_add (pv 4) (pe_glob (v := .int 2) rfl T5.mAHEAD ⟨_, rfl⟩)) (pv 5)) (pa_cons (pv 6) pa_nil))))))
      (pss_one (ps_if (pt_cmpR op_eq (pe_fld (pv 0) rfl) pe_int (nomark _)) (pss_one (ps_fld (pv 0) (pe_fld (pv 0) rfl) rfl)) pss_nil)))))
    (pss_cons (ps_if (pt_cmpR op_gt (pe_fld (pv 0) rfl) pe_int (nomark _)) (pss_one (ps_expr (pe_meth (pv 0) C.bcl Mb_steps.m Mb_steps.ok (hr.mono (by omega)) Mb_steps.b .nil pass0 (pa_cons (pe_fld (pe_fld (pv 0) rfl) rfl) pa_nil)))) pss_nil)
    (pss_one (ps_ret (pe_op op_add (pe_op op_mul (pv 4) (pe_glob (v := .int 8) rfl T.mTAGS ⟨_, rfl⟩)) (pe_glob (v := .int 0) rfl T5.mTHING_TAG ⟨_, rfl⟩)))))))))), ?_⟩
  have hz := line_eq
  generalize hσ : L2.start _ _ = σ0
  have hσ : σ0 = [some (.ref F.bo), some (.str (SX.S (codes x))), some (.ref pl), none, none, none, none] := hσ.symm
  subst hσ
  unfold place at hm
  split at hm
  · cases hm
  rename_i ws hw
  split at hm
  · cases hm
  rename_i s2 h2
  split at hm
  · cases hm
  rename_i s3 h3
  injection hm with hm
  injection hm with hm1 hm2
  subst hm1
  subst hm2
  refine seq_set ⟨_, rfl, pl, _, rfl, .inl (SqL.of hpl), _, _, rfl, rfl, ?_⟩
  rw [List.length_map]
  -- self.last += 1
  refine (⟨_, rfl, _, _, _, _, _, rfl, St.bo S, Cs.bcl _, C.last, rfl, ⟨_, _, rfl, rfl, _, _, S.bo, (by show 12 < 1000; omega), ?_⟩⟩)
  have S1 := S.put (t := { s with last := s.last + 1 }) (⟨rfl, rfl, rfl, rfl, rfl, rfl, rfl, rfl⟩) rfl
  have g1 : Go C F ar rws H (upd H F.bo (.ins C.B F.bd (bdF F ar { s with last := s.last + 1 }))) ar rws { s with last := s.last + 1 } := ⟨S1, .own own_bo _⟩
  have hpl1 := (g1.ch pl _ npl hpl).2
  dsimp only
  show tSeq _ _ _ _ (upd H F.bo (.ins C.B F.bd (bdF F ar { s with last := s.last + 1 })))
  generalize upd H F.bo (.ins C.B F.bd (bdF F ar { s with last := s.last + 1 })) = H1 at S1 g1 hpl1 ⊢
  -- at
  refine seq_set ?_
  have eat : ∀ (σ : L2.St) (R : VK), σ[0]? = some (some (.ref F.bo)) → R (.int (placeAt s found)) H1 → (if decide ((found.length : Int) + 2 ≤ s.young) = true then tFld K (tVar 0) "top" σ H1 R else tFld K (tVar 0) "free" σ H1 R) := fun σ R h0 h => by
    unfold placeAt at h
    by_cases hy : (found.length : Int) + 2 ≤ s.young
    · rw [if_pos hy] at h
      rw [decide_eq_true hy]
      exact iteT ⟨_, h0, _, _, _, _, _, rfl, S1.bo, C.bcl, C.top, rfl, h⟩
    · rw [if_neg hy] at h
      rw [decide_eq_false hy]
      exact iteF ⟨_, h0, _, _, _, _, _, rfl, S1.bo, C.bcl, C.free, rfl, h⟩
  refine ⟨_, rfl, (⟨_, rfl, _, _, _, _, _, rfl, St.bo S1, Cs.bcl _, Cs.room _, rfl, _, _, _, _, _, rfl, St.ro S1, Cs.rcl _, C.young, rfl, ⟨_, _, rfl, rfl, _, rfl, eat _ _ rfl ?_⟩⟩)⟩
  -- the words are laid
  refine ⟨_, rfl, pl, _, rfl, .inl (SqL.of hpl1), _, _, rfl, rfl, .inr ⟨by decide, by decide⟩, _, rfl, codes x, _, rfl, rfl, hx.num, _, _, rfl, rfl, (⟨_, rfl, _, _, _, _, _, rfl, St.bo S1, Cs.bcl _, C.last, rfl, ⟨_, rfl, pl, _, rfl, .inr (SqL.of hpl1), (by rw [List.length_cons, List.length_cons, List.append_nil, List.length_map]; omega), fun p np => ?_⟩⟩)⟩
  rw [List.length_map, List.append_nil]
  obtain ⟨d1, d2, d3, d4⟩ := setS_put hw
  have l1 := setS_len hw
  have S2 := S1.same (same_new np (.lst (V.int ((found.length : Int) * 8 + (k : Int)) :: V.int (s.last + 1) :: found.map V.int)))
  have g2 : Go C F ar rws H (upd H1 p (.lst (V.int ((found.length : Int) * 8 + (k : Int)) :: V.int (s.last + 1) :: found.map V.int))) ar rws { s with last := s.last + 1 } := g1.trans ⟨S2, .new np _⟩
  have hp : (upd H1 p (.lst (V.int ((found.length : Int) * 8 + (k : Int)) :: V.int (s.last + 1) :: found.map V.int))) p = some (.lst ((((found.length : Int) * 8 + (k : Int)) :: (s.last + 1) :: found).map V.int)) := upd_same
  have npw : F.aw ≠ p := fun z => by rw [← z, S1.aw] at np; cases np
  show gSlice _ _ _ _ _ (upd H1 p (.lst (V.int ((found.length : Int) * 8 + (k : Int)) :: V.int (s.last + 1) :: found.map V.int))) _
  generalize upd H1 p (.lst (V.int ((found.length : Int) * 8 + (k : Int)) :: V.int (s.last + 1) :: found.map V.int)) = H2 at S2 g2 hp ⊢
  refine (⟨_, rfl, _, _, _, _, _, rfl, St.bo S2, Cs.bcl _, C.words, rfl, ⟨_, rfl, _, rfl, _, rfl, _, rfl, _, _, rfl, rfl, _, rfl, F.aw, p, _, _, _, _, rfl, rfl, rfl, rfl, S2.aw, hp, npw, d1, d2, (by rw [List.length_map]; exact d3), (by rw [List.length_map, List.length_map]; have := S.z1; show s.words.length + (found.length + 1 + 1) ≤ _; omega), ?_⟩⟩)
  rw [← d4]
  have S3 := S2.setW (ws := ws) l1
  have g3 : Go C F ar rws H (upd H2 F.aw (.lst (ws.map V.int))) ar rws { s with last := s.last + 1, words := ws } := g2.trans ⟨S3, .own own_aw _⟩
  dsimp only
  generalize upd H2 F.aw (.lst (ws.map V.int)) = H3 at S3 g3 ⊢
  unfold Hm.placed at h2
  refine seq_join (fun σ H' => ∃ x5 x6 : Option V, σ = [some (.ref F.bo), some (.str (SX.S (codes x))), some (.ref pl), some (.int ((found.length : Int) + 2)), some (.int (placeAt s found)), x5, x6] ∧ Go C F ar rws H H' ar rws s2) ?_ ?_
  · rintro σ H4 ⟨x5, x6, rfl, g4⟩
    have S4 := g4.st
    refine seq_join (fun σ H' => σ = [some (.ref F.bo), some (.str (SX.S (codes x))), some (.ref pl), some (.int ((found.length : Int) + 2)), some (.int (placeAt s found)), x5, x6] ∧ Go C F ar rws H H' ar rws s3) ?_ ?_
    · rintro σ H5 ⟨rfl, g5⟩
      exact ⟨_, rfl, _, _, rfl, rfl, .inr ⟨by decide, by decide⟩, _, _, rfl, rfl, q _ g5⟩
    · intro NX nx
      refine (⟨_, rfl, _, _, _, _, _, rfl, St.bo S4, Cs.bcl _, C.left, rfl, ⟨_, _, rfl, rfl, _, rfl, ?_⟩⟩)
      by_cases hl4 : s2.left > 0
      · rw [if_pos hl4] at h3
        cases he : steps s2 s2.pace with
        | none => rw [he] at h3; cases h3
        | some z =>
        obtain ⟨n1, sz⟩ := z
        rw [he] at h3
        cases h3
        rw [decide_eq_true hl4]
        exact iteT ⟨_, rfl, F.bo, F.bd, _, rfl, S4.bo, rfl, (⟨_, rfl, _, _, _, _, _, rfl, St.bo S4, Cs.bcl _, Cs.room _, rfl, _, _, _, _, _, rfl, St.ro S4, Cs.rcl _, C.pace, rfl, ⟨F, ar, rws, s2, _, _, _, rfl, S4, he, fun H5 g5 => nx _ _ ⟨rfl, g4.trans g5⟩⟩⟩)⟩
      · rw [if_neg hl4] at h3
        cases h3
        rw [decide_eq_false hl4]
        exact iteF (nx _ _ ⟨rfl, g4⟩)
  · intro NX nx
    refine ⟨_, rfl, (⟨_, rfl, _, _, _, _, _, rfl, St.bo S3, Cs.bcl _, Cs.room _, rfl, _, _, _, _, _, rfl, St.ro S3, Cs.rcl _, C.young, rfl, ⟨_, _, rfl, rfl, _, rfl, ?_⟩⟩)⟩
    by_cases hy : (found.length : Int) + 2 ≤ s.young
    · rw [if_pos hy] at h2
      cases h2
      rw [decide_eq_true hy]
      refine iteT ((⟨_, rfl, _, _, _, _, _, rfl, St.bo S3, Cs.bcl _, C.top, rfl, ⟨_, rfl, _, _, rfl, rfl, _, _, S3.bo, (by show 12 < 1000; omega), nx _ _ ⟨_, _, rfl, g3.trans ⟨S3.put (t := { s with last := s.last + 1, words := ws, top := s.top + ((found.length : Int) + 2) }) (⟨rfl, rfl, rfl, rfl, rfl, rfl, rfl, rfl⟩) rfl, .own own_bo _⟩⟩⟩⟩))
    · rw [if_neg hy] at h2
      rw [decide_eq_false hy]
      split at h2
      · cases h2
      rename_i sa ha
      cases h2
      refine iteF ((⟨_, rfl, _, _, _, _, _, rfl, St.bo S3, Cs.bcl _, C.free, rfl, ⟨_, rfl, _, _, rfl, rfl, _, _, S3.bo, (by show 12 < 1000; omega), ?_⟩⟩))
      have S4 := S3.put (t := { s with last := s.last + 1, words := ws, free := s.free + ((found.length : Int) + 2) }) (⟨rfl, rfl, rfl, rfl, rfl, rfl, rfl, rfl⟩) rfl
      have g4 : Go C F ar rws H (upd H3 F.bo (.ins C.B F.bd (bdF F ar { s with last := s.last + 1, words := ws, free := s.free + ((found.length : Int) + 2) }))) ar rws { s with last := s.last + 1, words := ws, free := s.free + ((found.length : Int) + 2) } := g3.trans ⟨S4, .own own_bo _⟩
      dsimp only
      show tSeq _ _ _ _ (upd H3 F.bo (.ins C.B F.bd (bdF F ar { s with last := s.last + 1, words := ws, free := s.free + ((found.length : Int) + 2) })))
      generalize upd H3 F.bo (.ins C.B F.bd (bdF F ar { s with last := s.last + 1, words := ws, free := s.free + ((found.length : Int) + 2) })) = H4 at S4 g4 ⊢
      have epl : placeAt s found = s.free := by unfold placeAt; rw [if_neg hy]
      rw [epl]
      refine seq_join (fun σ H' => ∃ x5 x6 : Option V, σ = [some (.ref F.bo), some (.str (SX.S (codes x))), some (.ref pl), some (.int ((found.length : Int) + 2)), some (.int s.free), x5, x6] ∧ Go C F ar rws H H' ar rws sa) ?_ ?_
      · rintro σ H5 ⟨x5, x6, rfl, g5⟩
        have S5 := g5.st
        refine (⟨_, rfl, _, _, _, _, _, rfl, St.bo S5, Cs.bcl _, C.left, rfl, ⟨rfl, _, rfl, ?_⟩⟩)
        by_cases hl5 : sa.left = 0
        · rw [if_pos hl5] at nx h3
          rw [decide_eq_true (by rw [hl5])]
          exact iteT ((⟨_, rfl, _, _, _, _, _, rfl, St.bo S5, Cs.bcl _, C.free, rfl, ((⟨_, rfl, _, _, _, _, rfl, St.bo S5, Cs.bcl _, C.scan, (by show 12 < 1000; omega), (nx _ _ ⟨_, _, by rw [epl], g5.trans ⟨S5.put (t := { sa with scan := sa.free }) (⟨rfl, rfl, rfl, rfl, rfl, rfl, rfl, rfl⟩) rfl, .own own_bo _⟩⟩)⟩))⟩))
        · rw [if_neg hl5] at nx h3
          rw [decide_eq_false (fun z => hl5 (V.int.inj z))]
          exact iteF (nx _ _ ⟨_, _, by rw [epl], g5⟩)
      · intro NX2 nx2
        have hpl4 : ∀ {H' : Hp} {sk : Bd}, Go C F ar rws H H' ar rws sk → H' pl = some (.lst (found.map V.int)) := fun g => (g.ch pl _ npl hpl).2
        have ha : rememberAll s.free 0 found { s with last := s.last + 1, words := ws, free := s.free + ((found.length : Int) + 2) } = some sa := ha
        refine ⟨_, rfl, pl, _, rfl, SqL.of (hpl4 g4), ?_⟩
        refine for_enum (D := { nx := NX2, rt := Q }) (xs := found.map V.int) (fun i σ H' => ∃ x5 x6 sk, σ = [some (.ref F.bo), some (.str (SX.S (codes x))), some (.ref pl), some (.int ((found.length : Int) + 2)), some (.int s.free), x5, x6] ∧ Go C F ar rws H H' ar rws sk ∧ rememberAll s.free i (found.drop i) sk = some sa) ⟨none, none, _, rfl, g4, by rw [List.drop_zero]; exact ha⟩ (fun i σ H' _ ⟨_, _, sk, _, g, _⟩ => SqL.of (hpl4 g)) ?_ ?_
        · rintro i v σ H5 T hv ⟨x5, x6, sk, rfl, g5, hk⟩ hT
          obtain ⟨wd, ew, rfl, ed⟩ := ints_at hv
          rw [ed, rememberAll] at hk
          split at hk
          · cases hk
          rename_i sk1 h1
          have g6 : Go C F ar rws H (upd H5 T (.tup [.int (i : Nat), .int wd])) ar rws sk := g5.trans ⟨g5.st.same (same_new hT _), .new hT _⟩
          have hTT : (upd H5 T (.tup [.int (i : Nat), .int wd])) T = some (.tup [.int (i : Nat), .int wd]) := upd_same
          generalize upd H5 T (.tup [.int (i : Nat), .int wd]) = H6 at g6 hTT ⊢
          refine ⟨T, _, rfl, SqT.of hTT, rfl, _, _, rfl, _, _, rfl, rfl, ?_⟩
          refine ⟨_, rfl, F.bo, F.bd, _, rfl, g6.st.bo, rfl, _, rfl, _, _, rfl, rfl, _, rfl, _, _, rfl, rfl, _, rfl, F, ar, rws, sk, _, wd, sk1, rfl, g6.st, h1, fun H7 g7 => ?_⟩
          exact ⟨_, _, _, rfl, g6.trans g7, hk⟩
        · rintro σ H5 ⟨x5, x6, sk, rfl, g5, hk⟩
          rw [List.length_map, List.drop_length, rememberAll] at hk
          cases hk
          exact nx2 _ _ ⟨_, _, rfl, g5⟩
end
end Wk
set_option maxRecDepth 100000
set_option maxHeartbeats 4000000
namespace Wk
open PySem L2 TL PyProof.Rows Hm
open SX (S S_len)
section
variable {P : Program} {w : World} {K : PySem.W.Frag} {mg : Str → Option Value} {base : Heap}
abbrev s_Laid__settled : Stmt := inClass (top 40) 1
theorem sc_Laid__settled : FnScope ["self", "at", "head"] ["self", "at"] (defScope s_Laid__settled) := ⟨rfl, rfl, rfl, by decide +kernel, rfl, by decide +kernel, by decide +kernel⟩
def sp_bsettled (C : Cs K) : Sp := fun vs H Q _ => ∃ F ar rws s a n, vs = [.ref F.bo, .int a] ∧ St C H F ar rws s ∧ settled s a = some n ∧ Q (.int n) H
theorem ok_bsettled (C : Cs K) {f : Addr} {fd : FuncData} (F : Fun K "settled" "Laid.settled" s_Laid__settled f fd) : FnOk P w K mg base CX0 1 f fd ["self", "at"] (sp_bsettled C) := by
  refine F.ok sc_Laid__settled (fun vs H Q E h => ?_) (fun cdv A outer s H vs Q E hr h => ?_)
  · obtain ⟨_, _, _, _, _, _, rfl, _⟩ := h; rfl
  obtain ⟨F, ar, rws, s, a, n, rfl, S, hm, q⟩ := h
  refine ⟨_, (pss_cons (ps_set (i := 2) sc_Laid__settled.nd rfl (Or.inl rfl) (pe_ix ix_list (pe_fld (pv 0) rfl) (pv 1) (fun _ _ => rfl)))
    (pss_one (ps_ret (pe_ifExp (pt_cmpR op_ge (pv 2) pe_int (nomark _)) (pv 1) (pe_op op_sub (pe_un un_neg pe_int) (pv 2)))))), ?_⟩
  unfold settled at hm
  cases hh : gI s.words a with
  | none => rw [hh] at hm; cases hm
  | some hd =>
  rw [hh] at hm
  cases hm
  refine seq_set ((⟨_, rfl, _, _, _, _, _, rfl, St.bo S, Cs.bcl _, C.words, rfl, ⟨_, rfl, _, _, _, _, rfl, rfl, SqL.of S.aw, gI_at hh, ?_⟩⟩))
  refine ⟨_, rfl, _, _, rfl, rfl, _, rfl, ?_⟩
  by_cases h0 : 0 ≤ hd
  · rw [if_pos h0] at q
    rw [decide_eq_true h0]
    exact iteT ⟨_, rfl, q⟩
  · rw [if_neg h0] at q
    rw [decide_eq_false h0]
    exact iteF ⟨_, rfl, _, rfl, _, _, rfl, rfl, q⟩
abbrev s_Laid__sort_at : Stmt := inClass (top 40) 2
theorem sc_Laid__sort_at : FnScope ["self", "at"] ["self", "at"] (defScope s_Laid__sort_at) := ⟨rfl, rfl, rfl, by decide +kernel, rfl, by decide +kernel, by decide +kernel⟩
def sp_bsortat (C : Cs K) : Sp := fun vs H Q _ => ∃ F ar rws s a h k x, vs = [.ref F.bo, .int a] ∧ St C H F ar rws s ∧ gI s.words a = some h ∧ h % 8 = ((k : Nat) : Int) ∧ SortIs x k ∧ Q (.str (S (codes x))) H
theorem ok_bsortat (T : Txt K mg base) (T5 : Txt5 K w mg) (C : Cs K) {f : Addr} {fd : FuncData} (F : Fun K "sort_at" "Laid.sort_at" s_Laid__sort_at f fd) : FnOk P w K mg base CX0 1 f fd ["self", "at"] (sp_bsortat C) := by
  refine F.ok sc_Laid__sort_at (fun vs H Q E h => ?_) (fun cdv A outer s H vs Q E hr h => ?_)
  · obtain ⟨_, _, _, _, _, _, _, _, rfl, _⟩ := h; rfl
  obtain ⟨F, ar, rws, s, a, hd, k, x, rfl, S, hh, hk, hx, q⟩ := h
  refine ⟨_, (pss_one (ps_ret (pe_ix ix_tup (pe_glob (v := .ref T5.aSORTS) rfl T5.mSORTS rfl) (pe_op op_andM (pe_ix ix_list (pe_fld (pv 0) rfl) (pv 1) (fun _ _ => rfl)) (pe_op op_sub (pe_glob (v := .int 8) rfl T.mTAGS ⟨_, rfl⟩) pe_int)) (fun _ _ => rfl)))), ?_⟩
  refine (⟨_, rfl, _, _, _, _, _, rfl, St.bo S, Cs.bcl _, C.words, rfl, ⟨_, rfl, _, _, _, _, rfl, rfl, SqL.of S.aw, gI_at hh, _, _, rfl, rfl, hd, 3, rfl, rfl, ?_⟩⟩)
  rw [show (2 : Int) ^ 3 = 8 from by decide, hk]
  refine ⟨_, _, _, .str (SX.S (codes x)), rfl, rfl, T5.kSORTS _, atI_nat (j := k) ?_, q⟩
  rw [List.getElem?_map, show sortL[k]? = some x from hx, ← S_of]; rfl
abbrev s_Laid__size_at : Stmt := inClass (top 40) 3
theorem sc_Laid__size_at : FnScope ["self", "at"] ["self", "at"] (defScope s_Laid__size_at) := ⟨rfl, rfl, rfl, by decide +kernel, rfl, by decide +kernel, by decide +kernel⟩
def sp_bsizeat (C : Cs K) : Sp := fun vs H Q _ => ∃ F ar rws s a h, vs = [.ref F.bo, .int a] ∧ St C H F ar rws s ∧ gI s.words a = some h ∧ Q (.int (h / 8)) H
theorem ok_bsizeat (T : Txt K mg base) (C : Cs K) {f : Addr} {fd : FuncData} (F : Fun K "size_at" "Laid.size_at" s_Laid__size_at f fd) : FnOk P w K mg base CX0 1 f fd ["self", "at"] (sp_bsizeat C) := by
  refine F.ok sc_Laid__size_at (fun vs H Q E h => ?_) (fun cdv A outer s H vs Q E hr h => ?_)
  · obtain ⟨_, _, _, _, _, _, rfl, _⟩ := h; rfl
  obtain ⟨F, ar, rws, s, a, hd, rfl, S, hh, q⟩ := h
  refine ⟨_, (pss_one (ps_ret (pe_op op_fdivW (pe_ix ix_list (pe_fld (pv 0) rfl) (pv 1) (fun _ _ => rfl)) (pe_glob (v := .int 8) rfl T.mTAGS ⟨_, rfl⟩)))), ?_⟩
  exact (⟨_, rfl, _, _, _, _, _, rfl, St.bo S, Cs.bcl _, C.words, rfl, ⟨_, rfl, _, _, _, _, rfl, rfl, SqL.of S.aw, gI_at hh, _, _, rfl, rfl, ⟨by decide, by decide⟩, q⟩⟩)
abbrev s_Laid__number_at : Stmt := inClass (top 40) 4
theorem sc_Laid__number_at : FnScope ["self", "at"] ["self", "at"] (defScope s_Laid__number_at) := ⟨rfl, rfl, rfl, by decide +kernel, rfl, by decide +kernel, by decide +kernel⟩
def sp_bnumat (C : Cs K) : Sp := fun vs H Q _ => ∃ F ar rws s a n, vs = [.ref F.bo, .int a] ∧ St C H F ar rws s ∧ gI s.words (a + 1) = some n ∧ Q (.int n) H
theorem ok_bnumat (C : Cs K) {f : Addr} {fd : FuncData} (F : Fun K "number_at" "Laid.number_at" s_Laid__number_at f fd) : FnOk P w K mg base CX0 1 f fd ["self", "at"] (sp_bnumat C) := by
  refine F.ok sc_Laid__number_at (fun vs H Q E h => ?_) (fun cdv A outer s H vs Q E hr h => ?_)
  · obtain ⟨_, _, _, _, _, _, rfl, _⟩ := h; rfl
  obtain ⟨F, ar, rws, s, a, hd, rfl, S, hh, q⟩ := h
  refine ⟨_, (pss_one (ps_ret (pe_ix ix_list (pe_fld (pv 0) rfl) (pe_op op_add (pv 1) pe_int) (fun _ _ => rfl)))), ?_⟩
  exact (⟨_, rfl, _, _, _, _, _, rfl, St.bo S, Cs.bcl _, C.words, rfl, ⟨_, rfl, _, _, rfl, rfl, _, _, _, _, rfl, rfl, SqL.of S.aw, gI_at hh, q⟩⟩)
abbrev s_Laid__words_at : Stmt := inClass (top 40) 5
theorem sc_Laid__words_at : FnScope ["self", "at"] ["self", "at"] (defScope s_Laid__words_at) := ⟨rfl, rfl, rfl, by decide +kernel, rfl, by decide +kernel, by decide +kernel⟩
def sp_bwordsat (C : Cs K) : Sp := fun vs H Q _ => ∃ F ar rws s a h part, vs = [.ref F.bo, .int a] ∧ St C H F ar rws s ∧ gI s.words a = some h ∧ gS s.words (a + 2) (a + 2 + h / 8) = some part ∧ ∀ p, H p = none → Q (.ref p) (upd H p (.lst (part.map V.int)))
theorem ok_bwordsat (T : Txt K mg base) (T5 : Txt5 K w mg) (C : Cs K) {f : Addr} {fd : FuncData} (F : Fun K "words_at" "Laid.words_at" s_Laid__words_at f fd) : FnOk P w K mg base CX0 1 f fd ["self", "at"] (sp_bwordsat C) := by
  refine F.ok sc_Laid__words_at (fun vs H Q E h => ?_) (fun cdv A outer s H vs Q E hr h => ?_)
  · obtain ⟨_, _, _, _, _, _, _, rfl, _⟩ := h; rfl
  obtain ⟨F, ar, rws, s, a, hd, part, rfl, S, hh, hp, q⟩ := h
  refine ⟨_, (pss_one (ps_ret (pe_slice sl_list (pe_fld (pv 0) rfl) (po_some (pe_op op_add (pv 1) (pe_glob (v := .int 2) rfl T5.mAHEAD ⟨_, rfl⟩))) (po_some (pe_op op_add (pe_op op_add (pv 1) (pe_glob (v := .int 2) rfl T5.mAHEAD ⟨_, rfl⟩)) (pe_op op_fdivW (pe_ix ix_list (pe_fld (pv 0) rfl) (pv 1) (fun _ _ => rfl)) (pe_glob (v := .int 8) rfl T.mTAGS ⟨_, rfl⟩))))))), ?_⟩
  obtain ⟨c1, c2, c3, c4, c5⟩ := gS_cut hp
  refine (⟨_, rfl, _, _, _, _, _, rfl, St.bo S, Cs.bcl _, C.words, rfl, ⟨_, rfl, _, _, rfl, rfl, _, rfl, _, rfl, _, _, rfl, rfl, (⟨_, rfl, _, _, _, _, _, rfl, St.bo S, Cs.bcl _, C.words, rfl, ⟨_, rfl, _, _, _, _, rfl, rfl, SqL.of S.aw, gI_at hh, _, _, rfl, rfl, ⟨by decide, by decide⟩, _, _, rfl, rfl, _, rfl, F.aw, _, rfl, SqL.of S.aw, fun p np => ?_⟩⟩)⟩⟩)
  rw [c1]
  exact q p np
abbrev s_Bound__counted_deeds : Stmt := inClass (top 60) 24
theorem sc_Bound__counted_deeds : FnScope ["self"] ["self"] (defScope s_Bound__counted_deeds) := ⟨rfl, rfl, rfl, by decide +kernel, rfl, by decide +kernel, by decide +kernel⟩
def sp_bcounted (C : Cs K) : Sp := fun vs H Q _ => ∃ F ar rws s, vs = [.ref F.bo] ∧ St C H F ar rws s ∧ ∀ p, H p = none → Q (.ref p) (upd H p (.tup (s.tally.map V.int)))
theorem ok_bcounted (T : Txt K mg base) (C : Cs K) {f : Addr} {fd : FuncData} (F : Fun K "counted_deeds" "Bound.counted_deeds" s_Bound__counted_deeds f fd) : FnOk P w K mg base CX0 1 f fd ["self"] (sp_bcounted C) := by
  refine F.ok sc_Bound__counted_deeds (fun vs H Q E h => ?_) (fun cdv A outer s H vs Q E hr h => ?_)
  · obtain ⟨_, _, _, _, rfl, _⟩ := h; rfl
  obtain ⟨F, ar, rws, s, rfl, S, q⟩ := h
  refine ⟨_, (pss_one (ps_ret (pe_tupleOf rfl T.n_tuple (pe_fld (pv 0) rfl)))), ?_⟩
  exact (⟨_, rfl, _, _, _, _, _, rfl, St.bo S, Cs.bcl _, C.tally, rfl, (.inl ⟨F.tl, _, rfl, SqL.of S.tl, fun p np => q p np⟩)⟩)
abbrev s_Bound__told_words : Stmt := inClass (top 60) 25
theorem sc_Bound__told_words : FnScope ["self", "found", "other", "begin", "low", "high"] ["self"] (defScope s_Bound__told_words) := ⟨rfl, rfl, rfl, by decide +kernel, rfl, by decide +kernel, by decide +kernel⟩
def sp_btold (C : Cs K) : Sp := fun vs H Q _ => ∃ F ar rws s ws, vs = [.ref F.bo] ∧ St C H F ar rws s ∧ told s = some ws ∧ ∀ H' p, Same H H' → H p = none → H' p = some (.tup (ws.map V.int)) → Q (.ref p) H'
theorem ok_btold (T : Txt K mg base) (T5 : Txt5 K w mg) (C : Cs K) {f : Addr} {fd : FuncData} (F : Fun K "told_words" "Bound.told_words" s_Bound__told_words f fd) (Mb_begin_of : MD P w K mg base CX0 C.B "begin_of" ["self", "half"] 1 (sp_bbegin C)) : FnOk P w K mg base CX0 2 f fd ["self"] (sp_btold C) := by
  refine F.ok sc_Bound__told_words (fun vs H Q E h => ?_) (fun cdv A outer s H vs Q E hr h => ?_)
  · obtain ⟨_, _, _, _, _, rfl, _⟩ := h; rfl
  obtain ⟨F, ar, rws, s, ws, rfl, S, hm, q⟩ := h
  refine ⟨_, (pss_cons (ps_set (i := 1) sc_Bound__told_words.nd rfl (Or.inl rfl) (pe_op op_rep (pe_lst (pa_cons pe_int pa_nil)) (pe_callB call_len_seq rfl T.n_len boot_len (pa_cons (pe_fld (pv 0) rfl) pa_nil))))
    (pss_cons (ps_set (i := 2) sc_Bound__told_words.nd rfl (Or.inl rfl) (pe_meth (pv 0) C.bcl Mb_begin_of.m Mb_begin_of.ok (hr.mono (by omega)) Mb_begin_of.b .nil pass0 (pa_cons (pe_op op_sub pe_int (pe_fld (pv 0) rfl)) pa_nil)))
    (pss_cons (ps_set (i := 3) sc_Bound__told_words.nd rfl (Or.inl rfl) (pe_meth (pv 0) C.bcl Mb_begin_of.m Mb_begin_of.ok (hr.mono (by omega)) Mb_begin_of.b .nil pass0 (pa_cons (pe_fld (pv 0) rfl) pa_nil)))
    (pss_cons (ps_for PassesOwn.never rfl (pi_tup (pe_tup (pa_cons (pe_tup (pa_cons pe_int (pa_cons (pe_fld (pv 0) rfl) pa_nil))) (pa_cons (pe_tup (pa_cons (pv 3) (pa_cons (pe_fld (pv 0) rfl) pa_nil))) (pa_cons (pe_tup (pa_cons (pv 2) (pa_cons (pe_op op_add (pv 2) (pe_fld (pv 0) rfl)) pa_nil))) pa_nil))))) (pg_tup rfl (pgs_cons (pg_name (i := 4) sc_Bound__told_words.nd rfl (Or.inl rfl)) (pgs_cons (pg_name (i := 5) sc_Bound__told_words.nd rfl (Or.inl rfl)) pgs_nil))) (pss_one (ps_asg (pe_slice sl_list (pe_fld (pv 0) rfl) (po_some (pv 4)) (po_some (pv 5))) (pg_slice (pv 1) (po_some (pv 4)) (po_some (pv 5))))))
    (pss_one (ps_ret (pe_tupleOf rfl T.n_tuple (pv 1)))))))), ?_⟩
  unfold told at hm
  dsimp only at hm
  split at hm
  rotate_left
  · cases hm
  rename_i p1 p2 p3 e1 e2 e3
  split at hm
  · cases hm
  rename_i f1 h1
  split at hm
  · cases hm
  rename_i f2 h2
  have hz := line_eq
  generalize hσ : L2.start _ _ = σ0
  have hσ : σ0 = [some (.ref F.bo), none, none, none, none, none] := hσ.symm
  subst hσ
  -- found = [0] * len(self.words)
  refine seq_set ?_
  refine ⟨(by show 1 ≤ sizeLine; rw [hz]; decide), fun p0 np0 => ?_⟩
  have Sa := S.same (same_new np0 (.lst [.int 0]))
  have ga : Same H (upd H p0 (.lst [.int 0])) := same_new np0 _
  have h0 : (upd H p0 (.lst [V.int 0])) p0 = some (.lst [.int 0]) := upd_same
  generalize upd H p0 (.lst [V.int 0]) = Ha at Sa ga h0 ⊢
  refine (⟨_, rfl, _, _, _, _, _, rfl, St.bo Sa, Cs.bcl _, C.words, rfl, ⟨F.aw, _, rfl, .inl (SqL.of Sa.aw), p0, _, _, rfl, rfl, h0, (by rw [List.length_map]; have := S.z1; omega), (by rw [List.length_map]; have := S.z1; omega), (by rw [List.length_map]; have := S.z1; show 1 * ((s.words.length : Int)).toNat ≤ _; omega), fun pf npf => ?_⟩⟩)
  have e0 : (List.replicate ((((s.words.map V.int).length : Nat) : Int)).toNat [V.int 0]).flatten = (List.replicate s.words.length (0 : Int)).map V.int := by
    rw [Int.toNat_natCast, List.length_map, List.map_replicate]
    generalize s.words.length = n
    induction n with
    | zero => rfl
    | succ n ih => rw [List.replicate_succ, List.flatten_cons, ih, List.replicate_succ]; rfl
  rw [e0]
  have npfH : H pf = none := by
    cases e : H pf with
    | none => rfl
    | some u => rw [ga _ _ e] at npf; cases npf
  have Sb := Sa.same (same_new npf (.lst ((List.replicate s.words.length (0 : Int)).map V.int)))
  have gb : Same H (upd Ha pf (.lst ((List.replicate s.words.length (0 : Int)).map V.int))) := same_to ga npf _
  have hf0 : (upd Ha pf (.lst ((List.replicate s.words.length (0 : Int)).map V.int))) pf = some (.lst ((List.replicate s.words.length (0 : Int)).map V.int)) := upd_same
  generalize upd Ha pf (.lst ((List.replicate s.words.length (0 : Int)).map V.int)) = Hb at Sb gb hf0 ⊢
  refine seq_set ⟨_, rfl, F.bo, F.bd, _, rfl, Sb.bo, rfl, (⟨_, rfl, _, _, _, _, _, rfl, St.bo Sb, Cs.bcl _, C.use, rfl, ⟨_, _, rfl, rfl, F, ar, rws, s, _, rfl, Sb, ?_⟩⟩)⟩
  refine seq_set ⟨_, rfl, F.bo, F.bd, _, rfl, Sb.bo, rfl, (⟨_, rfl, _, _, _, _, _, rfl, St.bo Sb, Cs.bcl _, C.use, rfl, ⟨F, ar, rws, s, _, rfl, Sb, ?_⟩⟩)⟩
  refine seq_join (fun σ H' => ∃ x4 x5 : Option V, σ = [some (.ref F.bo), some (.ref pf), some (.int (beginOf s (1 - s.use))), some (.int (beginOf s s.use)), x4, x5] ∧ Same H H' ∧ H' pf = some (.lst (ws.map V.int))) ?_ ?_
  · rintro σ H1 ⟨x4, x5, rfl, g1, hf⟩
    refine ⟨_, rfl, .inl ⟨pf, _, rfl, SqL.of hf, fun p np => ?_⟩⟩
    refine q _ p (same_to g1 np _) ?_ upd_same
    cases e : H p with
    | none => rfl
    | some u => rw [g1 _ _ e] at np; cases np
  intro NX nx
  -- the three tuples
  refine (⟨_, rfl, _, _, _, _, _, rfl, St.bo Sb, Cs.bcl _, C.top, rfl, ⟨(by show 2 ≤ sizeLine; rw [hz]; decide), fun T1 n1 => ?_⟩⟩)
  have Sc := Sb.same (same_new n1 (.tup [.int 0, .int s.top]))
  have gc : Same H (upd Hb T1 (.tup [.int 0, .int s.top])) := same_to gb n1 _
  have q1 : (upd Hb T1 (.tup [V.int 0, .int s.top])) T1 = some (.tup [.int 0, .int s.top]) := upd_same
  have nf1 : pf ≠ T1 := ne_of_none hf0 n1
  have hf1 : (upd Hb T1 (.tup [V.int 0, .int s.top])) pf = some (.lst ((List.replicate s.words.length (0 : Int)).map V.int)) := by rw [upd_ne nf1]; exact hf0
  generalize upd Hb T1 (.tup [V.int 0, .int s.top]) = Hc at Sc gc q1 hf1 ⊢
  refine ⟨_, rfl, (⟨_, rfl, _, _, _, _, _, rfl, St.bo Sc, Cs.bcl _, C.free, rfl, ⟨(by show 2 ≤ sizeLine; rw [hz]; decide), fun T2 n2 => ?_⟩⟩)⟩
  have Sd := Sc.same (same_new n2 (.tup [.int (beginOf s s.use), .int s.free]))
  have gd : Same H (upd Hc T2 (.tup [.int (beginOf s s.use), .int s.free])) := same_to gc n2 _
  have q2 : (upd Hc T2 (.tup [V.int (beginOf s s.use), .int s.free])) T2 = some (.tup [.int (beginOf s s.use), .int s.free]) := upd_same
  have nf2 : pf ≠ T2 := ne_of_none hf1 n2
  have n12 : T1 ≠ T2 := ne_of_none q1 n2
  have hf2 : (upd Hc T2 (.tup [V.int (beginOf s s.use), .int s.free])) pf = some (.lst ((List.replicate s.words.length (0 : Int)).map V.int)) := by rw [upd_ne nf2]; exact hf1
  have q12 : (upd Hc T2 (.tup [V.int (beginOf s s.use), .int s.free])) T1 = some (.tup [.int 0, .int s.top]) := by rw [upd_ne n12]; exact q1
  generalize upd Hc T2 (.tup [V.int (beginOf s s.use), .int s.free]) = Hd at Sd gd q2 hf2 q12 ⊢
  refine ⟨_, rfl, _, rfl, (⟨_, rfl, _, _, _, _, _, rfl, St.bo Sd, Cs.bcl _, C.left, rfl, ⟨_, _, rfl, rfl, (by show 2 ≤ sizeLine; rw [hz]; decide), fun T3 n3 => ?_⟩⟩)⟩
  have ge : Same H (upd Hd T3 (.tup [.int (beginOf s (1 - s.use)), .int (beginOf s (1 - s.use) + s.left)])) := same_to gd n3 _
  have q3 : (upd Hd T3 (.tup [V.int (beginOf s (1 - s.use)), .int (beginOf s (1 - s.use) + s.left)])) T3 = some (.tup [.int (beginOf s (1 - s.use)), .int (beginOf s (1 - s.use) + s.left)]) := upd_same
  have nf3 : pf ≠ T3 := ne_of_none hf2 n3
  have hf3 : (upd Hd T3 (.tup [V.int (beginOf s (1 - s.use)), .int (beginOf s (1 - s.use) + s.left)])) pf = some (.lst ((List.replicate s.words.length (0 : Int)).map V.int)) := by rw [upd_ne nf3]; exact hf2
  have q13 : (upd Hd T3 (.tup [V.int (beginOf s (1 - s.use)), .int (beginOf s (1 - s.use) + s.left)])) T1 = some (.tup [.int 0, .int s.top]) := by rw [upd_ne (ne_of_none q12 n3)]; exact q12
  have q23 : (upd Hd T3 (.tup [V.int (beginOf s (1 - s.use)), .int (beginOf s (1 - s.use) + s.left)])) T2 = some (.tup [.int (beginOf s s.use), .int s.free]) := by rw [upd_ne (ne_of_none q2 n3)]; exact q2
  generalize upd Hd T3 (.tup [V.int (beginOf s (1 - s.use)), .int (beginOf s (1 - s.use) + s.left)]) = He at ge q3 hf3 q13 q23 ⊢
  refine ⟨(by show 3 ≤ sizeLine; rw [hz]; decide), fun T4 n4 => ?_⟩
  have gf : Same H (upd He T4 (.tup [.ref T1, .ref T2, .ref T3])) := same_to ge n4 _
  have q4 : (upd He T4 (.tup [V.ref T1, .ref T2, .ref T3])) T4 = some (.tup [.ref T1, .ref T2, .ref T3]) := upd_same
  have nf4 : pf ≠ T4 := ne_of_none hf3 n4
  have hf4 : (upd He T4 (.tup [V.ref T1, .ref T2, .ref T3])) pf = some (.lst ((List.replicate s.words.length (0 : Int)).map V.int)) := by rw [upd_ne nf4]; exact hf3
  have q14 : (upd He T4 (.tup [V.ref T1, .ref T2, .ref T3])) T1 = some (.tup [.int 0, .int s.top]) := by rw [upd_ne (ne_of_none q13 n4)]; exact q13
  have q24 : (upd He T4 (.tup [V.ref T1, .ref T2, .ref T3])) T2 = some (.tup [.int (beginOf s s.use), .int s.free]) := by rw [upd_ne (ne_of_none q23 n4)]; exact q23
  have q34 : (upd He T4 (.tup [V.ref T1, .ref T2, .ref T3])) T3 = some (.tup [.int (beginOf s (1 - s.use)), .int (beginOf s (1 - s.use) + s.left)]) := by rw [upd_ne (ne_of_none q3 n4)]; exact q3
  generalize upd He T4 (.tup [V.ref T1, .ref T2, .ref T3]) = Hf at gf q4 hf4 q14 q24 q34 ⊢
  refine ⟨T4, rfl, ⟨_, SqT.of q4⟩, ?_⟩
  let fs : Nat → List Int := fun i => match i with
    | 0 => List.replicate s.words.length 0
    | 1 => f1
    | 2 => f2
    | _ => ws
  have lf : ∀ i, (fs i).length = s.words.length := fun i => by
    match i with
    | 0 => exact List.length_replicate
    | 1 => exact (setS_len h1).trans List.length_replicate
    | 2 => exact (setS_len h2).trans ((setS_len h1).trans List.length_replicate)
    | _ + 3 => exact (setS_len hm).trans ((setS_len h2).trans ((setS_len h1).trans List.length_replicate))
  refine for_tup (D := { nx := NX, rt := Q }) (xs := [.ref T1, .ref T2, .ref T3]) (fun i σ H' => ∃ x4 x5 : Option V, σ = [some (.ref F.bo), some (.ref pf), some (.int (beginOf s (1 - s.use))), some (.int (beginOf s s.use)), x4, x5] ∧ Same H H' ∧ H' pf = some (.lst ((fs i).map V.int)) ∧ H' T4 = some (.tup [.ref T1, .ref T2, .ref T3]) ∧ H' T1 = some (.tup [.int 0, .int s.top]) ∧ H' T2 = some (.tup [.int (beginOf s s.use), .int s.free]) ∧ H' T3 = some (.tup [.int (beginOf s (1 - s.use)), .int (beginOf s (1 - s.use) + s.left)])) ⟨none, none, rfl, gf, hf4, q4, q14, q24, q34⟩ (fun i σ H' _ ⟨_, _, _, _, _, h, _⟩ => SqT.of h) ?_ (fun σ H' ⟨x4, x5, e, g, hf, _⟩ => nx _ _ ⟨x4, x5, e, g, hf⟩)
  rintro i x σ H' hx ⟨x4, x5, rfl, g, hf, r4, r1, r2, r3⟩
  have SH := S.same g
  obtain ⟨Tt, lo, hi, part, rfl, hT, hp, hset⟩ : ∃ Tt lo hi part, x = V.ref Tt ∧ H' Tt = some (.tup [.int lo, .int hi]) ∧ gS s.words lo hi = some part ∧ setS (fs i) lo hi part = some (fs (i + 1)) := by
    match i, hx with
    | 0, hx => cases hx; exact ⟨_, _, _, _, rfl, r1, e1, h1⟩
    | 1, hx => cases hx; exact ⟨_, _, _, _, rfl, r2, e2, h2⟩
    | 2, hx => cases hx; exact ⟨_, _, _, _, rfl, r3, e3, hm⟩
    | i + 3, hx => simp at hx
  refine ⟨Tt, _, rfl, SqT.of hT, rfl, _, _, rfl, _, _, rfl, rfl, ?_⟩
  obtain ⟨c1, c2, c3, c4, c5⟩ := gS_cut hp
  obtain ⟨d1, d2, d3, d4⟩ := setS_put hset
  refine (⟨_, rfl, _, _, _, _, _, rfl, St.bo SH, Cs.bcl _, C.words, rfl, ⟨_, rfl, _, rfl, _, rfl, _, rfl, F.aw, _, rfl, SqL.of SH.aw, fun p np => ?_⟩⟩)
  rw [c1]
  have nfp : pf ≠ p := ne_of_none hf np
  refine ⟨_, rfl, _, rfl, _, rfl, _, rfl, _, rfl, pf, p, _, _, _, _, rfl, rfl, rfl, rfl, (by rw [upd_ne nfp]; exact hf), upd_same, nfp, d1, d2, (by rw [List.length_map]; exact d3), (by rw [List.length_map, List.length_map, lf]; have := S.z1; omega), ?_⟩
  rw [← d4]
  have keep : ∀ {T u}, T ≠ pf → H' T = some u → (upd (upd H' p (.lst (part.map V.int))) pf (.lst ((fs (i + 1)).map V.int))) T = some u := fun n h => by rw [upd_ne n, upd_ne (ne_of_none h np)]; exact h
  refine ⟨_, _, rfl, same_mut (same_to g np _) npfH _, upd_same, keep nf4.symm r4, keep nf1.symm r1, keep nf2.symm r2, keep nf3.symm r3⟩
end
end Wk
set_option maxRecDepth 100000
set_option maxHeartbeats 4000000
namespace Wk
open PySem L2 TL PyProof.Rows Hm
open SX (S S_len)
theorem addrs_len {s : Bd} : ∀ {ws as : List Int}, Hm.addrs s ws = some as → as.length ≤ ws.length
  | [], as, h => by cases h; exact Nat.le_refl _
  | w :: r, as, h => by
    rw [Hm.addrs] at h
    split at h
    · split at h
      · rename_i a b e1 e2
        cases h
        exact Nat.succ_le_succ (addrs_len e2)
      · cases h
    · exact Nat.le_succ_of_le (addrs_len h)
section
variable {P : Program} {w : World} {K : PySem.W.Frag} {mg : Str → Option Value} {base : Heap}
abbrev s_addresses_in : Stmt := top 42
theorem sc_addresses_in : FnScope ["store", "found", "word"] ["store", "found"] (defScope s_addresses_in) := ⟨rfl, rfl, rfl, by decide +kernel, rfl, by decide +kernel, by decide +kernel⟩
def sp_addrs (C : Cs K) : Sp := fun vs H Q _ => ∃ F ar rws s pl ws as, vs = [.ref F.bo, .ref pl] ∧ St C H F ar rws s ∧ H pl = some (.lst (ws.map V.int)) ∧ ws.length ≤ 4000000 ∧ Hm.addrs s ws = some as ∧ ∀ H' p, Same H H' → H p = none → H' p = some (.lst (as.map V.int)) → Q (.ref p) H'
theorem ok_addrs (T : Txt K mg base) (C : Cs K) {f : Addr} {fd : FuncData} (F : Fun K "addresses_in" "addresses_in" s_addresses_in f fd) (D_is_things : Def P w K mg base CX0 "is_things" ["word"] 1 sp_isthings) (Mb_settled : MD P w K mg base CX0 C.B "settled" ["self", "at"] 1 (sp_bsettled C)) : FnOk P w K mg base CX0 2 f fd ["store", "found"] (sp_addrs C) := by
  refine F.ok sc_addresses_in (fun vs H Q E h => ?_) (fun cdv A outer s H vs Q E hr h => ?_)
  · obtain ⟨_, _, _, _, _, _, _, rfl, _⟩ := h; rfl
  obtain ⟨F, ar, rws, s, pl, ws, as, rfl, S, hpl, hl, hm, q⟩ := h
  refine ⟨_, (pss_one (ps_ret (pe_lc (own := [("word", 2)]) (g := gName 2) rfl sc_addresses_in.nd (pi_list (pv 1)) (blkOk_by (N := ["store", "found", "word"]) (sc := defScope s_addresses_in) (by decide +kernel)) (fun _ _ _ _ _ => pg_name (i := 2) sc_addresses_in.nd rfl (Or.inl rfl)) (fun _ _ _ _ _ => pts_one (pt_val (pe_call D_is_things.ok (hr.mono (by omega)) rfl D_is_things.g D_is_things.k D_is_things.b .nil pass0 (pa_cons (pv 2) pa_nil)))) (fun _ _ _ _ _ => (pe_meth (pv 0) C.bcl Mb_settled.m Mb_settled.ok (hr.mono (by omega)) Mb_settled.b .nil pass0 (pa_cons (pe_op op_fdivW (pv 2) (pe_glob (v := .int 8) rfl T.mTAGS ⟨_, rfl⟩)) pa_nil)))))), ?_⟩
  have hz := line_eq
  refine ⟨_, rfl, pl, rfl, ⟨_, SqL.of hpl⟩, fun D hD => ?_⟩
  have pD : pl ≠ D := ne_of_none hpl hD
  refine lc_list (xs := ws.map V.int) (fun i H' => Same H H' ∧ ∃ a1 a2 : List Int, H' D = some (.lst (a1.map V.int)) ∧ a1.length ≤ i ∧ i ≤ ws.length ∧ Hm.addrs s (ws.drop i) = some a2 ∧ as = a1 ++ a2) ⟨same_new hD _, [], as, upd_same, Nat.le_refl _, Nat.zero_le _, by rw [List.drop_zero]; exact hm, rfl⟩ (fun i H' _ h => SqL.of (h.1 _ _ hpl)) ?_ ?_
  · rintro i v H' hv ⟨g, a1, a2, hd, hi, hi2, hk, rfl⟩
    obtain ⟨wd, ew, rfl, ed⟩ := ints_at hv
    have hlt : i < ws.length := (List.getElem?_eq_some_iff.mp ew).1
    rw [ed, Hm.addrs] at hk
    have SH := S.same g
    refine ⟨rfl, ?_⟩
    refine ⟨_, rfl, wd, rfl, _, rfl, ?_⟩
    cases ht : isT wd with
    | false =>
      rw [ht] at hk
      exact iteF ⟨g, a1, a2, hd, Nat.le_succ_of_le hi, hlt, hk, rfl⟩
    | true =>
    rw [ht, if_pos rfl] at hk
    split at hk
    rotate_left
    · cases hk
    rename_i a b e1 e2
    cases hk
    refine iteT ⟨_, rfl, F.bo, F.bd, _, rfl, SH.bo, rfl, _, rfl, _, _, rfl, rfl, ⟨by decide, by decide⟩, F, ar, rws, s, _, a, rfl, SH, e1, _, hd, (by rw [List.length_map]; omega), ?_⟩
    refine ⟨same_mut g hD _, a1 ++ [a], b, ?_, by rw [List.length_append]; exact Nat.succ_le_succ hi, hlt, e2, by rw [List.append_assoc]; rfl⟩
    rw [upd_same, List.map_append]; rfl
  · rintro H' ⟨g, a1, a2, hd, hi, hi2, hk, rfl⟩
    rw [List.length_map, List.drop_length, Hm.addrs] at hk
    cases hk
    rw [List.append_nil] at q
    exact q _ D g hD hd
abbrev s_room_of : Stmt := top 44
theorem sc_room_of : FnScope ["store", "found", "at"] ["store", "found"] (defScope s_room_of) := ⟨rfl, rfl, rfl, by decide +kernel, rfl, by decide +kernel, by decide +kernel⟩
def fndD (found : List (Int × Int)) : List (Key × V) := found.map fun z => (.inl z.1, .int z.2)
def sp_roomof (C : Cs K) : Sp := fun vs H Q _ => ∃ F ar rws s pd found n, vs = [.ref F.bo, .ref pd] ∧ St C H F ar rws s ∧ H pd = some (.dK (fndD found)) ∧ found.length ≤ 1000000 ∧ sizes s found = some n ∧ ∀ H', Same H H' → Q (.int n) H'
theorem ok_roomof (T : Txt K mg base) (T5 : Txt5 K w mg) (C : Cs K) {f : Addr} {fd : FuncData} (F : Fun K "room_of" "room_of" s_room_of f fd) (Mb_size_at : MD P w K mg base CX0 C.B "size_at" ["self", "at"] 1 (sp_bsizeat C)) : FnOk P w K mg base CX0 2 f fd ["store", "found"] (sp_roomof C) := by
  refine F.ok sc_room_of (fun vs H Q E h => ?_) (fun cdv A outer s H vs Q E hr h => ?_)
  · obtain ⟨_, _, _, _, _, _, _, rfl, _⟩ := h; rfl
  obtain ⟨F, ar, rws, s, pd, found, n, rfl, S, hpd, hl, hm, q⟩ := h
  refine ⟨_, (pss_one (ps_ret (pe_callB (cr_sum rfl) rfl T.n_sum boot_sum (pa_cons (pe_lc (own := [("at", 2)]) (g := gName 2) (tt := tYes) rfl sc_room_of.nd (pi_list (pe_listVals rfl (pv 1) rfl T.n_list boot_list)) (blkOk_by (N := ["store", "found", "at"]) (sc := defScope s_room_of) (by decide +kernel)) (fun _ _ _ _ _ => pg_name (i := 2) sc_room_of.nd rfl (Or.inl rfl)) (fun _ _ _ _ _ => pts_nil) (fun _ _ _ _ _ => (pe_op op_add (pe_meth (pv 0) C.bcl Mb_size_at.m Mb_size_at.ok (hr.mono (by omega)) Mb_size_at.b .nil pass0 (pa_cons (pv 2) pa_nil)) (pe_glob (v := .int 2) rfl T5.mAHEAD ⟨_, rfl⟩)))) pa_nil)))), ?_⟩
  have hz := line_eq
  refine ⟨_, rfl, pd, _, rfl, hpd, fun p np => ?_⟩
  have ev : (fndD found).map Prod.snd = (found.map Prod.snd).map V.int := by unfold fndD; rw [List.map_map, List.map_map]; rfl
  rw [ev]
  have g0 : Same H (upd H p (.lst ((found.map Prod.snd).map V.int))) := same_new np _
  have hp : (upd H p (.lst ((found.map Prod.snd).map V.int))) p = some (.lst ((found.map Prod.snd).map V.int)) := upd_same
  generalize upd H p (.lst ((found.map Prod.snd).map V.int)) = H0 at g0 hp ⊢
  refine ⟨p, rfl, ⟨_, SqL.of hp⟩, fun D hD => ?_⟩
  refine lc_list (xs := (found.map Prod.snd).map V.int) (fun i H' => Same H0 H' ∧ ∃ (a1 : List Int) (m : Int), H' D = some (.lst (a1.map V.int)) ∧ a1.length ≤ i ∧ i ≤ found.length ∧ sizes s (found.drop i) = some m ∧ n = a1.sum + m) ⟨same_new hD _, [], n, upd_same, Nat.le_refl _, Nat.zero_le _, by rw [List.drop_zero]; exact hm, by simp⟩ (fun i H' _ h => SqL.of (h.1 _ _ hp)) ?_ ?_
  · rintro i v H' hv ⟨g, a1, m, hd, hi, hi2, hk, rfl⟩
    obtain ⟨ad, ew, rfl, _⟩ := ints_at hv
    rw [List.getElem?_map] at ew
    cases ef : found[i]? with
    | none => rw [ef] at ew; cases ew
    | some z =>
    rw [ef] at ew
    obtain ⟨n0, ad⟩ := z
    cases ew
    obtain ⟨hlt, ez⟩ := List.getElem?_eq_some_iff.mp ef
    rw [List.drop_eq_getElem_cons hlt, ez, sizes] at hk
    split at hk
    rotate_left
    · cases hk
    rename_i hd0 m1 e1 e2
    cases hk
    have SH := S.same (g0.trans g)
    refine ⟨rfl, ?_⟩
    unfold tYes
    dsimp only
    rw [if_pos rfl]
    refine ⟨_, rfl, F.bo, F.bd, _, rfl, SH.bo, rfl, _, rfl, F, ar, rws, s, ad, hd0, rfl, SH, e1, _, _, rfl, rfl, _, hd, (by rw [List.length_map]; omega), ?_⟩
    refine ⟨same_mut g hD _, a1 ++ [hd0 / 8 + 2], m1, ?_, by rw [List.length_append]; exact Nat.succ_le_succ hi, hlt, e2, by rw [List.sum_append]; simp; omega⟩
    rw [upd_same, List.map_append]; rfl
  · rintro H' ⟨g, a1, m, hd, hi, hi2, hk, rfl⟩
    rw [List.length_map, List.length_map, List.drop_length, sizes] at hk
    cases hk
    refine ⟨D, a1, rfl, SqL.of hd, ?_⟩
    rw [Int.add_zero] at q
    exact q _ (g0.trans g)
theorem SortIs.text {x : String} {k : Nat} (h : SortIs x k) : (!decide (V.str (SX.S (codes x)) = V.str (Str.ofString "text"))) = (((k : Nat) : Int) != 0) := by
  unfold SortIs sortL at h
  rcases k with _ | _ | _ | _ | _ | _ | k
  · cases h; decide +kernel
  · cases h; decide +kernel
  · cases h; decide +kernel
  · cases h; decide +kernel
  · cases h; decide +kernel
  · cases h; decide +kernel
  · simp at h
theorem SortIs.tie {x : String} {k : Nat} (h : SortIs x k) : (!decide (V.str (SX.S (codes x)) = V.str (Str.ofString "tie"))) = (((k : Nat) : Int) != 5) := by
  unfold SortIs sortL at h
  rcases k with _ | _ | _ | _ | _ | _ | k
  · cases h; decide +kernel
  · cases h; decide +kernel
  · cases h; decide +kernel
  · cases h; decide +kernel
  · cases h; decide +kernel
  · cases h; decide +kernel
  · simp at h
theorem sort_of {h : Int} (hh : h % 8 ≤ 5) : ∃ (k : Nat) (x : String), h % 8 = (k : Int) ∧ SortIs x k := by
  have h0 : 0 ≤ h % 8 := Int.emod_nonneg _ (by decide)
  obtain ⟨k, hk⟩ := Int.eq_ofNat_of_zero_le h0
  have : k < sortL.length := by show k < 6; omega
  exact ⟨k, sortL[k], hk, List.getElem?_eq_getElem this⟩
theorem strtie_read {i j : Nat} {x : String} {k : Nat} (hx : SortIs x k) {t : Bool} {σ : L2.St} {H : Hp} {Q : Bool → Hp → Prop} (e1 : σ[i]? = some (some (.str (SX.S (codes x))))) (e2 : σ[j]? = some (some (.bl t))) (q : Q (((k : Nat) : Int) != 0 && (t || ((k : Nat) : Int) != 5)) H) :
    tAnd (tTest (tOp rNe (tVar i) (tC (V.str (Str.ofString "text"))))) (tOr (tB (tVar j)) (tTest (tOp rNe (tVar i) (tC (V.str (Str.ofString "tie")))))) σ H Q := by
  refine ⟨_, e1, rfl, _, rfl, ?_⟩
  rw [hx.text]
  cases h0 : (((k : Nat) : Int) != 0) with
  | false =>
    rw [h0, Bool.false_and] at q
    exact iteF q
  | true =>
  rw [h0, Bool.true_and] at q
  refine iteT ⟨_, e2, _, rfl, ?_⟩
  cases t with
  | true => exact iteT q
  | false =>
    rw [Bool.false_or] at q
    refine iteF ⟨_, e1, rfl, _, rfl, ?_⟩
    rw [hx.tie]
    exact q
theorem fnd_look {n : Int} : ∀ {found : List (Int × Int)}, (valV (fndD found) (.inl n : Key)).isSome = (look found n).isSome
  | [] => rfl
  | (k, a) :: r => by
    unfold fndD
    rw [List.map_cons, look]
    by_cases e : k = n
    · rw [if_pos e, valV_pos (by show (Sum.inl k : Key) = _; rw [e])]; rfl
    · rw [if_neg e, valV_neg (fun z => e (Sum.inl.inj z))]
      exact fnd_look
theorem fnd_put {n a : Int} {found : List (Int × Int)} (h : (look found n).isSome = false) : putK (fndD found) (.inl n : Key) (.int a) = fndD (found ++ [(n, a)]) := by
  unfold putK
  rw [valV_any, fnd_look, h, if_neg Bool.false_ne_true]
  unfold fndD
  rw [List.map_append]; rfl
abbrev s_come_to : Stmt := top 43
theorem sc_come_to : FnScope ["store", "begins", "is_tie_followed", "waiting", "found", "at", "sort"] ["store", "begins", "is_tie_followed"] (defScope s_come_to) := ⟨rfl, rfl, rfl, by decide +kernel, rfl, by decide +kernel, by decide +kernel⟩
def sp_cometo (C : Cs K) : Sp := fun vs H Q _ => ∃ F ar rws s pl ws tie bs found, vs = [.ref F.bo, .ref pl, .bl tie] ∧ St C H F ar rws s ∧ H pl = some (.lst (ws.map V.int)) ∧ ws.length ≤ 1000000 ∧ Hm.addrs s ws = some bs ∧ comeGo tie s 1000000 bs.reverse [] = some found ∧ ∀ H' p, Same H H' → H p = none → H' p = some (.dK (fndD found)) → Q (.ref p) H'
theorem ok_cometo (T : Txt K mg base) (C : Cs K) {f : Addr} {fd : FuncData} (F : Fun K "come_to" "come_to" s_come_to f fd) (D_addresses_in : Def P w K mg base CX0 "addresses_in" ["store", "found"] 2 (sp_addrs C)) (Mb_number_at : MD P w K mg base CX0 C.B "number_at" ["self", "at"] 1 (sp_bnumat C)) (Mb_sort_at : MD P w K mg base CX0 C.B "sort_at" ["self", "at"] 1 (sp_bsortat C)) (Mb_words_at : MD P w K mg base CX0 C.B "words_at" ["self", "at"] 1 (sp_bwordsat C)) : FnOk P w K mg base CX0 3 f fd ["store", "begins", "is_tie_followed"] (sp_cometo C) := by
  refine F.ok sc_come_to (fun vs H Q E h => ?_) (fun cdv A outer s H vs Q E hr h => ?_)
  · obtain ⟨_, _, _, _, _, _, _, _, _, rfl, _⟩ := h; rfl
  obtain ⟨F, ar, rws, s, pl, ws, tie, bs, found, rfl, S, hpl, hl, hb, hm, q⟩ := h
  refine ⟨_, (pss_cons (ps_set (i := 3) sc_come_to.nd rfl (Or.inl rfl) (pe_call D_addresses_in.ok (hr.mono (by omega)) rfl D_addresses_in.g D_addresses_in.k D_addresses_in.b .nil pass0 (pa_cons (pv 0) (pa_cons (pv 1) pa_nil))))
    (pss_cons (ps_set (i := 4) sc_come_to.nd rfl (Or.inl rfl) pe_dnewK)
    (pss_cons (ps_while PassesOwn.never (pt_truth (pv 3) (fun _ => rfl)) (pss_cons (ps_set (i := 5) sc_come_to.nd rfl (Or.inl rfl) (pe_bm0 PySem.F.plainAttrs_list PySem.F.slot_list_pop PySem.F.type_list_pop mt_pop (pv 3)))
      (pss_one (ps_if (pt_cmp (pc_dnotin (hu1 hr) (pe_meth (pv 0) C.bcl Mb_number_at.m Mb_number_at.ok (hr.mono (by omega)) Mb_number_at.b .nil pass0 (pa_cons (pv 5) pa_nil)) (pv 4))) (pss_cons (ps_dput (hu1 hr) (pv 4) (pe_meth (pv 0) C.bcl Mb_number_at.m Mb_number_at.ok (hr.mono (by omega)) Mb_number_at.b .nil pass0 (pa_cons (pv 5) pa_nil)) (pv 5) rfl)
        (pss_cons (ps_set (i := 6) sc_come_to.nd rfl (Or.inl rfl) (pe_meth (pv 0) C.bcl Mb_sort_at.m Mb_sort_at.ok (hr.mono (by omega)) Mb_sort_at.b .nil pass0 (pa_cons (pv 5) pa_nil)))
        (pss_one (ps_if (PW.pt (pw_and (pt_cmpR op_ne (pv 6) pe_str (nomark _)) (pw_and1 (PW.pt (pw_or (pt_val (pv 2)) (pw_or1 (pt_cmpR op_ne (pv 6) pe_str (nomark _)))))))) (pss_one (ps_expr (pe_bm PySem.F.plainAttrs_list PySem.F.slot_list_extend PySem.F.type_list_extend mt_extend (pv 3) (pa_cons (pe_call D_addresses_in.ok (hr.mono (by omega)) rfl D_addresses_in.g D_addresses_in.k D_addresses_in.b .nil pass0 (pa_cons (pv 0) (pa_cons (pe_meth (pv 0) C.bcl Mb_words_at.m Mb_words_at.ok (hr.mono (by omega)) Mb_words_at.b .nil pass0 (pa_cons (pv 5) pa_nil)) pa_nil))) pa_nil)))) pss_nil)))) pss_nil))))
    (pss_one (ps_ret (pv 4)))))), ?_⟩
  have hz := line_eq
  generalize hσ : L2.start _ _ = σ0
  have hσ : σ0 = [some (.ref F.bo), some (.ref pl), some (.bl tie), none, none, none, none] := hσ.symm
  subst hσ
  refine seq_set ⟨_, rfl, _, rfl, F, ar, rws, s, pl, ws, bs, rfl, S, hpl, by omega, hb, fun H1 p g1 np hp => ?_⟩
  refine seq_set (fun d nd => ?_)
  have pd : p ≠ d := ne_of_none hp nd
  have npd : H d = none := by
    cases e : H d with
    | none => rfl
    | some u => rw [g1 _ _ e] at nd; cases nd
  have g2 : Same H (upd H1 d (.dK [])) := same_to g1 nd _
  have hp2 : (upd H1 d (.dK [])) p = some (.lst (bs.reverse.reverse.map V.int)) := by rw [upd_ne pd, List.reverse_reverse]; exact hp
  have hd2 : (upd H1 d (.dK [])) d = some (.dK (fndD [])) := upd_same
  dsimp only
  generalize upd H1 d (.dK []) = H2 at g2 hp2 hd2 ⊢
  refine seq_join (fun σ H' => ∃ (x5 x6 : Option V), σ = [some (.ref F.bo), some (.ref pl), some (.bl tie), some (.ref p), some (.ref d), x5, x6] ∧ Same H H' ∧ H' d = some (.dK (fndD found))) ?_ ?_
  · rintro σ H3 ⟨x5, x6, rfl, g3, hd3⟩
    exact ⟨_, rfl, q _ d g3 npd hd3⟩
  intro NX nx
  refine while_of (fun σ H' => ∃ (x5 x6 : Option V), σ = [some (.ref F.bo), some (.ref pl), some (.bl tie), some (.ref p), some (.ref d), x5, x6] ∧ Same H H' ∧ H' d = some (.dK (fndD found))) (fun m σ H' => ∃ (x5 x6 : Option V) (st : List Int) (fd : List (Int × Int)), σ = [some (.ref F.bo), some (.ref pl), some (.bl tie), some (.ref p), some (.ref d), x5, x6] ∧ Same H H' ∧ H' p = some (.lst (st.reverse.map V.int)) ∧ H' d = some (.dK (fndD fd)) ∧ comeGo tie s m st fd = some found) 1000000 ⟨none, none, _, _, rfl, g2, hp2, hd2, hm⟩ nx ?_
  rintro NX nx m σ H3 ⟨x5, x6, st, fd, rfl, g3, hp3, hd3, hk⟩
  cases m with
  | zero => cases hk
  | succ m =>
  cases st with
  | nil =>
    rw [comeGo] at hk
    cases hk
    refine ⟨_, rfl, false, .inl ⟨_, SqL.of hp3, rfl⟩, ?_⟩
    exact iteF (nx _ _ ⟨_, _, rfl, g3, hd3⟩)
  | cons a r =>
  rw [comeGo] at hk
  have S3 := S.same g3
  refine ⟨_, rfl, true, .inl ⟨_, SqL.of hp3, by simp⟩, ?_⟩
  refine iteT ⟨fun σ H' => ∃ (x5 x6 : Option V) (st : List Int) (fd : List (Int × Int)), σ = [some (.ref F.bo), some (.ref pl), some (.bl tie), some (.ref p), some (.ref d), x5, x6] ∧ Same H H' ∧ H' p = some (.lst (st.reverse.map V.int)) ∧ H' d = some (.dK (fndD fd)) ∧ comeGo tie s m st fd = some found, fun σ' H' h => ⟨m, Nat.lt_succ_self m, h⟩, ?_⟩
  -- at = waiting.pop()
  have erev : (a :: r).reverse.map V.int = r.reverse.map V.int ++ [V.int a] := by rw [List.reverse_cons, List.map_append]; rfl
  rw [erev] at hp3
  refine seq_set ⟨_, rfl, .inl ⟨rfl, _, SqL.of hp3⟩, p, _, .int a, rfl, rfl, hp3, by simp, ?_⟩
  rw [List.dropLast_concat]
  have g4 : Same H (upd H3 p (.lst (r.reverse.map V.int))) := same_mut g3 np _
  have hp4 : (upd H3 p (.lst (r.reverse.map V.int))) p = some (.lst (r.reverse.map V.int)) := upd_same
  have hd4 : (upd H3 p (.lst (r.reverse.map V.int))) d = some (.dK (fndD fd)) := by rw [upd_ne pd.symm]; exact hd3
  dsimp only
  generalize upd H3 p (.lst (r.reverse.map V.int)) = H4 at g4 hp4 hd4 ⊢
  have S4 := S.same g4
  cases en : gI s.words (a + 1) with
  | none => rw [en] at hk; cases hk
  | some n =>
  rw [en] at hk
  dsimp only at hk
  refine ⟨_, rfl, F.bo, F.bd, _, rfl, S4.bo, rfl, _, rfl, F, ar, rws, s, a, n, rfl, S4, en, _, rfl, d, _, rfl, DGet.k (k := Sum.inl n) hd4, _, rfl, ?_⟩
  rw [fnd_look]
  cases hl : (look fd n).isSome with
  | true =>
    rw [hl, if_pos rfl] at hk
    exact iteF ⟨_, _, _, _, rfl, g4, hp4, hd4, hk⟩
  | false =>
  rw [hl, if_neg Bool.false_ne_true] at hk
  cases eh : gI s.words a with
  | none => rw [eh] at hk; cases hk
  | some h =>
  rw [eh] at hk
  dsimp only at hk
  split at hk
  rotate_left
  · cases hk
  rename_i hc
  refine iteT ⟨_, rfl, _, rfl, _, rfl, F.bo, F.bd, _, rfl, S4.bo, rfl, _, rfl, F, ar, rws, s, a, n, rfl, S4, en, d, _, rfl, DPut.k (k := Sum.inl n) hd4 (by unfold fndD; rw [List.length_map]; omega), ?_⟩
  rw [fnd_put hl]
  have g5 : Same H (upd H4 d (.dK (fndD (fd ++ [(n, a)])))) := same_mut g4 npd _
  have hp5 : (upd H4 d (.dK (fndD (fd ++ [(n, a)])))) p = some (.lst (r.reverse.map V.int)) := by rw [upd_ne pd]; exact hp4
  have hd5 : (upd H4 d (.dK (fndD (fd ++ [(n, a)])))) d = some (.dK (fndD (fd ++ [(n, a)]))) := upd_same
  dsimp only
  show tSeq _ _ _ _ (upd H4 d (.dK (fndD (fd ++ [(n, a)]))))
  generalize upd H4 d (.dK (fndD (fd ++ [(n, a)]))) = H5 at g5 hp5 hd5 ⊢
  have S5 := S.same g5
  obtain ⟨k, x, ek, hx⟩ := sort_of hc.1
  refine seq_set ⟨_, rfl, F.bo, F.bd, _, rfl, S5.bo, rfl, _, rfl, F, ar, rws, s, a, h, k, x, rfl, S5, eh, ek, hx, ?_⟩
  refine strtie_read hx rfl rfl ?_
  rw [ek] at hk
  cases ht : (((k : Nat) : Int) != 0 && (tie || ((k : Nat) : Int) != 5)) with
  | false =>
    rw [ht, if_neg Bool.false_ne_true] at hk
    exact iteF ⟨_, _, _, _, rfl, g5, hp5, hd5, hk⟩
  | true =>
  rw [ht, if_pos rfl] at hk
  split at hk
  · cases hk
  rename_i part ep
  split at hk
  · cases hk
  rename_i more em
  split at hk
  rotate_left
  · cases hk
  rename_i hlen
  obtain ⟨c1, c2, c3, c4, c5⟩ := gS_cut ep
  refine iteT ⟨_, rfl, .inl ⟨rfl, _, SqL.of hp5⟩, _, rfl, _, rfl, F.bo, F.bd, _, rfl, S5.bo, rfl, _, rfl, F, ar, rws, s, a, h, part, rfl, S5, eh, ep, fun pw npw => ?_⟩
  have g6 : Same H (upd H5 pw (.lst (part.map V.int))) := same_to g5 npw _
  have hp6 : (upd H5 pw (.lst (part.map V.int))) p = some (.lst (r.reverse.map V.int)) := by rw [upd_ne (ne_of_none hp5 npw)]; exact hp5
  have hd6 : (upd H5 pw (.lst (part.map V.int))) d = some (.dK (fndD (fd ++ [(n, a)]))) := by rw [upd_ne (ne_of_none hd5 npw)]; exact hd5
  have hw6 : (upd H5 pw (.lst (part.map V.int))) pw = some (.lst (part.map V.int)) := upd_same
  generalize upd H5 pw (.lst (part.map V.int)) = H6 at g6 hp6 hd6 hw6 ⊢
  have S6 := S.same g6
  refine ⟨F, ar, rws, s, pw, part, more, rfl, S6, hw6, by have := S.z1; omega, em, fun H7 pm g7 npm hm7 => ?_⟩
  have hp7 := g7 _ _ hp6
  refine ⟨p, pm, _, _, rfl, rfl, hp7, hm7, (by rw [List.length_map, List.length_map, List.length_reverse]; omega), ?_⟩
  refine ⟨_, _, more.reverse ++ r, fd ++ [(n, a)], rfl, same_mut (g6.trans g7) np _, ?_, by rw [upd_ne pd.symm]; exact g7 _ _ hd6, hk⟩
  rw [upd_same, List.reverse_append, List.reverse_reverse, List.map_append]
end
end Wk
set_option maxRecDepth 100000
set_option maxHeartbeats 4000000
/-! A rule of my own: C.m(x, ..), a def of a class called by the class's name. -/
namespace Wk
open PySem PySem.Spec PyProof.Rows L2
/-- where C.m is found, as a plain def -/
structure UFn (K : PySem.W.Frag) (C : Addr) (m : Str) (g : Addr) : Prop where
  r : ClX.CRead K C (.type "type")
  c : PySem.W.findCls K (.ref C) (.type "type") m = some (.val (.ref g))
  k : PySem.W.keepIn K (.ref g) = true
def tUMeth (C : Addr) (sp : Sp) (E : XK) (ta : TE) (t : TA) : TE := fun σ H Q => ta σ H fun x H1 => x = .ref C ∧ t σ H1 fun vs H2 => sp vs H2 Q E
section
variable {X : Cx} {CX : CXT} {k : Nat} {C g : Addr} {fd : FuncData} {ps : List Str} {sp : Sp} {E : XK} {o e : Expr} {es : List Expr} {m : Str} {pos apos : Pos} {ta : TE} {t : TA} {pl : Sem Bool}
theorem pe_ucall (he : PE X o ta) (u : UFn X.K C m g) (F : FnOk X.prog X.w X.K X.mg X.base CX k g fd ps sp) (hr : Room k X.A) (hb : Binds X.K fd ps []) (hx : Passes CX X E) (ha : PA X (e :: es) t)
    (hst : starEach (e :: es) X.env = (false, eval e X.env) :: starEach es X.env := by rfl) (hpl : (backTo pos (starEach es X.env)).any (·.1) = false := by rfl)
    (ht : eval (.Call (.Attribute o m apos) (e :: es) [] pos) X.env = (do
      let ov ← eval o X.env
      standAt apos.atName
      let (f, first) ← holding [ov] (getMethod ov m pl)
      callWith pos f first (backTo pos (starEach (e :: es) X.env)) (backToKw pos (keywordEach [] X.env))) := by rfl) :
    PE X (.Call (.Attribute o m apos) (e :: es) [] pos) (tUMeth C sp E ta t) := by
  refine ⟨fun pins s σ H Q I h => ?_⟩
  refine PySem.W.methodCall_KW (pl := pl) (thn (he.run pins s σ H _ I h) fun v s1 ⟨x, H1, I1, rx, ex, q⟩ => ?_) ht
  subst ex
  obtain rfl : v = Value.ref C := rx
  refine PySem.W.method_cls I1.kIn u.r.ga (ClX.getcval_ok I1 u.r (v := .ref g) ⟨u.c, rfl⟩ fun s2 I2 => ?_)
  refine PySem.W.callWith_K (h₀ := X.base) (first := []) I2.ok.mod.kin u.k (thn (ha.run pos pins s2 σ H1 _ I2 q) fun us s3 ⟨vs, H2, I3, rv, q2⟩ => ⟨I3.kIn, ?_⟩) hst hpl
  exact run_fn F hr hb .nil hx I3 rv (by rw [List.append_nil]; exact q2)
end
end Wk
set_option maxRecDepth 100000
set_option maxHeartbeats 4000000
namespace Wk
open PySem L2 TL PyProof.Rows Hm
open SX (S S_len)
def itV : Hm.It → List V
  | .word n => [.str (Str.ofString "word"), .int n]
  | .held h => [.str (Str.ofString "held"), .int h]
theorem row_look {H : Hp} {h : Int} : ∀ {rows : List (Int × Int)} {rws : List Addr}, Rows H rws rows → (match look rows h with
    | some w => ∃ r, valV (rowD rows rws) (.inl h : Key) = some (.ref r) ∧ H r = some (.lst [.int w]) ∧ r ∈ rws
    | none => valV (rowD rows rws) (.inl h : Key) = none)
  | [], [], _ => rfl
  | (k, w) :: qs, r :: rs, hr => by
    rw [look, rowD]
    by_cases e : k = h
    · rw [if_pos e]
      exact ⟨r, by rw [valV_pos (by show (Sum.inl k : Key) = _; rw [e])], hr.1, List.mem_cons_self⟩
    · rw [if_neg e, valV_neg (fun z => e (Sum.inl.inj z))]
      have ih := row_look (h := h) hr.2
      cases e2 : look qs h with
      | some w2 =>
        rw [e2] at ih
        obtain ⟨r2, h1, h2, h3⟩ := ih
        exact ⟨r2, h1, h2, List.mem_cons_of_mem _ h3⟩
      | none =>
        rw [e2] at ih
        exact ih
  | [], _ :: _, h => h.elim
  | _ :: _, [], h => h.elim
theorem row_some {H : Hp} {h w : Int} {rows : List (Int × Int)} {rws : List Addr} (hr : Rows H rws rows) (e : look rows h = some w) : ∃ r, valV (rowD rows rws) (.inl h : Key) = some (.ref r) ∧ H r = some (.lst [.int w]) ∧ r ∈ rws := by
  have := row_look (h := h) hr
  rw [e] at this; exact this
theorem row_is {H : Hp} {h : Int} {rows : List (Int × Int)} {rws : List Addr} (hr : Rows H rws rows) : (valV (rowD rows rws) (.inl h : Key)).isSome = (look rows h).isSome := by
  have := row_look (h := h) hr
  split at this
  · rename_i w e
    obtain ⟨r, h1, _⟩ := this
    rw [h1, e]; rfl
  · rename_i e
    rw [this, e]; rfl
theorem rows_app {H : Hp} {r : Addr} {h w : Int} (hr : H r = some (.lst [.int w])) : ∀ {rs : List Addr} {qs : List (Int × Int)}, Rows H rs qs → Rows H (rs ++ [r]) (qs ++ [(h, w)])
  | [], [], _ => ⟨hr, trivial⟩
  | _ :: _, _ :: _, g => ⟨g.1, rows_app hr g.2⟩
  | [], _ :: _, g => g.elim
  | _ :: _, [], g => g.elim
theorem rowD_app {r : Addr} {q : Int × Int} : ∀ {rs : List Addr} {qs : List (Int × Int)}, rs.length = qs.length → rowD (qs ++ [q]) (rs ++ [r]) = rowD qs rs ++ [(.inl q.1, .ref r)]
  | [], [], _ => rfl
  | a :: rs, p :: qs, h => by
    show (Sum.inl p.1, V.ref a) :: rowD (qs ++ [q]) (rs ++ [r]) = _
    rw [rowD_app (Nat.succ.inj h)]; rfl
  | [], _ :: _, h => by cases h
  | _ :: _, [], h => by cases h
def dropA : List (Int × Int) → List Addr → Int → List Addr
  | q :: qs, r :: rs, h => if q.1 = h then dropA qs rs h else r :: dropA qs rs h
  | _, _, _ => []
theorem dropA_sub {h : Int} : ∀ {qs : List (Int × Int)} {rs : List Addr}, (dropA qs rs h).Sublist rs
  | q :: qs, r :: rs => by
    rw [dropA]
    split
    · exact (dropA_sub (qs := qs)).cons _
    · exact (dropA_sub (qs := qs)).cons₂ _
  | [], _ => by rw [dropA]; exact List.nil_sublist _; intro _ _ _ _ z; cases z
  | _ :: _, [] => List.nil_sublist _
theorem dropA_rows {H : Hp} {h : Int} : ∀ {qs : List (Int × Int)} {rs : List Addr}, Rows H rs qs → Rows H (dropA qs rs h) (dropH qs h) ∧ dropK (rowD qs rs) (.inl h : Key) = rowD (dropH qs h) (dropA qs rs h)
  | [], [], _ => ⟨trivial, rfl⟩
  | q :: qs, r :: rs, g => by
    have ih := dropA_rows (h := h) g.2
    rw [dropA, rowD]
    unfold dropH dropK at ih ⊢
    rw [List.filter_cons, List.filter_cons]
    by_cases e : q.1 = h
    · rw [if_pos e, if_neg (by rw [decide_eq_true e]; exact Bool.false_ne_true), if_neg (by simp [e])]
      exact ih
    · rw [if_neg e, if_pos (by rw [decide_eq_false e]; rfl), if_pos (by simp [e])]
      refine ⟨⟨g.1, ih.1⟩, ?_⟩
      rw [ih.2]; rfl
  | [], _ :: _, g => g.elim
  | _ :: _, [], g => g.elim
section
variable {K : PySem.W.Frag} {C : Cs K} {F : Fx} {ar : Addr} {rws : List Addr} {H : Hp} {s : Bd}
theorem St.own_some (S : St C H F ar rws s) {b : Addr} (h : b ∈ F.ro :: (own7 F ar ++ rws)) : ∃ o, H b = some o := by
  rcases List.mem_cons.mp h with rfl | h
  · exact ⟨_, S.ro⟩
  rcases List.mem_append.mp h with z | z
  · simp only [own7, List.mem_cons, List.not_mem_nil, or_false] at z
    rcases z with rfl | rfl | rfl | rfl | rfl | rfl
    · exact ⟨_, S.ho⟩
    · exact ⟨_, S.bo⟩
    · exact ⟨_, S.aw⟩
    · exact ⟨_, S.tl⟩
    · exact ⟨_, S.ah⟩
    · exact ⟨_, S.rmd⟩
  · obtain ⟨v, e⟩ := rows_mem S.rw b z
    exact ⟨_, e⟩
/-- a handle more -/
theorem St.give {r : Addr} {wd : Int} (S : St C H F ar rws s) (nr : H r = none) (hl : s.rows.length < 100000) :
    Go C F ar rws H (upd (upd (upd H r (.lst [.int wd])) F.ah (.dK (rowD (s.rows ++ [(s.next, wd)]) (rws ++ [r])))) F.ho (.ins C.H F.hd (hdF F { s with rows := s.rows ++ [(s.next, wd)], next := s.next + 1 }))) ar (rws ++ [r]) { s with rows := s.rows ++ [(s.next, wd)], next := s.next + 1 } := by
  obtain ⟨n1, n2, n3, n4, n5, n6, n7, n8, n9, n10, n11, n12, n13, n14, n15⟩ := S.ndo
  have nrr : ∀ b, b ∈ F.ro :: (own7 F ar ++ rws) → b ≠ r := fun b hb z => by
    obtain ⟨o, e⟩ := S.own_some hb
    rw [z, nr] at e; cases e
  have m : ∀ b ∈ own7 F ar, b ≠ r := fun b hb => nrr b (List.mem_cons_of_mem _ (List.mem_append_left _ hb))
  have nah := S.ndr F.ah (by simp [own7])
  have nho := S.ndr F.ho (by simp [own7])
  refine ⟨⟨?_, ?_, ?_, ?_, upd_same, ?_, ?_, ?_, ?_, S.z1, ?_, S.z3, S.z4, S.z5⟩, ?_⟩
  · rw [upd_ne n1.symm, upd_ne n8, upd_ne (m F.bo (by simp [own7]))]; exact S.bo
  · rw [upd_ne n2.symm, upd_ne n11, upd_ne (m F.aw (by simp [own7]))]; exact S.aw
  · rw [upd_ne n5.symm, upd_ne n15.symm, upd_ne (m ar (by simp [own7]))]; exact S.rmd
  · rw [upd_ne n3.symm, upd_ne n13, upd_ne (m F.tl (by simp [own7]))]; exact S.tl
  · rw [upd_ne n4.symm, upd_same]
  · refine rows_app ?_ ?_
    · rw [upd_ne (m F.ho (by simp [own7])).symm, upd_ne (m F.ah (by simp [own7])).symm, upd_same]
    · refine rows_keep (fun q hq u e => ?_) S.rw
      rw [upd_ne (fun z => nho.1 (by rw [← z]; exact hq)), upd_ne (fun z => nah.1 (by rw [← z]; exact hq)), upd_ne (nrr q (List.mem_cons_of_mem _ (List.mem_append_right _ hq)))]
      exact e
  · rw [upd_ne nho.2.symm, upd_ne nah.2.symm, upd_ne (nrr F.ro List.mem_cons_self)]; exact S.ro
  · rw [show F.ro :: (own7 F ar ++ (rws ++ [r])) = (F.ro :: (own7 F ar ++ rws)) ++ [r] from by rw [List.cons_append, List.append_assoc]]
    exact List.nodup_append.mpr ⟨S.nd, List.nodup_cons.mpr ⟨List.not_mem_nil, List.nodup_nil⟩, fun b hb c hc z => nrr b hb (by rw [z]; exact List.mem_singleton.mp hc)⟩
  · rw [List.length_append]; exact hl
  · intro b u nb e
    have br : b ≠ r := fun z => by rw [z, nr] at e; cases e
    refine ⟨fun z => ?_, ?_⟩
    · rcases z with z | z
      · exact nb (.inl z)
      · rcases List.mem_append.mp z with z | z
        · exact nb (.inr z)
        · exact br (List.mem_singleton.mp z)
    · rw [upd_ne (fun z => nb (by rw [z]; exact own_ho)), upd_ne (fun z => nb (by rw [z]; exact own_ah)), upd_ne br]; exact e
/-- a handle less -/
theorem St.less {h : Int} (S : St C H F ar rws s) : Go C F ar rws H (upd H F.ah (.dK (rowD (dropH s.rows h) (dropA s.rows rws h)))) ar (dropA s.rows rws h) { s with rows := dropH s.rows h } := by
  obtain ⟨n1, n2, n3, n4, n5, n6, n7, n8, n9, n10, n11, n12, n13, n14, n15⟩ := S.ndo
  have nah := S.ndr F.ah (by simp [own7])
  have hs : ∀ b ∈ dropA s.rows rws h, b ∈ rws := fun b hb => dropA_sub.subset hb
  have nah2 : F.ah ∉ dropA s.rows rws h := fun z => nah.1 (hs _ z)
  refine ⟨⟨by rw [upd_ne n8]; exact S.bo, by rw [upd_ne n11]; exact S.aw, by rw [upd_ne n15.symm]; exact S.rmd, by rw [upd_ne n13]; exact S.tl, by rw [upd_ne n4]; exact S.ho, upd_same, rows_off nah2 (dropA_rows S.rw).1, by rw [upd_ne nah.2.symm]; exact S.ro, ?_, S.z1, ?_, S.z3, S.z4, S.z5⟩, ?_⟩
  · exact List.Sublist.nodup ((List.Sublist.append_left dropA_sub _).cons₂ _) S.nd
  · exact Nat.le_trans (List.length_filter_le _ _) S.z2
  · intro b u nb e
    refine ⟨fun z => ?_, ?_⟩
    · rcases z with z | z
      · exact nb (.inl z)
      · exact nb (.inr (hs _ z))
    · rw [upd_ne (fun z => nb (by rw [z]; exact own_ah))]; exact e
end
section
variable {P : Program} {w : World} {K : PySem.W.Frag} {mg : Str → Option Value} {base : Heap}
abbrev s_Heap__word_held : Stmt := inClass (top 69) 4
theorem sc_Heap__word_held : FnScope ["self", "handle"] ["self", "handle"] (defScope s_Heap__word_held) := ⟨rfl, rfl, rfl, by decide +kernel, rfl, by decide +kernel, by decide +kernel⟩
def sp_hword (C : Cs K) : Sp := fun vs H Q _ => ∃ F ar rws s h w, vs = [.ref F.ho, .int h] ∧ St C H F ar rws s ∧ look s.rows h = some w ∧ Q (.int w) H
theorem ok_hword (C : Cs K) {f : Addr} {fd : FuncData} (F : Fun K "word_held" "Heap.word_held" s_Heap__word_held f fd) (D_is_integer : Def P w K mg base CX0 "is_integer" ["thing"] 1 sp_is_integer) : FnOk P w K mg base CX0 2 f fd ["self", "handle"] (sp_hword C) := by
  refine F.ok sc_Heap__word_held (fun vs H Q E h => ?_) (fun cdv A outer s H vs Q E hr h => ?_)
  · obtain ⟨_, _, _, _, _, _, rfl, _⟩ := h; rfl
  obtain ⟨F, ar, rws, s, h, wd, rfl, S, hl, q⟩ := h
  refine ⟨_, (pss_cons (ps_if (PW.pt (pw_or (pt_not (pt_val (pe_call D_is_integer.ok (hr.mono (by omega)) rfl D_is_integer.g D_is_integer.k D_is_integer.b .nil pass0 (pa_cons (pv 1) pa_nil)))) (pw_or1 (pt_cmp (pc_dnotin (hu1 hr) (pv 1) (pe_fld (pv 0) rfl)))))) (pss_one ps_no) pss_nil)
    (pss_one (ps_ret (pe_ix ix_seq (pe_dget (hu1 hr) (pe_fld (pv 0) rfl) (pv 1) (fun _ _ => rfl)) pe_int (fun _ _ => rfl))))), ?_⟩
  obtain ⟨r, h1, h2, h3⟩ := row_some S.rw hl
  refine ⟨_, rfl, .int h, rfl, .int h, _, rfl, ?_⟩
  refine iteF ⟨_, rfl, (⟨_, rfl, _, _, _, _, _, rfl, St.ho S, Cs.hcl _, C.handles, rfl, ⟨F.ah, _, rfl, DGet.k (k := Sum.inl h) S.ah, _, rfl, ?_⟩⟩)⟩
  rw [h1]
  refine iteF (go_next ?_)
  refine (⟨_, rfl, _, _, _, _, _, rfl, St.ho S, Cs.hcl _, C.handles, rfl, ⟨_, rfl, F.ah, .ref r, rfl, (by have := DGet.k (k := Sum.inl h) S.ah; rw [h1] at this; exact this), ?_⟩⟩)
  exact .inl ⟨r, _, _, _, rfl, rfl, SqL.of h2, atI_nat (j := 0) rfl, q⟩
abbrev s_Heap__address_held : Stmt := inClass (top 69) 5
theorem sc_Heap__address_held : FnScope ["self", "handle", "word"] ["self", "handle"] (defScope s_Heap__address_held) := ⟨rfl, rfl, rfl, by decide +kernel, rfl, by decide +kernel, by decide +kernel⟩
def sp_haddr (C : Cs K) : Sp := fun vs H Q _ => ∃ F ar rws s h w, vs = [.ref F.ho, .int h] ∧ St C H F ar rws s ∧ look s.rows h = some w ∧ isT w = true ∧ Q (.int (w / 8)) H
theorem ok_haddr (T : Txt K mg base) (C : Cs K) {f : Addr} {fd : FuncData} (F : Fun K "address_held" "Heap.address_held" s_Heap__address_held f fd) (D_is_things : Def P w K mg base CX0 "is_things" ["word"] 1 sp_isthings) (Mh_word_held : MD P w K mg base CX0 C.H "word_held" ["self", "handle"] 2 (sp_hword C)) : FnOk P w K mg base CX0 3 f fd ["self", "handle"] (sp_haddr C) := by
  refine F.ok sc_Heap__address_held (fun vs H Q E h => ?_) (fun cdv A outer s H vs Q E hr h => ?_)
  · obtain ⟨_, _, _, _, _, _, rfl, _⟩ := h; rfl
  obtain ⟨F, ar, rws, s, h, wd, rfl, S, hl, ht, q⟩ := h
  refine ⟨_, (pss_cons (ps_set (i := 2) sc_Heap__address_held.nd rfl (Or.inl rfl) (pe_meth (pv 0) C.hcl Mh_word_held.m Mh_word_held.ok (hr.mono (by omega)) Mh_word_held.b .nil pass0 (pa_cons (pv 1) pa_nil)))
    (pss_cons (ps_if (pt_not (pt_val (pe_call D_is_things.ok (hr.mono (by omega)) rfl D_is_things.g D_is_things.k D_is_things.b .nil pass0 (pa_cons (pv 2) pa_nil)))) (pss_one ps_no) pss_nil)
    (pss_one (ps_ret (pe_op op_fdivW (pv 2) (pe_glob (v := .int 8) rfl T.mTAGS ⟨_, rfl⟩)))))), ?_⟩
  refine seq_set ⟨_, rfl, F.ho, F.hd, _, rfl, S.ho, rfl, _, rfl, F, ar, rws, s, h, wd, rfl, S, hl, ?_⟩
  refine ⟨_, rfl, wd, rfl, _, rfl, ?_⟩
  rw [ht]
  exact iteF (go_next ⟨_, rfl, _, _, rfl, rfl, ⟨by decide, by decide⟩, q⟩)
abbrev s_Heap__is_item : Stmt := inClass (top 69) 6
theorem sc_Heap__is_item : FnScope ["self", "thing"] ["self", "thing"] (defScope s_Heap__is_item) := ⟨rfl, rfl, rfl, by decide +kernel, rfl, by decide +kernel, by decide +kernel⟩
def sp_hisitem (C : Cs K) : Sp := fun vs H Q _ => ∃ F ar rws s p, ∃ it : Hm.It, vs = [.ref F.ho, .ref p] ∧ St C H F ar rws s ∧ H p = some (.tup (itV it)) ∧ Q (.bl (itemOk s it)) H
theorem ok_hisitem (T : Txt K mg base) (C : Cs K) {f : Addr} {fd : FuncData} (F : Fun K "is_item" "Heap.is_item" s_Heap__is_item f fd) (D_is_integer : Def P w K mg base CX0 "is_integer" ["thing"] 1 sp_is_integer) (D_is_things : Def P w K mg base CX0 "is_things" ["word"] 1 sp_isthings) (D_is_word : Def P w K mg base CX0 "is_word" ["thing"] 3 sp_is_word) : FnOk P w K mg base CX0 4 f fd ["self", "thing"] (sp_hisitem C) := by
  refine F.ok sc_Heap__is_item (fun vs H Q E h => ?_) (fun cdv A outer s H vs Q E hr h => ?_)
  · obtain ⟨_, _, _, _, _, _, rfl, _⟩ := h; rfl
  obtain ⟨F, ar, rws, s, p, it, rfl, S, hp, q⟩ := h
  refine ⟨_, (pss_cons (ps_if (PW.pt (pw_or (pt_not (pt_val (pe_callB call_isi rfl T.n_isinstance boot_isinstance (pa_cons (pv 1) (pa_cons (pe_bltn (v := .ty "tuple") rfl T.n_tuple boot_tuple rfl) pa_nil))))) (pw_or (pt_cmpR op_ne (pe_callB call_len_seq rfl T.n_len boot_len (pa_cons (pv 1) pa_nil)) pe_int (nomark _)) (pw_or1 (pt_not (pt_val (pe_callB call_isi rfl T.n_isinstance boot_isinstance (pa_cons (pe_ix ix_tup (pv 1) pe_int (fun _ _ => rfl)) (pa_cons (pe_bltn (v := .ty "str") rfl T.n_str boot_str rfl) pa_nil))))))))) (pss_one (ps_ret pe_bl)) pss_nil)
    (pss_cons (ps_if (pt_cmpR op_eq (pe_ix ix_tup (pv 1) pe_int (fun _ _ => rfl)) pe_str (nomark _)) (pss_one (ps_ret (pe_and (pe_call D_is_integer.ok (hr.mono (by omega)) rfl D_is_integer.g D_is_integer.k D_is_integer.b .nil pass0 (pa_cons (pe_ix ix_tup (pv 1) pe_int (fun _ _ => rfl)) pa_nil)) (pe_one (pe_cmp (pc_din (hu1 hr) (pe_ix ix_tup (pv 1) pe_int (fun _ _ => rfl)) (pe_fld (pv 0) rfl))))))) pss_nil)
    (pss_one (ps_ret (pe_and (pe_cmpR op_eq (pe_ix ix_tup (pv 1) pe_int (fun _ _ => rfl)) pe_str (nomark _)) (pe_and (pe_call D_is_word.ok (hr.mono (by omega)) rfl D_is_word.g D_is_word.k D_is_word.b .nil pass0 (pa_cons (pe_ix ix_tup (pv 1) pe_int (fun _ _ => rfl)) pa_nil)) (pe_one (pe_not (pe_call D_is_things.ok (hr.mono (by omega)) rfl D_is_things.g D_is_things.k D_is_things.b .nil pass0 (pa_cons (pe_ix ix_tup (pv 1) pe_int (fun _ _ => rfl)) pa_nil)))))))))), ?_⟩
  have ty : TyX K H (.ref p) (.type "tuple") := .base (.tup hp)
  refine ⟨_, rfl, .ref p, .ty "tuple", .type "tuple", .type "tuple", true, rfl, .ty "tuple", ty, kit_ty (by decide +kernel), _, rfl, ?_⟩
  refine iteF ⟨_, rfl, p, _, rfl, .inr (SqT.of hp), ?_⟩
  cases it with
  | held h =>
    refine ⟨rfl, _, rfl, ?_⟩
    refine iteF ⟨_, rfl, p, _, _, _, rfl, rfl, SqT.of hp, atI_nat (j := 0) rfl, _, .ty "str", .type "str", .type "str", true, rfl, .ty "str", .base (.str _), kit_ty (by decide +kernel), _, rfl, ?_⟩
    refine iteF (go_next ?_)
    refine ⟨_, rfl, p, _, _, _, rfl, rfl, SqT.of hp, atI_nat (j := 0) rfl, rfl, _, rfl, ?_⟩
    rw [decide_eq_true rfl]
    refine iteT ?_
    refine ⟨_, rfl, p, _, _, _, rfl, rfl, SqT.of hp, atI_nat (j := 1) rfl, _, rfl, .int h, _, rfl, iteT ⟨_, rfl, p, _, _, _, rfl, rfl, SqT.of hp, atI_nat (j := 1) rfl, (⟨_, rfl, _, _, _, _, _, rfl, St.ho S, Cs.hcl _, C.handles, rfl, ⟨F.ah, _, rfl, DGet.k (k := Sum.inl h) S.ah, ?_⟩⟩)⟩⟩
    rw [row_is S.rw]
    exact q
  | word n =>
    refine ⟨rfl, _, rfl, ?_⟩
    refine iteF ⟨_, rfl, p, _, _, _, rfl, rfl, SqT.of hp, atI_nat (j := 0) rfl, _, .ty "str", .type "str", .type "str", true, rfl, .ty "str", .base (.str _), kit_ty (by decide +kernel), _, rfl, ?_⟩
    refine iteF (go_next ?_)
    refine ⟨_, rfl, p, _, _, _, rfl, rfl, SqT.of hp, atI_nat (j := 0) rfl, rfl, _, rfl, ?_⟩
    rw [show decide (V.str (Str.ofString "word") = V.str (Str.ofString "held")) = false from by decide +kernel]
    refine iteF (go_next ?_)
    refine ⟨_, rfl, p, _, _, _, rfl, rfl, SqT.of hp, atI_nat (j := 0) rfl, rfl, _, rfl, ?_⟩
    rw [decide_eq_true rfl]
    refine iteT ⟨_, rfl, p, _, _, _, rfl, rfl, SqT.of hp, atI_nat (j := 1) rfl, _, rfl, .int n, _, rfl, ?_⟩
    have q : Q (.bl (isW (.int n) && !isT n)) H := q
    cases hw : isW (.int n) with
    | false =>
      rw [hw, Bool.false_and] at q
      exact iteF q
    | true =>
      rw [hw, Bool.true_and] at q
      exact iteT ⟨_, rfl, p, _, _, _, rfl, rfl, SqT.of hp, atI_nat (j := 1) rfl, n, rfl, _, rfl, q⟩
abbrev s_Heap__word_of_item : Stmt := inClass (top 69) 7
theorem sc_Heap__word_of_item : FnScope ["self", "item"] ["self", "item"] (defScope s_Heap__word_of_item) := ⟨rfl, rfl, rfl, by decide +kernel, rfl, by decide +kernel, by decide +kernel⟩
def sp_hworth (C : Cs K) : Sp := fun vs H Q _ => ∃ F ar rws s p, ∃ it : Hm.It, ∃ n, vs = [.ref F.ho, .ref p] ∧ St C H F ar rws s ∧ H p = some (.tup (itV it)) ∧ worth s it = some n ∧ Q (.int n) H
theorem ok_hworth (T : Txt K mg base) (C : Cs K) {f : Addr} {fd : FuncData} (F : Fun K "word_of_item" "Heap.word_of_item" s_Heap__word_of_item f fd) : FnOk P w K mg base CX0 1 f fd ["self", "item"] (sp_hworth C) := by
  refine F.ok sc_Heap__word_of_item (fun vs H Q E h => ?_) (fun cdv A outer s H vs Q E hr h => ?_)
  · obtain ⟨_, _, _, _, _, _, _, rfl, _⟩ := h; rfl
  obtain ⟨F, ar, rws, s, p, it, n, rfl, S, hp, hw, q⟩ := h
  refine ⟨_, (pss_one (ps_ret (pe_ifExp (pt_cmpR op_eq (pe_ix ix_tup (pv 1) pe_int (fun _ _ => rfl)) pe_str (nomark _)) (pe_ix ix_seq (pe_dget (hu1 hr) (pe_fld (pv 0) rfl) (pe_ix ix_tup (pv 1) pe_int (fun _ _ => rfl)) (fun _ _ => rfl)) pe_int (fun _ _ => rfl)) (pe_ix ix_tup (pv 1) pe_int (fun _ _ => rfl))))), ?_⟩
  cases it with
  | held h =>
    obtain ⟨r, h1, h2, h3⟩ := row_some S.rw (show look s.rows h = some n from hw)
    refine ⟨_, rfl, p, _, _, _, rfl, rfl, SqT.of hp, atI_nat (j := 0) rfl, rfl, _, rfl, ?_⟩
    rw [decide_eq_true rfl]
    refine iteT ((⟨_, rfl, _, _, _, _, _, rfl, St.ho S, Cs.hcl _, C.handles, rfl, ⟨_, rfl, p, _, _, _, rfl, rfl, SqT.of hp, atI_nat (j := 1) rfl, F.ah, .ref r, rfl, (by have := DGet.k (k := Sum.inl h) S.ah; rw [h1] at this; exact this), ?_⟩⟩))
    exact .inl ⟨r, _, _, _, rfl, rfl, SqL.of h2, atI_nat (j := 0) rfl, q⟩
  | word m =>
    cases hw
    refine ⟨_, rfl, p, _, _, _, rfl, rfl, SqT.of hp, atI_nat (j := 0) rfl, rfl, _, rfl, ?_⟩
    rw [show decide (V.str (Str.ofString "word") = V.str (Str.ofString "held")) = false from by decide +kernel]
    exact iteF ⟨_, rfl, p, _, _, _, rfl, rfl, SqT.of hp, atI_nat (j := 1) rfl, q⟩
abbrev s_Heap__address_with_place : Stmt := inClass (top 69) 8
theorem sc_Heap__address_with_place : FnScope ["self", "handle", "place", "at"] ["self", "handle", "place"] (defScope s_Heap__address_with_place) := ⟨rfl, rfl, rfl, by decide +kernel, rfl, by decide +kernel, by decide +kernel⟩
def sp_haddrp (C : Cs K) : Sp := fun vs H Q _ => ∃ F ar rws s h w p hd, vs = [.ref F.ho, .int h, .int p] ∧ St C H F ar rws s ∧ look s.rows h = some w ∧ isT w = true ∧ gI s.words (w / 8) = some hd ∧ 0 ≤ p ∧ p < hd / 8 ∧ Q (.int (w / 8)) H
theorem ok_haddrp (T : Txt K mg base) (C : Cs K) {f : Addr} {fd : FuncData} (F : Fun K "address_with_place" "Heap.address_with_place" s_Heap__address_with_place f fd) (D_is_integer : Def P w K mg base CX0 "is_integer" ["thing"] 1 sp_is_integer) (Mh_address_held : MD P w K mg base CX0 C.H "address_held" ["self", "handle"] 3 (sp_haddr C)) (Mb_size_at : MD P w K mg base CX0 C.B "size_at" ["self", "at"] 1 (sp_bsizeat C)) : FnOk P w K mg base CX0 4 f fd ["self", "handle", "place"] (sp_haddrp C) := by
  refine F.ok sc_Heap__address_with_place (fun vs H Q E h => ?_) (fun cdv A outer s H vs Q E hr h => ?_)
  · obtain ⟨_, _, _, _, _, _, _, _, rfl, _⟩ := h; rfl
  obtain ⟨F, ar, rws, s, h, wd, p, hd, rfl, S, hl, ht, hh, h0, h1, q⟩ := h
  refine ⟨_, (pss_cons (ps_set (i := 3) sc_Heap__address_with_place.nd rfl (Or.inl rfl) (pe_meth (pv 0) C.hcl Mh_address_held.m Mh_address_held.ok (hr.mono (by omega)) Mh_address_held.b .nil pass0 (pa_cons (pv 1) pa_nil)))
    (pss_cons (ps_if (PW.pt (pw_or (pt_not (pt_val (pe_call D_is_integer.ok (hr.mono (by omega)) rfl D_is_integer.g D_is_integer.k D_is_integer.b .nil pass0 (pa_cons (pv 2) pa_nil)))) (pw_or1 (pt_not (pt_chain op_le op_lt pe_int (pv 2) (pe_meth (pe_fld (pv 0) rfl) C.bcl Mb_size_at.m Mb_size_at.ok (hr.mono (by omega)) Mb_size_at.b .nil pass0 (pa_cons (pv 3) pa_nil))))))) (pss_one ps_no) pss_nil)
    (pss_one (ps_ret (pv 3))))), ?_⟩
  refine seq_set ⟨_, rfl, F.ho, F.hd, _, rfl, S.ho, rfl, _, rfl, F, ar, rws, s, h, wd, rfl, S, hl, ht, ?_⟩
  refine ⟨_, rfl, .int p, rfl, .int p, _, rfl, ?_⟩
  refine iteF ⟨_, rfl, _, _, rfl, rfl, _, rfl, ?_⟩
  rw [decide_eq_true h0]
  refine iteT ((⟨_, rfl, _, _, _, _, _, rfl, St.ho S, Cs.hcl _, C.store, rfl, ⟨F.bo, F.bd, _, rfl, S.bo, rfl, _, rfl, F, ar, rws, s, _, hd, rfl, S, hh, _, _, rfl, rfl, _, rfl, ?_⟩⟩))
  rw [decide_eq_true h1]
  exact iteF (go_next ⟨_, rfl, q⟩)
abbrev s_Heap__give_handle : Stmt := inClass (top 69) 3
theorem sc_Heap__give_handle : FnScope ["self", "word", "handle"] ["self", "word"] (defScope s_Heap__give_handle) := ⟨rfl, rfl, rfl, by decide +kernel, rfl, by decide +kernel, by decide +kernel⟩
def sp_hgive (C : Cs K) : Sp := fun vs H Q _ => ∃ F ar rws s w n s', vs = [.ref F.ho, .int w] ∧ St C H F ar rws s ∧ give s w = some (n, s') ∧ ∀ H' rws', Go C F ar rws H H' ar rws' s' → Q (.int n) H'
theorem ok_hgive (T : Txt K mg base) (C : Cs K) {f : Addr} {fd : FuncData} (F : Fun K "give_handle" "Heap.give_handle" s_Heap__give_handle f fd) : FnOk P w K mg base CX0 1 f fd ["self", "word"] (sp_hgive C) := by
  refine F.ok sc_Heap__give_handle (fun vs H Q E h => ?_) (fun cdv A outer s H vs Q E hr h => ?_)
  · obtain ⟨_, _, _, _, _, _, _, rfl, _⟩ := h; rfl
  obtain ⟨F, ar, rws, s, wd, n, s', rfl, S, hm, q⟩ := h
  refine ⟨_, (pss_cons (ps_set (i := 2) sc_Heap__give_handle.nd rfl (Or.inl rfl) (pe_fld (pv 0) rfl))
    (pss_cons (ps_dput (hu1 hr) (pe_fld (pv 0) rfl) (pv 2) (pe_lst (pa_cons (pv 1) pa_nil)) rfl)
    (pss_cons (ps_fldaug (pv 0) pe_int in_add)
    (pss_one (ps_ret (pv 2)))))), ?_⟩
  unfold give at hm
  split at hm
  · cases hm
  rename_i hc
  injection hm with hm
  injection hm with hm1 hm2
  subst hm1
  subst hm2
  have hz := line_eq
  refine seq_set ((⟨_, rfl, _, _, _, _, _, rfl, St.ho S, Cs.hcl _, C.next, rfl, ?_⟩))
  refine ⟨_, rfl, (by show 1 ≤ sizeLine; rw [hz]; decide), fun r nr => ?_⟩
  have hno : (look s.rows s.next).isSome = false := by
    cases e : (look s.rows s.next).isSome with
    | false => rfl
    | true => exact (hc (.inl e)).elim
  have hl : s.rows.length < 100000 := Nat.lt_of_not_le fun z => hc (.inr z)
  have hlen := rows_len S.rw
  have eput : putK (rowD s.rows rws) (.inl s.next : Key) (.ref r) = rowD (s.rows ++ [(s.next, wd)]) (rws ++ [r]) := by
    rw [rowD_app hlen]
    unfold putK
    rw [valV_any, row_is S.rw, hno, if_neg Bool.false_ne_true]
  have G := S.give (wd := wd) nr hl
  have S1 := S.same (same_new nr (.lst [.int wd]))
  refine (⟨_, rfl, _, _, _, _, _, rfl, St.ho S1, Cs.hcl _, C.handles, rfl, ⟨_, rfl, F.ah, _, rfl, DPut.k (k := Sum.inl s.next) S1.ah (by
    have : (rowD s.rows rws).length = s.rows.length := by
      have := congrArg List.length (rowD_snd hlen)
      rw [List.length_map, List.length_map] at this
      omega
    omega), ?_⟩⟩)
  rw [eput]
  have n4 := S.ndo.2.2.2.1
  have ho2 : (upd (upd H r (.lst [.int wd])) F.ah (.dK (rowD (s.rows ++ [(s.next, wd)]) (rws ++ [r])))) F.ho = some (.ins C.H F.hd (hdF F s)) := by rw [upd_ne n4]; exact S1.ho
  refine ⟨_, rfl, _, _, _, _, _, rfl, ho2, C.hcl, C.next, rfl, ?_⟩
  exact ⟨_, _, rfl, rfl, _, _, ho2, (by show 3 < 1000; omega), _, rfl, q _ _ G⟩
abbrev s_Heap__drop : Stmt := inClass (top 69) 11
theorem sc_Heap__drop : FnScope ["self", "handle"] ["self", "handle"] (defScope s_Heap__drop) := ⟨rfl, rfl, rfl, by decide +kernel, rfl, by decide +kernel, by decide +kernel⟩
def sp_hdrop (C : Cs K) : Sp := fun vs H Q _ => ∃ F ar rws s h s', vs = [.ref F.ho, .int h] ∧ St C H F ar rws s ∧ drop s h = some s' ∧ ∀ H' rws', Go C F ar rws H H' ar rws' s' → Q .non H'
theorem ok_hdrop (C : Cs K) {f : Addr} {fd : FuncData} (F : Fun K "drop" "Heap.drop" s_Heap__drop f fd) (Mh_word_held : MD P w K mg base CX0 C.H "word_held" ["self", "handle"] 2 (sp_hword C)) : FnOk P w K mg base CX0 3 f fd ["self", "handle"] (sp_hdrop C) := by
  refine F.ok sc_Heap__drop (fun vs H Q E h => ?_) (fun cdv A outer s H vs Q E hr h => ?_)
  · obtain ⟨_, _, _, _, _, _, rfl, _⟩ := h; rfl
  obtain ⟨F, ar, rws, s, h, s', rfl, S, hm, q⟩ := h
  refine ⟨_, (pss_cons (ps_expr (pe_meth (pv 0) C.hcl Mh_word_held.m Mh_word_held.ok (hr.mono (by omega)) Mh_word_held.b .nil pass0 (pa_cons (pv 1) pa_nil)))
    (pss_one (ps_ddel (pe_fld (pv 0) rfl) (pv 1)))), ?_⟩
  unfold drop at hm
  cases e : look s.rows h with
  | none => rw [e] at hm; cases hm
  | some wd =>
  rw [e] at hm
  cases hm
  obtain ⟨r, h1, h2, h3⟩ := row_some S.rw e
  refine ⟨_, rfl, F.ho, F.hd, _, rfl, S.ho, rfl, _, rfl, F, ar, rws, s, h, wd, rfl, S, e, ?_⟩
  refine (⟨_, rfl, _, _, _, _, _, rfl, St.ho S, Cs.hcl _, C.handles, rfl, ⟨_, rfl, F.ah, _, Sum.inl h, rfl, S.ah, rfl, (by rw [h1]; rfl), ?_⟩⟩)
  rw [(dropA_rows S.rw).2]
  exact q _ _ S.less
end
end Wk
set_option maxRecDepth 100000
set_option maxHeartbeats 4000000
namespace Wk
open PySem L2 TL PyProof.Rows Hm
open SX (S S_len)
theorem SortIs.eq {x y : String} {k j : Nat} (h : SortIs x k) (g : SortIs y j) : decide (V.str (SX.S (codes x)) = V.str (Str.ofString y)) = decide (k = j) := by
  unfold SortIs sortL at h g
  rcases k with _ | _ | _ | _ | _ | _ | k
  all_goals first | (simp at h; done) | skip
  all_goals rcases j with _ | _ | _ | _ | _ | _ | j
  all_goals first | (simp at g; done) | skip
  all_goals (cases h; cases g; decide +kernel)
theorem SortIs.inLC {x : String} {k : Nat} (h : SortIs x k) : inV (V.str (SX.S (codes x))) [V.str (Str.ofString "list"), V.str (Str.ofString "cell")] = (k == 1 || k == 4) := by
  unfold SortIs sortL at h
  rcases k with _ | _ | _ | _ | _ | _ | k
  all_goals first | (simp at h; done) | skip
  all_goals (cases h; decide +kernel)
theorem SortIs.inS {x : String} {k : Nat} (h : SortIs x k) : inV (V.str (SX.S (codes x))) (sortL.map fun x => V.str (Str.ofString x)) = true := by
  unfold SortIs sortL at h
  rcases k with _ | _ | _ | _ | _ | _ | k
  all_goals first | (simp at h; done) | skip
  all_goals (cases h; decide +kernel)
theorem eqI {a b : Int} : decide (V.int a = V.int b) = (a == b) := by
  by_cases e : a = b
  · rw [e]; simp
  · rw [decide_eq_false (fun z => e (V.int.inj z))]
    exact (beq_eq_false_iff_ne.mpr e).symm
section
variable {P : Program} {w : World} {K : PySem.W.Frag} {mg : Str → Option Value} {base : Heap}
abbrev s_is_sign : Stmt := top 39
theorem sc_is_sign : FnScope ["number"] ["number"] (defScope s_is_sign) := ⟨rfl, rfl, rfl, by decide +kernel, rfl, by decide +kernel, by decide +kernel⟩
def sp_issign : Sp := fun vs H Q _ => ∃ n, vs = [.int n] ∧ Q (.bl (decide (32 ≤ n) && decide (n ≤ 126) && n != 37)) H
theorem ok_issign (T : Txt K mg base) (T5 : Txt5 K w mg) {f : Addr} {fd : FuncData} (F : Fun K "is_sign" "is_sign" s_is_sign f fd) : FnOk P w K mg base CX0 1 f fd ["number"] sp_issign := by
  refine F.ok sc_is_sign (fun vs H Q E h => ?_) (fun cdv A outer s H vs Q E hr h => ?_)
  · obtain ⟨_, rfl, _⟩ := h; rfl
  obtain ⟨n, rfl, q⟩ := h
  refine ⟨_, (pss_one (ps_ret (pe_and (pe_chain op_le op_le (pe_glob (v := .int 32) rfl T5.mFIRST_SIGN ⟨_, rfl⟩) (pv 0) (pe_glob (v := .int 126) rfl T5.mLAST_SIGN ⟨_, rfl⟩)) (pe_one (pe_cmpR op_ne (pv 0) (pe_glob (v := .int 37) rfl T5.mBARRED_SIGN ⟨_, rfl⟩) (nomark _)))))), ?_⟩
  refine ⟨_, rfl, _, _, rfl, rfl, _, rfl, ?_⟩
  by_cases h1 : 32 ≤ n
  · rw [decide_eq_true h1] at q ⊢
    refine iteT ⟨_, _, rfl, rfl, _, rfl, ?_⟩
    by_cases h2 : n ≤ 126
    · rw [decide_eq_true h2] at q ⊢
      refine iteT ⟨_, rfl, rfl, ?_⟩
      show Q (.bl (!decide (V.int n = V.int 37))) H
      rw [neI]
      rw [Bool.true_and, Bool.true_and] at q
      exact q
    · rw [decide_eq_false h2] at q ⊢
      exact iteF q
  · rw [decide_eq_false h1] at q ⊢
    exact iteF ⟨_, rfl, iteF q⟩
abbrev s_is_signs : Stmt := top 38
theorem sc_is_signs : FnScope ["word"] ["word"] (defScope s_is_signs) := ⟨rfl, rfl, rfl, by decide +kernel, rfl, by decide +kernel, by decide +kernel⟩
def sp_issigns : Sp := fun vs H Q _ => ∃ n, vs = [.int n] ∧ Q (.bl (isSigns n)) H
theorem ok_issigns (T : Txt K mg base) {f : Addr} {fd : FuncData} (F : Fun K "is_signs" "is_signs" s_is_signs f fd) (D_is_sign : Def P w K mg base CX0 "is_sign" ["number"] 1 sp_issign) : FnOk P w K mg base CX0 2 f fd ["word"] sp_issigns := by
  refine F.ok sc_is_signs (fun vs H Q E h => ?_) (fun cdv A outer s H vs Q E hr h => ?_)
  · obtain ⟨_, rfl, _⟩ := h; rfl
  obtain ⟨n, rfl, q⟩ := h
  refine ⟨_, (pss_one (ps_ret (pe_and (pe_cmpR op_eq (pe_op op_andM (pv 0) (pe_op op_sub (pe_glob (v := .int 8) rfl T.mTAGS ⟨_, rfl⟩) pe_int)) (pe_glob (v := .int 1) rfl T.mINTEGER_TAG ⟨_, rfl⟩) (nomark _)) (pe_one (pe_call D_is_sign.ok (hr.mono (by omega)) rfl D_is_sign.g D_is_sign.k D_is_sign.b .nil pass0 (pa_cons (pe_op op_fdivW (pv 0) (pe_glob (v := .int 8) rfl T.mTAGS ⟨_, rfl⟩)) pa_nil)))))), ?_⟩
  refine ⟨_, rfl, _, _, rfl, rfl, n, 3, rfl, rfl, rfl, _, rfl, ?_⟩
  rw [show (2 : Int) ^ 3 = 8 from by decide, eqI]
  unfold isSigns at q
  cases h1 : (n % 8 == 1) with
  | false =>
    rw [h1, Bool.false_and] at q
    exact iteF q
  | true =>
    rw [h1, Bool.true_and] at q
    exact iteT ⟨_, rfl, _, _, rfl, rfl, ⟨by decide, by decide⟩, _, rfl, q⟩
abbrev s_may_be_many : Stmt := top 36
theorem sc_may_be_many : FnScope ["sort", "many"] ["sort", "many"] (defScope s_may_be_many) := ⟨rfl, rfl, rfl, by decide +kernel, rfl, by decide +kernel, by decide +kernel⟩
def sp_maymany : Sp := fun vs H Q _ => ∃ x k m, vs = [.str (S (codes x)), .int ((m : Nat) : Int)] ∧ SortIs x k ∧ Q (.bl (mayMany k m)) H
theorem ok_maymany (T : Txt K mg base) (T5 : Txt5 K w mg) {f : Addr} {fd : FuncData} (F : Fun K "may_be_many" "may_be_many" s_may_be_many f fd) : FnOk P w K mg base CX0 1 f fd ["sort", "many"] sp_maymany := by
  refine F.ok sc_may_be_many (fun vs H Q E h => ?_) (fun cdv A outer s H vs Q E hr h => ?_)
  · obtain ⟨_, _, _, rfl, _⟩ := h; rfl
  obtain ⟨x, k, m, rfl, hx, q⟩ := h
  refine ⟨_, (pss_cons (ps_if (PW.pt (pw_or (pt_cmpR op_eq (pv 0) pe_str (nomark _)) (pw_or1 (pt_cmpR op_eq (pv 0) pe_str (nomark _))))) (pss_one (ps_ret (pe_cmpR op_eq (pv 1) pe_int (nomark _)))) pss_nil)
    (pss_one (ps_ret (pe_and (pe_cmpR op_le (pv 1) (pe_glob (v := .int 60000) rfl T5.mMOST_WORDS ⟨_, rfl⟩) (nomark _)) (pe_one (pe_or (pe_cmpR op_gt (pv 1) pe_int (nomark _)) (pe_or (pe_cmpR op_eq (pv 0) pe_str (nomark _)) (pe_one (pe_cmpR op_eq (pv 0) pe_str (nomark _)))))))))), ?_⟩
  unfold mayMany at q
  refine ⟨_, rfl, rfl, _, rfl, ?_⟩
  rw [hx.eq (show SortIs "cell" 4 from rfl)]
  have hgo : k = 4 ∨ k = 5 → Q (.bl (decide (V.int (m : Int) = V.int 1))) H := fun z => by
    rw [if_pos z] at q
    rw [eqI]
    have : ((m : Int) == 1) = (m == 1) := by
      by_cases e : m = 1
      · rw [e]; rfl
      · rw [beq_eq_false_iff_ne.mpr e, beq_eq_false_iff_ne.mpr (fun z => e (by omega))]
    rw [this]; exact q
  by_cases h4 : k = 4
  · rw [decide_eq_true h4]
    exact iteT ⟨_, rfl, rfl, hgo (.inl h4)⟩
  rw [decide_eq_false h4]
  refine iteF ⟨_, rfl, rfl, _, rfl, ?_⟩
  rw [hx.eq (show SortIs "tie" 5 from rfl)]
  by_cases h5 : k = 5
  · rw [decide_eq_true h5]
    exact iteT ⟨_, rfl, rfl, hgo (.inr h5)⟩
  rw [decide_eq_false h5]
  refine iteF (go_next ⟨_, rfl, _, _, rfl, rfl, _, rfl, ?_⟩)
  rw [if_neg (fun z => z.elim h4 h5)] at q
  have e1 : decide ((m : Int) ≤ 60000) = decide (m ≤ 60000) := by
    by_cases e : m ≤ 60000
    · rw [decide_eq_true e, decide_eq_true (by omega)]
    · rw [decide_eq_false e, decide_eq_false (by omega)]
  have e2 : decide (0 < (m : Int)) = decide (0 < m) := by
    by_cases e : 0 < m
    · rw [decide_eq_true e, decide_eq_true (by omega)]
    · rw [decide_eq_false e, decide_eq_false (by omega)]
  rw [e1]
  cases b1 : decide (m ≤ 60000) with
  | false =>
    rw [b1, Bool.false_and] at q
    exact iteF q
  | true =>
  rw [b1, Bool.true_and] at q
  refine iteT ⟨_, rfl, _, _, rfl, rfl, _, rfl, ?_⟩
  rw [e2]
  cases b2 : decide (0 < m) with
  | true =>
    rw [b2, Bool.true_or, Bool.true_or] at q
    exact iteT q
  | false =>
  rw [b2, Bool.false_or] at q
  refine iteF ⟨_, rfl, rfl, _, rfl, ?_⟩
  rw [hx.eq (show SortIs "text" 0 from rfl)]
  have e3 : decide (k = 0) = (k == 0) := rfl
  rw [e3]
  cases b3 : (k == 0) with
  | true =>
    rw [b3, Bool.true_or] at q
    exact iteT q
  | false =>
  rw [b3, Bool.false_or] at q
  refine iteF ⟨_, rfl, rfl, ?_⟩
  show Q (.bl (decide (V.str (SX.S (codes x)) = V.str (Str.ofString "list")))) H
  rw [hx.eq (show SortIs "list" 1 from rfl)]
  exact q
abbrev s_may_stand : Stmt := top 37
theorem sc_may_stand : FnScope ["sort", "place", "word"] ["sort", "place", "word"] (defScope s_may_stand) := ⟨rfl, rfl, rfl, by decide +kernel, rfl, by decide +kernel, by decide +kernel⟩
def sp_maystand : Sp := fun vs H Q _ => ∃ x k p v, vs = [.str (S (codes x)), .int ((p : Nat) : Int), .int v] ∧ SortIs x k ∧ ∀ H', Same H H' → Q (.bl (mayStand k p v)) H'
theorem ok_maystand (T : Txt K mg base) (T5 : Txt5 K w mg) {f : Addr} {fd : FuncData} (F : Fun K "may_stand" "may_stand" s_may_stand f fd) (D_is_signs : Def P w K mg base CX0 "is_signs" ["word"] 2 sp_issigns) (D_is_things : Def P w K mg base CX0 "is_things" ["word"] 1 sp_isthings) : FnOk P w K mg base CX0 3 f fd ["sort", "place", "word"] sp_maystand := by
  refine F.ok sc_may_stand (fun vs H Q E h => ?_) (fun cdv A outer s H vs Q E hr h => ?_)
  · obtain ⟨_, _, _, _, rfl, _⟩ := h; rfl
  obtain ⟨x, k, p, v, rfl, hx, q⟩ := h
  refine ⟨_, (pss_cons (ps_if (pt_cmpR op_eq (pv 0) pe_str (nomark _)) (pss_one (ps_ret (pe_call D_is_signs.ok (hr.mono (by omega)) rfl D_is_signs.g D_is_signs.k D_is_signs.b .nil pass0 (pa_cons (pv 2) pa_nil)))) pss_nil)
    (pss_cons (ps_if (pt_cmpR op_eq (pv 0) pe_str (nomark _)) (pss_one (ps_ret (pe_or (pe_call D_is_things.ok (hr.mono (by omega)) rfl D_is_things.g D_is_things.k D_is_things.b .nil pass0 (pa_cons (pv 2) pa_nil)) (pe_one (pe_cmpR op_eq (pv 2) (pe_glob (v := .int 3) rfl T5.mNIL_WORD ⟨_, rfl⟩) (nomark _)))))) pss_nil)
    (pss_one (ps_ret (pe_or (pe_cmpR op_gt (pv 1) pe_int (nomark _)) (pe_or (pe_cmpR op_in_seq (pv 0) (pe_tup (pa_cons pe_str (pa_cons pe_str pa_nil))) rfl) (pe_one (pe_cmpR op_eq (pe_op op_andM (pv 2) (pe_op op_sub (pe_glob (v := .int 8) rfl T.mTAGS ⟨_, rfl⟩) pe_int)) (pe_glob (v := .int 1) rfl T.mINTEGER_TAG ⟨_, rfl⟩) (nomark _))))))))), ?_⟩
  unfold mayStand at q
  refine ⟨_, rfl, rfl, _, rfl, ?_⟩
  rw [hx.eq (show SortIs "text" 0 from rfl)]
  by_cases h0 : k = 0
  · rw [if_pos h0] at q
    rw [decide_eq_true h0]
    exact iteT ⟨_, rfl, v, rfl, q _ (Same.refl H)⟩
  rw [if_neg h0] at q
  rw [decide_eq_false h0]
  refine iteF (go_next ⟨_, rfl, rfl, _, rfl, ?_⟩)
  rw [hx.eq (show SortIs "tie" 5 from rfl)]
  by_cases h5 : k = 5
  · rw [if_pos h5] at q
    rw [decide_eq_true h5]
    refine iteT ⟨_, rfl, v, rfl, _, rfl, ?_⟩
    have q := q H (Same.refl H)
    cases ht : isT v with
    | true =>
      rw [ht, Bool.true_or] at q
      exact iteT q
    | false =>
      rw [ht, Bool.false_or] at q
      refine iteF ⟨_, rfl, rfl, ?_⟩
      show Q (.bl (decide (V.int v = V.int 3))) H
      rw [eqI]; exact q
  rw [if_neg h5] at q
  rw [decide_eq_false h5]
  refine iteF (go_next ⟨_, rfl, _, _, rfl, rfl, _, rfl, ?_⟩)
  have e2 : decide (0 < (p : Int)) = decide (0 < p) := by
    by_cases e : 0 < p
    · rw [decide_eq_true e, decide_eq_true (by omega)]
    · rw [decide_eq_false e, decide_eq_false (by omega)]
  have hz := line_eq
  rw [e2]
  cases b1 : decide (0 < p) with
  | true =>
    have q := q H (Same.refl H)
    rw [b1, Bool.true_or, Bool.true_or] at q
    exact iteT q
  | false =>
  refine iteF ⟨_, rfl, (by show 2 ≤ sizeLine; rw [hz]; decide), fun t nt => ?_⟩
  have q := q _ (same_new nt (.tup [.str (Str.ofString "list"), .str (Str.ofString "cell")]))
  have ht : (upd H t (.tup [V.str (Str.ofString "list"), .str (Str.ofString "cell")])) t = some (.tup [.str (Str.ofString "list"), .str (Str.ofString "cell")]) := upd_same
  generalize upd H t (.tup [V.str (Str.ofString "list"), .str (Str.ofString "cell")]) = H1 at q ht ⊢
  rw [b1, Bool.false_or] at q
  refine ⟨t, _, rfl, .inr (SqT.of ht), rfl, rfl, _, rfl, ?_⟩
  rw [if_neg Bool.false_ne_true, hx.inLC]
  cases b2 : (k == 1 || k == 4) with
  | true =>
    rw [b2, Bool.true_or] at q
    exact iteT q
  | false =>
  rw [b2, Bool.false_or] at q
  refine iteF ⟨_, rfl, _, _, rfl, rfl, v, 3, rfl, rfl, rfl, ?_⟩
  show Q (.bl (decide (V.int (v % 2 ^ 3) = V.int 1))) H1
  rw [show (2 : Int) ^ 3 = 8 from by decide, eqI]
  exact q
/-- [.. for k, x in enumerate(xs)] -/
theorem lc_enum {K : PySem.W.Frag} {a : Addr} {xs : List V} {g : TG} {tt : TT} {te : TE} {vs : List Nat} {σ : L2.St} {H1 : Hp} {D : Addr} {Qd : Hp → Prop} (Pv : Nat → Hp → Prop) (h0 : Pv 0 (upd H1 D (.lst []))) (hl : ∀ i H, i ≤ xs.length → Pv i H → SqL K H a xs)
    (hs : ∀ i x H T, xs[i]? = some x → Pv i H → H T = none → g (.ref T) (wipe σ vs) (upd H T (.tup [.int (i : Nat), x])) fun σ2 H2 => wipe σ2 vs = wipe σ vs ∧ tt σ2 H2 fun b H3 =>
      if b = true then te σ2 H3 fun y H4 => ∃ acc, H4 D = some (.lst acc) ∧ acc.length < sizeLine ∧ Pv (i + 1) (upd H4 D (.lst (acc ++ [y]))) else Pv (i + 1) H3) (hd : ∀ H, Pv xs.length H → Qd H) :
    ∃ W : Nat → Nat → Hp → Prop, (∃ m, W 0 m (upd H1 D (.lst []))) ∧ ∀ i m H, W i m H →
      ((Ite K a).stop i H ∧ Qd H) ∨ ((Ite K a).go i H ∧ ∃ Nx : Hp → Prop, (∀ H', Nx H' → ∃ m', m' < m ∧ W (i + 1) m' H') ∧ ∀ x H', (Ite K a).yld i H x H' → g x (wipe σ vs) H' fun σ2 H2 => wipe σ2 vs = wipe σ vs ∧ tt σ2 H2 fun b H3 =>
        if b = true then te σ2 H3 fun y H4 => ∃ acc, H4 D = some (.lst acc) ∧ acc.length < sizeLine ∧ Nx (upd H4 D (.lst (acc ++ [y]))) else Nx H3) := by
  refine ⟨fun i m H => m = xs.length - i ∧ i ≤ xs.length ∧ Pv i H, ⟨xs.length, by simp, Nat.zero_le _, h0⟩, ?_⟩
  rintro i m H ⟨rfl, hi, p⟩
  have q := hl i H hi p
  by_cases hlt : i < xs.length
  · refine .inr ⟨⟨xs, xs[i], q, by simp [hlt]⟩, Pv (i + 1), fun H' p' => ⟨xs.length - (i + 1), by omega, rfl, hlt, p'⟩, fun x H' y => ?_⟩
    obtain ⟨T, v, rfl, hT, rfl, hx⟩ := y
    exact hs i v H T (hx xs q) p hT
  · have e : i = xs.length := by omega
    subst e
    exact .inl ⟨⟨xs, q, Nat.le_refl _⟩, hd H p⟩
abbrev s_may_be : Stmt := top 35
theorem sc_may_be : FnScope ["sort", "found", "place", "word"] ["sort", "found"] (defScope s_may_be) := ⟨rfl, rfl, rfl, by decide +kernel, rfl, by decide +kernel, by decide +kernel⟩
def sp_maybe : Sp := fun vs H Q _ => ∃ x k pl ws, vs = [.str (S (codes x)), .ref pl] ∧ SortIs x k ∧ H pl = some (.lst (ws.map V.int)) ∧ ws.length ≤ 4000000 ∧ ∀ H', Same H H' → Q (.bl (Hm.mayBe k ws)) H'
theorem ok_maybe (T : Txt K mg base) {f : Addr} {fd : FuncData} (F : Fun K "may_be" "may_be" s_may_be f fd) (D_may_be_many : Def P w K mg base CX0 "may_be_many" ["sort", "many"] 1 sp_maymany) (D_may_stand : Def P w K mg base CX0 "may_stand" ["sort", "place", "word"] 3 sp_maystand) : FnOk P w K mg base CX0 4 f fd ["sort", "found"] sp_maybe := by
  refine F.ok sc_may_be (fun vs H Q E h => ?_) (fun cdv A outer s H vs Q E hr h => ?_)
  · obtain ⟨_, _, _, _, rfl, _⟩ := h; rfl
  obtain ⟨x, k, pl, ws, rfl, hx, hpl, hl, q⟩ := h
  refine ⟨_, (pss_cons (ps_if (pt_not (pt_val (pe_call D_may_be_many.ok (hr.mono (by omega)) rfl D_may_be_many.g D_may_be_many.k D_may_be_many.b .nil pass0 (pa_cons (pv 0) (pa_cons (pe_callB call_len_seq rfl T.n_len boot_len (pa_cons (pv 1) pa_nil)) pa_nil))))) (pss_one (ps_ret pe_bl)) pss_nil)
    (pss_one (ps_ret (pe_callB (cr_all rfl) rfl T.n_all boot_all (pa_cons (pe_lc (own := [("place", 2), ("word", 3)]) (g := gTup K 2 (gCons (gName 2) (gCons (gName 3) gNil))) (tt := tYes) rfl sc_may_be.nd (pi_enum rfl T.n_enumerate (pa_cons (pv 1) pa_nil)) (blkOk_by (N := ["sort", "found", "place", "word"]) (sc := defScope s_may_be) (by decide +kernel)) (fun _ _ _ _ _ => (pg_tup rfl (pgs_cons (pg_name (i := 2) sc_may_be.nd rfl (Or.inl rfl)) (pgs_cons (pg_name (i := 3) sc_may_be.nd rfl (Or.inl rfl)) pgs_nil)))) (fun _ _ _ _ _ => pts_nil) (fun _ _ _ _ _ => (pe_call D_may_stand.ok (hr.mono (by omega)) rfl D_may_stand.g D_may_stand.k D_may_stand.b .nil pass0 (pa_cons (pv 0) (pa_cons (pv 2) (pa_cons (pv 3) pa_nil)))))) pa_nil))))), ?_⟩
  have hz := line_eq
  unfold Hm.mayBe at q
  refine ⟨_, rfl, _, rfl, pl, _, rfl, .inl (SqL.of hpl), x, k, (ws.map V.int).length, rfl, hx, _, rfl, ?_⟩
  rw [List.length_map]
  cases hm : mayMany k ws.length with
  | false =>
    have q := q H (Same.refl H)
    rw [hm, Bool.false_and] at q
    exact iteT q
  | true =>
  refine iteF (go_next ?_)
  rw [hm] at q
  refine ⟨_, rfl, pl, _, rfl, SqL.of hpl, fun D hD => ?_⟩
  refine lc_enum (xs := ws.map V.int) (fun i H' => Same H H' ∧ ∃ bs : List Bool, H' D = some (.lst (bs.map V.bl)) ∧ bs.length ≤ i ∧ i ≤ ws.length ∧ mayAll k 0 ws = (bs.all id && mayAll k i (ws.drop i))) ⟨same_new hD _, [], upd_same, Nat.le_refl _, Nat.zero_le _, by rw [List.drop_zero]; rfl⟩ (fun i H' _ h => SqL.of (h.1 _ _ hpl)) ?_ ?_
  · rintro i v H' TT hv ⟨g, bs, hd, hi, hi2, he⟩ hT
    obtain ⟨wd, ew, rfl, ed⟩ := ints_at hv
    have hlt : i < ws.length := (List.getElem?_eq_some_iff.mp ew).1
    rw [ed, mayAll] at he
    have g2 : Same H (upd H' TT (.tup [.int (i : Nat), .int wd])) := same_to g hT _
    have hd2 : (upd H' TT (.tup [.int (i : Nat), .int wd])) D = some (.lst (bs.map V.bl)) := by rw [upd_ne (ne_of_none hd hT)]; exact hd
    have hTT : (upd H' TT (.tup [.int (i : Nat), .int wd])) TT = some (.tup [.int (i : Nat), .int wd]) := upd_same
    generalize upd H' TT (.tup [.int (i : Nat), .int wd]) = H2 at g2 hd2 hTT ⊢
    refine ⟨TT, _, rfl, SqT.of hTT, rfl, _, _, rfl, _, _, rfl, rfl, ?_⟩
    refine ⟨rfl, ?_⟩
    unfold tYes
    dsimp only
    rw [if_pos rfl]
    refine ⟨_, rfl, _, rfl, _, rfl, x, k, i, wd, rfl, hx, fun H3 g3 => ?_⟩
    refine ⟨_, g3 _ _ hd2, (by rw [List.length_map]; omega), ?_⟩
    refine ⟨same_mut (g2.trans g3) hD _, bs ++ [mayStand k i wd], ?_, by rw [List.length_append]; exact Nat.succ_le_succ hi, hlt, ?_⟩
    · rw [upd_same, List.map_append]; rfl
    · rw [he, List.all_append, Bool.and_assoc]; simp
  · rintro H' ⟨g, bs, hd, hi, hi2, he⟩
    rw [List.length_map, List.drop_length, mayAll, Bool.and_true] at he
    refine ⟨D, bs, rfl, SqL.of hd, ?_⟩
    rw [he, Bool.true_and] at q
    exact q _ g
abbrev s_is_many_steps : Stmt := top 47
theorem sc_is_many_steps : FnScope ["thing"] ["thing"] (defScope s_is_many_steps) := ⟨rfl, rfl, rfl, by decide +kernel, rfl, by decide +kernel, by decide +kernel⟩
def sp_ismany : Sp := fun vs H Q _ => ∃ n, vs = [.int n] ∧ 0 ≤ n ∧ n ≤ 1000000000 ∧ Q (.bl true) H
theorem ok_ismany (T : Txt K mg base) (T5 : Txt5 K w mg) {f : Addr} {fd : FuncData} (F : Fun K "is_many_steps" "is_many_steps" s_is_many_steps f fd) (D_is_integer : Def P w K mg base CX0 "is_integer" ["thing"] 1 sp_is_integer) : FnOk P w K mg base CX0 2 f fd ["thing"] sp_ismany := by
  refine F.ok sc_is_many_steps (fun vs H Q E h => ?_) (fun cdv A outer s H vs Q E hr h => ?_)
  · obtain ⟨_, rfl, _⟩ := h; rfl
  obtain ⟨n, rfl, h1, h2, q⟩ := h
  refine ⟨_, (pss_one (ps_ret (pe_and (pe_call D_is_integer.ok (hr.mono (by omega)) rfl D_is_integer.g D_is_integer.k D_is_integer.b .nil pass0 (pa_cons (pv 0) pa_nil)) (pe_one (pe_chain op_le op_le pe_int (pv 0) (pe_glob (v := .int 1000000000) rfl T5.mMOST_STEPS ⟨_, rfl⟩)))))), ?_⟩
  refine ⟨_, rfl, .int n, rfl, .int n, _, rfl, iteT ⟨_, rfl, _, _, rfl, rfl, _, rfl, ?_⟩⟩
  rw [decide_eq_true h1]
  refine iteT ⟨_, _, rfl, rfl, ?_⟩
  show Q (.bl (decide (n ≤ 1000000000))) H
  rw [decide_eq_true h2]
  exact q
end
end Wk
set_option maxRecDepth 100000
set_option maxHeartbeats 4000000
namespace Wk
open PySem L2 TL PyProof.Rows Hm
open SX (S S_len)
/-- [.. for k, v in d.items()], the dict locked -/
theorem lc_items {d : Addr} {o : Obj} {kvs : List (Key × V)} {g : TG} {tt : TT} {te : TE} {vs : List Nat} {σ : L2.St} {H1 : Hp} {D : Addr} {Qd : Hp → Prop} (Pv : Nat → Hp → Prop) (h0 : Pv 0 (upd H1 D (.lst []))) (hl : ∀ i H, i ≤ kvs.length → Pv i H → H d = some (.frz o (.dK kvs)))
    (hs : ∀ i k v H T, kvs[i]? = some (k, v) → Pv i H → H T = none → g (.ref T) (wipe σ vs) (upd H T (.tup [kV k, v])) fun σ2 H2 => wipe σ2 vs = wipe σ vs ∧ tt σ2 H2 fun b H3 =>
      if b = true then te σ2 H3 fun y H4 => ∃ acc, H4 D = some (.lst acc) ∧ acc.length < sizeLine ∧ Pv (i + 1) (upd H4 D (.lst (acc ++ [y]))) else Pv (i + 1) H3) (hd : ∀ H, Pv kvs.length H → Qd H) :
    ∃ W : Nat → Nat → Hp → Prop, (∃ m, W 0 m (upd H1 D (.lst []))) ∧ ∀ i m H, W i m H →
      ((Iti d o kvs).stop i H ∧ Qd H) ∨ ((Iti d o kvs).go i H ∧ ∃ Nx : Hp → Prop, (∀ H', Nx H' → ∃ m', m' < m ∧ W (i + 1) m' H') ∧ ∀ x H', (Iti d o kvs).yld i H x H' → g x (wipe σ vs) H' fun σ2 H2 => wipe σ2 vs = wipe σ vs ∧ tt σ2 H2 fun b H3 =>
        if b = true then te σ2 H3 fun y H4 => ∃ acc, H4 D = some (.lst acc) ∧ acc.length < sizeLine ∧ Nx (upd H4 D (.lst (acc ++ [y]))) else Nx H3) := by
  refine ⟨fun i m H => m = kvs.length - i ∧ i ≤ kvs.length ∧ Pv i H, ⟨kvs.length, by simp, Nat.zero_le _, h0⟩, ?_⟩
  rintro i m H ⟨rfl, hi, p⟩
  have q := hl i H hi p
  by_cases hlt : i < kvs.length
  · refine .inr ⟨⟨q, hlt⟩, Pv (i + 1), fun H' p' => ⟨kvs.length - (i + 1), by omega, rfl, hlt, p'⟩, fun x H' y => ?_⟩
    obtain ⟨T, k, v, hk, rfl, hT, rfl⟩ := y
    exact hs i k v H T hk p hT
  · have e : i = kvs.length := by omega
    subst e
    exact .inl ⟨⟨q, Nat.le_refl _⟩, hd H p⟩
section
variable {X : Cx} {K : PySem.W.Frag}
theorem ix_tupB (h : X.K = K) : IxR X (rIxT K) := h ▸ ix_tup
theorem ix_listB (h : X.K = K) : IxR X (rIxL K) := h ▸ ix_list
theorem pe_fldB {e : Expr} {f : Str} {ta : TE} {pos : Pos} (h : X.K = K) (ha : PE X e ta) (hb : attributeBase e f X.env (eval e X.env) = eval e X.env) : PE X (.Attribute e f pos) (tFld K ta f) := h ▸ pe_fld ha hb
end
def PairsAt (H : Hp) : List Addr → List (Int × Int) → Prop
  | [], [] => True
  | t :: ts, q :: qs => H t = some (.tup [.int q.1, .int q.2]) ∧ PairsAt H ts qs
  | _, _ => False
theorem PairsAt.len {H : Hp} : ∀ {ts : List Addr} {qs : List (Int × Int)}, PairsAt H ts qs → ts.length = qs.length
  | [], [], _ => rfl
  | _ :: _, _ :: _, h => congrArg Nat.succ (PairsAt.len h.2)
  | [], _ :: _, h => h.elim
  | _ :: _, [], h => h.elim
theorem PairsAt.keep {H H' : Hp} : ∀ {ts : List Addr} {qs : List (Int × Int)}, (∀ t ∈ ts, ∀ xs, H t = some (.tup xs) → H' t = some (.tup xs)) → PairsAt H ts qs → PairsAt H' ts qs
  | [], [], _, _ => trivial
  | t :: ts, q :: qs, g, h => ⟨g t List.mem_cons_self _ h.1, PairsAt.keep (fun t ht => g t (List.mem_cons_of_mem _ ht)) h.2⟩
  | [], _ :: _, _, h => h.elim
  | _ :: _, [], _, h => h.elim
theorem PairsAt.app {H : Hp} {t : Addr} {q : Int × Int} (ht : H t = some (.tup [.int q.1, .int q.2])) : ∀ {ts : List Addr} {qs : List (Int × Int)}, PairsAt H ts qs → PairsAt H (ts ++ [t]) (qs ++ [q])
  | [], [], _ => ⟨ht, trivial⟩
  | _ :: _, _ :: _, h => ⟨h.1, PairsAt.app ht h.2⟩
  | [], _ :: _, h => h.elim
  | _ :: _, [], h => h.elim
theorem PairsAt.at {H : Hp} : ∀ {ts : List Addr} {qs : List (Int × Int)} {i : Nat} {t : Addr}, PairsAt H ts qs → ts[i]? = some t → ∃ q, qs[i]? = some q ∧ H t = some (.tup [.int q.1, .int q.2])
  | _ :: _, q :: _, 0, _, h, e => by cases e; exact ⟨q, rfl, h.1⟩
  | _ :: _, _ :: _, i + 1, _, h, e => PairsAt.at (i := i) h.2 e
  | [], [], _, _, _, e => by simp at e
  | [], _ :: _, _, _, h, _ => h.elim
  | _ :: _, [], _, _, h, _ => h.elim
theorem rowD_at : ∀ {rs : List Addr} {qs : List (Int × Int)} {i : Nat} {k : Key} {v : V}, (rowD qs rs)[i]? = some (k, v) → ∃ q r, qs[i]? = some q ∧ rs[i]? = some r ∧ k = .inl q.1 ∧ v = .ref r
  | r :: rs, q :: qs, 0, k, v, e => by cases e; exact ⟨q, r, rfl, rfl, rfl, rfl⟩
  | r :: rs, q :: qs, i + 1, k, v, e => rowD_at (rs := rs) (qs := qs) (i := i) e
  | [], [], i, k, v, e => by simp [rowD] at e
  | [], _ :: _, i, k, v, e => by simp [rowD] at e
  | _ :: _, [], i, k, v, e => by simp [rowD] at e
theorem rowD_len {rs : List Addr} {qs : List (Int × Int)} (h : rs.length = qs.length) : (rowD qs rs).length = qs.length := by
  have := congrArg List.length (rowD_snd h)
  rw [List.length_map, List.length_map] at this
  omega
theorem take_app {α : Type} {l : List α} {i : Nat} {x : α} (h : l[i]? = some x) : l.take (i + 1) = l.take i ++ [x] := take_next h
section
variable {P : Program} {w : World} {K : PySem.W.Frag} {mg : Str → Option Value} {base : Heap}
abbrev s_Heap__root_pairs : Stmt := inClass (top 69) 2
theorem sc_Heap__root_pairs : FnScope ["self", "handle", "row"] ["self"] (defScope s_Heap__root_pairs) := ⟨rfl, rfl, rfl, by decide +kernel, rfl, by decide +kernel, by decide +kernel⟩
def sp_hpairs (C : Cs K) : Sp := fun vs H Q _ => ∃ F ar rws s, vs = [.ref F.ho] ∧ St C H F ar rws s ∧ ∀ H' p ts, Same H H' → H p = none → H' p = some (.tup (ts.map V.ref)) → PairsAt H' ts s.rows → Q (.ref p) H'
theorem ok_hpairs (T : Txt K mg base) (C : Cs K) {f : Addr} {fd : FuncData} (F : Fun K "root_pairs" "Heap.root_pairs" s_Heap__root_pairs f fd) : FnOk P w K mg base CX0 1 f fd ["self"] (sp_hpairs C) := by
  refine F.ok sc_Heap__root_pairs (fun vs H Q E h => ?_) (fun cdv A outer s H vs Q E hr h => ?_)
  · obtain ⟨_, _, _, _, rfl, _⟩ := h; rfl
  obtain ⟨F, ar, rws, s, rfl, S, q⟩ := h
  refine ⟨_, (pss_one (ps_ret (pe_tupleOf rfl T.n_tuple (pe_lock (pe_lc (own := [("handle", 1), ("row", 2)]) (g := gTup K 2 (gCons (gName 1) (gCons (gName 2) gNil))) (tt := tYes) rfl sc_Heap__root_pairs.nd (pi_items (pe_fld (pv 0) rfl)) (blkOk_by (N := ["self", "handle", "row"]) (sc := defScope s_Heap__root_pairs) (by decide +kernel)) (fun _ _ _ _ _ => (pg_tup rfl (pgs_cons (pg_name (i := 1) sc_Heap__root_pairs.nd rfl (Or.inl rfl)) (pgs_cons (pg_name (i := 2) sc_Heap__root_pairs.nd rfl (Or.inl rfl)) pgs_nil)))) (fun _ _ _ _ _ => pts_nil) (fun _ _ _ _ _ => (pe_tup (pa_cons (pv 1) (pa_cons (pe_ix (ix_listB (K := K) rfl) (pv 2) pe_int (fun _ _ => rfl)) pa_nil))))))))), ?_⟩
  have hz := line_eq
  have hlen := rows_len S.rw
  have hno := S.ndo
  refine ⟨F.ah, _, S.ah, trivial, fun od => ?_⟩
  have hl1 : (upd H F.ah (.frz od (.dK (rowD s.rows rws)))) F.ah = some (.frz od (.dK (rowD s.rows rws))) := upd_same
  have hk1 : ∀ b, b ≠ F.ah → (upd H F.ah (.frz od (.dK (rowD s.rows rws)))) b = H b := fun b n => upd_ne n
  have hr1 : Rows (upd H F.ah (.frz od (.dK (rowD s.rows rws)))) rws s.rows := rows_off (S.ndr F.ah (by simp [own7])).1 S.rw
  generalize upd H F.ah (.frz od (.dK (rowD s.rows rws))) = H1 at hl1 hk1 hr1 ⊢
  have ho1 : H1 F.ho = some (.ins C.H F.hd (hdF F s)) := by rw [hk1 _ hno.2.2.2.1]; exact S.ho
  refine ⟨_, rfl, _, _, _, _, _, rfl, ho1, C.hcl, C.handles, rfl, F.ah, od, _, rfl, hl1, fun D hD => ?_⟩
  have nDa : D ≠ F.ah := fun z => by rw [z, hl1] at hD; cases hD
  have hDH : H D = none := by rw [← hk1 D nDa]; exact hD
  refine lc_items (d := F.ah) (o := od) (kvs := rowD s.rows rws) (fun i H' => Same H1 H' ∧ ∃ ts : List Addr, H' D = some (.lst (ts.map V.ref)) ∧ PairsAt H' ts (s.rows.take i) ∧ (∀ t ∈ ts, H1 t = none ∧ t ≠ D)) ⟨same_new hD _, [], upd_same, trivial, fun t ht => by cases ht⟩ (fun i H' _ h => h.1 _ _ hl1) ?_ ?_
  · rintro i k v H' TT hkv ⟨g, ts, hd, hp, hn⟩ hT
    obtain ⟨qq, r, hq, hrr, rfl, rfl⟩ := rowD_at hkv
    obtain ⟨r2, e2, e3⟩ := rows_at hr1 hq
    cases hrr.symm.trans e2
    have hi : i < s.rows.length := (List.getElem?_eq_some_iff.mp hq).1
    have g2 : Same H1 (upd H' TT (.tup [kV (.inl qq.1), .ref r])) := same_to g hT _
    have hd2 : (upd H' TT (.tup [kV (.inl qq.1), .ref r])) D = some (.lst (ts.map V.ref)) := by rw [upd_ne (ne_of_none hd hT)]; exact hd
    have hTT : (upd H' TT (.tup [kV (.inl qq.1), .ref r])) TT = some (.tup [.int qq.1, .ref r]) := upd_same
    have hp2 : PairsAt (upd H' TT (.tup [kV (.inl qq.1), .ref r])) ts (s.rows.take i) := hp.keep fun t _ xs e => by rw [upd_ne (ne_of_none e hT)]; exact e
    generalize upd H' TT (.tup [kV (.inl qq.1), .ref r]) = H2 at g2 hd2 hTT hp2 ⊢
    refine ⟨TT, _, rfl, SqT.of hTT, rfl, _, _, rfl, _, _, rfl, rfl, ?_⟩
    refine ⟨rfl, ?_⟩
    unfold tYes
    dsimp only
    rw [if_pos rfl]
    refine ⟨_, rfl, _, rfl, r, _, _, _, rfl, rfl, SqL.of (g2 _ _ e3), atI_nat (j := 0) rfl, (by show 2 ≤ sizeLine; rw [hz]; decide), fun t nt => ?_⟩
    have ntD : D ≠ t := ne_of_none hd2 nt
    have nt1 : H1 t = none := by
      cases e : H1 t with
      | none => rfl
      | some u => rw [g2 _ _ e] at nt; cases nt
    refine ⟨_, by rw [upd_ne ntD]; exact hd2, (by
      have := hp2.len
      rw [List.length_map, this, List.length_take]
      have := S.z2
      omega), ?_⟩
    refine ⟨same_mut (same_to g2 nt _) hD _, ts ++ [t], ?_, ?_, ?_⟩
    · rw [upd_same, List.map_append]; rfl
    · rw [take_app hq]
      refine PairsAt.app ?_ ?_
      · rw [upd_ne ntD.symm, upd_same]
      · refine hp2.keep fun t2 ht2 xs e => ?_
        rw [upd_ne (hn t2 ht2).2, upd_ne (ne_of_none e nt)]; exact e
    · intro t2 ht2
      rcases List.mem_append.mp ht2 with z | z
      · exact hn t2 z
      · rw [List.mem_singleton.mp z]; exact ⟨nt1, ntD.symm⟩
  · rintro H' ⟨g, ts, hd, hp, hn⟩
    rw [rowD_len hlen, List.take_length] at hp
    have hl2 : H' F.ah = some (.frz od (.dK (rowD s.rows rws))) := g _ _ hl1
    refine ⟨hl2, .inl ⟨D, _, rfl, SqL.of (by rw [upd_ne nDa]; exact hd), fun p np => ?_⟩⟩
    have npa : p ≠ F.ah := fun z => by rw [z, upd_same] at np; cases np
    have gH : Same H (upd H' F.ah (.dK (rowD s.rows rws))) := fun b u e => by
      by_cases eb : b = F.ah
      · subst eb
        rw [upd_same, ← S.ah]; exact e
      · rw [upd_ne eb]
        exact g _ _ (by rw [hk1 _ eb]; exact e)
    have npH : H p = none := by
      cases e : H p with
      | none => rfl
      | some u => rw [gH _ _ e] at np; cases np
    refine q _ p ts (same_to gH np _) npH upd_same (hp.keep fun t ht xs e => ?_)
    have nta : t ≠ F.ah := fun z => by rw [z, hl2] at e; cases e
    have e2 : (upd H' F.ah (.dK (rowD s.rows rws))) t = some (.tup xs) := by rw [upd_ne nta]; exact e
    rw [upd_ne (ne_of_none e2 np)]; exact e2
end
end Wk
set_option maxRecDepth 100000
set_option maxHeartbeats 4000000
namespace Wk
open PySem L2 TL PyProof.Rows Hm
open SX (S S_len)
theorem St.noTup {K : PySem.W.Frag} {C : Cs K} {F : Fx} {ar : Addr} {rws : List Addr} {H : Hp} {s : Bd} (S : St C H F ar rws s) {a : Addr} {xs : List V} (h : H a = some (.tup xs)) : ¬ Own F ar rws a := fun z => by
  rcases z with z | z
  · simp only [own7, List.mem_cons, List.not_mem_nil, or_false] at z
    rcases z with rfl | rfl | rfl | rfl | rfl | rfl
    · rw [S.ho] at h; cases h
    · rw [S.bo] at h; cases h
    · rw [S.aw] at h; cases h
    · rw [S.tl] at h; cases h
    · rw [S.ah] at h; cases h
    · rw [S.rmd] at h; cases h
  · obtain ⟨v, e⟩ := rows_mem S.rw a z
    rw [e] at h; cases h
section
variable {P : Program} {w : World} {K : PySem.W.Frag} {mg : Str → Option Value} {base : Heap}
abbrev s_Heap__come_to_from_handles : Stmt := inClass (top 69) 27
theorem sc_Heap__come_to_from_handles : FnScope ["self", "is_tie_followed", "_", "word"] ["self", "is_tie_followed"] (defScope s_Heap__come_to_from_handles) := ⟨rfl, rfl, rfl, by decide +kernel, rfl, by decide +kernel, by decide +kernel⟩
def sp_hcome (C : Cs K) : Sp := fun vs H Q _ => ∃ F ar rws s bs found, vs = [.ref F.ho, .bl true] ∧ St C H F ar rws s ∧ Hm.addrs s (s.rows.map Prod.snd) = some bs ∧ comeGo true s 1000000 bs.reverse [] = some found ∧ ∀ H' p, Same H H' → H p = none → H' p = some (.dK (fndD found)) → Q (.ref p) H'
theorem ok_hcome (C : Cs K) {f : Addr} {fd : FuncData} (F : Fun K "come_to_from_handles" "Heap.come_to_from_handles" s_Heap__come_to_from_handles f fd) (Mh_root_pairs : MD P w K mg base CX0 C.H "root_pairs" ["self"] 1 (sp_hpairs C)) (D_come_to : Def P w K mg base CX0 "come_to" ["store", "begins", "is_tie_followed"] 3 (sp_cometo C)) : FnOk P w K mg base CX0 4 f fd ["self", "is_tie_followed"] (sp_hcome C) := by
  refine F.ok sc_Heap__come_to_from_handles (fun vs H Q E h => ?_) (fun cdv A outer s H vs Q E hr h => ?_)
  · obtain ⟨_, _, _, _, _, _, rfl, _⟩ := h; rfl
  obtain ⟨F, ar, rws, s, bs, found, rfl, S, hb, hf, q⟩ := h
  refine ⟨_, (pss_one (ps_ret (pe_call D_come_to.ok (hr.mono (by omega)) rfl D_come_to.g D_come_to.k D_come_to.b .nil pass0 (pa_cons (pe_fld (pv 0) rfl) (pa_cons (pe_lc (own := [("_", 2), ("word", 3)]) (g := gTup K 2 (gCons (gName 2) (gCons (gName 3) gNil))) (tt := tYes) rfl sc_Heap__come_to_from_handles.nd (pi_tup (pe_meth0 (pv 0) C.hcl Mh_root_pairs.m Mh_root_pairs.ok (hr.mono (by omega)) Mh_root_pairs.b .nil pass0)) (blkOk_by (N := ["self", "is_tie_followed", "_", "word"]) (sc := defScope s_Heap__come_to_from_handles) (by decide +kernel)) (fun _ _ _ _ _ => (pg_tup rfl (pgs_cons (pg_name (i := 2) sc_Heap__come_to_from_handles.nd rfl (Or.inl rfl)) (pgs_cons (pg_name (i := 3) sc_Heap__come_to_from_handles.nd rfl (Or.inl rfl)) pgs_nil)))) (fun _ _ _ _ _ => pts_nil) (fun _ _ _ _ _ => (pv 3))) (pa_cons (pv 1) pa_nil)))))), ?_⟩
  have hz := line_eq
  refine (⟨_, rfl, _, _, _, _, _, rfl, St.ho S, Cs.hcl _, C.store, rfl, ?_⟩)
  refine ⟨_, rfl, F.ho, F.hd, _, rfl, S.ho, rfl, F, ar, rws, s, rfl, S, fun H1 p ts g1 np hp hpa => ?_⟩
  refine ⟨p, rfl, ⟨_, SqT.of hp⟩, fun D hD => ?_⟩
  have hlen := hpa.len
  refine lc_tup (xs := ts.map V.ref) (fun i H' => Same H1 H' ∧ i ≤ ts.length ∧ H' D = some (.lst (((s.rows.take i).map Prod.snd).map V.int))) ⟨same_new hD _, Nat.zero_le _, upd_same⟩ (fun i H' _ h => SqT.of (h.1 _ _ hp)) ?_ ?_
  · rintro i v H' hv ⟨g, hi, hd⟩
    rw [List.getElem?_map] at hv
    cases et : ts[i]? with
    | none => rw [et] at hv; cases hv
    | some t =>
    rw [et] at hv
    cases hv
    have hlt : i < ts.length := (List.getElem?_eq_some_iff.mp et).1
    obtain ⟨qq, eq1, eq2⟩ := hpa.at et
    refine ⟨t, _, rfl, SqT.of (g _ _ eq2), rfl, _, _, rfl, _, _, rfl, rfl, ?_⟩
    refine ⟨rfl, ?_⟩
    unfold tYes
    dsimp only
    rw [if_pos rfl]
    refine ⟨_, rfl, _, hd, (by rw [List.length_map, List.length_map, List.length_take]; have := S.z2; omega), same_mut g hD _, hlt, ?_⟩
    rw [upd_same, take_app eq1, List.map_append, List.map_append]; rfl
  · rintro H' ⟨g, hi, hd⟩
    rw [List.length_map, hlen, List.take_length] at hd
    refine ⟨_, rfl, F, ar, rws, s, D, s.rows.map Prod.snd, true, bs, found, rfl, S.same (g1.trans g), hd, (by rw [List.length_map]; have := S.z2; omega), hb, hf, fun H2 p2 g2 np2 hp2 => ?_⟩
    refine q H2 p2 ((g1.trans g).trans g2) ?_ hp2
    cases e : H p2 with
    | none => rfl
    | some u => rw [(g1.trans g) _ _ e] at np2; cases np2
abbrev s_Heap__filled : Stmt := inClass (top 69) 30
theorem sc_Heap__filled : FnScope ["self"] ["self"] (defScope s_Heap__filled) := ⟨rfl, rfl, rfl, by decide +kernel, rfl, by decide +kernel, by decide +kernel⟩
def sp_hfilled (C : Cs K) : Sp := fun vs H Q _ => ∃ F ar rws s n, vs = [.ref F.ho] ∧ St C H F ar rws s ∧ filled s = some n ∧ ∀ H', Same H H' → Q (.int n) H'
theorem comeGo_len {tie : Bool} {s : Bd} : ∀ {f : Nat} {st : List Int} {fd found : List (Int × Int)}, fd.length ≤ 1000000 → comeGo tie s f st fd = some found → found.length ≤ 1000000
  | 0, _, _, _, _, h => by cases h
  | f + 1, [], fd, found, hl, h => by rw [comeGo] at h; cases h; exact hl
  | f + 1, a :: r, fd, found, hl, h => by
    rw [comeGo] at h
    split at h
    · cases h
    · split at h
      · exact comeGo_len hl h
      · split at h
        · cases h
        · split at h
          · rename_i hc
            have h2 : ∀ z : Int × Int, (fd ++ [z]).length ≤ 1000000 := fun z => by rw [List.length_append]; show fd.length + 1 ≤ _; omega
            split at h
            · split at h
              · cases h
              · split at h
                · cases h
                · split at h
                  · exact comeGo_len (h2 _) h
                  · cases h
            · exact comeGo_len (h2 _) h
          · cases h
theorem ok_hfilled (C : Cs K) {f : Addr} {fd : FuncData} (F : Fun K "filled" "Heap.filled" s_Heap__filled f fd) (Mh_come_to_from_handles : MD P w K mg base CX0 C.H "come_to_from_handles" ["self", "is_tie_followed"] 4 (sp_hcome C)) (D_room_of : Def P w K mg base CX0 "room_of" ["store", "found"] 2 (sp_roomof C)) : FnOk P w K mg base CX0 5 f fd ["self"] (sp_hfilled C) := by
  refine F.ok sc_Heap__filled (fun vs H Q E h => ?_) (fun cdv A outer s H vs Q E hr h => ?_)
  · obtain ⟨_, _, _, _, _, rfl, _⟩ := h; rfl
  obtain ⟨F, ar, rws, s, n, rfl, S, hm, q⟩ := h
  refine ⟨_, (pss_one (ps_ret (pe_call D_room_of.ok (hr.mono (by omega)) rfl D_room_of.g D_room_of.k D_room_of.b .nil pass0 (pa_cons (pe_fld (pv 0) rfl) (pa_cons (pe_meth (pv 0) C.hcl Mh_come_to_from_handles.m Mh_come_to_from_handles.ok (hr.mono (by omega)) Mh_come_to_from_handles.b .nil pass0 (pa_cons pe_bl pa_nil)) pa_nil))))), ?_⟩
  unfold filled at hm
  split at hm
  · cases hm
  rename_i bs hb
  split at hm
  · cases hm
  rename_i found hf
  refine (⟨_, rfl, _, _, _, _, _, rfl, St.ho S, Cs.hcl _, C.store, rfl, ⟨_, rfl, F.ho, F.hd, _, rfl, S.ho, rfl, F, ar, rws, s, bs, found, rfl, S, hb, hf, fun H1 p g1 np hp => ?_⟩⟩)
  exact ⟨F, ar, rws, s, p, found, n, rfl, S.same g1, hp, comeGo_len (by decide) hf, hm, fun H2 g2 => q _ (g1.trans g2)⟩
abbrev s_Heap__gather : Stmt := inClass (top 69) 21
theorem sc_Heap__gather : FnScope ["self"] ["self"] (defScope s_Heap__gather) := ⟨rfl, rfl, rfl, by decide +kernel, rfl, by decide +kernel, by decide +kernel⟩
theorem ok_hgather (C : Cs K) {f : Addr} {fd : FuncData} (F : Fun K "gather" "Heap.gather" s_Heap__gather f fd) (Mb_gather : MD P w K mg base CX0 C.B "gather" ["self"] 3 (sp_bgather C)) : FnOk P w K mg base CX0 4 f fd ["self"] (fun vs H Q _ => ∃ F ar rws s n s', vs = [.ref F.ho] ∧ St C H F ar rws s ∧ gather s = some (n, s') ∧ ∀ H' ar', Go C F ar rws H H' ar' rws s' → Q (.int n) H') := by
  refine F.ok sc_Heap__gather (fun vs H Q E h => ?_) (fun cdv A outer s H vs Q E hr h => ?_)
  · obtain ⟨_, _, _, _, _, _, rfl, _⟩ := h; rfl
  obtain ⟨F, ar, rws, s, n, s', rfl, S, hm, q⟩ := h
  refine ⟨_, (pss_one (ps_ret (pe_meth0 (pe_fld (pv 0) rfl) C.bcl Mb_gather.m Mb_gather.ok (hr.mono (by omega)) Mb_gather.b .nil pass0))), ?_⟩
  exact (⟨_, rfl, _, _, _, _, _, rfl, St.ho S, Cs.hcl _, C.store, rfl, ⟨F.bo, F.bd, _, rfl, S.bo, rfl, F, ar, rws, s, n, s', rfl, S, hm, q⟩⟩)
abbrev s_Heap__turn : Stmt := inClass (top 69) 22
theorem sc_Heap__turn : FnScope ["self"] ["self"] (defScope s_Heap__turn) := ⟨rfl, rfl, rfl, by decide +kernel, rfl, by decide +kernel, by decide +kernel⟩
theorem ok_hturn (C : Cs K) {f : Addr} {fd : FuncData} (F : Fun K "turn" "Heap.turn" s_Heap__turn f fd) (Mb_turn : MD P w K mg base CX0 C.B "turn" ["self"] 4 (sp_bturn C)) : FnOk P w K mg base CX0 5 f fd ["self"] (fun vs H Q _ => ∃ F ar rws s n s', vs = [.ref F.ho] ∧ St C H F ar rws s ∧ turn s = some (n, s') ∧ ∀ H' ar', Go C F ar rws H H' ar' rws s' → Q (.int n) H') := by
  refine F.ok sc_Heap__turn (fun vs H Q E h => ?_) (fun cdv A outer s H vs Q E hr h => ?_)
  · obtain ⟨_, _, _, _, _, _, rfl, _⟩ := h; rfl
  obtain ⟨F, ar, rws, s, n, s', rfl, S, hm, q⟩ := h
  refine ⟨_, (pss_one (ps_ret (pe_meth0 (pe_fld (pv 0) rfl) C.bcl Mb_turn.m Mb_turn.ok (hr.mono (by omega)) Mb_turn.b .nil pass0))), ?_⟩
  exact (⟨_, rfl, _, _, _, _, _, rfl, St.ho S, Cs.hcl _, C.store, rfl, ⟨F.bo, F.bd, _, rfl, S.bo, rfl, F, ar, rws, s, n, s', rfl, S, hm, q⟩⟩)
abbrev s_Heap__whole : Stmt := inClass (top 69) 24
theorem sc_Heap__whole : FnScope ["self"] ["self"] (defScope s_Heap__whole) := ⟨rfl, rfl, rfl, by decide +kernel, rfl, by decide +kernel, by decide +kernel⟩
theorem ok_hwhole (C : Cs K) {f : Addr} {fd : FuncData} (F : Fun K "whole" "Heap.whole" s_Heap__whole f fd) (Mb_whole : MD P w K mg base CX0 C.B "whole" ["self"] 6 (sp_bwhole C)) : FnOk P w K mg base CX0 7 f fd ["self"] (fun vs H Q _ => ∃ F ar rws s n s', vs = [.ref F.ho] ∧ St C H F ar rws s ∧ whole s = some (n, s') ∧ ∀ H' ar', Go C F ar rws H H' ar' rws s' → Q (.int n) H') := by
  refine F.ok sc_Heap__whole (fun vs H Q E h => ?_) (fun cdv A outer s H vs Q E hr h => ?_)
  · obtain ⟨_, _, _, _, _, _, rfl, _⟩ := h; rfl
  obtain ⟨F, ar, rws, s, n, s', rfl, S, hm, q⟩ := h
  refine ⟨_, (pss_one (ps_ret (pe_meth0 (pe_fld (pv 0) rfl) C.bcl Mb_whole.m Mb_whole.ok (hr.mono (by omega)) Mb_whole.b .nil pass0))), ?_⟩
  exact (⟨_, rfl, _, _, _, _, _, rfl, St.ho S, Cs.hcl _, C.store, rfl, ⟨F.bo, F.bd, _, rfl, S.bo, rfl, F, ar, rws, s, n, s', rfl, S, hm, q⟩⟩)
abbrev s_Heap__steps : Stmt := inClass (top 69) 23
theorem sc_Heap__steps : FnScope ["self", "many"] ["self", "many"] (defScope s_Heap__steps) := ⟨rfl, rfl, rfl, by decide +kernel, rfl, by decide +kernel, by decide +kernel⟩
theorem ok_hsteps (C : Cs K) {f : Addr} {fd : FuncData} (F : Fun K "steps" "Heap.steps" s_Heap__steps f fd) (D_is_many_steps : Def P w K mg base CX0 "is_many_steps" ["thing"] 2 sp_ismany) (Mb_steps : MD P w K mg base CX0 C.B "steps" ["self", "many"] 4 (sp_bsteps C)) : FnOk P w K mg base CX0 5 f fd ["self", "many"] (fun vs H Q _ => ∃ F ar rws s many n s', vs = [.ref F.ho, .int many] ∧ St C H F ar rws s ∧ 0 ≤ many ∧ many ≤ 1000000000 ∧ steps s many = some (n, s') ∧ ∀ H', Go C F ar rws H H' ar rws s' → Q (.int n) H') := by
  refine F.ok sc_Heap__steps (fun vs H Q E h => ?_) (fun cdv A outer s H vs Q E hr h => ?_)
  · obtain ⟨_, _, _, _, _, _, _, rfl, _⟩ := h; rfl
  obtain ⟨F, ar, rws, s, many, n, s', rfl, S, h1, h2, hm, q⟩ := h
  refine ⟨_, (pss_cons (ps_if (pt_not (pt_val (pe_call D_is_many_steps.ok (hr.mono (by omega)) rfl D_is_many_steps.g D_is_many_steps.k D_is_many_steps.b .nil pass0 (pa_cons (pv 1) pa_nil)))) (pss_one ps_no) pss_nil)
    (pss_one (ps_ret (pe_meth (pe_fld (pv 0) rfl) C.bcl Mb_steps.m Mb_steps.ok (hr.mono (by omega)) Mb_steps.b .nil pass0 (pa_cons (pv 1) pa_nil))))), ?_⟩
  refine ⟨_, rfl, many, rfl, h1, h2, _, rfl, ?_⟩
  refine iteF (go_next ?_)
  exact (⟨_, rfl, _, _, _, _, _, rfl, St.ho S, Cs.hcl _, C.store, rfl, ⟨F.bo, F.bd, _, rfl, S.bo, rfl, _, rfl, F, ar, rws, s, many, n, s', rfl, S, hm, q⟩⟩)
abbrev s_Heap__counts : Stmt := inClass (top 69) 26
theorem sc_Heap__counts : FnScope ["self"] ["self"] (defScope s_Heap__counts) := ⟨rfl, rfl, rfl, by decide +kernel, rfl, by decide +kernel, by decide +kernel⟩
theorem ok_hcounts (C : Cs K) {f : Addr} {fd : FuncData} (F : Fun K "counts" "Heap.counts" s_Heap__counts f fd) (Mb_counted_deeds : MD P w K mg base CX0 C.B "counted_deeds" ["self"] 1 (sp_bcounted C)) : FnOk P w K mg base CX0 2 f fd ["self"] (fun vs H Q _ => ∃ F ar rws s, vs = [.ref F.ho] ∧ St C H F ar rws s ∧ ∀ p, H p = none → Q (.ref p) (upd H p (.tup (s.tally.map V.int)))) := by
  refine F.ok sc_Heap__counts (fun vs H Q E h => ?_) (fun cdv A outer s H vs Q E hr h => ?_)
  · obtain ⟨_, _, _, _, rfl, _⟩ := h; rfl
  obtain ⟨F, ar, rws, s, rfl, S, q⟩ := h
  refine ⟨_, (pss_one (ps_ret (pe_meth0 (pe_fld (pv 0) rfl) C.bcl Mb_counted_deeds.m Mb_counted_deeds.ok (hr.mono (by omega)) Mb_counted_deeds.b .nil pass0))), ?_⟩
  exact (⟨_, rfl, _, _, _, _, _, rfl, St.ho S, Cs.hcl _, C.store, rfl, ⟨F.bo, F.bd, _, rfl, S.bo, rfl, F, ar, rws, s, rfl, S, q⟩⟩)
abbrev s_Heap__write : Stmt := inClass (top 69) 17
theorem sc_Heap__write : FnScope ["self", "handle", "place", "item", "at"] ["self", "handle", "place", "item"] (defScope s_Heap__write) := ⟨rfl, rfl, rfl, by decide +kernel, rfl, by decide +kernel, by decide +kernel⟩
def sp_hwrite (C : Cs K) : Sp := fun vs H Q _ => ∃ F ar rws s h, ∃ (p : Nat) (ip : Addr) (it : Hm.It), ∃ s', vs = [.ref F.ho, .int h, .int (p : Int), .ref ip] ∧ St C H F ar rws s ∧ H ip = some (.tup (itV it)) ∧ write s h p it = some s' ∧ ∀ H', Go C F ar rws H H' ar rws s' → Q .non H'
theorem ok_hwrite (C : Cs K) {f : Addr} {fd : FuncData} (F : Fun K "write" "Heap.write" s_Heap__write f fd) (Mh_address_with_place : MD P w K mg base CX0 C.H "address_with_place" ["self", "handle", "place"] 4 (sp_haddrp C)) (Mh_is_item : MD P w K mg base CX0 C.H "is_item" ["self", "thing"] 4 (sp_hisitem C)) (Mh_word_of_item : MD P w K mg base CX0 C.H "word_of_item" ["self", "item"] 1 (sp_hworth C)) (Mb_sort_at : MD P w K mg base CX0 C.B "sort_at" ["self", "at"] 1 (sp_bsortat C)) (D_may_stand : Def P w K mg base CX0 "may_stand" ["sort", "place", "word"] 3 sp_maystand) (Mb_write : MD P w K mg base CX0 C.B "write" ["self", "at", "place", "word"] 3 (sp_bwrite C)) : FnOk P w K mg base CX0 5 f fd ["self", "handle", "place", "item"] (sp_hwrite C) := by
  refine F.ok sc_Heap__write (fun vs H Q E h => ?_) (fun cdv A outer s H vs Q E hr h => ?_)
  · obtain ⟨_, _, _, _, _, _, _, _, _, rfl, _⟩ := h; rfl
  obtain ⟨F, ar, rws, s, h, p, ip, it, s', rfl, S, hip, hm, q⟩ := h
  refine ⟨_, (pss_cons (ps_set (i := 4) sc_Heap__write.nd rfl (Or.inl rfl) (pe_meth (pv 0) C.hcl Mh_address_with_place.m Mh_address_with_place.ok (hr.mono (by omega)) Mh_address_with_place.b .nil pass0 (pa_cons (pv 1) (pa_cons (pv 2) pa_nil))))
    (pss_cons (ps_if (PW.pt (pw_or (pt_not (pt_val (pe_meth (pv 0) C.hcl Mh_is_item.m Mh_is_item.ok (hr.mono (by omega)) Mh_is_item.b .nil pass0 (pa_cons (pv 3) pa_nil)))) (pw_or1 (pt_not (pt_val (pe_call D_may_stand.ok (hr.mono (by omega)) rfl D_may_stand.g D_may_stand.k D_may_stand.b .nil pass0 (pa_cons (pe_meth (pe_fld (pv 0) rfl) C.bcl Mb_sort_at.m Mb_sort_at.ok (hr.mono (by omega)) Mb_sort_at.b .nil pass0 (pa_cons (pv 4) pa_nil)) (pa_cons (pv 2) (pa_cons (pe_meth (pv 0) C.hcl Mh_word_of_item.m Mh_word_of_item.ok (hr.mono (by omega)) Mh_word_of_item.b .nil pass0 (pa_cons (pv 3) pa_nil)) pa_nil))))))))) (pss_one ps_no) pss_nil)
    (pss_one (ps_expr (pe_meth (pe_fld (pv 0) rfl) C.bcl Mb_write.m Mb_write.ok (hr.mono (by omega)) Mb_write.b .nil pass0 (pa_cons (pv 4) (pa_cons (pv 2) (pa_cons (pe_meth (pv 0) C.hcl Mh_word_of_item.m Mh_word_of_item.ok (hr.mono (by omega)) Mh_word_of_item.b .nil pass0 (pa_cons (pv 3) pa_nil)) pa_nil)))))))), ?_⟩
  unfold write at hm
  split at hm
  · cases hm
  rename_i wd hl
  split at hm
  rotate_left
  · cases hm
  rename_i ht
  split at hm
  · cases hm
  rename_i hd hh
  split at hm
  rotate_left
  · cases hm
  rename_i hc
  split at hm
  · cases hm
  rename_i v hv
  split at hm
  rotate_left
  · cases hm
  rename_i hms
  obtain ⟨hc1, hc2, hc3⟩ := hc
  obtain ⟨k, x, ek, hx⟩ := sort_of hc2
  refine seq_set ⟨_, rfl, F.ho, F.hd, _, rfl, S.ho, rfl, _, rfl, _, rfl, F, ar, rws, s, h, wd, p, hd, rfl, S, hl, ht, hh, Int.natCast_nonneg p, hc1, ?_⟩
  refine ⟨_, rfl, F.ho, F.hd, _, rfl, S.ho, rfl, _, rfl, F, ar, rws, s, ip, it, rfl, S, hip, _, rfl, ?_⟩
  rw [hc3]
  refine iteF ((⟨_, rfl, _, _, _, _, _, rfl, St.ho S, Cs.hcl _, C.store, rfl, ⟨F.bo, F.bd, _, rfl, S.bo, rfl, _, rfl, F, ar, rws, s, _, hd, k, x, rfl, S, hh, ek, hx, ?_⟩⟩))
  refine ⟨_, rfl, _, rfl, F.ho, F.hd, _, rfl, S.ho, rfl, _, rfl, F, ar, rws, s, ip, it, v, rfl, S, hip, hv, x, k, p, v, rfl, hx, fun H1 g1 => ⟨_, rfl, ?_⟩⟩
  have S1 := S.same g1
  rw [show k = (hd % 8).toNat from by rw [ek]; rfl, hms]
  refine iteF (go_next ((⟨_, rfl, _, _, _, _, _, rfl, St.ho S1, Cs.hcl _, C.store, rfl, ⟨F.bo, F.bd, _, rfl, S1.bo, rfl, _, rfl, _, rfl, _, rfl, F.ho, F.hd, _, rfl, S1.ho, rfl, _, rfl, F, ar, rws, s, ip, it, v, rfl, S1, g1 _ _ hip, hv, F, ar, rws, s, _, _, v, s', rfl, S1, hm, fun H2 g2 => ?_⟩⟩)))
  exact q _ ⟨g2.st, fun b u n e => g2.ch b u n (g1 _ _ e)⟩
end
end Wk
set_option maxRecDepth 100000
set_option maxHeartbeats 4000000
namespace Wk
open PySem L2 TL PyProof.Rows Hm
open SX (S S_len)
def ItsAt (H : Hp) : List Addr → List Hm.It → Prop
  | [], [] => True
  | a :: as, i :: is => H a = some (.tup (itV i)) ∧ ItsAt H as is
  | _, _ => False
theorem ItsAt.len {H : Hp} : ∀ {as : List Addr} {is : List Hm.It}, ItsAt H as is → as.length = is.length
  | [], [], _ => rfl
  | _ :: _, _ :: _, h => congrArg Nat.succ (ItsAt.len h.2)
  | [], _ :: _, h => h.elim
  | _ :: _, [], h => h.elim
theorem ItsAt.keep {H H' : Hp} (g : ∀ a xs, H a = some (.tup xs) → H' a = some (.tup xs)) : ∀ {as : List Addr} {is : List Hm.It}, ItsAt H as is → ItsAt H' as is
  | [], [], _ => trivial
  | a :: as, i :: is, h => ⟨g a _ h.1, ItsAt.keep g h.2⟩
  | [], _ :: _, h => h.elim
  | _ :: _, [], h => h.elim
theorem ItsAt.at {H : Hp} : ∀ {as : List Addr} {is : List Hm.It} {i : Nat} {a : Addr}, ItsAt H as is → as[i]? = some a → ∃ it, is[i]? = some it ∧ H a = some (.tup (itV it))
  | _ :: _, q :: _, 0, _, h, e => by cases e; exact ⟨q, rfl, h.1⟩
  | _ :: _, _ :: _, i + 1, _, h, e => ItsAt.at (i := i) h.2 e
  | [], [], _, _, _, e => by simp at e
  | [], _ :: _, _, _, h, _ => h.elim
  | _ :: _, [], _, _, h, _ => h.elim
theorem worths_at {s : Bd} : ∀ {its : List Hm.It} {ws : List Int}, worths s its = some ws → ws.length = its.length ∧ ∀ (i : Nat) (it : Hm.It), its[i]? = some it → ∃ v : Int, worth s it = some v ∧ ws[i]? = some v
  | [], ws, h => by cases h; exact ⟨rfl, fun i it e => by simp at e⟩
  | i :: r, ws, h => by
    rw [worths] at h
    split at h
    · rename_i a b e1 e2
      cases h
      obtain ⟨h1, h2⟩ := worths_at e2
      refine ⟨by rw [List.length_cons, List.length_cons, h1], fun j it e => ?_⟩
      cases j with
      | zero => cases e; exact ⟨a, e1, rfl⟩
      | succ j => exact h2 j it e
    · cases h
section
variable {K : PySem.W.Frag} {C : Cs K} {F : Fx} {ar : Addr} {rws : List Addr} {H : Hp} {s : Bd}
/-- [self.word_of_item(item) for item in items] -/
theorem worths_lc {v1 v2 v3 : Option V} {pi D : Addr} {ias : List Addr} {its : List Hm.It} {ws : List Int} {Qd : Hp → Prop} (S : St C H F ar rws s) (hpi : H pi = some (.tup (ias.map V.ref))) (hi : ItsAt H ias its) (hw : worths s its = some ws) (hl : its.length ≤ 60000) (hD : H D = none)
    (q : ∀ H', Same H H' → H' D = some (.lst (ws.map V.int)) → Qd H') :
    ∃ W : Nat → Nat → Hp → Prop, (∃ m, W 0 m (upd H D (.lst []))) ∧ ∀ i m H1, W i m H1 →
      ((Itt K pi).stop i H1 ∧ Qd H1) ∨ ((Itt K pi).go i H1 ∧ ∃ Nx : Hp → Prop, (∀ H', Nx H' → ∃ m', m' < m ∧ W (i + 1) m' H') ∧ ∀ x H', (Itt K pi).yld i H1 x H' → gName 3 x (wipe [some (.ref F.ho), v1, v2, v3] [3]) H' fun σ2 H2 => wipe σ2 [3] = wipe [some (.ref F.ho), v1, v2, v3] [3] ∧ tYes σ2 H2 fun b H3 =>
        if b = true then tMeth C.H "word_of_item" (sp_hworth C) [] E0 (tVar 0) (tCons (tVar 3) tNil) σ2 H3 fun y H4 => ∃ acc, H4 D = some (.lst acc) ∧ acc.length < sizeLine ∧ Nx (upd H4 D (.lst (acc ++ [y]))) else Nx H3) := by
  have hz := line_eq
  have hlen := hi.len
  obtain ⟨hwl, hwa⟩ := worths_at hw
  refine lc_tup (xs := ias.map V.ref) (fun i H' => Same H H' ∧ i ≤ ias.length ∧ H' D = some (.lst ((ws.take i).map V.int))) ⟨same_new hD _, Nat.zero_le _, upd_same⟩ (fun i H' _ h => SqT.of (h.1 _ _ hpi)) ?_ ?_
  · rintro i v H' hv ⟨g, hi', hd⟩
    rw [List.getElem?_map] at hv
    cases et : ias[i]? with
    | none => rw [et] at hv; cases hv
    | some a =>
    rw [et] at hv
    cases hv
    have hlt : i < ias.length := (List.getElem?_eq_some_iff.mp et).1
    obtain ⟨it, e1, e2⟩ := hi.at et
    obtain ⟨n, e3, e4⟩ := hwa i it e1
    have S' := S.same g
    refine ⟨rfl, ?_⟩
    unfold tYes
    dsimp only
    rw [if_pos rfl]
    refine ⟨_, rfl, F.ho, F.hd, _, rfl, S'.ho, rfl, _, rfl, F, ar, rws, s, a, it, n, rfl, S', g _ _ e2, e3, ?_⟩
    refine ⟨_, hd, (by rw [List.length_map, List.length_take]; omega), same_mut g hD _, hlt, ?_⟩
    rw [upd_same, take_app e4, List.map_append]; rfl
  · rintro H' ⟨g, hi', hd⟩
    rw [List.length_map, hlen, ← hwl, List.take_length] at hd
    exact q _ g hd
end
section
variable {P : Program} {w : World} {K : PySem.W.Frag} {mg : Str → Option Value} {base : Heap}
abbrev s_Heap__make : Stmt := inClass (top 69) 9
theorem sc_Heap__make : FnScope ["self", "sort", "items", "item"] ["self", "sort", "items"] (defScope s_Heap__make) := ⟨rfl, rfl, rfl, by decide +kernel, rfl, by decide +kernel, by decide +kernel⟩
def sp_hmake (C : Cs K) : Sp := fun vs H Q _ => ∃ F ar rws s x k, ∃ (pi : Addr) (ias : List Addr) (its : List Hm.It), ∃ n s', vs = [.ref F.ho, .str (S (codes x)), .ref pi] ∧ SortIs x k ∧ St C H F ar rws s ∧ H pi = some (.tup (ias.map V.ref)) ∧ ItsAt H ias its ∧ its.length ≤ 60000 ∧ make s k its = some (n, s') ∧ ∀ H' ar' rws', Go C F ar rws H H' ar' rws' s' → Q (.int n) H'
theorem ok_hmake (T : Txt K mg base) (T5 : Txt5 K w mg) (C : Cs K) {f : Addr} {fd : FuncData} (F : Fun K "make" "Heap.make" s_Heap__make f fd) (Mh_is_item : MD P w K mg base CX0 C.H "is_item" ["self", "thing"] 4 (sp_hisitem C)) (Mh_word_of_item : MD P w K mg base CX0 C.H "word_of_item" ["self", "item"] 1 (sp_hworth C)) (D_may_be : Def P w K mg base CX0 "may_be" ["sort", "found"] 4 sp_maybe) (Mb_reserve : MD P w K mg base CX0 C.B "reserve" ["self", "many"] 7 (sp_breserve C)) (Mb_place : MD P w K mg base CX0 C.B "place" ["self", "sort", "found"] 5 (sp_bplace C)) (Mh_give_handle : MD P w K mg base CX0 C.H "give_handle" ["self", "word"] 1 (sp_hgive C)) : FnOk P w K mg base CX0 8 f fd ["self", "sort", "items"] (sp_hmake C) := by
  refine F.ok sc_Heap__make (fun vs H Q E h => ?_) (fun cdv A outer s H vs Q E hr h => ?_)
  · obtain ⟨_, _, _, _, _, _, _, _, _, _, _, rfl, _⟩ := h; rfl
  obtain ⟨F, ar, rws, s, x, k, pi, ias, its, n, s', rfl, hx, S, hpi, hia, hl, hm, q⟩ := h
  refine ⟨_, (pss_cons (ps_if (PW.pt (pw_or (pt_not (pt_val (pe_callB call_isi rfl T.n_isinstance boot_isinstance (pa_cons (pv 1) (pa_cons (pe_bltn (v := .ty "str") rfl T.n_str boot_str rfl) pa_nil))))) (pw_or1 (pt_cmpR op_notIn_seq (pv 1) (pe_glob (v := .ref T5.aSORTS) rfl T5.mSORTS rfl) rfl)))) (pss_one ps_no) pss_nil)
    (pss_cons (ps_if (PW.pt (pw_or (pt_not (pt_val (pe_callB call_isi rfl T.n_isinstance boot_isinstance (pa_cons (pv 2) (pa_cons (pe_bltn (v := .ty "tuple") rfl T.n_tuple boot_tuple rfl) pa_nil))))) (pw_or1 (pt_not (pt_val (pe_callB (cr_all rfl) rfl T.n_all boot_all (pa_cons (pe_lc (own := [("item", 3)]) (g := gName 3) (tt := tYes) rfl sc_Heap__make.nd (pi_tup (pv 2)) (blkOk_by (N := ["self", "sort", "items", "item"]) (sc := defScope s_Heap__make) (by decide +kernel)) (fun _ _ _ _ _ => pg_name (i := 3) sc_Heap__make.nd rfl (Or.inl rfl)) (fun _ _ _ _ _ => pts_nil) (fun _ _ _ _ _ => (pe_meth (pv 0) C.hcl Mh_is_item.m Mh_is_item.ok (hr.mono (by omega)) Mh_is_item.b .nil pass0 (pa_cons (pv 3) pa_nil)))) pa_nil))))))) (pss_one ps_no) pss_nil)
    (pss_cons (ps_if (pt_not (pt_val (pe_call D_may_be.ok (hr.mono (by omega)) rfl D_may_be.g D_may_be.k D_may_be.b .nil pass0 (pa_cons (pv 1) (pa_cons (pe_lc (own := [("item", 3)]) (g := gName 3) (tt := tYes) rfl sc_Heap__make.nd (pi_tup (pv 2)) (blkOk_by (N := ["self", "sort", "items", "item"]) (sc := defScope s_Heap__make) (by decide +kernel)) (fun _ _ _ _ _ => pg_name (i := 3) sc_Heap__make.nd rfl (Or.inl rfl)) (fun _ _ _ _ _ => pts_nil) (fun _ _ _ _ _ => (pe_meth (pv 0) C.hcl Mh_word_of_item.m Mh_word_of_item.ok (hr.mono (by omega)) Mh_word_of_item.b .nil pass0 (pa_cons (pv 3) pa_nil)))) pa_nil))))) (pss_one ps_no) pss_nil)
    (pss_cons (ps_expr (pe_meth (pe_fld (pv 0) rfl) C.bcl Mb_reserve.m Mb_reserve.ok (hr.mono (by omega)) Mb_reserve.b .nil pass0 (pa_cons (pe_op op_add (pe_callB call_len_seq rfl T.n_len boot_len (pa_cons (pv 2) pa_nil)) (pe_glob (v := .int 2) rfl T5.mAHEAD ⟨_, rfl⟩)) pa_nil)))
    (pss_one (ps_ret (pe_meth (pv 0) C.hcl Mh_give_handle.m Mh_give_handle.ok (hr.mono (by omega)) Mh_give_handle.b .nil pass0 (pa_cons (pe_meth (pe_fld (pv 0) rfl) C.bcl Mb_place.m Mb_place.ok (hr.mono (by omega)) Mb_place.b .nil pass0 (pa_cons (pv 1) (pa_cons (pe_lc (own := [("item", 3)]) (g := gName 3) (tt := tYes) rfl sc_Heap__make.nd (pi_tup (pv 2)) (blkOk_by (N := ["self", "sort", "items", "item"]) (sc := defScope s_Heap__make) (by decide +kernel)) (fun _ _ _ _ _ => pg_name (i := 3) sc_Heap__make.nd rfl (Or.inl rfl)) (fun _ _ _ _ _ => pts_nil) (fun _ _ _ _ _ => (pe_meth (pv 0) C.hcl Mh_word_of_item.m Mh_word_of_item.ok (hr.mono (by omega)) Mh_word_of_item.b .nil pass0 (pa_cons (pv 3) pa_nil)))) pa_nil))) pa_nil)))))))), ?_⟩
  have hz := line_eq
  unfold make at hm
  split at hm
  rotate_left
  · cases hm
  rename_i hc
  obtain ⟨hc1, hc2, hc3⟩ := hc
  split at hm
  · cases hm
  rename_i w0 hw0
  split at hm
  rotate_left
  · cases hm
  rename_i hmb
  split at hm
  · cases hm
  rename_i s1 hr1
  split at hm
  · cases hm
  rename_i ws hws
  split at hm
  · cases hm
  rename_i wd s2 hp2
  have hlen := hia.len
  -- isinstance(sort, str), sort not in SORTS
  refine ⟨_, rfl, _, .ty "str", .type "str", .type "str", true, rfl, .ty "str", .base (.str _), kit_ty (by decide +kernel), _, rfl, ?_⟩
  refine iteF ⟨_, rfl, _, _, rfl, .inr (T5.kSORTS H), rfl, rfl, _, rfl, ?_⟩
  rw [if_pos rfl, hx.inS]
  refine iteF (go_next ?_)
  -- isinstance(items, tuple), all(..)
  refine ⟨_, rfl, _, .ty "tuple", .type "tuple", .type "tuple", true, rfl, .ty "tuple", .base (.tup hpi), kit_ty (by decide +kernel), _, rfl, ?_⟩
  refine iteF ⟨_, rfl, pi, rfl, ⟨_, SqT.of hpi⟩, fun D hD => ?_⟩
  refine lc_tup (xs := ias.map V.ref) (fun i H' => Same H H' ∧ i ≤ ias.length ∧ H' D = some (.lst ((List.replicate i true).map V.bl))) ⟨same_new hD _, Nat.zero_le _, upd_same⟩ (fun i H' _ h => SqT.of (h.1 _ _ hpi)) ?_ ?_
  · rintro i v H' hv ⟨g, hi', hd⟩
    rw [List.getElem?_map] at hv
    cases et : ias[i]? with
    | none => rw [et] at hv; cases hv
    | some a =>
    rw [et] at hv
    cases hv
    have hlt : i < ias.length := (List.getElem?_eq_some_iff.mp et).1
    obtain ⟨it, e1, e2⟩ := hia.at et
    have eok : itemOk s it = true := List.all_eq_true.mp hc2 it (List.mem_of_getElem? e1)
    have S' := S.same g
    refine ⟨rfl, ?_⟩
    unfold tYes
    dsimp only
    rw [if_pos rfl]
    refine ⟨_, rfl, F.ho, F.hd, _, rfl, S'.ho, rfl, _, rfl, F, ar, rws, s, a, it, rfl, S', g _ _ e2, ?_⟩
    rw [eok]
    refine ⟨_, hd, (by rw [List.length_map, List.length_replicate]; omega), same_mut g hD _, hlt, ?_⟩
    rw [upd_same, List.replicate_succ', List.map_append]; rfl
  rintro H1 ⟨g1, _, hd1⟩
  refine ⟨D, _, rfl, SqL.of hd1, _, rfl, ?_⟩
  have eall : ((List.replicate ((ias.map V.ref).length) true).all id) = true := by simp
  rw [eall]
  refine iteF (go_next ?_)
  have S1 := S.same g1
  have hpi1 := g1 _ _ hpi
  have hia1 : ItsAt H1 ias its := hia.keep fun a xs e => g1 _ _ e
  -- may_be(sort, [..])
  refine ⟨_, rfl, _, rfl, pi, rfl, ⟨_, SqT.of hpi1⟩, fun D2 hD2 => ?_⟩
  refine worths_lc S1 hpi1 hia1 hw0 hl hD2 fun H2 g2 hd2 => ?_
  obtain ⟨hwl, _⟩ := worths_at hw0
  refine ⟨x, k, D2, w0, rfl, hx, hd2, by omega, fun H3 g3 => ⟨_, rfl, ?_⟩⟩
  rw [hmb]
  refine iteF (go_next ?_)
  have g03 := (g1.trans g2).trans g3
  have S3 := S.same g03
  have hpi3 := g03 _ _ hpi
  have hia3 : ItsAt H3 ias its := hia.keep fun a xs e => g03 _ _ e
  -- reserve
  refine (⟨_, rfl, _, _, _, _, _, rfl, St.ho S3, Cs.hcl _, C.store, rfl, ⟨F.bo, F.bd, _, rfl, S3.bo, rfl, _, rfl, pi, _, rfl, .inr (SqT.of hpi3), _, _, rfl, rfl, F, ar, rws, s, _, s1, (by rw [List.length_map, hlen]; rfl), S3, hr1, fun H4 ar4 g4 => ?_⟩⟩)
  have S4 := g4.st
  have tup4 : ∀ a xs, H3 a = some (.tup xs) → H4 a = some (.tup xs) := fun a xs e => (g4.ch a _ (S3.noTup e) e).2
  have hpi4 := tup4 _ _ hpi3
  have hia4 : ItsAt H4 ias its := hia3.keep tup4
  -- place
  dsimp only
  refine ⟨_, rfl, F.ho, F.hd, _, rfl, S4.ho, rfl, (⟨_, rfl, _, _, _, _, _, rfl, St.ho S4, Cs.hcl _, C.store, rfl, ⟨F.bo, F.bd, _, rfl, S4.bo, rfl, _, rfl, _, rfl, pi, rfl, ⟨_, SqT.of hpi4⟩, fun D5 hD5 => ?_⟩⟩)⟩
  refine worths_lc S4 hpi4 hia4 hws hl hD5 fun H5 g5 hd5 => ?_
  have S5 := S4.same g5
  have hno5 : ¬ Own F ar4 rws D5 := S4.off hD5
  obtain ⟨hwl2, _⟩ := worths_at hws
  refine ⟨F, ar4, rws, s1, x, k, D5, ws, wd, s2, rfl, hx, S5, hd5, hno5, by omega, hp2, fun H6 g6 => ?_⟩
  refine ⟨F, ar4, rws, s2, wd, n, s', rfl, g6.st, hm, fun H7 rws7 g7 => ?_⟩
  refine q _ _ _ ⟨g7.st, ?_⟩
  refine ((Ch.trans (fun b u n e => ?_) g6.ch).trans g7.ch)
  obtain ⟨n4, e4⟩ := g4.ch b u n (g03 _ _ e)
  exact ⟨n4, g5 _ _ e4⟩
end
end Wk
set_option maxRecDepth 100000
set_option maxHeartbeats 4000000
namespace Wk
open PySem L2 TL PyProof.Rows Hm
open SX (S S_len)
/-- a class that is called -/
structure MkD (P : Program) (w : World) (K : PySem.W.Frag) (mg : Str → Option Value) (base : Heap) (CX : CXT) (x : Str) (C : Addr) (ps : List Str) (k : Nat) (sp : Sp) where
  g : mg x = some (.ref C)
  fI : Addr
  fd : FuncData
  made : Mk K C fI
  ok : FnOk P w K mg base CX k fI fd ps sp
  b : Binds K fd ps []
/-- the classes by their names, and Layout -/
structure Cs2 (K : PySem.W.Frag) (mg : Str → Option Value) (C : Cs K) where
  gR : mg "Room" = some (.ref C.R)
  ha : PySem.W.findIn K (.ref C.R) "__class__" = some (some (.builtin "object.__class__"))
  hn : PySem.W.specialIn K (.builtin "object.__class__") "__get__" = some (some (.builtin "getset_descriptor.__get__"))
  ht : PySem.W.takesIn K (.builtin "object.__class__") = some true
  hm : PySem.W.mroIn K C.R (.type "object") = some true
  L : Addr
  lcl : Cls K L
  l1 : NoAttr K L "room"
  l2 : NoAttr K L "words"
  l3 : NoAttr K L "use"
  l4 : NoAttr K L "free"
  l5 : NoAttr K L "scan"
  l6 : NoAttr K L "top"
  l7 : NoAttr K L "left"
  l8 : NoAttr K L "copied"
  l9 : NoAttr K L "remembered"
  l10 : NoAttr K L "roots"
  l11 : NoAttr K L "last"
/-- all but x stands as it did -/
def OnX (x : Addr) (H H' : Hp) : Prop := ∀ b, b ≠ x → H' b = H b
theorem OnX.refl {x : Addr} {H : Hp} : OnX x H H := fun _ _ => rfl
theorem OnX.upd {x : Addr} {H H' : Hp} (g : OnX x H H') (o : HO) : OnX x H (upd H' x o) := fun b n => by rw [upd_ne n]; exact g b n
section
variable {P : Program} {w : World} {K : PySem.W.Frag} {mg : Str → Option Value} {base : Heap}
abbrev s_Laid____init__ : Stmt := inClass (top 40) 0
theorem sc_Laid____init__ : FnScope ["self", "words"] ["self", "words"] (defScope s_Laid____init__) := ⟨rfl, rfl, rfl, by decide +kernel, rfl, by decide +kernel, by decide +kernel⟩
def sp_linit (C : Cs K) : Sp := fun vs H Q _ => ∃ x v dx, vs = [.ref x, v] ∧ H x = some (.ins C.B dx []) ∧ Q .non (upd H x (.ins C.B dx [("words", v)]))
theorem ok_linit (C : Cs K) {f : Addr} {fd : FuncData} (F : Fun K "__init__" "Laid.__init__" s_Laid____init__ f fd) : FnOk P w K mg base CX0 1 f fd ["self", "words"] (sp_linit C) := by
  refine F.ok sc_Laid____init__ (fun vs H Q E h => ?_) (fun cdv A outer s H vs Q E hr h => ?_)
  · obtain ⟨_, _, _, rfl, _⟩ := h; rfl
  obtain ⟨x, v, dx, rfl, hx, q⟩ := h
  refine ⟨_, (pss_one (ps_fld (pv 0) (pv 1) rfl)), ?_⟩
  exact ⟨_, rfl, _, rfl, x, C.B, dx, _, rfl, hx, C.bcl, C.words, (by show 0 < 1000; omega), q⟩
/-- Laid's own __init__ -/
structure LaidI (P : Program) (w : World) (K : PySem.W.Frag) (mg : Str → Option Value) (base : Heap) (C : Cs K) where
  C : Addr
  g : mg "Laid" = some (.ref C)
  f : Addr
  fd : FuncData
  u : UFn K C "__init__" f
  ok : FnOk P w K mg base CX0 1 f fd ["self", "words"] (sp_linit ‹Cs K›)
  b : Binds K fd ["self", "words"] []
abbrev s_Room____init__ : Stmt := inClass (top 53) 0
theorem sc_Room____init__ : FnScope ["self", "young", "old", "pace"] ["self", "young", "old", "pace"] (defScope s_Room____init__) := ⟨rfl, rfl, rfl, by decide +kernel, rfl, by decide +kernel, by decide +kernel⟩
def sp_rinit (C : Cs K) : Sp := fun vs H Q _ => ∃ x dx, ∃ y o p : Int, vs = [.ref x, .int y, .int o, .int p] ∧ H x = some (.ins C.R dx []) ∧ 8 ≤ y ∧ y ≤ 100000 ∧ y ≤ o ∧ o ≤ 1000000 ∧ 0 ≤ p ∧ p ≤ 1000 ∧ ∀ H', H' x = some (.ins C.R dx (roomF (.int y) (.int o) (.int p))) → OnX x H H' → Q .non H'
theorem ok_rinit (T : Txt K mg base) (C : Cs K) {f : Addr} {fd : FuncData} (F : Fun K "__init__" "Room.__init__" s_Room____init__ f fd) (D_is_integer : Def P w K mg base CX0 "is_integer" ["thing"] 1 sp_is_integer) : FnOk P w K mg base CX0 2 f fd ["self", "young", "old", "pace"] (sp_rinit C) := by
  refine F.ok sc_Room____init__ (fun vs H Q E h => ?_) (fun cdv A outer s H vs Q E hr h => ?_)
  · obtain ⟨_, _, _, _, _, rfl, _⟩ := h; rfl
  obtain ⟨x, dx, y, o, p, rfl, hx, a1, a2, a3, a4, a5, a6, q⟩ := h
  refine ⟨_, (pss_cons (ps_if (PW.pt (pw_or (pt_not (pt_val (pe_call D_is_integer.ok (hr.mono (by omega)) rfl D_is_integer.g D_is_integer.k D_is_integer.b .nil pass0 (pa_cons (pv 1) pa_nil)))) (pw_or1 (pt_not (pt_chain op_le op_le (pe_glob (v := .int 8) rfl T.mLEAST_YOUNG ⟨_, rfl⟩) (pv 1) (pe_glob (v := .int 100000) rfl T.mMOST_YOUNG ⟨_, rfl⟩)))))) (pss_one ps_no) pss_nil)
    (pss_cons (ps_if (PW.pt (pw_or (pt_not (pt_val (pe_call D_is_integer.ok (hr.mono (by omega)) rfl D_is_integer.g D_is_integer.k D_is_integer.b .nil pass0 (pa_cons (pv 2) pa_nil)))) (pw_or1 (pt_not (pt_chain op_le op_le (pv 1) (pv 2) (pe_glob (v := .int 1000000) rfl T.mMOST_OLD ⟨_, rfl⟩)))))) (pss_one ps_no) pss_nil)
    (pss_cons (ps_if (PW.pt (pw_or (pt_not (pt_val (pe_call D_is_integer.ok (hr.mono (by omega)) rfl D_is_integer.g D_is_integer.k D_is_integer.b .nil pass0 (pa_cons (pv 3) pa_nil)))) (pw_or1 (pt_not (pt_chain op_le op_le pe_int (pv 3) (pe_glob (v := .int 1000) rfl T.mMOST_PACE ⟨_, rfl⟩)))))) (pss_one ps_no) pss_nil)
    (pss_cons (ps_fld (pv 0) (pv 1) rfl)
    (pss_cons (ps_fld (pv 0) (pv 2) rfl)
    (pss_one (ps_fld (pv 0) (pv 3) rfl))))))), ?_⟩
  refine ⟨_, rfl, .int y, rfl, .int y, _, rfl, iteF ⟨_, rfl, _, _, rfl, rfl, _, rfl, ?_⟩⟩
  rw [decide_eq_true a1]
  refine iteT ⟨_, _, rfl, rfl, _, rfl, ?_⟩
  rw [decide_eq_true a2]
  refine iteF (go_next ?_)
  refine ⟨_, rfl, .int o, rfl, .int o, _, rfl, iteF ⟨_, rfl, _, rfl, _, _, rfl, rfl, _, rfl, ?_⟩⟩
  rw [decide_eq_true a3]
  refine iteT ⟨_, _, rfl, rfl, _, rfl, ?_⟩
  rw [decide_eq_true a4]
  refine iteF (go_next ?_)
  refine ⟨_, rfl, .int p, rfl, .int p, _, rfl, iteF ⟨_, rfl, _, _, rfl, rfl, _, rfl, ?_⟩⟩
  rw [decide_eq_true a5]
  refine iteT ⟨_, _, rfl, rfl, _, rfl, ?_⟩
  rw [decide_eq_true a6]
  refine iteF (go_next ?_)
  refine ⟨_, rfl, _, rfl, x, C.R, dx, _, rfl, hx, C.rcl, C.young, (by show 0 < 1000; omega), ?_⟩
  refine ⟨_, rfl, _, rfl, x, C.R, dx, _, rfl, upd_same, C.rcl, C.old, (by show 1 < 1000; omega), ?_⟩
  refine ⟨_, rfl, _, rfl, x, C.R, dx, _, rfl, upd_same, C.rcl, C.pace, (by show 2 < 1000; omega), ?_⟩
  exact q _ upd_same (((OnX.refl.upd _).upd _).upd _)
abbrev s_check_room : Stmt := top 54
theorem sc_check_room : FnScope ["thing"] ["thing"] (defScope s_check_room) := ⟨rfl, rfl, rfl, by decide +kernel, rfl, by decide +kernel, by decide +kernel⟩
def sp_croom (C : Cs K) : Sp := fun vs H Q _ => ∃ r rd fs, vs = [.ref r] ∧ H r = some (.ins C.R rd fs) ∧ Q .non H
theorem ok_croom (T : Txt K mg base) (C : Cs K) (C2 : Cs2 K mg C) {f : Addr} {fd : FuncData} (F : Fun K "check_room" "check_room" s_check_room f fd) : FnOk P w K mg base CX0 1 f fd ["thing"] (sp_croom C) := by
  refine F.ok sc_check_room (fun vs H Q E h => ?_) (fun cdv A outer s H vs Q E hr h => ?_)
  · obtain ⟨_, _, _, rfl, _⟩ := h; rfl
  obtain ⟨r, rd, fs, rfl, h, q⟩ := h
  refine ⟨_, (pss_one (ps_if (PW.pt (pw_and (pt_cmpR op_notN (pv 0) pe_non (nomark _)) (pw_and1 (pt_not (pt_val (pe_callB call_isi rfl T.n_isinstance boot_isinstance (pa_cons (pv 0) (pa_cons (pe_glob (v := .ref C.R) rfl C2.gR rfl) pa_nil)))))))) (pss_one ps_no) pss_nil)), ?_⟩
  have k1 : PySem.W.kitOne K (.ref C.R) (.ref C.R) = some true := if_pos (by simp)
  refine ⟨_, rfl, rfl, _, rfl, ?_⟩
  rw [show decide (V.ref r = V.non) = false from decide_eq_false (fun z => by cases z)]
  refine iteT ⟨_, rfl, _, .ref C.R, .ref C.R, .ref C.R, true, rfl, .own _, .base (.ins h C.rcl C2.ha C2.hn C2.ht C2.hm), k1, _, rfl, ?_⟩
  exact iteF q
abbrev s_Layout____init__ : Stmt := inClass (top 64) 0
theorem sc_Layout____init__ : FnScope ["self", "room", "words", "use", "free", "scan", "top", "left", "copied", "remembered", "roots", "last"] ["self", "room", "words", "use", "free", "scan", "top", "left", "copied", "remembered", "roots", "last"] (defScope s_Layout____init__) := ⟨rfl, rfl, rfl, by decide +kernel, rfl, by decide +kernel, by decide +kernel⟩
def layF (v1 v2 v3 v4 v5 v6 v7 v8 v9 v10 v11 : V) : List (Str × V) := [("room", v1), ("words", v2), ("use", v3), ("free", v4), ("scan", v5), ("top", v6), ("left", v7), ("copied", v8), ("remembered", v9), ("roots", v10), ("last", v11)]
def sp_layinit (C : Cs K) (C2 : Cs2 K mg C) : Sp := fun vs H Q _ => ∃ x dx v1 v2 v3 v4 v5 v6 v7 v8 v9 v10 v11, vs = [.ref x, v1, v2, v3, v4, v5, v6, v7, v8, v9, v10, v11] ∧ H x = some (.ins C2.L dx []) ∧ ∀ H', H' x = some (.ins C2.L dx (layF v1 v2 v3 v4 v5 v6 v7 v8 v9 v10 v11)) → OnX x H H' → Q .non H'
theorem ok_layinit (C : Cs K) (C2 : Cs2 K mg C) {f : Addr} {fd : FuncData} (F : Fun K "__init__" "Layout.__init__" s_Layout____init__ f fd) : FnOk P w K mg base CX0 1 f fd ["self", "room", "words", "use", "free", "scan", "top", "left", "copied", "remembered", "roots", "last"] (sp_layinit C C2) := by
  refine F.ok sc_Layout____init__ (fun vs H Q E h => ?_) (fun cdv A outer s H vs Q E hr h => ?_)
  · obtain ⟨_, _, _, _, _, _, _, _, _, _, _, _, _, rfl, _⟩ := h; rfl
  obtain ⟨x, dx, v1, v2, v3, v4, v5, v6, v7, v8, v9, v10, v11, rfl, hx, q⟩ := h
  refine ⟨_, (pss_cons (ps_fld (pv 0) (pv 1) rfl)
    (pss_cons (ps_fld (pv 0) (pv 2) rfl)
    (pss_cons (ps_fld (pv 0) (pv 3) rfl)
    (pss_cons (ps_fld (pv 0) (pv 4) rfl)
    (pss_cons (ps_fld (pv 0) (pv 5) rfl)
    (pss_cons (ps_fld (pv 0) (pv 6) rfl)
    (pss_cons (ps_fld (pv 0) (pv 7) rfl)
    (pss_cons (ps_fld (pv 0) (pv 8) rfl)
    (pss_cons (ps_fld (pv 0) (pv 9) rfl)
    (pss_cons (ps_fld (pv 0) (pv 10) rfl)
    (pss_one (ps_fld (pv 0) (pv 11) rfl)))))))))))), ?_⟩
  refine ⟨_, rfl, _, rfl, x, C2.L, dx, _, rfl, hx, C2.lcl, C2.l1, (by show 0 < 1000; omega), ?_⟩
  refine ⟨_, rfl, _, rfl, x, C2.L, dx, _, rfl, upd_same, C2.lcl, C2.l2, (by show 1 < 1000; omega), ?_⟩
  refine ⟨_, rfl, _, rfl, x, C2.L, dx, _, rfl, upd_same, C2.lcl, C2.l3, (by show 2 < 1000; omega), ?_⟩
  refine ⟨_, rfl, _, rfl, x, C2.L, dx, _, rfl, upd_same, C2.lcl, C2.l4, (by show 3 < 1000; omega), ?_⟩
  refine ⟨_, rfl, _, rfl, x, C2.L, dx, _, rfl, upd_same, C2.lcl, C2.l5, (by show 4 < 1000; omega), ?_⟩
  refine ⟨_, rfl, _, rfl, x, C2.L, dx, _, rfl, upd_same, C2.lcl, C2.l6, (by show 5 < 1000; omega), ?_⟩
  refine ⟨_, rfl, _, rfl, x, C2.L, dx, _, rfl, upd_same, C2.lcl, C2.l7, (by show 6 < 1000; omega), ?_⟩
  refine ⟨_, rfl, _, rfl, x, C2.L, dx, _, rfl, upd_same, C2.lcl, C2.l8, (by show 7 < 1000; omega), ?_⟩
  refine ⟨_, rfl, _, rfl, x, C2.L, dx, _, rfl, upd_same, C2.lcl, C2.l9, (by show 8 < 1000; omega), ?_⟩
  refine ⟨_, rfl, _, rfl, x, C2.L, dx, _, rfl, upd_same, C2.lcl, C2.l10, (by show 9 < 1000; omega), ?_⟩
  refine ⟨_, rfl, _, rfl, x, C2.L, dx, _, rfl, upd_same, C2.lcl, C2.l11, (by show 10 < 1000; omega), ?_⟩
  exact q _ upd_same (((((((((((OnX.refl.upd _).upd _).upd _).upd _).upd _).upd _).upd _).upd _).upd _).upd _).upd _)
abbrev s_layout_with : Stmt := top 67
theorem sc_layout_with : FnScope ["store", "roots"] ["store", "roots"] (defScope s_layout_with) := ⟨rfl, rfl, rfl, by decide +kernel, rfl, by decide +kernel, by decide +kernel⟩
def LayAt (K : PySem.W.Frag) {C : Cs K} (C2 : Cs2 K mg C) (H : Hp) (p ro : Addr) (s : Bd) (ws : List Int) : Prop := ∃ dx wa ra roots, H p = some (.ins C2.L dx (layF (.ref ro) (.ref wa) (.int s.use) (.int s.free) (.int s.scan) (.int s.top) (.int s.left) (.int s.copied) (.ref ra) (.ref roots) (.int s.last))) ∧ H wa = some (.tup (ws.map V.int)) ∧ H ra = some (.tup (s.rem.map V.int))
def sp_laywith (C : Cs K) (C2 : Cs2 K mg C) : Sp := fun vs H Q _ => ∃ F ar rws s ws rt, vs = [.ref F.bo, .ref rt] ∧ St C H F ar rws s ∧ told s = some ws ∧ ∀ H' p, Same H H' → LayAt K C2 H' p F.ro s ws → Q (.ref p) H'
theorem ok_laywith (T : Txt K mg base) (C : Cs K) (C2 : Cs2 K mg C) {f : Addr} {fd : FuncData} (F : Fun K "layout_with" "layout_with" s_layout_with f fd) (Mb_told_words : MD P w K mg base CX0 C.B "told_words" ["self"] 2 (sp_btold C)) (LM : MkD P w K mg base CX0 "Layout" C2.L ["self", "room", "words", "use", "free", "scan", "top", "left", "copied", "remembered", "roots", "last"] 1 (sp_layinit C C2)) : FnOk P w K mg base CX0 3 f fd ["store", "roots"] (sp_laywith C C2) := by
  refine F.ok sc_layout_with (fun vs H Q E h => ?_) (fun cdv A outer s H vs Q E hr h => ?_)
  · obtain ⟨_, _, _, _, _, _, rfl, _⟩ := h; rfl
  obtain ⟨F, ar, rws, s, ws, rt, rfl, S, ht, q⟩ := h
  refine ⟨_, (pss_cons (ps_if (pt_cmpR op_isN (pe_fld (pv 0) rfl) pe_non (nomark _)) (pss_one ps_no) pss_nil)
    (pss_one (ps_ret (pe_make LM.made LM.ok (hr.mono (by omega)) rfl LM.g LM.b .nil pass0 (pa_cons (pe_fld (pv 0) rfl) (pa_cons (pe_meth0 (pv 0) C.bcl Mb_told_words.m Mb_told_words.ok (hr.mono (by omega)) Mb_told_words.b .nil pass0) (pa_cons (pe_fld (pv 0) rfl) (pa_cons (pe_fld (pv 0) rfl) (pa_cons (pe_fld (pv 0) rfl) (pa_cons (pe_fld (pv 0) rfl) (pa_cons (pe_fld (pv 0) rfl) (pa_cons (pe_fld (pv 0) rfl) (pa_cons (pe_callTy (call_tup_dK rfl) rfl T.n_tuple boot_tuple (pa_cons (pe_fld (pv 0) rfl) pa_nil)) (pa_cons (pv 1) (pa_cons (pe_fld (pv 0) rfl) pa_nil))))))))))))))), ?_⟩
  refine (⟨_, rfl, _, _, _, _, _, rfl, St.bo S, Cs.bcl _, C.room, rfl, ⟨rfl, _, rfl, ?_⟩⟩)
  rw [show decide (V.ref F.ro = V.non) = false from decide_eq_false (fun z => by cases z)]
  refine iteF (go_next ?_)
  refine (⟨_, rfl, _, _, _, _, _, rfl, St.bo S, Cs.bcl _, C.room, rfl, ⟨_, rfl, F.bo, F.bd, _, rfl, S.bo, rfl, F, ar, rws, s, ws, rfl, S, ht, fun H1 wa g1 nwa hwa => ?_⟩⟩)
  have S1 := S.same g1
  refine (⟨_, rfl, _, _, _, _, _, rfl, St.bo S1, Cs.bcl _, C.use, rfl, ((⟨_, rfl, _, _, _, _, _, rfl, St.bo S1, Cs.bcl _, C.free, rfl, ((⟨_, rfl, _, _, _, _, _, rfl, St.bo S1, Cs.bcl _, C.scan, rfl, ((⟨_, rfl, _, _, _, _, _, rfl, St.bo S1, Cs.bcl _, C.top, rfl, ((⟨_, rfl, _, _, _, _, _, rfl, St.bo S1, Cs.bcl _, C.left, rfl, ((⟨_, rfl, _, _, _, _, _, rfl, St.bo S1, Cs.bcl _, C.copied, rfl, ((⟨_, rfl, _, _, _, _, _, rfl, St.bo S1, Cs.bcl _, C.rem, rfl, ⟨ar, _, rfl, S1.rmd, fun ra nra => ?_⟩⟩))⟩))⟩))⟩))⟩))⟩))⟩)
  have er : (remD s.rem).map (fun kv => kV kv.1) = s.rem.map V.int := by unfold remD; rw [List.map_map]; rfl
  rw [er]
  have g2 : Same H (upd H1 ra (.tup (s.rem.map V.int))) := same_to g1 nra _
  have hra : (upd H1 ra (.tup (s.rem.map V.int))) ra = some (.tup (s.rem.map V.int)) := upd_same
  have hwa2 : (upd H1 ra (.tup (s.rem.map V.int))) wa = some (.tup (ws.map V.int)) := by rw [upd_ne (ne_of_none hwa nra)]; exact hwa
  generalize upd H1 ra (.tup (s.rem.map V.int)) = H2 at g2 hra hwa2 ⊢
  have S2 := S.same g2
  refine ⟨_, rfl, (⟨_, rfl, _, _, _, _, _, rfl, St.bo S2, Cs.bcl _, C.last, rfl, (fun x dx nx ndx nxd => ?_)⟩)⟩
  refine ⟨x, dx, _, _, _, _, _, _, _, _, _, _, _, rfl, upd_same, fun H3 h3 g3 => ⟨rfl, ?_⟩⟩
  have keep : ∀ b u, H2 b = some u → H3 b = some u := fun b u e => by
    have n1 : b ≠ x := fun z => by rw [z, nx] at e; cases e
    have n2 : b ≠ dx := fun z => by rw [z, ndx] at e; cases e
    rw [g3 b n1, upd_ne n1, upd_ne n2]; exact e
  exact q H3 x (fun b u e => keep b u (g2 _ _ e)) ⟨dx, wa, ra, rt, h3, keep _ _ hwa2, keep _ _ hra⟩
abbrev s_Heap__layout : Stmt := inClass (top 69) 20
theorem sc_Heap__layout : FnScope ["self"] ["self"] (defScope s_Heap__layout) := ⟨rfl, rfl, rfl, by decide +kernel, rfl, by decide +kernel, by decide +kernel⟩
def sp_hlayout (C : Cs K) (C2 : Cs2 K mg C) : Sp := fun vs H Q _ => ∃ F ar rws s ws, vs = [.ref F.ho] ∧ St C H F ar rws s ∧ told s = some ws ∧ ∀ H' p, Same H H' → LayAt K C2 H' p F.ro s ws → Q (.ref p) H'
theorem ok_hlayout (C : Cs K) (C2 : Cs2 K mg C) {f : Addr} {fd : FuncData} (F : Fun K "layout" "Heap.layout" s_Heap__layout f fd) (Mh_root_pairs : MD P w K mg base CX0 C.H "root_pairs" ["self"] 1 (sp_hpairs C)) (D_layout_with : Def P w K mg base CX0 "layout_with" ["store", "roots"] 3 (sp_laywith C C2)) : FnOk P w K mg base CX0 4 f fd ["self"] (sp_hlayout C C2) := by
  refine F.ok sc_Heap__layout (fun vs H Q E h => ?_) (fun cdv A outer s H vs Q E hr h => ?_)
  · obtain ⟨_, _, _, _, _, rfl, _⟩ := h; rfl
  obtain ⟨F, ar, rws, s, ws, rfl, S, ht, q⟩ := h
  refine ⟨_, (pss_one (ps_ret (pe_call D_layout_with.ok (hr.mono (by omega)) rfl D_layout_with.g D_layout_with.k D_layout_with.b .nil pass0 (pa_cons (pe_fld (pv 0) rfl) (pa_cons (pe_meth0 (pv 0) C.hcl Mh_root_pairs.m Mh_root_pairs.ok (hr.mono (by omega)) Mh_root_pairs.b .nil pass0) pa_nil))))), ?_⟩
  refine (⟨_, rfl, _, _, _, _, _, rfl, St.ho S, Cs.hcl _, C.store, rfl, ⟨_, rfl, F.ho, F.hd, _, rfl, S.ho, rfl, F, ar, rws, s, rfl, S, fun H1 p ts g1 np hp hpa => ?_⟩⟩)
  exact ⟨F, ar, rws, s, ws, p, rfl, S.same g1, ht, fun H2 p2 g2 l2 => q H2 p2 (g1.trans g2) l2⟩
abbrev s_Bound____init__ : Stmt := inClass (top 60) 0
theorem sc_Bound____init__ : FnScope ["self", "room", "owner"] ["self", "room", "owner"] (defScope s_Bound____init__) := ⟨rfl, rfl, rfl, by decide +kernel, rfl, by decide +kernel, by decide +kernel⟩
def sp_binit (C : Cs K) : Sp := fun vs H Q _ => ∃ bo bd ro rd ho, ∃ y o p : Nat, vs = [.ref bo, .ref ro, .ref ho] ∧ H bo = some (.ins C.B bd []) ∧ H ro = some (.ins C.R rd (roomF (.int y) (.int o) (.int p))) ∧ y + 2 * o ≤ 3000000 ∧
  ∀ H' aw ar tl hd ah rd2, aw ≠ ar → aw ≠ tl → ar ≠ tl → H aw = none → H ar = none → H tl = none → H' aw = some (.lst ((start y o p).words.map V.int)) → H' ar = some (.dK []) → H' tl = some (.lst [.int 0, .int 0, .int 0, .int 0, .int 0]) → H' bo = some (.ins C.B bd (bdF ⟨ho, hd, bo, bd, aw, ro, rd2, tl, ah⟩ ar (start y o p))) → (∀ b u, b ≠ bo → H b = some u → H' b = some u) → Q .non H'
theorem ok_binit (T : Txt K mg base) (C : Cs K) (LI : LaidI P w K mg base C) {f : Addr} {fd : FuncData} (F : Fun K "__init__" "Bound.__init__" s_Bound____init__ f fd) : FnOk P w K mg base CX0 2 f fd ["self", "room", "owner"] (sp_binit C) := by
  refine F.ok sc_Bound____init__ (fun vs H Q E h => ?_) (fun cdv A outer s H vs Q E hr h => ?_)
  · obtain ⟨_, _, _, _, _, _, _, _, rfl, _⟩ := h; rfl
  obtain ⟨bo, bd, ro, rd, ho, y, o, p, rfl, hb, hro, hsz, q⟩ := h
  refine ⟨_, (pss_cons (ps_expr (pe_ucall (pe_glob (v := .ref LI.C) rfl LI.g rfl) LI.u LI.ok (hr.mono (by omega)) LI.b pass0 (pa_cons (pv 0) (pa_cons (pe_op op_rep (pe_lst (pa_cons pe_int pa_nil)) (pe_op op_add (pe_fld (pv 1) rfl) (pe_op op_mul pe_int (pe_fld (pv 1) rfl)))) pa_nil))))
    (pss_cons (ps_fld (pv 0) (pv 1) rfl)
    (pss_cons (ps_fld (pv 0) (pv 2) rfl)
    (pss_cons (ps_fld (pv 0) pe_int rfl)
    (pss_cons (ps_fld (pv 0) (pe_fld (pv 1) rfl) rfl)
    (pss_cons (ps_fld (pv 0) (pe_fld (pv 1) rfl) rfl)
    (pss_cons (ps_fld (pv 0) pe_int rfl)
    (pss_cons (ps_fld (pv 0) pe_int rfl)
    (pss_cons (ps_fld (pv 0) pe_int rfl)
    (pss_cons (ps_fld (pv 0) pe_dnewK rfl)
    (pss_cons (ps_fld (pv 0) pe_int rfl)
    (pss_one (ps_fld (pv 0) (pe_lst (pa_cons pe_int (pa_cons pe_int (pa_cons pe_int (pa_cons pe_int (pa_cons pe_int pa_nil)))))) rfl))))))))))))), ?_⟩
  have hz := line_eq
  refine ⟨rfl, _, rfl, (by show 1 ≤ sizeLine; rw [hz]; decide), fun p0 np0 => ?_⟩
  have nb0 : bo ≠ p0 := ne_of_none hb np0
  have nr0 : ro ≠ p0 := ne_of_none hro np0
  have hbr : bo ≠ ro := fun z => by
    rw [z, hro] at hb
    injection hb with hb
    injection hb with h1 h2 h3
    cases h3
  have k0 : ∀ b u, b ≠ bo → H b = some u → (upd H p0 (.lst [.int 0])) b = some u := fun b u _ e => by rw [upd_ne (ne_of_none e np0)]; exact e
  have hb0 : (upd H p0 (.lst [.int 0])) bo = some (.ins C.B bd []) := by rw [upd_ne nb0]; exact hb
  have hp0 : (upd H p0 (.lst [.int 0])) p0 = some (.lst [.int 0]) := upd_same
  have hn0 : ∀ b, (upd H p0 (.lst [.int 0])) b = none → H b = none := fun b e => by
    cases e2 : H b with
    | none => rfl
    | some u => rw [upd_ne (ne_of_none e2 np0), e2] at e; cases e
  have hro0 := k0 ro _ (Ne.symm hbr) hro
  generalize upd H p0 (.lst [.int 0]) = G0 at k0 hb0 hp0 hn0 hro0 ⊢
  refine ⟨_, rfl, _, _, _, _, _, rfl, hro0, C.rcl, C.young, rfl, _, rfl, _, _, _, _, _, rfl, hro0, C.rcl, C.old, rfl, _, _, rfl, rfl, .inl ⟨by decide, by decide⟩, _, _, rfl, rfl, p0, _, _, rfl, rfl, hp0, (by omega), (by omega), (by show 1 * ((y : Int) + 2 * (o : Int)).toNat ≤ _; omega), fun aw naw => ?_⟩
  have ew : (List.replicate ((y : Int) + 2 * (o : Int)).toNat [V.int 0]).flatten = (start y o p).words.map V.int := by
    show _ = (List.replicate (y + 2 * o) (0 : Int)).map V.int
    rw [show ((y : Int) + 2 * (o : Int)).toNat = y + 2 * o from by omega, List.map_replicate]
    generalize y + 2 * o = n
    induction n with
    | zero => rfl
    | succ n ih => rw [List.replicate_succ, List.flatten_cons, ih, List.replicate_succ]; rfl
  rw [ew]
  have nHaw : H aw = none := hn0 aw naw
  have nba : bo ≠ aw := ne_of_none hb0 naw
  have k1 : ∀ b u, b ≠ bo → H b = some u → (upd G0 aw (.lst ((start y o p).words.map V.int))) b = some u := fun b u n e => by rw [upd_ne (ne_of_none (k0 b u n e) naw)]; exact k0 b u n e
  have hb1 : (upd G0 aw (.lst ((start y o p).words.map V.int))) bo = some (.ins C.B bd []) := by rw [upd_ne nba]; exact hb0
  have ha1 : (upd G0 aw (.lst ((start y o p).words.map V.int))) aw = some (.lst ((start y o p).words.map V.int)) := upd_same
  have hn1 : ∀ b, (upd G0 aw (.lst ((start y o p).words.map V.int))) b = none → H b = none := fun b e => by
    refine hn0 b ?_
    cases e2 : G0 b with
    | none => rfl
    | some u => rw [upd_ne (ne_of_none e2 naw), e2] at e; cases e
  generalize upd G0 aw (.lst ((start y o p).words.map V.int)) = G1 at k1 hb1 ha1 hn1 ⊢
  refine ⟨bo, _, bd, rfl, hb1, ?_⟩
  have k2 : ∀ b u, b ≠ bo → H b = some u → (upd G1 bo (.ins C.B bd [("words", .ref aw)])) b = some u := fun b u n e => by rw [upd_ne n]; exact k1 b u n e
  have hb2 : (upd G1 bo (.ins C.B bd [("words", .ref aw)])) bo = some (.ins C.B bd [("words", .ref aw)]) := upd_same
  have ha2 : (upd G1 bo (.ins C.B bd [("words", .ref aw)])) aw = some (.lst ((start y o p).words.map V.int)) := by rw [upd_ne nba.symm]; exact ha1
  have hn2 : ∀ b, (upd G1 bo (.ins C.B bd [("words", .ref aw)])) b = none → H b = none := fun b e => by
    by_cases z : b = bo
    · rw [z, upd_same] at e; cases e
    · rw [upd_ne z] at e; exact hn1 b e
  dsimp only
  show tSeq _ _ _ _ (upd G1 bo (.ins C.B bd [("words", .ref aw)]))
  generalize upd G1 bo (.ins C.B bd [("words", .ref aw)]) = G2 at k2 hb2 hn2 ha2 ⊢
  refine ⟨_, rfl, _, rfl, bo, C.B, bd, _, rfl, hb2, C.bcl, C.room, (by show 1 < 1000; omega), ?_⟩
  have k3 : ∀ b u, b ≠ bo → H b = some u → (upd G2 bo (.ins C.B bd [("words", .ref aw), ("room", .ref ro)])) b = some u := fun b u n e => by rw [upd_ne n]; exact k2 b u n e
  have hb3 : (upd G2 bo (.ins C.B bd [("words", .ref aw), ("room", .ref ro)])) bo = some (.ins C.B bd [("words", .ref aw), ("room", .ref ro)]) := upd_same
  have ha3 : (upd G2 bo (.ins C.B bd [("words", .ref aw), ("room", .ref ro)])) aw = some (.lst ((start y o p).words.map V.int)) := by rw [upd_ne nba.symm]; exact ha2
  have hn3 : ∀ b, (upd G2 bo (.ins C.B bd [("words", .ref aw), ("room", .ref ro)])) b = none → H b = none := fun b e => by
    by_cases z : b = bo
    · rw [z, upd_same] at e; cases e
    · rw [upd_ne z] at e; exact hn2 b e
  dsimp only
  show tSeq _ _ _ _ (upd G2 bo (.ins C.B bd [("words", .ref aw), ("room", .ref ro)]))
  generalize upd G2 bo (.ins C.B bd [("words", .ref aw), ("room", .ref ro)]) = G3 at k3 hb3 hn3 ha3 ⊢
  refine ⟨_, rfl, _, rfl, bo, C.B, bd, _, rfl, hb3, C.bcl, C.owner, (by show 2 < 1000; omega), ?_⟩
  have k4 : ∀ b u, b ≠ bo → H b = some u → (upd G3 bo (.ins C.B bd [("words", .ref aw), ("room", .ref ro), ("owner", .ref ho)])) b = some u := fun b u n e => by rw [upd_ne n]; exact k3 b u n e
  have hb4 : (upd G3 bo (.ins C.B bd [("words", .ref aw), ("room", .ref ro), ("owner", .ref ho)])) bo = some (.ins C.B bd [("words", .ref aw), ("room", .ref ro), ("owner", .ref ho)]) := upd_same
  have ha4 : (upd G3 bo (.ins C.B bd [("words", .ref aw), ("room", .ref ro), ("owner", .ref ho)])) aw = some (.lst ((start y o p).words.map V.int)) := by rw [upd_ne nba.symm]; exact ha3
  have hn4 : ∀ b, (upd G3 bo (.ins C.B bd [("words", .ref aw), ("room", .ref ro), ("owner", .ref ho)])) b = none → H b = none := fun b e => by
    by_cases z : b = bo
    · rw [z, upd_same] at e; cases e
    · rw [upd_ne z] at e; exact hn3 b e
  dsimp only
  show tSeq _ _ _ _ (upd G3 bo (.ins C.B bd [("words", .ref aw), ("room", .ref ro), ("owner", .ref ho)]))
  generalize upd G3 bo (.ins C.B bd [("words", .ref aw), ("room", .ref ro), ("owner", .ref ho)]) = G4 at k4 hb4 hn4 ha4 ⊢
  refine ⟨_, rfl, bo, C.B, bd, _, rfl, hb4, C.bcl, C.use, (by show 3 < 1000; omega), ?_⟩
  have k5 : ∀ b u, b ≠ bo → H b = some u → (upd G4 bo (.ins C.B bd [("words", .ref aw), ("room", .ref ro), ("owner", .ref ho), ("use", .int 0)])) b = some u := fun b u n e => by rw [upd_ne n]; exact k4 b u n e
  have hb5 : (upd G4 bo (.ins C.B bd [("words", .ref aw), ("room", .ref ro), ("owner", .ref ho), ("use", .int 0)])) bo = some (.ins C.B bd [("words", .ref aw), ("room", .ref ro), ("owner", .ref ho), ("use", .int 0)]) := upd_same
  have ha5 : (upd G4 bo (.ins C.B bd [("words", .ref aw), ("room", .ref ro), ("owner", .ref ho), ("use", .int 0)])) aw = some (.lst ((start y o p).words.map V.int)) := by rw [upd_ne nba.symm]; exact ha4
  have hn5 : ∀ b, (upd G4 bo (.ins C.B bd [("words", .ref aw), ("room", .ref ro), ("owner", .ref ho), ("use", .int 0)])) b = none → H b = none := fun b e => by
    by_cases z : b = bo
    · rw [z, upd_same] at e; cases e
    · rw [upd_ne z] at e; exact hn4 b e
  dsimp only
  show tSeq _ _ _ _ (upd G4 bo (.ins C.B bd [("words", .ref aw), ("room", .ref ro), ("owner", .ref ho), ("use", .int 0)]))
  generalize upd G4 bo (.ins C.B bd [("words", .ref aw), ("room", .ref ro), ("owner", .ref ho), ("use", .int 0)]) = G5 at k5 hb5 hn5 ha5 ⊢
  refine ⟨_, rfl, _, _, _, _, _, rfl, k5 ro _ (Ne.symm hbr) hro, C.rcl, C.young, rfl, _, rfl, bo, C.B, bd, _, rfl, hb5, C.bcl, C.free, (by show 4 < 1000; omega), ?_⟩
  have k6 : ∀ b u, b ≠ bo → H b = some u → (upd G5 bo (.ins C.B bd [("words", .ref aw), ("room", .ref ro), ("owner", .ref ho), ("use", .int 0), ("free", .int (y : Int))])) b = some u := fun b u n e => by rw [upd_ne n]; exact k5 b u n e
  have hb6 : (upd G5 bo (.ins C.B bd [("words", .ref aw), ("room", .ref ro), ("owner", .ref ho), ("use", .int 0), ("free", .int (y : Int))])) bo = some (.ins C.B bd [("words", .ref aw), ("room", .ref ro), ("owner", .ref ho), ("use", .int 0), ("free", .int (y : Int))]) := upd_same
  have ha6 : (upd G5 bo (.ins C.B bd [("words", .ref aw), ("room", .ref ro), ("owner", .ref ho), ("use", .int 0), ("free", .int (y : Int))])) aw = some (.lst ((start y o p).words.map V.int)) := by rw [upd_ne nba.symm]; exact ha5
  have hn6 : ∀ b, (upd G5 bo (.ins C.B bd [("words", .ref aw), ("room", .ref ro), ("owner", .ref ho), ("use", .int 0), ("free", .int (y : Int))])) b = none → H b = none := fun b e => by
    by_cases z : b = bo
    · rw [z, upd_same] at e; cases e
    · rw [upd_ne z] at e; exact hn5 b e
  dsimp only
  show tSeq _ _ _ _ (upd G5 bo (.ins C.B bd [("words", .ref aw), ("room", .ref ro), ("owner", .ref ho), ("use", .int 0), ("free", .int (y : Int))]))
  generalize upd G5 bo (.ins C.B bd [("words", .ref aw), ("room", .ref ro), ("owner", .ref ho), ("use", .int 0), ("free", .int (y : Int))]) = G6 at k6 hb6 hn6 ha6 ⊢
  refine ⟨_, rfl, _, _, _, _, _, rfl, k6 ro _ (Ne.symm hbr) hro, C.rcl, C.young, rfl, _, rfl, bo, C.B, bd, _, rfl, hb6, C.bcl, C.scan, (by show 5 < 1000; omega), ?_⟩
  have k7 : ∀ b u, b ≠ bo → H b = some u → (upd G6 bo (.ins C.B bd [("words", .ref aw), ("room", .ref ro), ("owner", .ref ho), ("use", .int 0), ("free", .int (y : Int)), ("scan", .int (y : Int))])) b = some u := fun b u n e => by rw [upd_ne n]; exact k6 b u n e
  have hb7 : (upd G6 bo (.ins C.B bd [("words", .ref aw), ("room", .ref ro), ("owner", .ref ho), ("use", .int 0), ("free", .int (y : Int)), ("scan", .int (y : Int))])) bo = some (.ins C.B bd [("words", .ref aw), ("room", .ref ro), ("owner", .ref ho), ("use", .int 0), ("free", .int (y : Int)), ("scan", .int (y : Int))]) := upd_same
  have ha7 : (upd G6 bo (.ins C.B bd [("words", .ref aw), ("room", .ref ro), ("owner", .ref ho), ("use", .int 0), ("free", .int (y : Int)), ("scan", .int (y : Int))])) aw = some (.lst ((start y o p).words.map V.int)) := by rw [upd_ne nba.symm]; exact ha6
  have hn7 : ∀ b, (upd G6 bo (.ins C.B bd [("words", .ref aw), ("room", .ref ro), ("owner", .ref ho), ("use", .int 0), ("free", .int (y : Int)), ("scan", .int (y : Int))])) b = none → H b = none := fun b e => by
    by_cases z : b = bo
    · rw [z, upd_same] at e; cases e
    · rw [upd_ne z] at e; exact hn6 b e
  dsimp only
  show tSeq _ _ _ _ (upd G6 bo (.ins C.B bd [("words", .ref aw), ("room", .ref ro), ("owner", .ref ho), ("use", .int 0), ("free", .int (y : Int)), ("scan", .int (y : Int))]))
  generalize upd G6 bo (.ins C.B bd [("words", .ref aw), ("room", .ref ro), ("owner", .ref ho), ("use", .int 0), ("free", .int (y : Int)), ("scan", .int (y : Int))]) = G7 at k7 hb7 hn7 ha7 ⊢
  refine ⟨_, rfl, bo, C.B, bd, _, rfl, hb7, C.bcl, C.top, (by show 6 < 1000; omega), ?_⟩
  have k8 : ∀ b u, b ≠ bo → H b = some u → (upd G7 bo (.ins C.B bd [("words", .ref aw), ("room", .ref ro), ("owner", .ref ho), ("use", .int 0), ("free", .int (y : Int)), ("scan", .int (y : Int)), ("top", .int 0)])) b = some u := fun b u n e => by rw [upd_ne n]; exact k7 b u n e
  have hb8 : (upd G7 bo (.ins C.B bd [("words", .ref aw), ("room", .ref ro), ("owner", .ref ho), ("use", .int 0), ("free", .int (y : Int)), ("scan", .int (y : Int)), ("top", .int 0)])) bo = some (.ins C.B bd [("words", .ref aw), ("room", .ref ro), ("owner", .ref ho), ("use", .int 0), ("free", .int (y : Int)), ("scan", .int (y : Int)), ("top", .int 0)]) := upd_same
  have ha8 : (upd G7 bo (.ins C.B bd [("words", .ref aw), ("room", .ref ro), ("owner", .ref ho), ("use", .int 0), ("free", .int (y : Int)), ("scan", .int (y : Int)), ("top", .int 0)])) aw = some (.lst ((start y o p).words.map V.int)) := by rw [upd_ne nba.symm]; exact ha7
  have hn8 : ∀ b, (upd G7 bo (.ins C.B bd [("words", .ref aw), ("room", .ref ro), ("owner", .ref ho), ("use", .int 0), ("free", .int (y : Int)), ("scan", .int (y : Int)), ("top", .int 0)])) b = none → H b = none := fun b e => by
    by_cases z : b = bo
    · rw [z, upd_same] at e; cases e
    · rw [upd_ne z] at e; exact hn7 b e
  dsimp only
  show tSeq _ _ _ _ (upd G7 bo (.ins C.B bd [("words", .ref aw), ("room", .ref ro), ("owner", .ref ho), ("use", .int 0), ("free", .int (y : Int)), ("scan", .int (y : Int)), ("top", .int 0)]))
  generalize upd G7 bo (.ins C.B bd [("words", .ref aw), ("room", .ref ro), ("owner", .ref ho), ("use", .int 0), ("free", .int (y : Int)), ("scan", .int (y : Int)), ("top", .int 0)]) = G8 at k8 hb8 hn8 ha8 ⊢
  refine ⟨_, rfl, bo, C.B, bd, _, rfl, hb8, C.bcl, C.left, (by show 7 < 1000; omega), ?_⟩
  have k9 : ∀ b u, b ≠ bo → H b = some u → (upd G8 bo (.ins C.B bd [("words", .ref aw), ("room", .ref ro), ("owner", .ref ho), ("use", .int 0), ("free", .int (y : Int)), ("scan", .int (y : Int)), ("top", .int 0), ("left", .int 0)])) b = some u := fun b u n e => by rw [upd_ne n]; exact k8 b u n e
  have hb9 : (upd G8 bo (.ins C.B bd [("words", .ref aw), ("room", .ref ro), ("owner", .ref ho), ("use", .int 0), ("free", .int (y : Int)), ("scan", .int (y : Int)), ("top", .int 0), ("left", .int 0)])) bo = some (.ins C.B bd [("words", .ref aw), ("room", .ref ro), ("owner", .ref ho), ("use", .int 0), ("free", .int (y : Int)), ("scan", .int (y : Int)), ("top", .int 0), ("left", .int 0)]) := upd_same
  have ha9 : (upd G8 bo (.ins C.B bd [("words", .ref aw), ("room", .ref ro), ("owner", .ref ho), ("use", .int 0), ("free", .int (y : Int)), ("scan", .int (y : Int)), ("top", .int 0), ("left", .int 0)])) aw = some (.lst ((start y o p).words.map V.int)) := by rw [upd_ne nba.symm]; exact ha8
  have hn9 : ∀ b, (upd G8 bo (.ins C.B bd [("words", .ref aw), ("room", .ref ro), ("owner", .ref ho), ("use", .int 0), ("free", .int (y : Int)), ("scan", .int (y : Int)), ("top", .int 0), ("left", .int 0)])) b = none → H b = none := fun b e => by
    by_cases z : b = bo
    · rw [z, upd_same] at e; cases e
    · rw [upd_ne z] at e; exact hn8 b e
  dsimp only
  show tSeq _ _ _ _ (upd G8 bo (.ins C.B bd [("words", .ref aw), ("room", .ref ro), ("owner", .ref ho), ("use", .int 0), ("free", .int (y : Int)), ("scan", .int (y : Int)), ("top", .int 0), ("left", .int 0)]))
  generalize upd G8 bo (.ins C.B bd [("words", .ref aw), ("room", .ref ro), ("owner", .ref ho), ("use", .int 0), ("free", .int (y : Int)), ("scan", .int (y : Int)), ("top", .int 0), ("left", .int 0)]) = G9 at k9 hb9 hn9 ha9 ⊢
  refine ⟨_, rfl, bo, C.B, bd, _, rfl, hb9, C.bcl, C.copied, (by show 8 < 1000; omega), ?_⟩
  have k10 : ∀ b u, b ≠ bo → H b = some u → (upd G9 bo (.ins C.B bd [("words", .ref aw), ("room", .ref ro), ("owner", .ref ho), ("use", .int 0), ("free", .int (y : Int)), ("scan", .int (y : Int)), ("top", .int 0), ("left", .int 0), ("copied", .int 0)])) b = some u := fun b u n e => by rw [upd_ne n]; exact k9 b u n e
  have hb10 : (upd G9 bo (.ins C.B bd [("words", .ref aw), ("room", .ref ro), ("owner", .ref ho), ("use", .int 0), ("free", .int (y : Int)), ("scan", .int (y : Int)), ("top", .int 0), ("left", .int 0), ("copied", .int 0)])) bo = some (.ins C.B bd [("words", .ref aw), ("room", .ref ro), ("owner", .ref ho), ("use", .int 0), ("free", .int (y : Int)), ("scan", .int (y : Int)), ("top", .int 0), ("left", .int 0), ("copied", .int 0)]) := upd_same
  have ha10 : (upd G9 bo (.ins C.B bd [("words", .ref aw), ("room", .ref ro), ("owner", .ref ho), ("use", .int 0), ("free", .int (y : Int)), ("scan", .int (y : Int)), ("top", .int 0), ("left", .int 0), ("copied", .int 0)])) aw = some (.lst ((start y o p).words.map V.int)) := by rw [upd_ne nba.symm]; exact ha9
  have hn10 : ∀ b, (upd G9 bo (.ins C.B bd [("words", .ref aw), ("room", .ref ro), ("owner", .ref ho), ("use", .int 0), ("free", .int (y : Int)), ("scan", .int (y : Int)), ("top", .int 0), ("left", .int 0), ("copied", .int 0)])) b = none → H b = none := fun b e => by
    by_cases z : b = bo
    · rw [z, upd_same] at e; cases e
    · rw [upd_ne z] at e; exact hn9 b e
  dsimp only
  show tSeq _ _ _ _ (upd G9 bo (.ins C.B bd [("words", .ref aw), ("room", .ref ro), ("owner", .ref ho), ("use", .int 0), ("free", .int (y : Int)), ("scan", .int (y : Int)), ("top", .int 0), ("left", .int 0), ("copied", .int 0)]))
  generalize upd G9 bo (.ins C.B bd [("words", .ref aw), ("room", .ref ro), ("owner", .ref ho), ("use", .int 0), ("free", .int (y : Int)), ("scan", .int (y : Int)), ("top", .int 0), ("left", .int 0), ("copied", .int 0)]) = G10 at k10 hb10 hn10 ha10 ⊢
  intro ar nar
  have nbr : bo ≠ ar := ne_of_none hb10 nar
  have naar : aw ≠ ar := ne_of_none ha10 nar
  have k11 : ∀ b u, b ≠ bo → H b = some u → (upd G10 ar (.dK [])) b = some u := fun b u n e => by rw [upd_ne (ne_of_none (k10 b u n e) nar)]; exact k10 b u n e
  have hb11 : (upd G10 ar (.dK [])) bo = some (.ins C.B bd [("words", .ref aw), ("room", .ref ro), ("owner", .ref ho), ("use", .int 0), ("free", .int (y : Int)), ("scan", .int (y : Int)), ("top", .int 0), ("left", .int 0), ("copied", .int 0)]) := by rw [upd_ne nbr]; exact hb10
  have ha11 : (upd G10 ar (.dK [])) aw = some (.lst ((start y o p).words.map V.int)) := by rw [upd_ne naar]; exact ha10
  have hr11 : (upd G10 ar (.dK [])) ar = some (.dK []) := upd_same
  have nH : H ar = none := hn10 ar nar
  have hn11 : ∀ b, (upd G10 ar (.dK [])) b = none → H b = none := fun b e => by
    refine hn10 b ?_
    cases e2 : G10 b with
    | none => rfl
    | some u => rw [upd_ne (ne_of_none e2 nar), e2] at e; cases e
  generalize upd G10 ar (.dK []) = G11 at k11 hb11 ha11 hr11 hn11 ⊢
  refine ⟨_, rfl, bo, C.B, bd, _, rfl, hb11, C.bcl, C.rem, (by show 9 < 1000; omega), ?_⟩
  have k12 : ∀ b u, b ≠ bo → H b = some u → (upd G11 bo (.ins C.B bd [("words", .ref aw), ("room", .ref ro), ("owner", .ref ho), ("use", .int 0), ("free", .int (y : Int)), ("scan", .int (y : Int)), ("top", .int 0), ("left", .int 0), ("copied", .int 0), ("remembered", .ref ar)])) b = some u := fun b u n e => by rw [upd_ne n]; exact k11 b u n e
  have hb12 : (upd G11 bo (.ins C.B bd [("words", .ref aw), ("room", .ref ro), ("owner", .ref ho), ("use", .int 0), ("free", .int (y : Int)), ("scan", .int (y : Int)), ("top", .int 0), ("left", .int 0), ("copied", .int 0), ("remembered", .ref ar)])) bo = some (.ins C.B bd [("words", .ref aw), ("room", .ref ro), ("owner", .ref ho), ("use", .int 0), ("free", .int (y : Int)), ("scan", .int (y : Int)), ("top", .int 0), ("left", .int 0), ("copied", .int 0), ("remembered", .ref ar)]) := upd_same
  have ha12 : (upd G11 bo (.ins C.B bd [("words", .ref aw), ("room", .ref ro), ("owner", .ref ho), ("use", .int 0), ("free", .int (y : Int)), ("scan", .int (y : Int)), ("top", .int 0), ("left", .int 0), ("copied", .int 0), ("remembered", .ref ar)])) aw = some (.lst ((start y o p).words.map V.int)) := by rw [upd_ne nba.symm]; exact ha11
  have hr12 : (upd G11 bo (.ins C.B bd [("words", .ref aw), ("room", .ref ro), ("owner", .ref ho), ("use", .int 0), ("free", .int (y : Int)), ("scan", .int (y : Int)), ("top", .int 0), ("left", .int 0), ("copied", .int 0), ("remembered", .ref ar)])) ar = some (.dK []) := by rw [upd_ne nbr.symm]; exact hr11
  have hn12 : ∀ b, (upd G11 bo (.ins C.B bd [("words", .ref aw), ("room", .ref ro), ("owner", .ref ho), ("use", .int 0), ("free", .int (y : Int)), ("scan", .int (y : Int)), ("top", .int 0), ("left", .int 0), ("copied", .int 0), ("remembered", .ref ar)])) b = none → H b = none := fun b e => by
    by_cases z : b = bo
    · rw [z, upd_same] at e; cases e
    · rw [upd_ne z] at e; exact hn11 b e
  dsimp only
  show tSeq _ _ _ _ (upd G11 bo (.ins C.B bd [("words", .ref aw), ("room", .ref ro), ("owner", .ref ho), ("use", .int 0), ("free", .int (y : Int)), ("scan", .int (y : Int)), ("top", .int 0), ("left", .int 0), ("copied", .int 0), ("remembered", .ref ar)]))
  generalize upd G11 bo (.ins C.B bd [("words", .ref aw), ("room", .ref ro), ("owner", .ref ho), ("use", .int 0), ("free", .int (y : Int)), ("scan", .int (y : Int)), ("top", .int 0), ("left", .int 0), ("copied", .int 0), ("remembered", .ref ar)]) = G12 at k12 hb12 hn12 ha12 hr12 ⊢
  refine ⟨_, rfl, bo, C.B, bd, _, rfl, hb12, C.bcl, C.last, (by show 10 < 1000; omega), ?_⟩
  have k13 : ∀ b u, b ≠ bo → H b = some u → (upd G12 bo (.ins C.B bd [("words", .ref aw), ("room", .ref ro), ("owner", .ref ho), ("use", .int 0), ("free", .int (y : Int)), ("scan", .int (y : Int)), ("top", .int 0), ("left", .int 0), ("copied", .int 0), ("remembered", .ref ar), ("last", .int 0)])) b = some u := fun b u n e => by rw [upd_ne n]; exact k12 b u n e
  have hb13 : (upd G12 bo (.ins C.B bd [("words", .ref aw), ("room", .ref ro), ("owner", .ref ho), ("use", .int 0), ("free", .int (y : Int)), ("scan", .int (y : Int)), ("top", .int 0), ("left", .int 0), ("copied", .int 0), ("remembered", .ref ar), ("last", .int 0)])) bo = some (.ins C.B bd [("words", .ref aw), ("room", .ref ro), ("owner", .ref ho), ("use", .int 0), ("free", .int (y : Int)), ("scan", .int (y : Int)), ("top", .int 0), ("left", .int 0), ("copied", .int 0), ("remembered", .ref ar), ("last", .int 0)]) := upd_same
  have ha13 : (upd G12 bo (.ins C.B bd [("words", .ref aw), ("room", .ref ro), ("owner", .ref ho), ("use", .int 0), ("free", .int (y : Int)), ("scan", .int (y : Int)), ("top", .int 0), ("left", .int 0), ("copied", .int 0), ("remembered", .ref ar), ("last", .int 0)])) aw = some (.lst ((start y o p).words.map V.int)) := by rw [upd_ne nba.symm]; exact ha12
  have hr13 : (upd G12 bo (.ins C.B bd [("words", .ref aw), ("room", .ref ro), ("owner", .ref ho), ("use", .int 0), ("free", .int (y : Int)), ("scan", .int (y : Int)), ("top", .int 0), ("left", .int 0), ("copied", .int 0), ("remembered", .ref ar), ("last", .int 0)])) ar = some (.dK []) := by rw [upd_ne nbr.symm]; exact hr12
  have hn13 : ∀ b, (upd G12 bo (.ins C.B bd [("words", .ref aw), ("room", .ref ro), ("owner", .ref ho), ("use", .int 0), ("free", .int (y : Int)), ("scan", .int (y : Int)), ("top", .int 0), ("left", .int 0), ("copied", .int 0), ("remembered", .ref ar), ("last", .int 0)])) b = none → H b = none := fun b e => by
    by_cases z : b = bo
    · rw [z, upd_same] at e; cases e
    · rw [upd_ne z] at e; exact hn12 b e
  dsimp only
  show sFld _ _ _ _ _ _ (upd G12 bo (.ins C.B bd [("words", .ref aw), ("room", .ref ro), ("owner", .ref ho), ("use", .int 0), ("free", .int (y : Int)), ("scan", .int (y : Int)), ("top", .int 0), ("left", .int 0), ("copied", .int 0), ("remembered", .ref ar), ("last", .int 0)]))
  generalize upd G12 bo (.ins C.B bd [("words", .ref aw), ("room", .ref ro), ("owner", .ref ho), ("use", .int 0), ("free", .int (y : Int)), ("scan", .int (y : Int)), ("top", .int 0), ("left", .int 0), ("copied", .int 0), ("remembered", .ref ar), ("last", .int 0)]) = G13 at k13 hb13 hn13 ha13 hr13 ⊢
  refine ⟨(by show 5 ≤ sizeLine; rw [hz]; decide), fun tl ntl => ?_⟩
  have nbt : bo ≠ tl := ne_of_none hb13 ntl
  refine ⟨_, rfl, bo, C.B, bd, _, rfl, (by rw [upd_ne nbt]; exact hb13), C.bcl, C.tally, (by show 11 < 1000; omega), ?_⟩
  refine q _ aw ar tl 0 0 0 naar (ne_of_none ha13 ntl) (ne_of_none hr13 ntl) nHaw nH (hn13 tl ntl) ?_ ?_ ?_ upd_same ?_
  · rw [upd_ne nba.symm, upd_ne (ne_of_none ha13 ntl)]; exact ha13
  · rw [upd_ne nbr.symm, upd_ne (ne_of_none hr13 ntl)]; exact hr13
  · rw [upd_ne nbt.symm, upd_same]
  · intro b u nb e
    rw [upd_ne nb, upd_ne (ne_of_none (k13 b u nb e) ntl)]; exact k13 b u nb e
end
end Wk
set_option maxRecDepth 100000
set_option maxHeartbeats 4000000
namespace Wk
open PySem L2 TL PyProof.Rows Hm
open SX (S S_len)
section
variable {P : Program} {w : World} {K : PySem.W.Frag} {mg : Str → Option Value} {base : Heap}
abbrev s_store_for : Stmt := top 66
theorem sc_store_for : FnScope ["room", "owner"] ["room", "owner"] (defScope s_store_for) := ⟨rfl, rfl, rfl, by decide +kernel, rfl, by decide +kernel, by decide +kernel⟩
def sp_storefor (C : Cs K) : Sp := fun vs H Q _ => ∃ ro rd ho, ∃ y o p : Nat, vs = [.ref ro, .ref ho] ∧ H ro = some (.ins C.R rd (roomF (.int y) (.int o) (.int p))) ∧ y + 2 * o ≤ 3000000 ∧
  ∀ H' bo bd aw ar tl hd ah rd2, [bo, aw, tl, ar].Nodup → (∀ b ∈ [bo, aw, tl, ar], H b = none) → H' aw = some (.lst ((start y o p).words.map V.int)) → H' ar = some (.dK []) → H' tl = some (.lst [.int 0, .int 0, .int 0, .int 0, .int 0]) → H' bo = some (.ins C.B bd (bdF ⟨ho, hd, bo, bd, aw, ro, rd2, tl, ah⟩ ar (start y o p))) → Same H H' → Q (.ref bo) H'
theorem ok_storefor (C : Cs K) {f : Addr} {fd : FuncData} (F : Fun K "store_for" "store_for" s_store_for f fd) (BM : MkD P w K mg base CX0 "Bound" C.B ["self", "room", "owner"] 2 (sp_binit C)) : FnOk P w K mg base CX0 4 f fd ["room", "owner"] (sp_storefor C) := by
  refine F.ok sc_store_for (fun vs H Q E h => ?_) (fun cdv A outer s H vs Q E hr h => ?_)
  · obtain ⟨_, _, _, _, _, _, rfl, _⟩ := h; rfl
  obtain ⟨ro, rd, ho, y, o, p, rfl, hro, hsz, q⟩ := h
  refine ⟨_, (pss_one (ps_ret (pe_ifExp (pt_cmpR op_isN (pv 0) pe_non (nomark _)) pe_no (pe_make BM.made BM.ok (hr.mono (by omega)) rfl BM.g BM.b .nil pass0 (pa_cons (pv 0) (pa_cons (pv 1) pa_nil)))))), ?_⟩
  refine ⟨_, rfl, rfl, _, rfl, ?_⟩
  rw [show decide (V.ref ro = V.non) = false from decide_eq_false (fun z => by cases z)]
  refine iteF ⟨_, rfl, _, rfl, fun bo bd nbo nbd nne => ?_⟩
  have nr1 : ro ≠ bo := ne_of_none hro nbo
  have nr2 : ro ≠ bd := ne_of_none hro nbd
  have keep : ∀ b u, H b = some u → (upd (upd H bd (.own bo)) bo (.ins C.B bd [])) b = some u := fun b u e => by rw [upd_ne (ne_of_none e nbo), upd_ne (ne_of_none e nbd)]; exact e
  have kn : ∀ b, (upd (upd H bd (.own bo)) bo (.ins C.B bd [])) b = none → H b = none ∧ b ≠ bo := fun b e => by
    by_cases z : b = bo
    · rw [z, upd_same] at e; cases e
    · rw [upd_ne z] at e
      by_cases z2 : b = bd
      · rw [z2, upd_same] at e; cases e
      · rw [upd_ne z2] at e; exact ⟨e, z⟩
  refine ⟨bo, bd, ro, rd, ho, y, o, p, rfl, upd_same, keep _ _ hro, hsz, fun H' aw ar tl hd ah rd2 n1 n2 n3 ha har ht h1 h2 h3 h4 hk => ⟨rfl, ?_⟩⟩
  obtain ⟨ha, ha'⟩ := kn _ ha
  obtain ⟨har, har'⟩ := kn _ har
  obtain ⟨ht, ht'⟩ := kn _ ht
  refine q H' bo bd aw ar tl hd ah rd2 ?_ ?_ h1 h2 h3 h4 ?_
  · simp only [List.nodup_cons, List.mem_cons, List.not_mem_nil, or_false, not_or, not_false_eq_true, List.nodup_nil, and_true]
    exact ⟨⟨ha'.symm, ht'.symm, har'.symm⟩, ⟨n2, n1⟩, n3.symm⟩
  · intro b hb
    simp only [List.mem_cons, List.not_mem_nil, or_false] at hb
    rcases hb with rfl | rfl | rfl | rfl
    · exact nbo
    · exact ha
    · exact ht
    · exact har
  · intro b u e
    exact hk b u (ne_of_none e nbo) (keep b u e)
abbrev s_Heap____init__ : Stmt := inClass (top 69) 0
theorem sc_Heap____init__ : FnScope ["self", "room"] ["self", "room"] (defScope s_Heap____init__) := ⟨rfl, rfl, rfl, by decide +kernel, rfl, by decide +kernel, by decide +kernel⟩
def sp_hinit (C : Cs K) : Sp := fun vs H Q _ => ∃ x dx ro rd, ∃ y o p : Nat, vs = [.ref x, .ref ro] ∧ H x = some (.ins C.H dx []) ∧ H ro = some (.ins C.R rd (roomF (.int y) (.int o) (.int p))) ∧ y ≤ 100000 ∧ o ≤ 1000000 ∧ y + 2 * o ≤ 3000000 ∧ ∀ H' F ar, F.ho = x → F.ro = ro → St C H' F ar [] (start y o p) → (∀ b u, b ≠ x → H b = some u → ¬ Own F ar [] b ∧ H' b = some u) → Q .non H'
theorem ok_hinit (C : Cs K) {f : Addr} {fd : FuncData} (F : Fun K "__init__" "Heap.__init__" s_Heap____init__ f fd) (D_check_room : Def P w K mg base CX0 "check_room" ["thing"] 1 (sp_croom C)) (D_store_for : Def P w K mg base CX0 "store_for" ["room", "owner"] 4 (sp_storefor C)) : FnOk P w K mg base CX0 5 f fd ["self", "room"] (sp_hinit C) := by
  refine F.ok sc_Heap____init__ (fun vs H Q E h => ?_) (fun cdv A outer s H vs Q E hr h => ?_)
  · obtain ⟨_, _, _, _, _, _, _, rfl, _⟩ := h; rfl
  obtain ⟨x, dx, ro, rd, y, o, p, rfl, hx, hro, hy, ho, hsz, q⟩ := h
  refine ⟨_, (pss_cons (ps_expr (pe_call D_check_room.ok (hr.mono (by omega)) rfl D_check_room.g D_check_room.k D_check_room.b .nil pass0 (pa_cons (pv 1) pa_nil)))
    (pss_cons (ps_fld (pv 0) pe_dnewK rfl)
    (pss_cons (ps_fld (pv 0) pe_int rfl)
    (pss_one (ps_fld (pv 0) (pe_call D_store_for.ok (hr.mono (by omega)) rfl D_store_for.g D_store_for.k D_store_for.b .nil pass0 (pa_cons (pv 1) (pa_cons (pv 0) pa_nil))) rfl))))), ?_⟩
  have hxr : x ≠ ro := fun z => by
    rw [z, hro] at hx
    injection hx with hx
    injection hx with h1 h2 h3
    cases h3
  refine ⟨_, rfl, ro, rd, _, rfl, hro, ?_⟩
  dsimp only
  intro ah nah
  have nxa : x ≠ ah := ne_of_none hx nah
  have nra : ro ≠ ah := ne_of_none hro nah
  have hx1 : (upd H ah (.dK [])) x = some (.ins C.H dx []) := by rw [upd_ne nxa]; exact hx
  have hr1 : (upd H ah (.dK [])) ro = some (.ins C.R rd (roomF (.int y) (.int o) (.int p))) := by rw [upd_ne nra]; exact hro
  have ha1 : (upd H ah (.dK [])) ah = some (.dK []) := upd_same
  have k1 : Same H (upd H ah (.dK [])) := same_new nah _
  generalize upd H ah (.dK []) = H1 at hx1 hr1 ha1 k1 ⊢
  refine ⟨_, rfl, x, C.H, dx, _, rfl, hx1, C.hcl, C.handles, (by show 0 < 1000; omega), ?_⟩
  have hx2 : (upd H1 x (.ins C.H dx [("handles", .ref ah)])) x = some (.ins C.H dx [("handles", .ref ah)]) := upd_same
  have k2 : ∀ b u, b ≠ x → H1 b = some u → (upd H1 x (.ins C.H dx [("handles", .ref ah)])) b = some u := fun b u n e => by rw [upd_ne n]; exact e
  dsimp only
  show tSeq _ _ _ _ (upd H1 x (.ins C.H dx [("handles", .ref ah)]))
  generalize upd H1 x (.ins C.H dx [("handles", .ref ah)]) = H2 at hx2 k2 ⊢
  refine ⟨_, rfl, x, C.H, dx, _, rfl, hx2, C.hcl, C.next, (by show 1 < 1000; omega), ?_⟩
  have hx3 : (upd H2 x (.ins C.H dx [("handles", .ref ah), ("next_handle", .int 0)])) x = some (.ins C.H dx [("handles", .ref ah), ("next_handle", .int 0)]) := upd_same
  have k3 : ∀ b u, b ≠ x → H1 b = some u → (upd H2 x (.ins C.H dx [("handles", .ref ah), ("next_handle", .int 0)])) b = some u := fun b u n e => by rw [upd_ne n]; exact k2 b u n e
  dsimp only
  show sFld _ _ _ _ _ _ (upd H2 x (.ins C.H dx [("handles", .ref ah), ("next_handle", .int 0)]))
  generalize upd H2 x (.ins C.H dx [("handles", .ref ah), ("next_handle", .int 0)]) = H3 at hx3 k3 ⊢
  refine ⟨_, rfl, _, rfl, ro, rd, x, y, o, p, rfl, k3 _ _ hxr.symm hr1, hsz, fun H4 bo bd aw ar tl hd0 ah0 rd2 nd nn ha har ht hb g4 => ?_⟩
  have hx4 := g4 _ _ hx3
  have ha4 := g4 _ _ (k3 _ _ nxa.symm ha1)
  have hr4 := g4 _ _ (k3 _ _ hxr.symm hr1)
  have nxs : ∀ b ∈ [bo, aw, tl, ar], x ≠ b ∧ ah ≠ b ∧ ro ≠ b := fun b hb' => ⟨ne_of_none hx3 (nn b hb'), ne_of_none (k3 _ _ nxa.symm ha1) (nn b hb'), ne_of_none (k3 _ _ hxr.symm hr1) (nn b hb')⟩
  refine ⟨_, rfl, x, C.H, dx, _, rfl, hx4, C.hcl, C.store, (by show 2 < 1000; omega), ?_⟩
  have kx : ∀ {b u}, b ≠ x → H4 b = some u → (upd H4 x (.ins C.H dx [("handles", .ref ah), ("next_handle", .int 0), ("store", .ref bo)])) b = some u := fun n e => by rw [upd_ne n]; exact e
  obtain ⟨b1, b2, b3⟩ := nxs bo (by simp)
  obtain ⟨c1, c2, c3⟩ := nxs aw (by simp)
  obtain ⟨d1, d2, d3⟩ := nxs tl (by simp)
  obtain ⟨e1, e2, e3⟩ := nxs ar (by simp)
  simp only [List.nodup_cons, List.mem_cons, List.not_mem_nil, or_false, not_or, not_false_eq_true, List.nodup_nil, and_true] at nd
  obtain ⟨⟨m1, m2, m3⟩, ⟨m4, m5⟩, m6⟩ := nd
  refine q _ ⟨x, dx, bo, bd, aw, ro, rd, tl, ah⟩ ar rfl rfl ⟨kx b1.symm hb, kx c1.symm ha, kx e1.symm har, kx d1.symm ht, upd_same, kx nxa.symm ha4, trivial, kx hxr.symm hr4, ?_, ?_, Nat.zero_le _, Nat.zero_le _, ?_, rfl⟩ ?_
  · simp only [own7, List.append_nil, List.nodup_cons, List.mem_cons, List.not_mem_nil, or_false, not_or, not_false_eq_true, List.nodup_nil, and_true]
    exact ⟨⟨hxr.symm, b3, c3, d3, nra, e3⟩, ⟨b1, c1, d1, nxa, e1⟩, ⟨m1, m2, b2.symm, m3⟩, ⟨m4, c2.symm, m5⟩, ⟨d2.symm, m6⟩, e2⟩
  · show (List.replicate (y + 2 * o) (0 : Int)).length ≤ 3000000
    rw [List.length_replicate]; exact hsz
  · refine ⟨?_, ?_, ?_, ?_⟩
    · show (0 : Int) ≤ (y : Int); omega
    · show (y : Int) ≤ 100000; omega
    · show (0 : Int) ≤ (o : Int); omega
    · show (o : Int) ≤ 1000000; omega
  · intro b u nb e
    have h1 := k1 _ _ e
    have h3 := k3 b u nb h1
    refine ⟨fun z => ?_, kx nb (g4 _ _ h3)⟩
    rcases z with z | z
    · simp only [own7, List.mem_cons, List.not_mem_nil, or_false] at z
      rcases z with rfl | rfl | rfl | rfl | rfl | rfl
      · exact nb rfl
      · rw [nn _ (by simp)] at h3; cases h3
      · rw [nn _ (by simp)] at h3; cases h3
      · rw [nn _ (by simp)] at h3; cases h3
      · rw [e] at nah; cases nah
      · rw [nn _ (by simp)] at h3; cases h3
    · cases z
end
end Wk
set_option maxRecDepth 100000
set_option maxHeartbeats 4000000
/-! A rule of my own: list(range(n, 0, -1)). -/
namespace Wk
open PySem PySem.Spec PyProof.Rows L2
def tLstDown (ta : TA) : TE := fun σ H Q => ta σ H fun vs H1 => ∃ n : Nat, vs = [.int (n : Int), .int 0, .int (-1)] ∧ n ≤ 1000000 ∧ ∀ q, H1 q = none → Q (.ref q) (upd H1 q (.lst ((Hm.downTo n).map V.int)))
theorem downTo_len : ∀ n, (Hm.downTo n).length = n
  | 0 => rfl
  | n + 1 => by rw [Hm.downTo, List.length_cons, downTo_len n]
theorem downTo_at : ∀ {n k : Nat}, k < n → (Hm.downTo n)[k]? = some ((n : Int) + (k : Int) * (-1))
  | 0, k, h => by omega
  | n + 1, 0, _ => by
    rw [Hm.downTo]
    show some ((n : Int) + 1) = _
    congr 1 <;> omega
  | n + 1, k + 1, h => by
    rw [Hm.downTo]
    show (Hm.downTo n)[k]? = _
    rw [downTo_at (by omega)]
    congr 1 <;> omega
section
variable {X : Cx} {a b c : Expr} {ta : TA} {p pos p2 pos2 : Pos}
theorem pe_listDown (hc : X.calm = true) (hg : Gl X "list") (hm : X.mg "list" = none) (hg2 : Gl X "range") (hm2 : X.mg "range" = none) (ha : PA X [a, b, c] ta)
    (hs : starEach [a, b, c] X.env = (false, eval a X.env) :: starEach [b, c] X.env := by rfl) (hpl : (backTo pos (starEach [b, c] X.env)).any (·.1) = false := by rfl)
    (na : starEach [.Call (.Name "range" p) [a, b, c] [] pos] X.env = (false, eval (.Call (.Name "range" p) [a, b, c] [] pos) X.env) :: starEach [] X.env := by rfl) :
    PE X (.Call (.Name "list" p2) [.Call (.Name "range" p) [a, b, c] [] pos] [] pos2) (tLstDown ta) := by
  refine ⟨fun pins s σ H Q I h => ?_⟩
  have inner : wpAny (model X.prog X.w) X.A (eval (.Call (.Name "range" p) [a, b, c] [] pos) X.env) (fun x s' => ∃ r t u v H' n, x = .ref r ∧ IsRange s'.heap r ((n : Nat) : Int) 0 (-1) t u v ∧ Inv X pins σ H' s' ∧ n ≤ 1000000 ∧ ∀ q, H' q = none → Q (.ref q) (upd H' q (.lst ((Hm.downTo n).map V.int)))) X.xe s := by
    refine Call_ (ld_blt I hg2 hm2 boot_range (PyProof.Rows.callWith_type1 (thn (ha.run pos pins s σ H _ I h) fun us s1 ⟨vs, H1, I1, r1, q1⟩ => ?_) hs hpl))
    obtain ⟨n, e, hn, q⟩ := q1
    subst e
    obtain ⟨u1, us, rfl, ra, r1⟩ : ∃ u1 us', us = u1 :: us' ∧ RelV (.int (n : Int)) u1 ∧ Vals [.int 0, .int (-1)] us' := by cases r1 with | cons h t => exact ⟨_, _, rfl, h, t⟩
    obtain ⟨u2, us, rfl, rb, r1⟩ : ∃ u1 us', us = u1 :: us' ∧ RelV (.int 0) u1 ∧ Vals [.int (-1)] us' := by cases r1 with | cons h t => exact ⟨_, _, rfl, h, t⟩
    obtain ⟨u3, us, rfl, rc, r1⟩ : ∃ u1 us', us = u1 :: us' ∧ RelV (.int (-1)) u1 ∧ Vals [] us' := by cases r1 with | cons h t => exact ⟨_, _, rfl, h, t⟩
    cases r1
    obtain ⟨t1, rfl⟩ := ra
    obtain ⟨t2, rfl⟩ := rb
    obtain ⟨t3, rfl⟩ := rc
    refine call_range_3 (by decide) ⟨_, _, _, _, H1, n, rfl, IsRange.new _ _ _ _ _ _ _, I1.kept fun b u e => Heap.get?_push_of_some _ e, hn, q⟩ (Or.inl (PyProof.noPylong_of_log2 (by decide +kernel)))
  refine Call_ (ld_blt I hg hm boot_list (PyProof.Rows.callWith_type1 (args_cons (thn inner fun x s1 ⟨r, t, u, v, H1, n, ex, hr, I1, hn, q⟩ => args_nil ?_) na) na))
  subst ex
  have e1 : Builtin.Range.rangeSize (n : Int) 0 (-1) = ((n : Nat) : Int) := by
    rw [PySem.W.rangeSize_downNat]; omega
  refine call_list_range (n := n) (I1.ok.hd hc) hr (PySem.W.small_down (by omega) (by omega) (by omega) (by omega)) e1 (by omega) fun h' tk acc c' hk e' hi => ?_
  have hz := sizeLine_eq
  refine ⟨.ref s1.heap.objs.size, upd H1 s1.heap.objs.size (.lst ((Hm.downTo n).map V.int)), I1.laid hk (Nat.le_refl _) (show ObjOk X.prog X.w _ _ _ (.lst ((Hm.downTo n).map V.int)) from ⟨?_, acc.toList, c', ?_, ?_⟩), rfl, q _ (I1.hok.fresh (Nat.le_refl _))⟩
  · rw [List.length_map, downTo_len]; omega
  · have el : acc.toList.length = acc.size := by simp
    refine vals_of_at (by rw [List.length_map, downTo_len, el, hi.1]) fun j x v h1 h2 => ?_
    rw [List.getElem?_map] at h1
    have hj : j < n := by
      rcases Nat.lt_or_ge j n with z | z
      · exact z
      · rw [List.getElem?_eq_none (by rw [downTo_len]; exact z)] at h1; cases h1
    rw [downTo_at hj] at h1
    cases h1
    obtain ⟨t, rfl⟩ := hi.2 j v (by rw [← Array.getElem?_toList]; exact h2)
    exact ⟨t, rfl⟩
  · rw [Array.toArray_toList]; exact e'
end
end Wk
set_option maxRecDepth 100000
set_option maxHeartbeats 4000000
namespace Wk
open PySem L2 TL PyProof.Rows Hm
open SX (S S_len)
section
variable {X : Cx} {K : PySem.W.Frag}
theorem sl_tupB (h : X.K = K) : SlR X (rSlA K) := h ▸ sl_tupA
theorem op_eqDB (h : X.K = K) (hu : X.A.units + 64 < cLine) : OpR X (compareOp .Eq) (rEqD K) := h ▸ op_eqD hu
end
/-- ints as data -/
def intsP (ns : List Int) : List PyData := ns.map PyData.int
theorem dp_ints {K : PySem.W.Frag} {H : Hp} {p : Addr} {ns : List Int} (h : H p = some (.tup (ns.map V.int))) : Dp K H (.ref p) (.tuple (intsP ns)) := by
  refine .tup (SqT.of h) ?_
  unfold intsP
  clear h
  induction ns with
  | nil => exact .nil
  | cons n ns ih => exact .cons (.int n) ih
theorem cut_all {xs : List V} {lo hi : Option Int} (h : HT.sIx xs.length 0 lo = 0 ∧ HT.sIx xs.length xs.length hi = xs.length) : cutV xs lo hi = xs := by
  unfold cutV
  rw [h.1, h.2, Nat.sub_zero, List.drop_zero, List.take_length]
def itW : Hm.It → String
  | .word _ => "word"
  | .held _ => "held"
def itN : Hm.It → Int
  | .word n => n
  | .held h => h
theorem itV_eq (it : Hm.It) : itV it = [.str (Str.ofString (itW it)), .int (itN it)] := by cases it <;> rfl
/-- heap.make(sort, ((word, n),)) -/
theorem make_one {K : PySem.W.Frag} {C : Cs K} {F : Fx} {ar : Addr} {rws : List Addr} {H : Hp} {s s' : Bd} {x : String} {k i : Nat} {it : Hm.It} {l : Int} {ta tb : TE} {σ : L2.St} {Q : VK} (S : St C H F ar rws s) (hx : SortIs x k) (hi : σ[i]? = some (some (.ref F.ho)))
    (ha : ∀ H' (R : VK), R (.str (Str.ofString (itW it))) H' → ta σ H' R) (hb : ∀ H' (R : VK), R (.int (itN it)) H' → tb σ H' R) (hm : make s k [it] = some (l, s')) (q : ∀ H' ar' rws', Go C F ar rws H H' ar' rws' s' → Q (.int l) H') :
    tMeth C.H "make" (sp_hmake C) [] E0 (tVar i) (tCons (tC (.str (Str.ofString x))) (tCons (tTup (tCons (tTup (tCons ta (tCons tb tNil))) tNil)) tNil)) σ H Q := by
  have hz := line_eq
  refine ⟨_, hi, F.ho, F.hd, _, rfl, S.ho, rfl, ha _ _ (hb _ _ ⟨(by show 2 ≤ sizeLine; rw [hz]; decide), fun t1 n1 => ?_⟩)⟩
  have g1 : Same H (upd H t1 (.tup [.str (Str.ofString (itW it)), .int (itN it)])) := same_new n1 _
  have q1 : (upd H t1 (.tup [.str (Str.ofString (itW it)), .int (itN it)])) t1 = some (.tup (itV it)) := by rw [upd_same, itV_eq]
  generalize upd H t1 (.tup [.str (Str.ofString (itW it)), .int (itN it)]) = H1 at g1 q1 ⊢
  refine ⟨(by show 1 ≤ sizeLine; rw [hz]; decide), fun t2 n2 => ?_⟩
  have g2 : Same H (upd H1 t2 (.tup [.ref t1])) := same_to g1 n2 _
  have q2 : (upd H1 t2 (.tup [.ref t1])) t2 = some (.tup ([t1].map V.ref)) := upd_same
  have q12 : (upd H1 t2 (.tup [.ref t1])) t1 = some (.tup (itV it)) := by rw [upd_ne (ne_of_none q1 n2)]; exact q1
  generalize upd H1 t2 (.tup [.ref t1]) = H2 at g2 q2 q12 ⊢
  refine ⟨F, ar, rws, s, x, k, t2, [t1], [it], l, s', (by rw [S_of]; rfl), hx, S.same g2, q2, ⟨q12, trivial⟩, (by show 1 ≤ 60000; decide), hm, fun H3 ar3 rws3 g3 => ?_⟩
  exact q _ _ _ ⟨g3.st, fun b u n e => g3.ch b u n (g2 _ _ e)⟩
section
variable {P : Program} {w : World} {K : PySem.W.Frag} {mg : Str → Option Value} {base : Heap}
abbrev s__law_chain : Stmt := top 74
theorem sc__law_chain : FnScope ["_law_heap", "_law_many", "_law_last", "_law_turn", "_law_later"] ["_law_heap", "_law_many"] (defScope s__law_chain) := ⟨rfl, rfl, rfl, by decide +kernel, rfl, by decide +kernel, by decide +kernel⟩
def sp_chain (C : Cs K) : Sp := fun vs H Q _ => ∃ F ar rws s, ∃ many : Nat, ∃ l s', vs = [.ref F.ho, .int (many : Int)] ∧ 1 ≤ many ∧ many ≤ 1000 ∧ St C H F ar rws s ∧ chain0 s many = some (l, s') ∧ ∀ H' ar' rws', Go C F ar rws H H' ar' rws' s' → Q (.int l) H'
theorem ok_chain (T : Txt K mg base) (C : Cs K) {f : Addr} {fd : FuncData} (F : Fun K "_law_chain" "_law_chain" s__law_chain f fd) (Mh_make : MD P w K mg base CX0 C.H "make" ["self", "sort", "items"] 8 (sp_hmake C)) (Mh_drop : MD P w K mg base CX0 C.H "drop" ["self", "handle"] 3 (sp_hdrop C)) : FnOk P w K mg base CX0 9 f fd ["_law_heap", "_law_many"] (sp_chain C) := by
  refine F.ok sc__law_chain (fun vs H Q E h => ?_) (fun cdv A outer s H vs Q E hr h => ?_)
  · obtain ⟨_, _, _, _, _, _, _, rfl, _⟩ := h; rfl
  obtain ⟨F, ar, rws, s, many, l, s', rfl, h1, h2, S, hm, q⟩ := h
  refine ⟨_, (pss_cons (ps_set (i := 2) sc__law_chain.nd rfl (Or.inl rfl) (pe_meth (pv 0) C.hcl Mh_make.m Mh_make.ok (hr.mono (by omega)) Mh_make.b .nil pass0 (pa_cons pe_str (pa_cons (pe_tup (pa_cons (pe_tup (pa_cons pe_str (pa_cons pe_int pa_nil))) pa_nil)) pa_nil))))
    (pss_cons (ps_for PassesOwn.never rfl (pi_range1 rfl T.n_range (pa_cons (pe_op op_sub (pv 1) pe_int) pa_nil)) (pg_name (i := 3) sc__law_chain.nd rfl (Or.inl rfl)) (pss_cons (ps_set (i := 4) sc__law_chain.nd rfl (Or.inl rfl) (pe_meth (pv 0) C.hcl Mh_make.m Mh_make.ok (hr.mono (by omega)) Mh_make.b .nil pass0 (pa_cons pe_str (pa_cons (pe_tup (pa_cons (pe_tup (pa_cons pe_str (pa_cons (pv 2) pa_nil))) pa_nil)) pa_nil))))
      (pss_cons (ps_expr (pe_meth (pv 0) C.hcl Mh_drop.m Mh_drop.ok (hr.mono (by omega)) Mh_drop.b .nil pass0 (pa_cons (pv 2) pa_nil)))
      (pss_one (ps_set (i := 2) sc__law_chain.nd rfl (Or.inl rfl) (pv 4))))))
    (pss_one (ps_ret (pv 2))))), ?_⟩
  have hz := line_eq
  generalize hσ : L2.start _ _ = σ0
  have hσ : σ0 = [some (.ref F.ho), some (.int (many : Int)), none, none, none] := hσ.symm
  subst hσ
  unfold chain0 at hm
  split at hm
  · cases hm
  rename_i l0 s1 hmk
  refine seq_set (make_one (it := .word 3) S (x := "list") (k := 1) rfl rfl (fun _ _ h => h) (fun _ _ h => h) hmk fun H1 ar1 rws1 g1 => ?_)
  refine seq_join (fun σ H' => ∃ x3 x4 : Option V, σ = [some (.ref F.ho), some (.int (many : Int)), some (.int l), x3, x4] ∧ ∃ ar' rws', Go C F ar rws H H' ar' rws' s') ?_ ?_
  · rintro σ H2 ⟨x3, x4, rfl, ar2, rws2, g2⟩
    exact ⟨_, rfl, q _ _ _ g2⟩
  intro NX nx
  refine ⟨_, rfl, _, _, rfl, rfl, ((many : Int) - 1), rfl, (by show -2 ^ 62 ≤ ((many : Int) - 1); omega), (by show ((many : Int) - 1) < 2 ^ 62; omega), ?_⟩
  rw [show ((many : Int) - 1).toNat = many - 1 from by omega]
  refine for_range (D := { nx := NX, rt := Q }) (fun i σ H' => ∃ (last : Int) (sk : Bd) (x3 x4 : Option V) (ar' : Addr) (rws' : List Addr), σ = [some (.ref F.ho), some (.int (many : Int)), some (.int last), x3, x4] ∧ Go C F ar rws H H' ar' rws' sk ∧ i ≤ many - 1 ∧ chain (many - 1 - i) last sk = some (l, s')) ⟨l0, s1, none, none, ar1, rws1, rfl, g1, Nat.zero_le _, hm⟩ ?_ ?_
  · rintro i σ H2 hi ⟨last, sk, x3, x4, ar2, rws2, rfl, g2, _, hk⟩
    rw [show many - 1 - i = (many - 1 - (i + 1)) + 1 from by omega, chain] at hk
    split at hk
    · cases hk
    rename_i l2 s2 hm2
    split at hk
    · cases hk
    rename_i s3 hd
    have S2 := g2.st
    show tSeq _ _ _ [some (.ref F.ho), some (.int (many : Int)), some (.int last), some (.int (0 + (i : Int))), x4] H2
    refine seq_set (make_one (it := .held last) S2 (x := "list") (k := 1) rfl rfl (fun _ _ h => h) (fun _ _ h => ⟨_, rfl, h⟩) hm2 fun H3 ar3 rws3 g3 => ?_)
    refine ⟨_, rfl, F.ho, F.hd, _, rfl, g3.st.ho, rfl, _, rfl, F, ar3, rws3, s2, last, s3, rfl, g3.st, hd, fun H4 rws4 g4 => ?_⟩
    exact ⟨_, rfl, l2, s3, _, _, ar3, rws4, rfl, (g2.trans g3).trans g4, by omega, hk⟩
  · rintro σ H2 ⟨last, sk, x3, x4, ar2, rws2, rfl, g2, _, hk⟩
    rw [Nat.sub_self, chain] at hk
    injection hk with hk
    injection hk with hk1 hk2
    subst hk1
    subst hk2
    exact nx _ _ ⟨_, _, rfl, _, _, g2⟩
abbrev s__law_lies : Stmt := top 75
theorem sc__law_lies : FnScope ["_law_layout", "_law_begin", "_law_numbers", "_law_words", "_law_at", "_law_number"] ["_law_layout", "_law_begin", "_law_numbers"] (defScope s__law_lies) := ⟨rfl, rfl, rfl, by decide +kernel, rfl, by decide +kernel, by decide +kernel⟩
def sp_lies (C : Cs K) (C2 : Cs2 K mg C) : Sp := fun vs H Q _ => ∃ lp ro s ws b pn ns, vs = [.ref lp, .int b, .ref pn] ∧ LayAt K C2 H lp ro s ws ∧ H pn = some (.lst (ns.map V.int)) ∧ ns.length ≤ 1000 ∧ lies ws b 0 ns = true ∧ ∀ H', Same H H' → Q (.bl true) H'
theorem ok_lies (T : Txt K mg base) (C : Cs K) (C2 : Cs2 K mg C) {f : Addr} {fd : FuncData} (F : Fun K "_law_lies" "_law_lies" s__law_lies f fd) : FnOk P w K mg base CX0 1 f fd ["_law_layout", "_law_begin", "_law_numbers"] (sp_lies C C2) := by
  refine F.ok sc__law_lies (fun vs H Q E h => ?_) (fun cdv A outer s H vs Q E hr h => ?_)
  · obtain ⟨_, _, _, _, _, _, _, rfl, _⟩ := h; rfl
  obtain ⟨lp, ro, s, ws, b, pn, ns, rfl, ⟨dx, wa, ra, rt, hlp, hwa, hra⟩, hpn, hl, hm, q⟩ := h
  refine ⟨_, (pss_cons (ps_set (i := 3) sc__law_lies.nd rfl (Or.inr rfl) (pe_fld (pv 0) rfl))
    (pss_one (ps_ret (pe_callB (cr_all rfl) rfl T.n_all boot_all (pa_cons (pe_lc (own := [("_law_at", 4), ("_law_number", 5)]) (g := gTup K 2 (gCons (gName 4) (gCons (gName 5) gNil))) (tt := tYes) rfl sc__law_lies.nd (pi_enum rfl T.n_enumerate (pa_cons (pv 2) pa_nil)) (blkOk_by (N := ["_law_layout", "_law_begin", "_law_numbers", "_law_words", "_law_at", "_law_number"]) (sc := defScope s__law_lies) (by decide +kernel)) (fun _ _ _ _ _ => (pg_tup rfl (pgs_cons (pg_name (i := 4) sc__law_lies.nd rfl (Or.inl rfl)) (pgs_cons (pg_name (i := 5) sc__law_lies.nd rfl (Or.inl rfl)) pgs_nil)))) (fun _ _ _ _ _ => pts_nil) (fun _ _ _ _ _ => (pe_cmpR (op_eqDB (K := K) rfl hr.units) (pe_slice (sl_tupB (K := K) rfl) (pv 3) (po_some (pe_op op_add (pv 1) (pe_op op_mul pe_int (pv 4)))) (po_some (pe_op op_add (pe_op op_add (pv 1) (pe_op op_mul pe_int (pv 4))) pe_int))) (pe_tup (pa_cons pe_int (pa_cons (pv 5) pa_nil))) (nomark _)))) pa_nil))))), ?_⟩
  have hz := line_eq
  refine seq_set ⟨_, rfl, _, _, _, _, _, rfl, hlp, C2.lcl, C2.l2, rfl, ?_⟩
  refine ⟨_, rfl, pn, _, rfl, SqL.of hpn, fun D hD => ?_⟩
  refine lc_enum (xs := ns.map V.int) (fun i H' => Same H H' ∧ i ≤ ns.length ∧ H' D = some (.lst ((List.replicate i true).map V.bl)) ∧ lies ws b i (ns.drop i) = true) ⟨same_new hD _, Nat.zero_le _, upd_same, by rw [List.drop_zero]; exact hm⟩ (fun i H' _ h => SqL.of (h.1 _ _ hpn)) ?_ ?_
  · rintro i v H' TT hv ⟨g, hi, hd, hk⟩ hT
    obtain ⟨n, en, rfl, ed⟩ := ints_at hv
    have hlt : i < ns.length := (List.getElem?_eq_some_iff.mp en).1
    rw [ed, lies, Bool.and_eq_true] at hk
    obtain ⟨hk1, hk2⟩ := hk
    have hgs : gS ws (b + 3 * (i : Int)) (b + 3 * (i : Int) + 2) = some [9, n] := beq_iff_eq.mp hk1
    obtain ⟨c1, c2, c3, c4, c5⟩ := gS_cut hgs
    have g2 : Same H (upd H' TT (.tup [.int (i : Nat), .int n])) := same_to g hT _
    have hd2 : (upd H' TT (.tup [.int (i : Nat), .int n])) D = some (.lst ((List.replicate i true).map V.bl)) := by rw [upd_ne (ne_of_none hd hT)]; exact hd
    have hTT : (upd H' TT (.tup [.int (i : Nat), .int n])) TT = some (.tup [.int (i : Nat), .int n]) := upd_same
    generalize upd H' TT (.tup [.int (i : Nat), .int n]) = H2 at g2 hd2 hTT ⊢
    refine ⟨TT, _, rfl, SqT.of hTT, rfl, _, _, rfl, _, _, rfl, rfl, ?_⟩
    refine ⟨rfl, ?_⟩
    unfold tYes
    dsimp only
    rw [if_pos rfl]
    have fin : ∀ (H3 : Hp) (p3 : Addr), Same H2 H3 → H3 p3 = some (.tup ([9, n].map V.int)) → tTup (tCons (tC (V.int 9)) (tCons (tVar 5) tNil)) [some (.ref lp), some (.int b), some (.ref pn), some (.ref wa), some (.int (i : Nat)), some (.int n)] H3 (fun y H4 => rEqD K (.ref p3) y H4 fun y H4 => ∃ acc, H4 D = some (.lst acc) ∧ acc.length < sizeLine ∧ (Same H (upd H4 D (.lst (acc ++ [y]))) ∧ i + 1 ≤ ns.length ∧ (upd H4 D (.lst (acc ++ [y]))) D = some (.lst ((List.replicate (i + 1) true).map V.bl)) ∧ lies ws b (i + 1) (ns.drop (i + 1)) = true)) := fun H3 p3 g3 h3 => by
      refine ⟨_, rfl, (by show 2 ≤ sizeLine; rw [hz]; decide), fun t nt => ?_⟩
      have e1 : (upd H3 t (.tup [.int 9, .int n])) p3 = some (.tup ([9, n].map V.int)) := by rw [upd_ne (ne_of_none h3 nt)]; exact h3
      have e2 : (upd H3 t (.tup [V.int 9, .int n])) t = some (.tup ([9, n].map V.int)) := upd_same
      have hs : SeqAt.shaped (.tuple (intsP [9, n])) = true := rfl
      refine ⟨_, _, dp_ints e1, dp_ints e2, hs, hs, ?_⟩
      rw [SeqAt.eqv_refl _ (SeqAt.canLay_of_shaped hs)]
      have hd3 : (upd H3 t (.tup [V.int 9, .int n])) D = some (.lst ((List.replicate i true).map V.bl)) := by rw [upd_ne (ne_of_none (g3 _ _ hd2) nt)]; exact g3 _ _ hd2
      refine ⟨_, hd3, (by rw [List.length_map, List.length_replicate]; omega), same_mut (same_to (g2.trans g3) nt _) hD _, hlt, ?_, hk2⟩
      rw [upd_same, List.replicate_succ', List.map_append]; rfl
    have mu : CMul 3 ((i : Nat) : Int) := .inl ⟨by decide, by decide⟩
    refine ⟨_, rfl, _, rfl, _, rfl, _, _, rfl, rfl, mu, _, _, rfl, rfl, _, rfl, _, rfl, _, rfl, _, _, rfl, rfl, mu, _, _, rfl, rfl, _, _, rfl, rfl, _, rfl, wa, _, rfl, SqT.of (g2 _ _ hwa), fun z => ?_, fun _ p np => ?_⟩
    · rw [cut_all z] at c1
      exact fin H2 wa (Same.refl H2) (by rw [g2 _ _ hwa, c1])
    · rw [c1]
      exact fin _ p (same_new np _) upd_same
  · rintro H' ⟨g, hi, hd, _⟩
    refine ⟨D, _, rfl, SqL.of hd, ?_⟩
    rw [show (List.replicate ((ns.map V.int).length) true).all id = true from by simp]
    exact q _ g
end
end Wk
set_option maxRecDepth 100000
set_option maxHeartbeats 8000000
namespace Wk
open PySem PySem.Spec L2 TL PyProof.Rows
open SX (S S_len)
/-! ### data that is compared and shown -/
structure Okd (d : PyData) : Prop where
  h1 : SeqAt.shaped d = true
  h2 : d.showable = true
  h3 : d.hasDict = false
  h4 : d.depth ≤ 60
  h5 : d.shown.length ≤ sizeLine
def Smal (i : Int) : Prop := i.natAbs < 10 ^ 45
theorem smal_shown {i : Int} (h : Smal i) : (PyData.shown (.int i)).length ≤ 60 := by
  have e : (PyData.shown (.int i)).length = (toString i).length := by
    show (Str.ofString (toString i)).length = _
    exact PySem.ofString_length _
  have := int_text_length_le10 (a := i) (k := 45) (by decide) h
  omega
theorem smal_log {i : Int} (h : Smal i) : i.natAbs.log2 < 1920 := by
  have h' : i.natAbs < 2 ^ 1920 := Nat.lt_of_lt_of_le h (by decide +kernel)
  by_cases e : i.natAbs = 0
  · rw [e]; decide
  · exact (Nat.log2_lt e).mpr h'
theorem smal_w {i : Int} (h : Smal i) : (if i = 0 then 0 else i.natAbs.log2 + 1) ≤ 150 := by
  have h' : i.natAbs < 2 ^ 150 := Nat.lt_of_lt_of_le h (by decide +kernel)
  by_cases e : i = 0
  · rw [if_pos e]; exact Nat.zero_le _
  · rw [if_neg e]
    have := (Nat.log2_lt (show i.natAbs ≠ 0 by omega)).mpr h'
    omega
theorem okd_of {d : PyData} (h1 : d.canLay0 = true) (h2 : d.depth ≤ 60) (h3 : d.showable = true) (h4 : d.hasDict = false) (h5 : d.intsShort 60 = true) (h6 : d.weight ≤ 1000) : Okd d := by
  refine ⟨?_, h3, h4, h2, ?_⟩
  · unfold SeqAt.shaped
    rw [h1, decide_eq_true (by omega)]; rfl
  · have := PyData.shown_le 60 (by decide) d (PyData.leavesShort_of_canLay0 60 d h1 h5)
    have e := sizeLine_eq
    omega
theorem ok_tup5 {a b c d e : Int} (ha : Smal a) (hb : Smal b) (hc : Smal c) (hd : Smal d) (he : Smal e) : Okd (.tuple [.int a, .int b, .int c, .int d, .int e]) := by
  have h1 := smal_shown ha
  have h2 := smal_shown hb
  have h3 := smal_shown hc
  have h4 := smal_shown hd
  have h5 := smal_shown he
  refine okd_of ?_ ?_ ?_ ?_ ?_ ?_
  · simp [PyData.canLay0, PyData.canLayAll0]
  · simp [PyData.depth, PyData.depthAll]
  · simp [PyData.showable, PyData.showableAll, smal_log ha, smal_log hb, smal_log hc, smal_log hd, smal_log he]
  · simp [PyData.hasDict, PyData.hasDictAll]
  · simp [PyData.intsShort, PyData.intsShortAll, h1, h2, h3, h4, h5]
  · simp [PyData.weight, PyData.weightAll]
    have := smal_w ha; have := smal_w hb; have := smal_w hc; have := smal_w hd; have := smal_w he; omega
theorem smal_of {i : Int} (h1 : -1000000 ≤ i) (h2 : i ≤ 1000000) : Smal i := by
  unfold Smal
  have : (1000000 : Nat) < 10 ^ 45 := by decide +kernel
  omega
end Wk
set_option maxRecDepth 100000
set_option maxHeartbeats 4000000
/-! The law's three parts, at every drawn number: worked out by the kernel. -/
namespace Hm
theorem turn_tab : ∀ k < 12, turnRight (k + 1) = true := by decide +kernel
theorem turn_ok {many : Nat} (h1 : 1 ≤ many) (h2 : many ≤ 12) : turnRight many = true := by
  obtain ⟨k, rfl⟩ : ∃ k, many = k + 1 := ⟨many - 1, by omega⟩
  exact turn_tab k (by omega)
theorem pace_tab1 : ∀ k < 12, paceRight (k + 1) 1 = true := by decide +kernel
theorem pace_tab2 : ∀ k < 12, paceRight (k + 1) 2 = true := by decide +kernel
theorem pace_tab3 : ∀ k < 12, paceRight (k + 1) 3 = true := by decide +kernel
theorem pace_ok {many pace : Nat} (h1 : 1 ≤ many) (h2 : many ≤ 12) (h3 : 1 ≤ pace) (h4 : pace ≤ 3) : paceRight many pace = true := by
  obtain ⟨k, rfl⟩ : ∃ k, many = k + 1 := ⟨many - 1, by omega⟩
  have : pace = 1 ∨ pace = 2 ∨ pace = 3 := by omega
  rcases this with rfl | rfl | rfl
  · exact pace_tab1 k (by omega)
  · exact pace_tab2 k (by omega)
  · exact pace_tab3 k (by omega)
theorem great_tab9 : ∀ p < 9, greatRight 9 p = true := by decide +kernel
theorem great_tab10 : ∀ p < 10, greatRight 10 p = true := by decide +kernel
theorem great_tab11 : ∀ p < 11, greatRight 11 p = true := by decide +kernel
theorem great_tab12 : ∀ p < 12, greatRight 12 p = true := by decide +kernel
theorem great_tab13 : ∀ p < 13, greatRight 13 p = true := by decide +kernel
theorem great_tab14 : ∀ p < 14, greatRight 14 p = true := by decide +kernel
theorem great_tab15 : ∀ p < 15, greatRight 15 p = true := by decide +kernel
theorem great_tab16 : ∀ p < 16, greatRight 16 p = true := by decide +kernel
theorem great_tab17 : ∀ p < 17, greatRight 17 p = true := by decide +kernel
theorem great_tab18 : ∀ p < 18, greatRight 18 p = true := by decide +kernel
theorem great_tab19 : ∀ p < 19, greatRight 19 p = true := by decide +kernel
theorem great_tab20 : ∀ p < 20, greatRight 20 p = true := by decide +kernel
theorem great_tab21 : ∀ p < 21, greatRight 21 p = true := by decide +kernel
theorem great_tab22 : ∀ p < 22, greatRight 22 p = true := by decide +kernel
theorem great_tab23 : ∀ p < 23, greatRight 23 p = true := by decide +kernel
theorem great_tab24 : ∀ p < 24, greatRight 24 p = true := by decide +kernel
theorem great_tab25 : ∀ p < 25, greatRight 25 p = true := by decide +kernel
theorem great_tab26 : ∀ p < 26, greatRight 26 p = true := by decide +kernel
theorem great_tab27 : ∀ p < 27, greatRight 27 p = true := by decide +kernel
theorem great_tab28 : ∀ p < 28, greatRight 28 p = true := by decide +kernel
theorem great_tab29 : ∀ p < 29, greatRight 29 p = true := by decide +kernel
theorem great_tab30 : ∀ p < 30, greatRight 30 p = true := by decide +kernel
theorem great_tab31 : ∀ p < 31, greatRight 31 p = true := by decide +kernel
theorem great_tab32 : ∀ p < 32, greatRight 32 p = true := by decide +kernel
theorem great_tab33 : ∀ p < 33, greatRight 33 p = true := by decide +kernel
theorem great_tab34 : ∀ p < 34, greatRight 34 p = true := by decide +kernel
theorem great_tab35 : ∀ p < 35, greatRight 35 p = true := by decide +kernel
theorem great_tab36 : ∀ p < 36, greatRight 36 p = true := by decide +kernel
theorem great_tab37 : ∀ p < 37, greatRight 37 p = true := by decide +kernel
theorem great_tab38 : ∀ p < 38, greatRight 38 p = true := by decide +kernel
theorem great_ok {many p : Nat} (h1 : 9 ≤ many) (h2 : many ≤ 38) (h3 : p < many) : greatRight many p = true := by
  have : many = 9 ∨ many = 10 ∨ many = 11 ∨ many = 12 ∨ many = 13 ∨ many = 14 ∨ many = 15 ∨ many = 16 ∨ many = 17 ∨ many = 18 ∨ many = 19 ∨ many = 20 ∨ many = 21 ∨ many = 22 ∨ many = 23 ∨ many = 24 ∨ many = 25 ∨ many = 26 ∨ many = 27 ∨ many = 28 ∨ many = 29 ∨ many = 30 ∨ many = 31 ∨ many = 32 ∨ many = 33 ∨ many = 34 ∨ many = 35 ∨ many = 36 ∨ many = 37 ∨ many = 38 := by omega
  rcases this with rfl | rfl | rfl | rfl | rfl | rfl | rfl | rfl | rfl | rfl | rfl | rfl | rfl | rfl | rfl | rfl | rfl | rfl | rfl | rfl | rfl | rfl | rfl | rfl | rfl | rfl | rfl | rfl | rfl | rfl
  · exact great_tab9 p h3
  · exact great_tab10 p h3
  · exact great_tab11 p h3
  · exact great_tab12 p h3
  · exact great_tab13 p h3
  · exact great_tab14 p h3
  · exact great_tab15 p h3
  · exact great_tab16 p h3
  · exact great_tab17 p h3
  · exact great_tab18 p h3
  · exact great_tab19 p h3
  · exact great_tab20 p h3
  · exact great_tab21 p h3
  · exact great_tab22 p h3
  · exact great_tab23 p h3
  · exact great_tab24 p h3
  · exact great_tab25 p h3
  · exact great_tab26 p h3
  · exact great_tab27 p h3
  · exact great_tab28 p h3
  · exact great_tab29 p h3
  · exact great_tab30 p h3
  · exact great_tab31 p h3
  · exact great_tab32 p h3
  · exact great_tab33 p h3
  · exact great_tab34 p h3
  · exact great_tab35 p h3
  · exact great_tab36 p h3
  · exact great_tab37 p h3
  · exact great_tab38 p h3
end Hm
set_option maxRecDepth 100000
set_option maxHeartbeats 8000000
namespace Wk
open PySem L2 TL PyProof.Rows Hm
open SX (S S_len)
/-- the heap stands as s says, and all that H1 knew stands as it did and is not the heap's own -/
structure Gz {K : PySem.W.Frag} (C : Cs K) (F : Fx) (H1 H : Hp) (ar : Addr) (rws : List Addr) (s : Bd) : Prop where
  st : St C H F ar rws s
  ch : ∀ b u, H1 b = some u → ¬ Own F ar rws b ∧ H b = some u
section
variable {K : PySem.W.Frag} {mg : Str → Option Value} {C : Cs K} {C2 : Cs2 K mg C} {F : Fx} {H0 H1 H H' : Hp} {ar ar' : Addr} {rws rws' : List Addr} {s s' : Bd} {σ : L2.St} {i : Nat} {Q : VK}
theorem Gz.go (Z : Gz C F H1 H ar rws s) (g : Go C F ar rws H H' ar' rws' s') : Gz C F H1 H' ar' rws' s' := ⟨g.st, fun b u e => g.ch b u (Z.ch b u e).1 (Z.ch b u e).2⟩
theorem Gz.same (Z : Gz C F H1 H ar rws s) (g : Same H H') : Gz C F H1 H' ar rws s := ⟨Z.st.same g, fun b u e => ⟨(Z.ch b u e).1, g _ _ (Z.ch b u e).2⟩⟩
theorem Gz.to (Z : Gz C F H1 H ar rws s) : Same H1 H := fun b u e => (Z.ch b u e).2
theorem Gz.from (Z : Gz C F H1 H ar rws s) (g : Same H0 H1) : Gz C F H0 H ar rws s := ⟨Z.st, fun b u e => Z.ch b u (g _ _ e)⟩
/-- heap.layout() -/
theorem lay_get (Z : Gz C F H1 H ar rws s) (hi : σ[i]? = some (some (.ref F.ho))) (ht : (told s).isSome = true) (q : ∀ H' p ws, told s = some ws → Gz C F H1 H' ar rws s → Same H H' → LayAt K C2 H' p F.ro s ws → Q (.ref p) H') :
    tMeth C.H "layout" (sp_hlayout C C2) [] E0 (tVar i) tNil σ H Q := by
  cases e : told s with
  | none => rw [e] at ht; cases ht
  | some ws => exact ⟨_, hi, F.ho, F.hd, _, rfl, Z.st.ho, rfl, F, ar, rws, s, ws, rfl, Z.st, e, fun H' p g l => q H' p ws e (Z.same g) g l⟩
theorem LayAt.same {p ro : Addr} {ws : List Int} (l : LayAt K C2 H p ro s ws) (g : Same H H') : LayAt K C2 H' p ro s ws := by
  obtain ⟨dx, wa, ra, rt, h1, h2, h3⟩ := l
  exact ⟨dx, wa, ra, rt, g _ _ h1, g _ _ h2, g _ _ h3⟩
/-- Heap(Room(a, b, c)) -/
theorem heap_new {ta tb tc : TE} {y o p : Nat} (ha : ∀ R : VK, R (.int (y : Int)) H → ta σ H R) (hb : ∀ R : VK, R (.int (o : Int)) H → tb σ H R) (hc : ∀ R : VK, R (.int (p : Int)) H → tc σ H R)
    (h1 : 8 ≤ y) (h2 : y ≤ 100000) (h3 : y ≤ o) (h4 : o ≤ 1000000) (h5 : p ≤ 1000) (q : ∀ H' F ar, Gz C F H H' ar [] (start y o p) → Q (.ref F.ho) H') :
    tMake C.H (sp_hinit C) [] E0 (tCons (tMake C.R (sp_rinit C) [] E0 (tCons ta (tCons tb (tCons tc tNil)))) tNil) σ H Q := by
  refine ha _ (hb _ (hc _ fun r rd nr nrd nrr => ?_))
  refine ⟨r, rd, y, o, p, rfl, upd_same, by omega, by omega, by omega, by omega, by omega, by omega, fun H2 h2r on2 => ⟨rfl, fun x dx nx ndx nxx => ?_⟩⟩
  have k2 : Same H H2 := fun b u e => by
    have n1 : b ≠ r := ne_of_none e nr
    rw [on2 b n1, upd_ne n1, upd_ne (ne_of_none e nrd)]; exact e
  have hrx : r ≠ x := ne_of_none h2r nx
  have hrd : r ≠ dx := ne_of_none h2r ndx
  refine ⟨x, dx, r, rd, y, o, p, rfl, upd_same, (by rw [upd_ne hrx, upd_ne hrd]; exact h2r), by omega, by omega, by omega, fun H3 F ar e1 e2 S hk => ⟨rfl, ?_⟩⟩
  subst e1
  refine q H3 F ar ⟨S, fun b u e => ?_⟩
  have e3 := k2 _ _ e
  exact hk b u (ne_of_none e3 nx) (by rw [upd_ne (ne_of_none e3 nx), upd_ne (ne_of_none e3 ndx)]; exact e3)
end
theorem ne_no {a b : Int} (e : a = b) {A B : Prop} (h : B) : if (!decide (V.int a = V.int b)) = true then A else B := by
  rw [e, if_neg (by simp)]; exact h
theorem ne_noD {d : PyData} (hs : SeqAt.shaped d = true) {A B : Prop} (h : B) : if (!PyData.eqv d d) = true then A else B := by
  rw [SeqAt.eqv_refl d (SeqAt.canLay_of_shaped hs), if_neg (by simp)]; exact h
/-- a * n, a written -/
theorem mu3 {n : Int} : CMul 3 n := .inl ⟨by decide, by decide⟩
section
variable {P : Program} {w : World} {K : PySem.W.Frag} {mg : Str → Option Value} {base : Heap}
abbrev s__law_turn_right : Stmt := top 76
theorem sc__law_turn_right : FnScope ["_law_bag_here", "_law_many", "_law_heap", "_law_room", "_law_layout", "_law_at", "_law_due"] ["_law_bag_here"] (defScope s__law_turn_right) := ⟨rfl, rfl, rfl, by decide +kernel, rfl, by decide +kernel, by decide +kernel⟩
/-- a part of the law: its bag may change, nothing else that was there -/
def sp_part : Sp := fun vs H Q _ => ∃ a g, vs = [.ref a] ∧ Bag H a g ∧ ∀ H', But a g H H' → Bag H' a g → Q (.bl true) H'
theorem ok_turn_right (T : Txt K mg base) (C : Cs K) (C2 : Cs2 K mg C) {f : Addr} {fd : FuncData} (F : Fun K "_law_turn_right" "_law_turn_right" s__law_turn_right f fd)
    (D__law_pick : Def P w K mg base CX0 "_law_pick" ["_law_bag_here", "_law_many"] 1 sp_pick) (HM : MkD P w K mg base CX0 "Heap" C.H ["self", "room"] 5 (sp_hinit C)) (RM : MkD P w K mg base CX0 "Room" C.R ["self", "young", "old", "pace"] 2 (sp_rinit C))
    (D__law_chain : Def P w K mg base CX0 "_law_chain" ["_law_heap", "_law_many"] 9 (sp_chain C)) (Mh_layout : MD P w K mg base CX0 C.H "layout" ["self"] 4 (sp_hlayout C C2))
    (Mh_gather : MD P w K mg base CX0 C.H "gather" ["self"] 4 (fun vs H Q _ => ∃ F ar rws s n s', vs = [.ref F.ho] ∧ St C H F ar rws s ∧ gather s = some (n, s') ∧ ∀ H' ar', Go C F ar rws H H' ar' rws s' → Q (.int n) H'))
    (Mh_turn : MD P w K mg base CX0 C.H "turn" ["self"] 5 (fun vs H Q _ => ∃ F ar rws s n s', vs = [.ref F.ho] ∧ St C H F ar rws s ∧ turn s = some (n, s') ∧ ∀ H' ar', Go C F ar rws H H' ar' rws s' → Q (.int n) H'))
    (Mh_whole : MD P w K mg base CX0 C.H "whole" ["self"] 7 (fun vs H Q _ => ∃ F ar rws s n s', vs = [.ref F.ho] ∧ St C H F ar rws s ∧ whole s = some (n, s') ∧ ∀ H' ar', Go C F ar rws H H' ar' rws s' → Q (.int n) H'))
    (Mh_steps : MD P w K mg base CX0 C.H "steps" ["self", "many"] 5 (fun vs H Q _ => ∃ F ar rws s many n s', vs = [.ref F.ho, .int many] ∧ St C H F ar rws s ∧ 0 ≤ many ∧ many ≤ 1000000000 ∧ steps s many = some (n, s') ∧ ∀ H', Go C F ar rws H H' ar rws s' → Q (.int n) H'))
    (Mh_counts : MD P w K mg base CX0 C.H "counts" ["self"] 2 (fun vs H Q _ => ∃ F ar rws s, vs = [.ref F.ho] ∧ St C H F ar rws s ∧ ∀ p, H p = none → Q (.ref p) (upd H p (.tup (s.tally.map V.int)))))
    (Mh_filled : MD P w K mg base CX0 C.H "filled" ["self"] 5 (sp_hfilled C)) (D__law_lies : Def P w K mg base CX0 "_law_lies" ["_law_layout", "_law_begin", "_law_numbers"] 1 (sp_lies C C2)) (G__law_is : DefG P w K mg base "_law_is" ["_law_found", "_law_due"] 1 (sp_is K)) :
    FnG P w K mg base 10 f fd ["_law_bag_here"] sp_part := by
  refine okG F sc__law_turn_right (fun vs H Q E h => ?_) (fun cdv A outer s H vs Q E hG hr lk h => ?_)
  · obtain ⟨_, _, rfl, _⟩ := h; rfl
  obtain ⟨ba, bg, rfl, hB, q⟩ := h
  refine ⟨_, (pss_cons (ps_set (i := 1) sc__law_turn_right.nd rfl (Or.inl rfl) (pe_op op_add pe_int (pe_call D__law_pick.ok (hr.mono (by omega)) rfl D__law_pick.g D__law_pick.k D__law_pick.b .nil pass0 (pa_cons (pv 0) (pa_cons pe_int pa_nil)))))
    (pss_cons (ps_set (i := 2) sc__law_turn_right.nd rfl (Or.inl rfl) (pe_make HM.made HM.ok (hr.mono (by omega)) rfl HM.g HM.b .nil pass0 (pa_cons (pe_make RM.made RM.ok (hr.mono (by omega)) rfl RM.g RM.b .nil pass0 (pa_cons (pe_op op_add (pe_op op_mul pe_int (pv 1)) pe_int) (pa_cons (pe_op op_add (pe_op op_mul pe_int (pv 1)) pe_int) (pa_cons pe_int pa_nil)))) pa_nil)))
    (pss_cons (ps_expr (pe_call D__law_chain.ok (hr.mono (by omega)) rfl D__law_chain.g D__law_chain.k D__law_chain.b .nil pass0 (pa_cons (pv 2) (pa_cons (pv 1) pa_nil))))
    (pss_cons (ps_set (i := 3) sc__law_turn_right.nd rfl (Or.inl rfl) (pe_fld (pe_meth0 (pv 2) C.hcl Mh_layout.m Mh_layout.ok (hr.mono (by omega)) Mh_layout.b .nil pass0) rfl))
    (pss_cons (ps_if (PW.pt (pw_or (pt_cmpR op_ne (pe_fld (pe_meth0 (pv 2) C.hcl Mh_layout.m Mh_layout.ok (hr.mono (by omega)) Mh_layout.b .nil pass0) rfl) (pe_op op_mul pe_int (pv 1)) (nomark _)) (pw_or (pt_cmpR op_ne (pe_meth0 (pv 2) C.hcl Mh_gather.m Mh_gather.ok (hr.mono (by omega)) Mh_gather.b .nil pass0) (pv 1) (nomark _)) (pw_or1 (pt_cmpR op_ne (pe_fld (pe_meth0 (pv 2) C.hcl Mh_layout.m Mh_layout.ok (hr.mono (by omega)) Mh_layout.b .nil pass0) rfl) (pe_op op_add (pe_fld (pv 3) rfl) (pe_op op_mul pe_int (pv 1))) (nomark _)))))) (pss_one (ps_ret pe_bl)) pss_nil)
    (pss_cons (ps_if (PW.pt (pw_or (pt_not (pt_val (pe_call D__law_lies.ok (hr.mono (by omega)) rfl D__law_lies.g D__law_lies.k D__law_lies.b .nil pass0 (pa_cons (pe_meth0 (pv 2) C.hcl Mh_layout.m Mh_layout.ok (hr.mono (by omega)) Mh_layout.b .nil pass0) (pa_cons (pe_fld (pv 3) rfl) (pa_cons (pe_listDown rfl rfl T.n_list rfl T.n_range (pa_cons (pv 1) (pa_cons pe_int (pa_cons (pe_un un_neg pe_int) pa_nil)))) pa_nil)))))) (pw_or1 (pt_cmpR op_ne (pe_meth0 (pv 2) C.hcl Mh_turn.m Mh_turn.ok (hr.mono (by omega)) Mh_turn.b .nil pass0) pe_int (nomark _))))) (pss_one (ps_ret pe_bl)) pss_nil)
    (pss_cons (ps_set (i := 4) sc__law_turn_right.nd rfl (Or.inl rfl) (pe_meth0 (pv 2) C.hcl Mh_layout.m Mh_layout.ok (hr.mono (by omega)) Mh_layout.b .nil pass0))
    (pss_cons (ps_if (pt_cmpR (op_neD hr.units) (pe_tup (pa_cons (pe_fld (pv 4) rfl) (pa_cons (pe_fld (pv 4) rfl) (pa_cons (pe_fld (pv 4) rfl) (pa_cons (pe_fld (pv 4) rfl) pa_nil))))) (pe_tup (pa_cons (pe_op op_mul pe_int (pv 1)) (pa_cons pe_int (pa_cons pe_int (pa_cons (pe_op op_add (pe_op op_add (pe_fld (pv 3) rfl) (pe_fld (pv 3) rfl)) pe_int) pa_nil))))) (nomark _)) (pss_one (ps_ret pe_bl)) pss_nil)
    (pss_cons (ps_for PassesOwn.never rfl (pi_range1 rfl T.n_range (pa_cons (pv 1) pa_nil)) (pg_name (i := 5) sc__law_turn_right.nd rfl (Or.inl rfl)) (pss_cons (ps_if (PW.pt (pw_or (pt_cmpR op_ne (pe_meth0 (pv 2) C.hcl Mh_turn.m Mh_turn.ok (hr.mono (by omega)) Mh_turn.b .nil pass0) pe_int (nomark _)) (pw_or1 (pt_cmpR op_ne (pe_meth (pv 2) C.hcl Mh_steps.m Mh_steps.ok (hr.mono (by omega)) Mh_steps.b .nil pass0 (pa_cons pe_int pa_nil)) pe_int (nomark _))))) (pss_one (ps_ret pe_bl)) pss_nil)
      (pss_cons (ps_set (i := 4) sc__law_turn_right.nd rfl (Or.inl rfl) (pe_meth0 (pv 2) C.hcl Mh_layout.m Mh_layout.ok (hr.mono (by omega)) Mh_layout.b .nil pass0))
      (pss_cons (ps_set (i := 6) sc__law_turn_right.nd rfl (Or.inl rfl) (pe_ifExp (pt_cmpR op_lt (pv 5) (pe_op op_sub (pv 1) pe_int) (nomark _)) (pe_tup (pa_cons (pe_op op_mul pe_int (pv 1)) (pa_cons (pe_op op_mul pe_int (pe_op op_add (pv 5) pe_int)) pa_nil))) (pe_tup (pa_cons pe_int (pa_cons pe_int pa_nil)))))
      (pss_one (ps_if (pt_cmpR (op_neD hr.units) (pe_tup (pa_cons (pe_fld (pv 4) rfl) (pa_cons (pe_fld (pv 4) rfl) pa_nil))) (pv 6) (nomark _)) (pss_one (ps_ret pe_bl)) pss_nil))))))
    (pss_cons (ps_if (PW.pt (pw_or (pt_cmpR op_ne (pe_meth (pv 2) C.hcl Mh_steps.m Mh_steps.ok (hr.mono (by omega)) Mh_steps.b .nil pass0 (pa_cons pe_int pa_nil)) pe_int (nomark _)) (pw_or1 (pt_not (pt_val (pe_call D__law_lies.ok (hr.mono (by omega)) rfl D__law_lies.g D__law_lies.k D__law_lies.b .nil pass0 (pa_cons (pe_meth0 (pv 2) C.hcl Mh_layout.m Mh_layout.ok (hr.mono (by omega)) Mh_layout.b .nil pass0) (pa_cons (pe_op op_add (pe_fld (pv 3) rfl) (pe_fld (pv 3) rfl)) (pa_cons (pe_listDown rfl rfl T.n_list rfl T.n_range (pa_cons (pv 1) (pa_cons pe_int (pa_cons (pe_un un_neg pe_int) pa_nil)))) pa_nil))))))))) (pss_one (ps_ret pe_bl)) pss_nil)
    (pss_one (ps_ret (pe_and (pe_callG G__law_is.ok hG (hr.mono (by omega)) rfl G__law_is.g G__law_is.k G__law_is.b (pa_cons (pe_meth0 (pv 2) C.hcl Mh_counts.m Mh_counts.ok (hr.mono (by omega)) Mh_counts.b .nil pass0) (pa_cons (pe_tup (pa_cons pe_int (pa_cons pe_int (pa_cons (pv 1) (pa_cons pe_int (pa_cons pe_int pa_nil)))))) pa_nil))) (pe_and (pe_cmpR op_eq (pe_meth0 (pv 2) C.hcl Mh_whole.m Mh_whole.ok (hr.mono (by omega)) Mh_whole.b .nil pass0) (pe_op op_mul pe_int (pv 1)) (nomark _)) (pe_one (pe_cmpR op_eq (pe_meth0 (pv 2) C.hcl Mh_filled.m Mh_filled.ok (hr.mono (by omega)) Mh_filled.b .nil pass0) (pe_op op_mul pe_int (pv 1)) (nomark _))))))))))))))))), ?_⟩
  have hz := line_eq
  generalize hσ : L2.start _ _ = σ0
  have hσ : σ0 = [some (.ref ba), none, none, none, none, none, none] := hσ.symm
  subst hσ
  refine seq_set ⟨_, rfl, ba, bg, 12, rfl, by decide, by decide, hB, fun H1 d hd b1 B1 => ⟨_, _, rfl, rfl, ?_⟩⟩
  obtain ⟨many, em⟩ : ∃ many : Nat, many = d + 1 := ⟨_, rfl⟩
  have hm1 : 1 ≤ many := by omega
  have hm2 : many ≤ 12 := by omega
  show tSeq _ _ _ [some (.ref ba), some (.int (1 + (d : Int))), none, none, none, none, none] H1
  rw [show (1 : Int) + (d : Int) = ((many : Nat) : Int) from by omega]
  have hT := turn_ok hm1 hm2
  unfold turnRight at hT
  split at hT
  · cases hT
  rename_i l0 s1 hch
  simp only [Bool.and_eq_true, beq_iff_eq] at hT
  obtain ⟨⟨ht1, htop⟩, hT⟩ := hT
  split at hT
  · cases hT
  rename_i g s2 hga
  simp only [Bool.and_eq_true, beq_iff_eq] at hT
  obtain ⟨⟨hg, hfree⟩, hT⟩ := hT
  split at hT
  · cases hT
  rename_i w2 ht2
  simp only [Bool.and_eq_true, beq_iff_eq] at hT
  obtain ⟨hlies, hT⟩ := hT
  split at hT
  rotate_left
  · cases hT
  rename_i s3 htu
  simp only [Bool.and_eq_true, beq_iff_eq] at hT
  obtain ⟨⟨⟨⟨⟨ht3, hleft⟩, hcop⟩, huse⟩, hfree3⟩, hT⟩ := hT
  split at hT
  · cases hT
  rename_i s4 hloop
  split at hT
  rotate_left
  · cases hT
  rename_i s5 hst
  split at hT
  · cases hT
  rename_i w5 ht5
  simp only [Bool.and_eq_true, beq_iff_eq] at hT
  obtain ⟨⟨hlies5, htal⟩, hT⟩ := hT
  split at hT
  · cases hT
  rename_i wn s6 hwh
  simp only [Bool.and_eq_true, beq_iff_eq] at hT
  obtain ⟨hwn, hfil⟩ := hT
  -- the heap
  have ha : ∀ R : VK, R (.int ((3 * many + 8 : Nat) : Int)) H1 → (tOp (rI0 fun i j => V.int (i + j)) (tOp (rI CMul fun i j => V.int (i * j)) (tC (V.int 3)) (tVar 1)) (tC (V.int 8))) [some (.ref ba), some (.int (many : Int)), none, none, none, none, none] H1 R := fun R h => ⟨_, rfl, _, _, rfl, rfl, mu3, _, _, rfl, rfl, (by
    show R (.int (3 * (many : Int) + 8)) H1
    rw [show 3 * (many : Int) + 8 = ((3 * many + 8 : Nat) : Int) from by omega]; exact h)⟩
  have hb : ∀ R : VK, R (.int ((3 * many + 60 : Nat) : Int)) H1 → (tOp (rI0 fun i j => V.int (i + j)) (tOp (rI CMul fun i j => V.int (i * j)) (tC (V.int 3)) (tVar 1)) (tC (V.int 60))) [some (.ref ba), some (.int (many : Int)), none, none, none, none, none] H1 R := fun R h => ⟨_, rfl, _, _, rfl, rfl, mu3, _, _, rfl, rfl, (by
    show R (.int (3 * (many : Int) + 60)) H1
    rw [show 3 * (many : Int) + 60 = ((3 * many + 60 : Nat) : Int) from by omega]; exact h)⟩
  refine seq_set (heap_new (y := 3 * many + 8) (o := 3 * many + 60) (p := 1) ha hb (fun R h => h) (by omega) (by omega) (by omega) (by omega) (by omega) fun H2 F ar Z2 => ?_)
  refine ⟨_, rfl, _, rfl, F, ar, [], _, many, l0, s1, rfl, hm1, by omega, Z2.st, hch, fun H3 ar3 rws3 g3 => ?_⟩
  have Z3 := Z2.go g3
  dsimp only
  refine seq_set (lay_get Z3 rfl ht1 fun H4 p4 ws4 _ Z4 _ ⟨dx4, wa4, ra4, rt4, hl4, hw4, hr4⟩ => (⟨_, _, _, _, _, rfl, hl4, Cs2.lcl _, C2.l1, rfl, ?_⟩))
  -- how much lies in the nursery
  refine lay_get Z4 rfl ht1 fun H5 p5 ws5 _ Z5 _ ⟨dx5, wa5, ra5, rt5, hl5, hw5, hr5⟩ => (⟨_, _, _, _, _, rfl, hl5, Cs2.lcl _, C2.l6, rfl, ⟨_, rfl, _, _, rfl, rfl, mu3, rfl, _, rfl, ne_no htop ?_⟩⟩)
  refine ⟨_, rfl, F.ho, F.hd, _, rfl, Z5.st.ho, rfl, F, _, _, s1, g, s2, rfl, Z5.st, hga, fun H6 ar6 g6 => ⟨_, rfl, rfl, _, rfl, ne_no hg ?_⟩⟩
  have Z6 := Z5.go g6
  have ht2' : (told s2).isSome = true := by rw [ht2]; rfl
  refine lay_get Z6 rfl ht2' fun H7 p7 ws7 _ Z7 _ ⟨dx7, wa7, ra7, rt7, hl7, hw7, hr7⟩ => (⟨_, _, _, _, _, rfl, hl7, Cs2.lcl _, C2.l4, rfl, ((⟨_, rfl, _, _, _, _, _, rfl, St.ro (Gz.st Z7), Cs.rcl _, C.young, rfl, ⟨_, rfl, _, _, rfl, rfl, mu3, _, _, rfl, rfl, rfl, _, rfl, ne_no hfree (go_next ?_)⟩⟩))⟩)
  -- where the chain lies
  refine lay_get Z7 rfl ht2' fun H8 p8 ws8 e8 Z8 _ L8 => ?_
  rw [ht2] at e8
  cases e8
  refine (⟨_, rfl, _, _, _, _, _, rfl, St.ro (Gz.st Z8), Cs.rcl _, C.young, rfl, ⟨_, rfl, 1, rfl, many, rfl, by omega, fun pn npn => ?_⟩⟩)
  have gn8 : Same H8 (upd H8 pn (.lst ((downTo many).map V.int))) := same_new npn _
  refine ⟨p8, F.ro, s2, w2, _, pn, downTo many, rfl, L8.same gn8, upd_same, (by rw [downTo_len]; omega), hlies, fun H9 g9 => ⟨_, rfl, iteF ?_⟩⟩
  have Z9 := (Z8.same gn8).same g9
  refine ⟨_, rfl, F.ho, F.hd, _, rfl, Z9.st.ho, rfl, F, _, _, s2, 1, s3, rfl, Z9.st, htu, fun H10 ar10 g10 => ⟨rfl, _, rfl, ne_no rfl (go_next ?_)⟩⟩
  have Z10 := Z9.go g10
  -- the turn has begun
  refine seq_set (lay_get Z10 rfl ht3 fun H11 p11 ws11 _ Z11 _ ⟨dx11, wa11, ra11, rt11, hl11, hw11, hr11⟩ => ?_)
  refine (⟨_, rfl, _, _, _, _, _, rfl, hl11, Cs2.lcl _, C2.l7, rfl, ((⟨_, rfl, _, _, _, _, _, rfl, hl11, Cs2.lcl _, C2.l8, rfl, ((⟨_, rfl, _, _, _, _, _, rfl, hl11, Cs2.lcl _, C2.l3, rfl, ((⟨_, rfl, _, _, _, _, _, rfl, hl11, Cs2.lcl _, C2.l4, rfl, ⟨(by show 4 ≤ sizeLine; rw [hz]; decide), fun t1 nt1 => ?_⟩⟩))⟩))⟩))⟩)
  have q1 : (upd H11 t1 (.tup [.int s3.left, .int s3.copied, .int s3.use, .int s3.free])) t1 = some (.tup ([s3.left, s3.copied, s3.use, s3.free].map V.int)) := upd_same
  have Z12 := Z11.same (same_new nt1 (.tup [.int s3.left, .int s3.copied, .int s3.use, .int s3.free]))
  generalize upd H11 t1 (.tup [.int s3.left, .int s3.copied, .int s3.use, .int s3.free]) = H12 at q1 Z12 ⊢
  refine ⟨_, rfl, _, _, rfl, rfl, mu3, (⟨_, rfl, _, _, _, _, _, rfl, St.ro (Gz.st Z12), Cs.rcl _, C.young, rfl, ((⟨_, rfl, _, _, _, _, _, rfl, St.ro (Gz.st Z12), Cs.rcl _, C.old, rfl, ⟨_, _, rfl, rfl, _, _, rfl, rfl, (by show 4 ≤ sizeLine; rw [hz]; decide), fun t2 nt2 => ?_⟩⟩))⟩)⟩
  have q2 : (upd H12 t2 (.tup [.int (3 * (many : Int)), .int 3, .int 1, .int (s3.young + s3.old + 3)])) t2 = some (.tup ([s3.left, s3.copied, s3.use, s3.free].map V.int)) := by rw [upd_same, hleft, hcop, huse, hfree3]; rfl
  have q12 : (upd H12 t2 (.tup [.int (3 * (many : Int)), .int 3, .int 1, .int (s3.young + s3.old + 3)])) t1 = some (.tup ([s3.left, s3.copied, s3.use, s3.free].map V.int)) := by rw [upd_ne (ne_of_none q1 nt2)]; exact q1
  have Z13 := Z12.same (same_new nt2 (.tup [.int (3 * (many : Int)), .int 3, .int 1, .int (s3.young + s3.old + 3)]))
  have hs4 : ∀ a b c d : Int, SeqAt.shaped (.tuple (intsP [a, b, c, d])) = true := fun _ _ _ _ => rfl
  refine ⟨_, _, dp_ints q12, dp_ints q2, hs4 _ _ _ _, hs4 _ _ _ _, _, rfl, ne_noD (hs4 _ _ _ _) (go_next ?_)⟩
  generalize upd H12 t2 (.tup [.int (3 * (many : Int)), .int 3, .int 1, .int (s3.young + s3.old + 3)]) = H13 at Z13 ⊢
  -- the turn goes on
  dsimp only [List.set]
  refine seq_join (fun σ H' => ∃ x4 x5 x6 : Option V, σ = [some (.ref ba), some (.int (many : Int)), some (.ref F.ho), some (.ref F.ro), x4, x5, x6] ∧ ∃ ar' rws', Gz C F H1 H' ar' rws' s4) ?_ ?_
  rotate_left
  · intro NX nx
    refine ⟨_, rfl, (many : Int), rfl, (by show -2 ^ 62 ≤ (many : Int); omega), (by show (many : Int) < 2 ^ 62; omega), ?_⟩
    rw [Int.toNat_natCast]
    refine for_range (D := { nx := NX, rt := Q }) (fun i σ H' => ∃ (x4 x5 x6 : Option V) (ar' : Addr) (rws' : List Addr) (sk : Bd), σ = [some (.ref ba), some (.int (many : Int)), some (.ref F.ho), some (.ref F.ro), x4, x5, x6] ∧ Gz C F H1 H' ar' rws' sk ∧ i ≤ many ∧ turnLoop many (many - i) i sk = some s4) ⟨_, none, none, _, _, s3, rfl, Z13, Nat.zero_le _, hloop⟩ ?_ ?_
    · rintro i σ G hi ⟨x4, x5, x6, ar1, rws1, sk, rfl, Y, _, hk⟩
      rw [show many - i = (many - (i + 1)) + 1 from by omega, turnLoop] at hk
      split at hk
      rotate_left
      · cases hk
      rename_i k1 hk1
      split at hk
      rotate_left
      · cases hk
      rename_i k2 hk2
      obtain ⟨c1, c2, c3, hk⟩ : (told k2).isSome = true ∧ k2.left = (if i + 1 < many then 3 * (many : Int) else 0) ∧ k2.copied = (if i + 1 < many then 3 * ((i : Int) + 2) else 0) ∧ turnLoop many (many - (i + 1)) (i + 1) k2 = some s4 := by
        by_cases hlt : i + 1 < many
        · simp only [if_pos hlt] at hk ⊢
          split at hk
          · rename_i hc
            simp only [Bool.and_eq_true, beq_iff_eq] at hc
            exact ⟨hc.1.1, hc.1.2, hc.2, hk⟩
          · cases hk
        · simp only [if_neg hlt] at hk ⊢
          split at hk
          · rename_i hc
            simp only [Bool.and_eq_true, beq_iff_eq] at hc
            exact ⟨hc.1.1, hc.1.2, hc.2, hk⟩
          · cases hk
      show tSeq _ _ _ [some (.ref ba), some (.int (many : Int)), some (.ref F.ho), some (.ref F.ro), x4, some (.int (0 + (i : Int))), x6] G
      refine ⟨_, rfl, F.ho, F.hd, _, rfl, Y.st.ho, rfl, F, _, _, sk, 0, k1, rfl, Y.st, hk1, fun G1 ar2 g1 => ⟨rfl, _, rfl, ne_no rfl ?_⟩⟩
      have Y1 := Y.go g1
      refine ⟨_, rfl, F.ho, F.hd, _, rfl, Y1.st.ho, rfl, F, _, _, k1, 1, 1, k2, rfl, Y1.st, by decide, by decide, hk2, fun G2 g2 => ⟨rfl, _, rfl, ne_no rfl (go_next ?_)⟩⟩
      have Y2 := Y1.go g2
      refine seq_set (lay_get Y2 rfl c1 fun G3 p3 ws3 _ Y3 _ ⟨dx3, wa3, ra3, rt3, hl3, hw3, hr3⟩ => ?_)
      -- what is due
      dsimp only [List.set]
      refine seq_join (fun σ H' => ∃ pd : Addr, σ = [some (.ref ba), some (.int (many : Int)), some (.ref F.ho), some (.ref F.ro), some (.ref p3), some (.int (0 + (i : Int))), some (.ref pd)] ∧ Same G3 H' ∧ H' pd = some (.tup ([k2.left, k2.copied].map V.int))) ?_ ?_
      · rintro σ G4 ⟨pd, rfl, g4, hpd⟩
        have Y4 := Y3.same g4
        refine (⟨_, rfl, _, _, _, _, _, rfl, (g4 _ _ hl3), Cs2.lcl _, C2.l7, rfl, ((⟨_, rfl, _, _, _, _, _, rfl, (g4 _ _ hl3), Cs2.lcl _, C2.l8, rfl, ⟨(by show 2 ≤ sizeLine; rw [hz]; decide), fun t1 nt1 => ?_⟩⟩))⟩)
        have q1 : (upd G4 t1 (.tup [.int k2.left, .int k2.copied])) t1 = some (.tup ([k2.left, k2.copied].map V.int)) := upd_same
        have q2 : (upd G4 t1 (.tup [.int k2.left, .int k2.copied])) pd = some (.tup ([k2.left, k2.copied].map V.int)) := by rw [upd_ne (ne_of_none hpd nt1)]; exact hpd
        have hs2 : ∀ a b : Int, SeqAt.shaped (.tuple (intsP [a, b])) = true := fun _ _ => rfl
        refine ⟨_, rfl, _, _, dp_ints q1, dp_ints q2, hs2 _ _, hs2 _ _, _, rfl, ne_noD (hs2 _ _) (go_next ?_)⟩
        exact ⟨_, _, _, _, _, k2, rfl, Y4.same (same_new nt1 _), by omega, hk⟩
      · intro NX2 nx2
        refine ⟨_, rfl, _, rfl, _, _, rfl, rfl, _, _, rfl, rfl, _, rfl, ?_⟩
        by_cases hlt : i + 1 < many
        · rw [if_pos hlt] at c2 c3
          rw [show decide ((0 : Int) + (i : Int) < (many : Int) - 1) = true from decide_eq_true (by omega)]
          refine iteT ⟨_, rfl, _, _, rfl, rfl, mu3, _, rfl, _, _, rfl, rfl, _, _, rfl, rfl, mu3, (by show 2 ≤ sizeLine; rw [hz]; decide), fun pd npd => ?_⟩
          refine nx2 _ _ ⟨pd, rfl, same_new npd _, ?_⟩
          rw [upd_same, c2, c3, show (i : Int) + 2 = 0 + (i : Int) + 2 from by omega]; rfl
        · rw [if_neg hlt] at c2 c3
          rw [show decide ((0 : Int) + (i : Int) < (many : Int) - 1) = false from decide_eq_false (by omega)]
          refine iteF ⟨(by show 2 ≤ sizeLine; rw [hz]; decide), fun pd npd => ?_⟩
          refine nx2 _ _ ⟨pd, rfl, same_new npd _, ?_⟩
          rw [upd_same, c2, c3]; rfl
    · rintro σ G ⟨x4, x5, x6, ar1, rws1, sk, rfl, Y, _, hk⟩
      rw [Nat.sub_self, turnLoop] at hk
      cases hk
      exact nx _ _ ⟨_, _, _, rfl, _, _, Y⟩
  rintro σ G ⟨x4, x5, x6, rfl, ar4, rws4, Y⟩
  refine ⟨_, rfl, F.ho, F.hd, _, rfl, Y.st.ho, rfl, F, _, _, s4, 5, 0, s5, rfl, Y.st, by decide, by decide, hst, fun G1 g1 => ⟨rfl, _, rfl, ne_no rfl ?_⟩⟩
  have Y1 := Y.go g1
  have ht5' : (told s5).isSome = true := by rw [ht5]; rfl
  refine lay_get Y1 rfl ht5' fun G2 p2 ws2 e2 Y2 _ L2' => ?_
  rw [ht5] at e2
  cases e2
  refine (⟨_, rfl, _, _, _, _, _, rfl, St.ro (Gz.st Y2), Cs.rcl _, C.young, rfl, ((⟨_, rfl, _, _, _, _, _, rfl, St.ro (Gz.st Y2), Cs.rcl _, C.old, rfl, ⟨_, _, rfl, rfl, _, rfl, 1, rfl, many, rfl, by omega, fun pn npn => ?_⟩⟩))⟩)
  have gn : Same G2 (upd G2 pn (.lst ((downTo many).map V.int))) := same_new npn _
  refine ⟨p2, F.ro, s5, w5, _, pn, downTo many, rfl, L2'.same gn, upd_same, (by rw [downTo_len]; omega), hlies5, fun G3 g3 => ⟨_, rfl, iteF (go_next ?_)⟩⟩
  have Y3 := (Y2.same gn).same g3
  refine ⟨_, rfl, F.ho, F.hd, _, rfl, Y3.st.ho, rfl, F, _, _, s5, rfl, Y3.st, fun p np => ?_⟩
  have q1 : (upd G3 p (.tup (s5.tally.map V.int))) p = some (.tup ([2, 1, (many : Int), 0, 0].map V.int)) := by rw [upd_same, htal]
  have Y4 := Y3.same (same_new np (.tup (s5.tally.map V.int)))
  generalize upd G3 p (.tup (s5.tally.map V.int)) = G4 at q1 Y4 ⊢
  refine ⟨_, rfl, (by show 5 ≤ sizeLine; rw [hz]; decide), fun t nt => ?_⟩
  have q2 : (upd G4 t (.tup [.int 2, .int 1, .int (many : Int), .int 0, .int 0])) t = some (.tup ([2, 1, (many : Int), 0, 0].map V.int)) := upd_same
  have q12 : (upd G4 t (.tup [.int 2, .int 1, .int (many : Int), .int 0, .int 0])) p = some (.tup ([2, 1, (many : Int), 0, 0].map V.int)) := by rw [upd_ne (ne_of_none q1 nt)]; exact q1
  have Y5 := Y4.same (same_new nt (.tup [.int 2, .int 1, .int (many : Int), .int 0, .int 0]))
  generalize upd G4 t (.tup [.int 2, .int 1, .int (many : Int), .int 0, .int 0]) = G5 at q2 q12 Y5 ⊢
  have ok := ok_tup5 (smal_of (i := 2) (by decide) (by decide)) (smal_of (i := 1) (by decide) (by decide)) (smal_of (i := (many : Int)) (by omega) (by omega)) (smal_of (i := 0) (by decide) (by decide)) (smal_of (i := 0) (by decide) (by decide))
  refine ⟨p, t, _, rfl, dp_ints q12, dp_ints q2, ok.h1, ok.h2, ok.h3, ok.h4, ok.h5, _, rfl, iteT ?_⟩
  refine ⟨_, rfl, F.ho, F.hd, _, rfl, Y5.st.ho, rfl, F, _, _, s5, wn, s6, rfl, Y5.st, hwh, fun G6 ar6 g6 => ⟨_, rfl, _, _, rfl, rfl, mu3, rfl, _, rfl, ?_⟩⟩
  have Y6 := Y5.go g6
  rw [hwn, decide_eq_true rfl]
  refine iteT ⟨_, rfl, F.ho, F.hd, _, rfl, Y6.st.ho, rfl, F, _, _, s6, _, rfl, Y6.st, hfil, fun G7 g7 => ⟨_, rfl, _, _, rfl, rfl, mu3, rfl, ?_⟩⟩
  have Y7 := Y6.same g7
  show Q (.bl (decide (V.int (3 * (many : Int)) = V.int (3 * (many : Int))))) G7
  rw [decide_eq_true rfl]
  exact q _ (b1.trans (.same Y7.to)) (B1.same Y7.to)
end
end Wk
set_option maxRecDepth 100000
set_option maxHeartbeats 2000000
namespace Wk
open PySem L2 TL PyProof.Rows Hm
open SX (S S_len)
theorem paceGo_told : ∀ {f made m : Nat} {s s' : Bd}, paceGo f made s = some (m, s') → (told s').isSome = true
  | 0, _, _, _, _, h => by cases h
  | f + 1, made, m, s, s', h => by
    rw [paceGo] at h
    split at h
    · cases h
    · rename_i ws e
      split at h
      · split at h
        · cases h
        · split at h
          · cases h
          · exact paceGo_told h
      · injection h with h
        injection h with h1 h2
        subst h2
        rw [e]; rfl
section
variable {P : Program} {w : World} {K : PySem.W.Frag} {mg : Str → Option Value} {base : Heap}
abbrev s__law_pace_right : Stmt := top 77
theorem sc__law_pace_right : FnScope ["_law_bag_here", "_law_many", "_law_pace", "_law_heap", "_law_made", "_law_layout", "_law_gathers"] ["_law_bag_here"] (defScope s__law_pace_right) := ⟨rfl, rfl, rfl, by decide +kernel, rfl, by decide +kernel, by decide +kernel⟩
theorem ok_pace_right (T : Txt K mg base) (C : Cs K) (C2 : Cs2 K mg C) {f : Addr} {fd : FuncData} (F : Fun K "_law_pace_right" "_law_pace_right" s__law_pace_right f fd)
    (D__law_pick : Def P w K mg base CX0 "_law_pick" ["_law_bag_here", "_law_many"] 1 sp_pick) (HM : MkD P w K mg base CX0 "Heap" C.H ["self", "room"] 5 (sp_hinit C)) (RM : MkD P w K mg base CX0 "Room" C.R ["self", "young", "old", "pace"] 2 (sp_rinit C))
    (D__law_chain : Def P w K mg base CX0 "_law_chain" ["_law_heap", "_law_many"] 9 (sp_chain C)) (Mh_layout : MD P w K mg base CX0 C.H "layout" ["self"] 4 (sp_hlayout C C2))
    (Mh_turn : MD P w K mg base CX0 C.H "turn" ["self"] 5 (fun vs H Q _ => ∃ F ar rws s n s', vs = [.ref F.ho] ∧ St C H F ar rws s ∧ turn s = some (n, s') ∧ ∀ H' ar', Go C F ar rws H H' ar' rws s' → Q (.int n) H'))
    (Mh_counts : MD P w K mg base CX0 C.H "counts" ["self"] 2 (fun vs H Q _ => ∃ F ar rws s, vs = [.ref F.ho] ∧ St C H F ar rws s ∧ ∀ p, H p = none → Q (.ref p) (upd H p (.tup (s.tally.map V.int)))))
    (Mh_make : MD P w K mg base CX0 C.H "make" ["self", "sort", "items"] 8 (sp_hmake C)) (Mh_drop : MD P w K mg base CX0 C.H "drop" ["self", "handle"] 3 (sp_hdrop C)) (G__law_is : DefG P w K mg base "_law_is" ["_law_found", "_law_due"] 1 (sp_is K)) :
    FnG P w K mg base 10 f fd ["_law_bag_here"] sp_part := by
  refine okG F sc__law_pace_right (fun vs H Q E h => ?_) (fun cdv A outer s H vs Q E hG hr lk h => ?_)
  · obtain ⟨_, _, rfl, _⟩ := h; rfl
  obtain ⟨ba, bg, rfl, hB, q⟩ := h
  refine ⟨_, (pss_cons (ps_par (i := 1) (j := 2) rfl sc__law_pace_right.nd rfl rfl (by decide) rfl rfl (pa_cons (pe_op op_add pe_int (pe_call D__law_pick.ok (hr.mono (by omega)) rfl D__law_pick.g D__law_pick.k D__law_pick.b .nil pass0 (pa_cons (pv 0) (pa_cons pe_int pa_nil)))) (pa_cons (pe_op op_add pe_int (pe_call D__law_pick.ok (hr.mono (by omega)) rfl D__law_pick.g D__law_pick.k D__law_pick.b .nil pass0 (pa_cons (pv 0) (pa_cons pe_int pa_nil)))) pa_nil)) (by rfl))
    (pss_cons (ps_set (i := 3) sc__law_pace_right.nd rfl (Or.inl rfl) (pe_make HM.made HM.ok (hr.mono (by omega)) rfl HM.g HM.b .nil pass0 (pa_cons (pe_make RM.made RM.ok (hr.mono (by omega)) rfl RM.g RM.b .nil pass0 (pa_cons (pe_op op_add (pe_op op_mul pe_int (pv 1)) pe_int) (pa_cons pe_int (pa_cons (pv 2) pa_nil)))) pa_nil)))
    (pss_cons (ps_expr (pe_call D__law_chain.ok (hr.mono (by omega)) rfl D__law_chain.g D__law_chain.k D__law_chain.b .nil pass0 (pa_cons (pv 3) (pa_cons (pv 1) pa_nil))))
    (pss_cons (ps_expr (pe_meth0 (pv 3) C.hcl Mh_turn.m Mh_turn.ok (hr.mono (by omega)) Mh_turn.b .nil pass0))
    (pss_cons (ps_set (i := 4) sc__law_pace_right.nd rfl (Or.inl rfl) pe_int)
    (pss_cons (ps_while PassesOwn.never (PW.pt (pw_and (pt_cmpR op_gt (pe_fld (pe_meth0 (pv 3) C.hcl Mh_layout.m Mh_layout.ok (hr.mono (by omega)) Mh_layout.b .nil pass0) rfl) pe_int (nomark _)) (pw_and1 (pt_cmpR op_lt (pv 4) pe_int (nomark _))))) (pss_cons (ps_expr (pe_meth (pv 3) C.hcl Mh_drop.m Mh_drop.ok (hr.mono (by omega)) Mh_drop.b .nil pass0 (pa_cons (pe_meth (pv 3) C.hcl Mh_make.m Mh_make.ok (hr.mono (by omega)) Mh_make.b .nil pass0 (pa_cons pe_str (pa_cons (pe_tup (pa_cons (pe_tup (pa_cons pe_str (pa_cons pe_int pa_nil))) pa_nil)) pa_nil))) pa_nil)))
      (pss_one (ps_set (i := 4) sc__law_pace_right.nd rfl (Or.inl rfl) (pe_op op_add (pv 4) pe_int)))))
    (pss_cons (ps_set (i := 5) sc__law_pace_right.nd rfl (Or.inl rfl) (pe_meth0 (pv 3) C.hcl Mh_layout.m Mh_layout.ok (hr.mono (by omega)) Mh_layout.b .nil pass0))
    (pss_cons (ps_set (i := 6) sc__law_pace_right.nd rfl (Or.inl rfl) (pe_ifExp (pt_cmpR op_gt (pv 4) pe_int (nomark _)) (pe_op op_add pe_int (pe_op op_fdivW (pe_op op_sub (pe_op op_mul pe_int (pv 4)) pe_int) (pe_op op_mul pe_int (pe_op op_fdivW (pe_op op_add (pe_op op_mul pe_int (pv 1)) pe_int) pe_int)))) pe_int))
    (pss_cons (ps_if (PW.pt (pw_or (pt_cmpR op_ne (pv 4) (pe_op op_fdivW (pe_op op_sub (pe_op op_add (pv 1) (pv 2)) pe_int) (pv 2)) (nomark _)) (pw_or1 (pt_cmpR op_ne (pe_op op_sub (pe_fld (pv 5) rfl) (pe_fld (pe_fld (pv 5) rfl) rfl)) (pe_op op_add pe_int (pe_op op_mul pe_int (pv 1))) (nomark _))))) (pss_one (ps_ret pe_bl)) pss_nil)
    (pss_one (ps_ret (pe_callG G__law_is.ok hG (hr.mono (by omega)) rfl G__law_is.g G__law_is.k G__law_is.b (pa_cons (pe_meth0 (pv 3) C.hcl Mh_counts.m Mh_counts.ok (hr.mono (by omega)) Mh_counts.b .nil pass0) (pa_cons (pe_tup (pa_cons (pv 6) (pa_cons pe_int (pa_cons (pv 1) (pa_cons pe_int (pa_cons pe_int pa_nil)))))) pa_nil)))))))))))))), ?_⟩
  have hz := line_eq
  generalize hσ : L2.start _ _ = σ0
  have hσ : σ0 = [some (.ref ba), none, none, none, none, none, none] := hσ.symm
  subst hσ
  refine ⟨_, rfl, ba, bg, 12, rfl, by decide, by decide, hB, fun H1 d hd b1 B1 => ⟨_, _, rfl, rfl, _, rfl, ba, bg, 3, rfl, by decide, by decide, B1, fun H3 e he b2 B3 => ⟨_, _, rfl, rfl, _, _, rfl, ?_⟩⟩⟩
  have b3 := b1.trans b2
  obtain ⟨many, em⟩ : ∃ many : Nat, many = d + 1 := ⟨_, rfl⟩
  obtain ⟨pace, ep⟩ : ∃ pace : Nat, pace = e + 1 := ⟨_, rfl⟩
  have hm1 : 1 ≤ many := by omega
  have hm2 : many ≤ 12 := by omega
  have hp1 : 1 ≤ pace := by omega
  have hp2 : pace ≤ 3 := by omega
  show tSeq _ _ _ [some (.ref ba), some (.int (1 + (d : Int))), some (.int (1 + (e : Int))), none, none, none, none] H3
  rw [show (1 : Int) + (d : Int) = ((many : Nat) : Int) from by omega, show (1 : Int) + (e : Int) = ((pace : Nat) : Int) from by omega]
  have hT := pace_ok hm1 hm2 hp1 hp2
  unfold paceRight at hT
  split at hT
  · cases hT
  rename_i l0 s1 hch
  split at hT
  · cases hT
  rename_i n1 s2 htu
  split at hT
  · cases hT
  rename_i made s3 hgo
  simp only [Bool.and_eq_true, beq_iff_eq] at hT
  obtain ⟨⟨hmade, hfree⟩, htal⟩ := hT
  have ha : ∀ R : VK, R (.int ((3 * many + 8 : Nat) : Int)) H3 → (tOp (rI0 fun i j => V.int (i + j)) (tOp (rI CMul fun i j => V.int (i * j)) (tC (V.int 3)) (tVar 1)) (tC (V.int 8))) [some (.ref ba), some (.int (many : Int)), some (.int (pace : Int)), none, none, none, none] H3 R := fun R h => ⟨_, rfl, _, _, rfl, rfl, mu3, _, _, rfl, rfl, (by
    show R (.int (3 * (many : Int) + 8)) H3
    rw [show 3 * (many : Int) + 8 = ((3 * many + 8 : Nat) : Int) from by omega]; exact h)⟩
  refine seq_set (heap_new (y := 3 * many + 8) (o := 200) (p := pace) ha (fun R h => h) (fun R h => ⟨_, rfl, h⟩) (by omega) (by omega) (by omega) (by omega) (by omega) fun H4 F ar Z4 => ?_)
  refine ⟨_, rfl, _, rfl, F, ar, [], _, many, l0, s1, rfl, hm1, by omega, Z4.st, hch, fun H5 ar5 rws5 g5 => ?_⟩
  have Z5 := Z4.go g5
  dsimp only [List.set]
  refine ⟨_, rfl, F.ho, F.hd, _, rfl, Z5.st.ho, rfl, F, _, _, s1, n1, s2, rfl, Z5.st, htu, fun H6 ar6 g6 => ?_⟩
  have Z6 := Z5.go g6
  dsimp only
  refine seq_setC ?_
  dsimp only [List.set]
  refine seq_join (fun σ H' => σ = [some (.ref ba), some (.int (many : Int)), some (.int (pace : Int)), some (.ref F.ho), some (.int (made : Int)), none, none] ∧ ∃ ar' rws', Gz C F H3 H' ar' rws' s3) ?_ ?_
  rotate_left
  · intro NX nx
    refine while_of (fun σ H' => σ = [some (.ref ba), some (.int (many : Int)), some (.int (pace : Int)), some (.ref F.ho), some (.int (made : Int)), none, none] ∧ ∃ ar' rws', Gz C F H3 H' ar' rws' s3) (fun m σ H' => ∃ (k : Nat) (sk : Bd) (ar' : Addr) (rws' : List Addr), σ = [some (.ref ba), some (.int (many : Int)), some (.int (pace : Int)), some (.ref F.ho), some (.int (k : Int)), none, none] ∧ Gz C F H3 H' ar' rws' sk ∧ paceGo m k sk = some (made, s3)) 42 ⟨0, s2, _, _, rfl, Z6, hgo⟩ nx ?_
    rintro NX nx m σ G ⟨k, sk, ar1, rws1, rfl, Y, hk⟩
    cases m with
    | zero => cases hk
    | succ m =>
    rw [paceGo] at hk
    split at hk
    · cases hk
    rename_i ws0 ht0
    refine lay_get Y rfl (by rw [ht0]; rfl) fun G1 p1 ws1 _ Y1 _ ⟨dx1, wa1, ra1, rt1, hl1, hw1, hr1⟩ => (⟨_, _, _, _, _, rfl, hl1, Cs2.lcl _, C2.l7, rfl, ⟨_, _, rfl, rfl, _, rfl, ?_⟩⟩)
    by_cases hc : sk.left > 0 ∧ k < 40
    rotate_left
    · rw [if_neg hc] at hk
      injection hk with hk
      injection hk with hk1 hk2
      subst hk1
      subst hk2
      by_cases hl : sk.left > 0
      · rw [decide_eq_true hl]
        refine iteT ⟨_, rfl, _, _, rfl, rfl, _, rfl, ?_⟩
        rw [decide_eq_false (fun z => hc ⟨hl, by omega⟩)]
        exact iteF (nx _ _ ⟨rfl, _, _, Y1⟩)
      · rw [decide_eq_false hl]
        exact iteF (iteF (nx _ _ ⟨rfl, _, _, Y1⟩))
    rw [if_pos hc] at hk
    split at hk
    · cases hk
    rename_i hn sn hmk
    split at hk
    · cases hk
    rename_i sd hdr
    rw [decide_eq_true hc.1]
    refine iteT ⟨_, rfl, _, _, rfl, rfl, _, rfl, ?_⟩
    rw [decide_eq_true (by omega)]
    refine iteT ⟨fun σ H' => ∃ (k : Nat) (sk : Bd) (ar' : Addr) (rws' : List Addr), σ = [some (.ref ba), some (.int (many : Int)), some (.int (pace : Int)), some (.ref F.ho), some (.int (k : Int)), none, none] ∧ Gz C F H3 H' ar' rws' sk ∧ paceGo m k sk = some (made, s3), fun σ' H' h => ⟨m, Nat.lt_succ_self m, h⟩, ?_⟩
    refine ⟨_, rfl, F.ho, F.hd, _, rfl, Y1.st.ho, rfl, make_one (it := .word 3) Y1.st (x := "cell") (k := 4) rfl rfl (fun _ _ h => h) (fun _ _ h => h) hmk fun G2 ar2 rws2 g2 => ?_⟩
    have Y2 := Y1.go g2
    refine ⟨F, _, _, sn, hn, sd, rfl, Y2.st, hdr, fun G3 rws3 g3 => ?_⟩
    refine ⟨_, rfl, _, _, rfl, rfl, ?_⟩
    refine ⟨k + 1, sd, _, _, ?_, Y2.go g3, hk⟩
    show ([some (V.ref ba), some (V.int (many : Int)), some (V.int (pace : Int)), some (V.ref F.ho), some (V.int ((k : Int) + 1)), none, none] : L2.St) = _
    rw [show (k : Int) + 1 = ((k + 1 : Nat) : Int) from by omega]
  rintro σ G ⟨rfl, ar3, rws3, Y⟩
  have ht3 := paceGo_told hgo
  refine seq_set (lay_get Y rfl ht3 fun G1 p1 ws1 _ Y1 _ ⟨dx1, wa1, ra1, rt1, hl1, hw1, hr1⟩ => ?_)
  dsimp only [List.set]
  obtain ⟨gs, egs⟩ : ∃ gs : Int, gs = (if (made : Int) > 0 then 1 + (3 * (made : Int) - 1) / (3 * ((3 * (many : Int) + 8) / 3)) else 1) := ⟨_, rfl⟩
  have small : 0 ≤ gs ∧ gs ≤ 1000000 := by
    have hmd : (made : Int) ≤ 14 := by
      rw [hmade]
      have : ((many : Int) + pace - 1) / pace ≤ (many : Int) + pace - 1 := Int.ediv_le_self _ (by omega)
      omega
    rw [egs]
    split
    · have h0 : 0 ≤ (3 * (made : Int) - 1) / (3 * ((3 * (many : Int) + 8) / 3)) := Int.ediv_nonneg (by omega) (by omega)
      have h1 : (3 * (made : Int) - 1) / (3 * ((3 * (many : Int) + 8) / 3)) ≤ 3 * (made : Int) - 1 := Int.ediv_le_self _ (by omega)
      omega
    · omega
  refine seq_join (fun σ H' => σ = [some (.ref ba), some (.int (many : Int)), some (.int (pace : Int)), some (.ref F.ho), some (.int (made : Int)), some (.ref p1), some (.int gs)] ∧ H' = G1) ?_ ?_
  rotate_left
  · intro NX nx
    refine ⟨_, rfl, _, _, rfl, rfl, _, rfl, ?_⟩
    by_cases h0 : (made : Int) > 0
    · rw [if_pos h0] at egs
      rw [decide_eq_true h0]
      have hd1 : CDivW (3 * (many : Int) + 8) 3 := ⟨by decide, by decide⟩
      have hd2 : CDivW (3 * (made : Int) - 1) (3 * ((3 * (many : Int) + 8) / 3)) := by
        refine ⟨by omega, ?_⟩
        have hb : (3 * ((3 * (many : Int) + 8) / 3)).natAbs < 2 ^ 10 := by omega
        have : (3 * ((3 * (many : Int) + 8) / 3)).natAbs.log2 < 10 := (Nat.log2_lt (by omega)).mpr hb
        omega
      refine iteT ⟨_, rfl, _, _, rfl, rfl, mu3, _, _, rfl, rfl, _, rfl, _, _, rfl, rfl, mu3, _, _, rfl, rfl, _, _, rfl, rfl, hd1, _, _, rfl, rfl, mu3, _, _, rfl, rfl, hd2, _, _, rfl, rfl, ?_⟩
      exact nx _ _ ⟨by rw [egs]; rfl, rfl⟩
    · rw [if_neg h0] at egs
      rw [decide_eq_false h0]
      exact iteF (nx _ _ ⟨by rw [egs]; rfl, rfl⟩)
  rintro σ G2 ⟨rfl, rfl⟩
  have hdp : CDivW ((many : Int) + (pace : Int) - 1) (pace : Int) := by
    refine ⟨by omega, ?_⟩
    have hb : ((pace : Int)).natAbs < 2 ^ 10 := by omega
    have : ((pace : Int)).natAbs.log2 < 10 := (Nat.log2_lt (by omega)).mpr hb
    omega
  refine ⟨_, rfl, _, rfl, _, rfl, _, _, rfl, rfl, _, _, rfl, rfl, _, rfl, _, _, rfl, rfl, hdp, rfl, _, rfl, ne_no hmade ?_⟩
  refine (⟨_, rfl, _, _, _, _, _, rfl, hl1, Cs2.lcl _, C2.l4, rfl, ((⟨_, rfl, _, _, _, _, _, rfl, hl1, Cs2.lcl _, C2.l1, rfl, ⟨_, _, _, _, _, rfl, Y1.st.ro, C.rcl, C.young, rfl, _, _, rfl, rfl, _, rfl, _, _, rfl, rfl, mu3, _, _, rfl, rfl, rfl, _, rfl, ne_no hfree (go_next ?_)⟩⟩))⟩)
  refine ⟨_, rfl, F.ho, F.hd, _, rfl, Y1.st.ho, rfl, F, _, _, s3, rfl, Y1.st, fun p np => ?_⟩
  have q1 : (upd G2 p (.tup (s3.tally.map V.int))) p = some (.tup ([gs, 1, (many : Int), 0, 0].map V.int)) := by rw [upd_same, htal, egs]
  have Y4 := Y1.same (same_new np (.tup (s3.tally.map V.int)))
  generalize upd G2 p (.tup (s3.tally.map V.int)) = G4 at q1 Y4 ⊢
  refine ⟨_, rfl, _, rfl, (by show 5 ≤ sizeLine; rw [hz]; decide), fun t nt => ?_⟩
  have q2 : (upd G4 t (.tup [.int gs, .int 1, .int (many : Int), .int 0, .int 0])) t = some (.tup ([gs, 1, (many : Int), 0, 0].map V.int)) := upd_same
  have q12 : (upd G4 t (.tup [.int gs, .int 1, .int (many : Int), .int 0, .int 0])) p = some (.tup ([gs, 1, (many : Int), 0, 0].map V.int)) := by rw [upd_ne (ne_of_none q1 nt)]; exact q1
  have Y5 := Y4.same (same_new nt (.tup [.int gs, .int 1, .int (many : Int), .int 0, .int 0]))
  generalize upd G4 t (.tup [.int gs, .int 1, .int (many : Int), .int 0, .int 0]) = G5 at q2 q12 Y5 ⊢
  have ok := ok_tup5 (smal_of (i := gs) (by omega) (by omega)) (smal_of (i := 1) (by decide) (by decide)) (smal_of (i := (many : Int)) (by omega) (by omega)) (smal_of (i := 0) (by decide) (by decide)) (smal_of (i := 0) (by decide) (by decide))
  refine ⟨p, t, _, rfl, dp_ints q12, dp_ints q2, ok.h1, ok.h2, ok.h3, ok.h4, ok.h5, ?_⟩
  exact q _ (b3.trans (.same Y5.to)) (B3.same Y5.to)
end
end Wk
set_option maxRecDepth 100000
set_option maxHeartbeats 2000000
namespace Wk
open PySem L2 TL PyProof.Rows Hm
open SX (S S_len)
open Classical in
/-- what is not the heap's own -/
noncomputable def offH (F : Fx) (ar : Addr) (rws : List Addr) (H : Hp) : Hp := fun b => if Own F ar rws b then none else H b
theorem offH_some {F : Fx} {ar : Addr} {rws : List Addr} {H : Hp} {b : Addr} {u : HO} : offH F ar rws H b = some u ↔ ¬ Own F ar rws b ∧ H b = some u := by
  unfold offH
  split
  · rename_i h
    exact ⟨fun z => by (cases z), fun z => (z.1 h).elim⟩
  · rename_i h
    exact ⟨fun z => ⟨h, z⟩, fun z => z.2⟩
section
variable {K : PySem.W.Frag} {C : Cs K} {F : Fx} {H1 H H' : Hp} {ar : Addr} {rws : List Addr} {s : Bd} {a g : Addr}
theorem St.keep (S : St C H F ar rws s) (k : ∀ x u, x ∈ F.ro :: (own7 F ar ++ rws) → H x = some u → H' x = some u) : St C H' F ar rws s := by
  have o : ∀ x, x ∈ own7 F ar → x ∈ F.ro :: (own7 F ar ++ rws) := fun x h => List.mem_cons_of_mem _ (List.mem_append_left _ h)
  exact ⟨k _ _ (o _ (by simp [own7])) S.bo, k _ _ (o _ (by simp [own7])) S.aw, k _ _ (o _ (by simp [own7])) S.rmd, k _ _ (o _ (by simp [own7])) S.tl, k _ _ (o _ (by simp [own7])) S.ho, k _ _ (o _ (by simp [own7])) S.ah,
    rows_keep (fun r hr u e => k _ _ (List.mem_cons_of_mem _ (List.mem_append_right _ hr)) e) S.rw, k _ _ List.mem_cons_self S.ro, S.nd, S.z1, S.z2, S.z3, S.z4, S.z5⟩
theorem St.but (S : St C H F ar rws s) (b : But a g H H') (n : ∀ x, x = a ∨ x = g → x ∉ F.ro :: (own7 F ar ++ rws)) : St C H' F ar rws s :=
  S.keep fun x u m e => b x u (fun z => n x (.inl z) m) (fun z => n x (.inr z) m) e
/-- something of ours changes beside the heap -/
theorem Gz.put {l : Addr} (Z : Gz C F H1 H ar rws s) (no : ¬ Own F ar rws l) (nr : l ≠ F.ro) (nH : H1 l = none) (o : HO) : Gz C F H1 (upd H l o) ar rws s := by
  refine ⟨Z.st.keep fun x u m e => ?_, fun b u e => ⟨(Z.ch _ _ e).1, ?_⟩⟩
  · have : x ≠ l := fun z => by
      subst z
      rcases List.mem_cons.mp m with e | m
      · exact nr e
      · exact no (List.mem_append.mp m)
    rw [upd_ne this]; exact e
  · rw [upd_ne (fun z => by rw [z, nH] at e; cases e)]; exact (Z.ch _ _ e).2
/-- a number is drawn beside the heap -/
theorem Gz.draw (Z : Gz C F H1 H ar rws s) (B : Bag H1 a g) (b : But a g H H') (B' : Bag H' a g) : Gz C F (offH F ar rws H') H' ar rws s ∧ Bag (offH F ar rws H') a g ∧ But a g H1 (offH F ar rws H') := by
  obtain ⟨⟨xs, h1⟩, ⟨ys, h2⟩⟩ := B.lists
  obtain ⟨na, ea⟩ := Z.ch _ _ h1
  obtain ⟨ng, eg⟩ := Z.ch _ _ h2
  have nro : ∀ x, x = a ∨ x = g → x ∉ F.ro :: (own7 F ar ++ rws) := fun x hx m => by
    rcases List.mem_cons.mp m with e | m
    · have := Z.st.ro
      rw [← e] at this
      rcases hx with rfl | rfl
      · rw [ea] at this; cases this
      · rw [eg] at this; cases this
    · have ow : Own F ar rws x := List.mem_append.mp m
      rcases hx with rfl | rfl
      · exact na ow
      · exact ng ow
  refine ⟨⟨Z.st.but b nro, fun x u e => offH_some.mp e⟩, ?_, fun x u n1 n2 e => ?_⟩
  · obtain ⟨p, q, z, gs, e1, e2, r⟩ := B'
    exact ⟨p, q, z, gs, offH_some.mpr ⟨na, e1⟩, offH_some.mpr ⟨ng, e2⟩, r⟩
  · obtain ⟨n, e'⟩ := Z.ch _ _ e
    exact offH_some.mpr ⟨n, b x u n1 n2 e'⟩
end
theorem its_rep {H : Hp} {t : Addr} {it : Hm.It} (h : H t = some (.tup (itV it))) : ∀ n, ItsAt H (List.replicate n t) (List.replicate n it)
  | 0 => trivial
  | n + 1 => ⟨h, its_rep h n⟩
theorem its_set {H : Hp} {t : Addr} {it : Hm.It} (h : H t = some (.tup (itV it))) : ∀ {as : List Addr} {is : List Hm.It} {k : Nat}, ItsAt H as is → ItsAt H (as.set k t) (is.set k it)
  | [], [], _, _ => trivial
  | _ :: _, _ :: _, 0, g => ⟨h, g.2⟩
  | _ :: _, _ :: _, k + 1, g => ⟨g.1, its_set h g.2⟩
  | [], _ :: _, _, g => g.elim
  | _ :: _, [], _, g => g.elim
section
variable {P : Program} {w : World} {K : PySem.W.Frag} {mg : Str → Option Value} {base : Heap}
abbrev s__law_great_right : Stmt := top 78
theorem sc__law_great_right : FnScope ["_law_bag_here", "_law_many", "_law_heap", "_law_one", "_law_at", "_law_items", "_law_great", "_law_layout", "_law_two", "_law_turn"] ["_law_bag_here"] (defScope s__law_great_right) := ⟨rfl, rfl, rfl, by decide +kernel, rfl, by decide +kernel, by decide +kernel⟩
theorem ok_great_right (T : Txt K mg base) (C : Cs K) (C2 : Cs2 K mg C) {f : Addr} {fd : FuncData} (F : Fun K "_law_great_right" "_law_great_right" s__law_great_right f fd)
    (D__law_pick : Def P w K mg base CX0 "_law_pick" ["_law_bag_here", "_law_many"] 1 sp_pick) (HM : MkD P w K mg base CX0 "Heap" C.H ["self", "room"] 5 (sp_hinit C)) (RM : MkD P w K mg base CX0 "Room" C.R ["self", "young", "old", "pace"] 2 (sp_rinit C))
    (Mh_layout : MD P w K mg base CX0 C.H "layout" ["self"] 4 (sp_hlayout C C2))
    (Mh_gather : MD P w K mg base CX0 C.H "gather" ["self"] 4 (fun vs H Q _ => ∃ F ar rws s n s', vs = [.ref F.ho] ∧ St C H F ar rws s ∧ gather s = some (n, s') ∧ ∀ H' ar', Go C F ar rws H H' ar' rws s' → Q (.int n) H'))
    (Mh_whole : MD P w K mg base CX0 C.H "whole" ["self"] 7 (fun vs H Q _ => ∃ F ar rws s n s', vs = [.ref F.ho] ∧ St C H F ar rws s ∧ whole s = some (n, s') ∧ ∀ H' ar', Go C F ar rws H H' ar' rws s' → Q (.int n) H'))
    (Mh_filled : MD P w K mg base CX0 C.H "filled" ["self"] 5 (sp_hfilled C)) (Mh_write : MD P w K mg base CX0 C.H "write" ["self", "handle", "place", "item"] 5 (sp_hwrite C))
    (Mh_make : MD P w K mg base CX0 C.H "make" ["self", "sort", "items"] 8 (sp_hmake C)) (Mh_drop : MD P w K mg base CX0 C.H "drop" ["self", "handle"] 3 (sp_hdrop C)) :
    FnOk P w K mg base CX0 9 f fd ["_law_bag_here"] sp_part := by
  refine F.ok sc__law_great_right (fun vs H Q E h => ?_) (fun cdv A outer s H vs Q E hr h => ?_)
  · obtain ⟨_, _, rfl, _⟩ := h; rfl
  obtain ⟨ba, bg, rfl, hB, q⟩ := h
  refine ⟨_, (pss_cons (ps_set (i := 1) sc__law_great_right.nd rfl (Or.inl rfl) (pe_op op_add pe_int (pe_call D__law_pick.ok (hr.mono (by omega)) rfl D__law_pick.g D__law_pick.k D__law_pick.b .nil pass0 (pa_cons (pv 0) (pa_cons pe_int pa_nil)))))
    (pss_cons (ps_set (i := 2) sc__law_great_right.nd rfl (Or.inl rfl) (pe_make HM.made HM.ok (hr.mono (by omega)) rfl HM.g HM.b .nil pass0 (pa_cons (pe_make RM.made RM.ok (hr.mono (by omega)) rfl RM.g RM.b .nil pass0 (pa_cons pe_int (pa_cons (pe_op op_mul pe_int (pv 1)) (pa_cons pe_int pa_nil)))) pa_nil)))
    (pss_cons (ps_set (i := 3) sc__law_great_right.nd rfl (Or.inl rfl) (pe_meth (pv 2) C.hcl Mh_make.m Mh_make.ok (hr.mono (by omega)) Mh_make.b .nil pass0 (pa_cons pe_str (pa_cons (pe_tup (pa_cons (pe_tup (pa_cons pe_str (pa_cons pe_int pa_nil))) pa_nil)) pa_nil))))
    (pss_cons (ps_set (i := 4) sc__law_great_right.nd rfl (Or.inl rfl) (pe_call D__law_pick.ok (hr.mono (by omega)) rfl D__law_pick.g D__law_pick.k D__law_pick.b .nil pass0 (pa_cons (pv 0) (pa_cons (pv 1) pa_nil))))
    (pss_cons (ps_set (i := 5) sc__law_great_right.nd rfl (Or.inl rfl) (pe_op op_rep (pe_lst (pa_cons (pe_tup (pa_cons pe_str (pa_cons pe_int pa_nil))) pa_nil)) (pv 1)))
    (pss_cons (ps_asg (pe_tup (pa_cons pe_str (pa_cons (pv 3) pa_nil))) (pg_sub (pv 5) (pv 4) set_list))
    (pss_cons (ps_set (i := 6) sc__law_great_right.nd rfl (Or.inl rfl) (pe_meth (pv 2) C.hcl Mh_make.m Mh_make.ok (hr.mono (by omega)) Mh_make.b .nil pass0 (pa_cons pe_str (pa_cons (pe_tupleOf rfl T.n_tuple (pv 5)) pa_nil))))
    (pss_cons (ps_set (i := 7) sc__law_great_right.nd rfl (Or.inl rfl) (pe_meth0 (pv 2) C.hcl Mh_layout.m Mh_layout.ok (hr.mono (by omega)) Mh_layout.b .nil pass0))
    (pss_cons (ps_if (pt_cmpR (op_neD hr.units) (pe_tup (pa_cons (pe_fld (pv 7) rfl) (pa_cons (pe_fld (pv 7) rfl) (pa_cons (pe_fld (pv 7) rfl) pa_nil)))) (pe_tup (pa_cons pe_int (pa_cons (pe_op op_add (pe_op op_add pe_int (pv 1)) pe_int) (pa_cons (pe_tup (pa_cons (pe_op op_add pe_int (pv 4)) pa_nil)) pa_nil)))) (nomark _)) (pss_one (ps_ret pe_bl)) pss_nil)
    (pss_cons (ps_expr (pe_meth (pv 2) C.hcl Mh_drop.m Mh_drop.ok (hr.mono (by omega)) Mh_drop.b .nil pass0 (pa_cons (pv 3) pa_nil)))
    (pss_cons (ps_if (PW.pt (pw_or (pt_cmpR op_ne (pe_meth0 (pv 2) C.hcl Mh_gather.m Mh_gather.ok (hr.mono (by omega)) Mh_gather.b .nil pass0) pe_int (nomark _)) (pw_or (pt_cmpR (op_neD hr.units) (pe_fld (pe_meth0 (pv 2) C.hcl Mh_layout.m Mh_layout.ok (hr.mono (by omega)) Mh_layout.b .nil pass0) rfl) (pe_tup pa_nil) (nomark _)) (pw_or1 (pt_cmpR op_ne (pe_ix ix_tup (pe_fld (pe_meth0 (pv 2) C.hcl Mh_layout.m Mh_layout.ok (hr.mono (by omega)) Mh_layout.b .nil pass0) rfl) (pe_op op_add pe_int (pv 4)) (fun _ _ => rfl)) (pe_op op_mul pe_int (pe_op op_add (pe_op op_add pe_int (pv 1)) pe_int)) (nomark _)))))) (pss_one (ps_ret pe_bl)) pss_nil)
    (pss_cons (ps_set (i := 8) sc__law_great_right.nd rfl (Or.inl rfl) (pe_meth (pv 2) C.hcl Mh_make.m Mh_make.ok (hr.mono (by omega)) Mh_make.b .nil pass0 (pa_cons pe_str (pa_cons (pe_tup (pa_cons (pe_tup (pa_cons pe_str (pa_cons pe_int pa_nil))) pa_nil)) pa_nil))))
    (pss_cons (ps_for PassesOwn.never rfl (pi_range1 rfl T.n_range (pa_cons pe_int pa_nil)) (pg_name (i := 9) sc__law_great_right.nd rfl (Or.inl rfl)) (pss_one (ps_expr (pe_meth (pv 2) C.hcl Mh_write.m Mh_write.ok (hr.mono (by omega)) Mh_write.b .nil pass0 (pa_cons (pv 6) (pa_cons pe_int (pa_cons (pe_tup (pa_cons pe_str (pa_cons (pv 8) pa_nil))) pa_nil)))))))
    (pss_cons (ps_if (PW.pt (pw_or (pt_cmpR (op_neD hr.units) (pe_fld (pe_meth0 (pv 2) C.hcl Mh_layout.m Mh_layout.ok (hr.mono (by omega)) Mh_layout.b .nil pass0) rfl) (pe_tup (pa_cons pe_int pa_nil)) (nomark _)) (pw_or1 (pt_cmpR op_ne (pe_meth0 (pv 2) C.hcl Mh_filled.m Mh_filled.ok (hr.mono (by omega)) Mh_filled.b .nil pass0) (pe_op op_add (pe_op op_add (pv 1) pe_int) (pe_ifExp (pt_cmpR op_gt (pv 4) pe_int (nomark _)) pe_int pe_int)) (nomark _))))) (pss_one (ps_ret pe_bl)) pss_nil)
    (pss_cons (ps_expr (pe_meth (pv 2) C.hcl Mh_write.m Mh_write.ok (hr.mono (by omega)) Mh_write.b .nil pass0 (pa_cons (pv 6) (pa_cons pe_int (pa_cons (pe_tup (pa_cons pe_str (pa_cons pe_int pa_nil))) pa_nil)))))
    (pss_cons (ps_expr (pe_meth (pv 2) C.hcl Mh_drop.m Mh_drop.ok (hr.mono (by omega)) Mh_drop.b .nil pass0 (pa_cons (pv 8) pa_nil)))
    (pss_one (ps_ret (pe_and (pe_cmpR op_eq (pe_meth0 (pv 2) C.hcl Mh_whole.m Mh_whole.ok (hr.mono (by omega)) Mh_whole.b .nil pass0) (pe_op op_add (pe_op op_add (pv 1) pe_int) (pe_ifExp (pt_cmpR op_gt (pv 4) pe_int (nomark _)) pe_int pe_int)) (nomark _)) (pe_one (pe_cmpR (op_eqD hr.units) (pe_fld (pe_meth0 (pv 2) C.hcl Mh_layout.m Mh_layout.ok (hr.mono (by omega)) Mh_layout.b .nil pass0) rfl) (pe_tup pa_nil) (nomark _)))))))))))))))))))))), ?_⟩
  have hz := line_eq
  generalize hσ : L2.start _ _ = σ0
  have hσ : σ0 = [some (.ref ba), none, none, none, none, none, none, none, none, none] := hσ.symm
  subst hσ
  refine seq_set ⟨_, rfl, ba, bg, 30, rfl, by decide, by decide, hB, fun H1 d hd b1 B1 => ⟨_, _, rfl, rfl, ?_⟩⟩
  obtain ⟨many, em⟩ : ∃ many : Nat, many = d + 9 := ⟨_, rfl⟩
  have hm1 : 9 ≤ many := by omega
  have hm2 : many ≤ 38 := by omega
  show tSeq _ _ _ [some (.ref ba), some (.int (9 + (d : Int))), none, none, none, none, none, none, none, none] H1
  rw [show (9 : Int) + (d : Int) = ((many : Nat) : Int) from by omega]
  have hb : ∀ R : VK, R (.int ((3 * many : Nat) : Int)) H1 → (tOp (rI CMul fun i j => V.int (i * j)) (tC (V.int 3)) (tVar 1)) [some (.ref ba), some (.int (many : Int)), none, none, none, none, none, none, none, none] H1 R := fun R h => ⟨_, rfl, _, _, rfl, rfl, mu3, (by
    show R (.int (3 * (many : Int))) H1
    rw [show 3 * (many : Int) = ((3 * many : Nat) : Int) from by omega]; exact h)⟩
  refine seq_set (heap_new (y := 8) (o := 3 * many) (p := 0) (fun R h => h) hb (fun R h => h) (by omega) (by omega) (by omega) (by omega) (by omega) fun H2 F ar Z2 => ?_)
  have h1 : ∃ one s1, make (start 8 (3 * many) 0) 4 [.word 9] = some (one, s1) := by
    have hT := great_ok hm1 hm2 (show 0 < many by omega)
    unfold greatRight at hT
    split at hT
    · cases hT
    · rename_i o x e; exact ⟨_, _, e⟩
  obtain ⟨one, s1, hone⟩ := h1
  refine seq_set (make_one (it := .word 9) Z2.st (x := "cell") (k := 4) rfl rfl (fun _ _ h => h) (fun _ _ h => h) hone fun H3 ar3 rws3 g3 => ?_)
  have Z3 := Z2.go g3
  -- at
  have hbag3 : Bag H3 ba bg := B1.same Z3.to
  refine seq_set ⟨_, rfl, _, rfl, ba, bg, many, rfl, by omega, Nat.lt_of_le_of_lt hm2 (by decide), hbag3, fun H4 p hp b4 B4 => ?_⟩
  obtain ⟨Z4, B4', b4'⟩ := Z3.draw B1 b4 B4
  have bb := b1.trans b4'
  generalize offH F ar3 rws3 H4 = Hn at Z4 B4' b4' bb
  have hT := great_ok hm1 hm2 hp
  unfold greatRight at hT
  rw [hone] at hT
  dsimp only at hT
  split at hT
  · cases hT
  rename_i gr s2 hgr
  simp only [Bool.and_eq_true, beq_iff_eq] at hT
  obtain ⟨⟨⟨⟨ht2, htop⟩, hfree⟩, hrem⟩, hT⟩ := hT
  split at hT
  · cases hT
  rename_i s3 hd3
  split at hT
  rotate_left
  · cases hT
  rename_i s4 hga
  split at hT
  · cases hT
  rename_i w4 ht4
  simp only [Bool.and_eq_true, beq_iff_eq] at hT
  obtain ⟨⟨hrem4, hw4⟩, hT⟩ := hT
  split at hT
  · cases hT
  rename_i two s5 htwo
  split at hT
  · cases hT
  rename_i s6 hwr
  simp only [Bool.and_eq_true, beq_iff_eq] at hT
  obtain ⟨⟨⟨ht6, hrem6⟩, hfil6⟩, hT⟩ := hT
  split at hT
  · cases hT
  rename_i s7 hw7
  split at hT
  · cases hT
  rename_i s8 hd8
  split at hT
  · cases hT
  rename_i wn s9 hwh
  simp only [Bool.and_eq_true, beq_iff_eq] at hT
  obtain ⟨⟨hwn, ht9⟩, hrem9⟩ := hT
  dsimp only [List.set]
  -- items
  refine seq_set ⟨(by show 2 ≤ sizeLine; rw [hz]; decide), fun t0 n0 => ?_⟩
  have q0 : (upd H4 t0 (.tup [.str (Str.ofString "word"), .int 3])) t0 = some (.tup (itV (.word 3))) := upd_same
  have Z5 := Z4.same (same_new n0 (.tup [.str (Str.ofString "word"), .int 3]))
  generalize upd H4 t0 (.tup [.str (Str.ofString "word"), .int 3]) = H5 at q0 Z5 ⊢
  refine ⟨(by show 1 ≤ sizeLine; rw [hz]; decide), fun l0 nl0 => ?_⟩
  have r0 : (upd H5 l0 (.lst [.ref t0])) l0 = some (.lst [.ref t0]) := upd_same
  have q0' : (upd H5 l0 (.lst [.ref t0])) t0 = some (.tup (itV (.word 3))) := by rw [upd_ne (ne_of_none q0 nl0)]; exact q0
  have Z6 := Z5.same (same_new nl0 (.lst [.ref t0]))
  generalize upd H5 l0 (.lst [.ref t0]) = H6 at r0 q0' Z6 ⊢
  refine ⟨_, rfl, l0, _, _, rfl, rfl, r0, (by omega), (by omega), (by show 1 * ((many : Int)).toNat ≤ _; omega), fun li nli => ?_⟩
  have el : (List.replicate ((many : Int)).toNat [V.ref t0]).flatten = (List.replicate many t0).map V.ref := by
    rw [Int.toNat_natCast, List.map_replicate]
    generalize many = n
    induction n with
    | zero => rfl
    | succ n ih => rw [List.replicate_succ, List.flatten_cons, ih, List.replicate_succ]; rfl
  rw [el]
  have rli : (upd H6 li (.lst ((List.replicate many t0).map V.ref))) li = some (.lst ((List.replicate many t0).map V.ref)) := upd_same
  have q0'' : (upd H6 li (.lst ((List.replicate many t0).map V.ref))) t0 = some (.tup (itV (.word 3))) := by rw [upd_ne (ne_of_none q0' nli)]; exact q0'
  have Z7 := Z6.same (same_new nli (.lst ((List.replicate many t0).map V.ref)))
  have nown := Z6.st.off nli
  have nHn : Hn li = none := by
    cases e : Hn li with
    | none => rfl
    | some u => rw [(Z6.ch _ _ e).2] at nli; cases nli
  generalize upd H6 li (.lst ((List.replicate many t0).map V.ref)) = H7 at rli q0'' Z7 ⊢
  dsimp only [List.set]
  have nro : li ≠ F.ro := fun z => by rw [z, Z7.st.ro] at rli; cases rli
  refine ⟨_, rfl, (by show 2 ≤ sizeLine; rw [hz]; decide), fun t1 n1 => ?_⟩
  have q1 : (upd H7 t1 (.tup [.str (Str.ofString "held"), .int one])) t1 = some (.tup (itV (.held one))) := upd_same
  have rl1 : (upd H7 t1 (.tup [.str (Str.ofString "held"), .int one])) li = some (.lst ((List.replicate many t0).map V.ref)) := by rw [upd_ne (ne_of_none rli n1)]; exact rli
  have q01 : (upd H7 t1 (.tup [.str (Str.ofString "held"), .int one])) t0 = some (.tup (itV (.word 3))) := by rw [upd_ne (ne_of_none q0'' n1)]; exact q0''
  have Z8 := Z7.same (same_new n1 (.tup [.str (Str.ofString "held"), .int one]))
  generalize upd H7 t1 (.tup [.str (Str.ofString "held"), .int one]) = H8 at q1 rl1 q01 Z8 ⊢
  refine ⟨_, rfl, _, rfl, li, _, (p : Int), p, rfl, rfl, rl1, ixN_of (by rw [List.length_map, List.length_replicate]; exact hp), ?_⟩
  rw [← List.map_set]
  have Z9 := Z8.put nown nro nHn (.lst (((List.replicate many t0).set p t1).map V.ref))
  have rl9 : (upd H8 li (.lst (((List.replicate many t0).set p t1).map V.ref))) li = some (.lst (((List.replicate many t0).set p t1).map V.ref)) := upd_same
  have nt0 : t0 ≠ li := fun z => by rw [z, rl1] at q01; cases q01
  have nt1 : t1 ≠ li := fun z => by rw [z, rl1] at q1; cases q1
  have q09 : (upd H8 li (.lst (((List.replicate many t0).set p t1).map V.ref))) t0 = some (.tup (itV (.word 3))) := by rw [upd_ne nt0]; exact q01
  have q19 : (upd H8 li (.lst (((List.replicate many t0).set p t1).map V.ref))) t1 = some (.tup (itV (.held one))) := by rw [upd_ne nt1]; exact q1
  generalize upd H8 li (.lst (((List.replicate many t0).set p t1).map V.ref)) = H9 at Z9 rl9 q09 q19 ⊢
  dsimp only
  -- the great one
  have its : ItsAt H9 ((List.replicate many t0).set p t1) ((List.replicate many (It.word 3)).set p (.held one)) := its_set q19 (its_rep q09 many)
  refine seq_set ⟨_, rfl, F.ho, F.hd, _, rfl, Z9.st.ho, rfl, _, rfl, Or.inl ⟨li, _, rfl, SqL.of rl9, fun pi npi => ?_⟩⟩
  have Z10 := Z9.same (same_new npi (.tup (((List.replicate many t0).set p t1).map V.ref)))
  have its10 : ItsAt (upd H9 pi (.tup (((List.replicate many t0).set p t1).map V.ref))) ((List.replicate many t0).set p t1) ((List.replicate many (It.word 3)).set p (.held one)) := its.keep fun a xs e => by rw [upd_ne (ne_of_none e npi)]; exact e
  have rpi : (upd H9 pi (.tup (((List.replicate many t0).set p t1).map V.ref))) pi = some (.tup (((List.replicate many t0).set p t1).map V.ref)) := upd_same
  generalize upd H9 pi (.tup (((List.replicate many t0).set p t1).map V.ref)) = H10 at Z10 its10 rpi ⊢
  refine ⟨F, _, _, s1, "list", 1, pi, _, _, gr, s2, (by rw [S_of]; rfl), rfl, Z10.st, rpi, its10, (by rw [List.length_set, List.length_replicate]; omega), hgr, fun H11 ar11 rws11 g11 => ?_⟩
  have Z11 := Z10.go g11
  refine seq_set (lay_get Z11 rfl ht2 fun H12 p12 ws12 _ Z12 _ ⟨dx12, wa12, ra12, rt12, hl12, hw12, hr12⟩ => ?_)
  dsimp only [List.set]
  refine (⟨_, rfl, _, _, _, _, _, rfl, hl12, Cs2.lcl _, C2.l6, rfl, ((⟨_, rfl, _, _, _, _, _, rfl, hl12, Cs2.lcl _, C2.l4, rfl, ((⟨_, rfl, _, _, _, _, _, rfl, hl12, Cs2.lcl _, C2.l9, rfl, ⟨(by show 3 ≤ sizeLine; rw [hz]; decide), fun ta nta => ?_⟩⟩))⟩))⟩)
  have ka : (upd H12 ta (.tup [.int s2.top, .int s2.free, .ref ra12])) ta = some (.tup [.int s2.top, .int s2.free, .ref ra12]) := upd_same
  have kr : (upd H12 ta (.tup [.int s2.top, .int s2.free, .ref ra12])) ra12 = some (.tup (s2.rem.map V.int)) := by rw [upd_ne (ne_of_none hr12 nta)]; exact hr12
  have Z13 := Z12.same (same_new nta (.tup [.int s2.top, .int s2.free, .ref ra12]))
  generalize upd H12 ta (.tup [.int s2.top, .int s2.free, .ref ra12]) = H13 at ka kr Z13 ⊢
  refine ⟨_, rfl, _, _, rfl, rfl, _, _, rfl, rfl, _, rfl, _, _, rfl, rfl, (by show 1 ≤ sizeLine; rw [hz]; decide), fun tb ntb => ?_⟩
  have kb : (upd H13 tb (.tup [.int (10 + (p : Int))])) tb = some (.tup ([10 + (p : Int)].map V.int)) := upd_same
  have ka2 : (upd H13 tb (.tup [.int (10 + (p : Int))])) ta = some (.tup [.int s2.top, .int s2.free, .ref ra12]) := by rw [upd_ne (ne_of_none ka ntb)]; exact ka
  have kr2 : (upd H13 tb (.tup [.int (10 + (p : Int))])) ra12 = some (.tup (s2.rem.map V.int)) := by rw [upd_ne (ne_of_none kr ntb)]; exact kr
  have Z14 := Z13.same (same_new ntb (.tup [.int (10 + (p : Int))]))
  generalize upd H13 tb (.tup [.int (10 + (p : Int))]) = H14 at kb ka2 kr2 Z14 ⊢
  refine ⟨(by show 3 ≤ sizeLine; rw [hz]; decide), fun tc ntc => ?_⟩
  have kc : (upd H14 tc (.tup [.int 3, .int (8 + (many : Int) + 2), .ref tb])) tc = some (.tup [.int 3, .int (8 + (many : Int) + 2), .ref tb]) := upd_same
  have kb3 : (upd H14 tc (.tup [.int 3, .int (8 + (many : Int) + 2), .ref tb])) tb = some (.tup ([10 + (p : Int)].map V.int)) := by rw [upd_ne (ne_of_none kb ntc)]; exact kb
  have ka3 : (upd H14 tc (.tup [.int 3, .int (8 + (many : Int) + 2), .ref tb])) ta = some (.tup [.int s2.top, .int s2.free, .ref ra12]) := by rw [upd_ne (ne_of_none ka2 ntc)]; exact ka2
  have kr3 : (upd H14 tc (.tup [.int 3, .int (8 + (many : Int) + 2), .ref tb])) ra12 = some (.tup (s2.rem.map V.int)) := by rw [upd_ne (ne_of_none kr2 ntc)]; exact kr2
  have Z15 := Z14.same (same_new ntc (.tup [.int 3, .int (8 + (many : Int) + 2), .ref tb]))
  generalize upd H14 tc (.tup [.int 3, .int (8 + (many : Int) + 2), .ref tb]) = H15 at kc kb3 ka3 kr3 Z15 ⊢
  have hs3 : ∀ a b c : Int, SeqAt.shaped (.tuple [.int a, .int b, .tuple (intsP [c])]) = true := fun _ _ _ => rfl
  have D1 : Dp K H15 (.ref ta) (.tuple [.int 3, .int (8 + (many : Int) + 2), .tuple (intsP [10 + (p : Int)])]) := by
    refine .tup (SqT.of ka3) (.cons ?_ (.cons ?_ (.cons ?_ .nil)))
    · rw [htop]; exact .int _
    · rw [hfree]; exact .int _
    · rw [hrem] at kr3; exact dp_ints kr3
  have D2 : Dp K H15 (.ref tc) (.tuple [.int 3, .int (8 + (many : Int) + 2), .tuple (intsP [10 + (p : Int)])]) := .tup (SqT.of kc) (.cons (.int _) (.cons (.int _) (.cons (dp_ints kb3) .nil)))
  refine ⟨_, _, D1, D2, hs3 _ _ _, hs3 _ _ _, _, rfl, ne_noD (hs3 _ _ _) (go_next ?_)⟩
  dsimp only
  -- let go of the cell, and gather
  refine ⟨_, rfl, F.ho, F.hd, _, rfl, Z15.st.ho, rfl, _, rfl, F, _, _, s2, one, s3, rfl, Z15.st, hd3, fun H16 rws16 g16 => ?_⟩
  have Z16 := Z15.go g16
  dsimp only
  have hs0 : SeqAt.shaped (.tuple (intsP [])) = true := rfl
  have hs1 : ∀ a : Int, SeqAt.shaped (.tuple (intsP [a])) = true := fun _ => rfl
  refine ⟨_, rfl, F.ho, F.hd, _, rfl, Z16.st.ho, rfl, F, _, _, s3, 1, s4, rfl, Z16.st, hga, fun H17 ar17 g17 => ⟨rfl, _, rfl, ne_no rfl ?_⟩⟩
  have Z17 := Z16.go g17
  have ht4' : (told s4).isSome = true := by rw [ht4]; rfl
  refine lay_get Z17 rfl ht4' fun H18 p18 ws18 _ Z18 _ ⟨dx18, wa18, ra18, rt18, hl18, hw18, hr18⟩ => (⟨_, _, _, _, _, rfl, hl18, Cs2.lcl _, C2.l9, rfl, ⟨(by show 0 ≤ sizeLine; omega), fun te nte => ?_⟩⟩)
  have ke : (upd H18 te (.tup [])) te = some (.tup (([] : List Int).map V.int)) := upd_same
  have kr18 : (upd H18 te (.tup [])) ra18 = some (.tup (([] : List Int).map V.int)) := by rw [upd_ne (ne_of_none hr18 nte), hr18, hrem4]
  have Z19 := Z18.same (same_new nte (.tup []))
  generalize upd H18 te (.tup []) = H19 at ke kr18 Z19 ⊢
  refine ⟨_, _, dp_ints kr18, dp_ints ke, hs0, hs0, _, rfl, ne_noD hs0 ?_⟩
  refine lay_get Z19 rfl ht4' fun H20 p20 ws20 e20 Z20 _ ⟨dx20, wa20, ra20, rt20, hl20, hw20, hr20⟩ => ?_
  rw [ht4] at e20
  cases e20
  refine (⟨_, _, _, _, _, rfl, hl20, Cs2.lcl _, C2.l2, rfl, ⟨_, rfl, _, _, rfl, rfl, wa20, _, _, _, rfl, rfl, SqT.of hw20, gI_at hw4, _, rfl, _, _, rfl, rfl, _, _, rfl, rfl, _, _, rfl, rfl, .inl ⟨by decide, by decide⟩, rfl, _, rfl, ne_no rfl (go_next ?_)⟩⟩)
  dsimp only
  -- a second cell, written thrice
  refine seq_set (make_one (it := .word 3) Z20.st (x := "cell") (k := 4) rfl rfl (fun _ _ h => h) (fun _ _ h => h) htwo fun H21 ar21 rws21 g21 => ?_)
  have Z21 := Z20.go g21
  dsimp only [List.set]
  refine seq_join (fun σ H' => ∃ x9 : Option V, σ = [some (.ref ba), some (.int (many : Int)), some (.ref F.ho), some (.int one), some (.int (p : Int)), some (.ref li), some (.int gr), some (.ref p12), some (.int two), x9] ∧ ∃ ar' rws', Gz C F Hn H' ar' rws' s6) ?_ ?_
  rotate_left
  · intro NX nx
    refine ⟨3, rfl, by decide, by decide, ?_⟩
    rw [show (3 : Int).toNat = 3 from rfl]
    refine for_range (D := { nx := NX, rt := Q }) (fun i σ H' => ∃ (x9 : Option V) (ar' : Addr) (rws' : List Addr) (sk : Bd), σ = [some (.ref ba), some (.int (many : Int)), some (.ref F.ho), some (.int one), some (.int (p : Int)), some (.ref li), some (.int gr), some (.ref p12), some (.int two), x9] ∧ Gz C F Hn H' ar' rws' sk ∧ i ≤ 3 ∧ writes gr two (3 - i) sk = some s6) ⟨none, _, _, s5, rfl, Z21, by omega, hwr⟩ ?_ ?_
    · rintro i σ G hi ⟨x9, ar1, rws1, sk, rfl, Y, _, hk⟩
      rw [show 3 - i = (3 - (i + 1)) + 1 from by omega, writes] at hk
      split at hk
      · cases hk
      rename_i k1 hk1
      show tDrop _ _ [some (.ref ba), some (.int (many : Int)), some (.ref F.ho), some (.int one), some (.int (p : Int)), some (.ref li), some (.int gr), some (.ref p12), some (.int two), some (.int (0 + (i : Int)))] G
      refine ⟨_, rfl, F.ho, F.hd, _, rfl, Y.st.ho, rfl, _, rfl, _, rfl, (by show 2 ≤ sizeLine; rw [hz]; decide), fun tw ntw => ?_⟩
      have kw : (upd G tw (.tup [.str (Str.ofString "held"), .int two])) tw = some (.tup (itV (.held two))) := upd_same
      have Y1 := Y.same (same_new ntw (.tup [.str (Str.ofString "held"), .int two]))
      generalize upd G tw (.tup [.str (Str.ofString "held"), .int two]) = G1 at kw Y1 ⊢
      exact ⟨F, _, _, sk, gr, 0, tw, .held two, k1, rfl, Y1.st, kw, hk1, fun G2 g2 => ⟨_, _, _, k1, rfl, Y1.go g2, by omega, hk⟩⟩
    · rintro σ G ⟨x9, ar1, rws1, sk, rfl, Y, _, hk⟩
      rw [Nat.sub_self, writes] at hk
      cases hk
      exact nx _ _ ⟨_, rfl, _, _, Y⟩
  rintro σ H22 ⟨x9, rfl, ar22, rws22, Z22⟩
  refine lay_get Z22 rfl ht6 fun H23 p23 ws23 _ Z23 _ ⟨dx23, wa23, ra23, rt23, hl23, hw23, hr23⟩ => (⟨_, _, _, _, _, rfl, hl23, Cs2.lcl _, C2.l9, rfl, ⟨(by show 1 ≤ sizeLine; rw [hz]; decide), fun tf ntf => ?_⟩⟩)
  have kf : (upd H23 tf (.tup [.int 10])) tf = some (.tup (([10] : List Int).map V.int)) := upd_same
  have kr23 : (upd H23 tf (.tup [.int 10])) ra23 = some (.tup (([10] : List Int).map V.int)) := by rw [upd_ne (ne_of_none hr23 ntf), hr23, hrem6]
  have Z24 := Z23.same (same_new ntf (.tup [.int 10]))
  generalize upd H23 tf (.tup [.int 10]) = H24 at kf kr23 Z24 ⊢
  refine ⟨_, _, dp_ints kr23, dp_ints kf, hs1 _, hs1 _, _, rfl, ne_noD (hs1 _) ?_⟩
  refine ⟨_, rfl, F.ho, F.hd, _, rfl, Z24.st.ho, rfl, F, _, _, s6, _, rfl, Z24.st, hfil6, fun H25 g25 => ?_⟩
  have Z25 := Z24.same g25
  have hgt : ∀ (σ : L2.St) (R : VK) (Hq : Hp) (u v : Int), R (.int (if p > 0 then u else v)) Hq → (if decide (0 < ((p : Nat) : Int)) = true then tC (.int u) σ Hq R else tC (.int v) σ Hq R) := fun σ R Hq u v h => by
    by_cases h0 : p > 0
    · rw [if_pos h0] at h
      rw [decide_eq_true (by omega), if_pos rfl]; exact h
    · rw [if_neg h0] at h
      rw [decide_eq_false (by omega), if_neg Bool.false_ne_true]; exact h
  refine ⟨_, rfl, _, _, rfl, rfl, _, rfl, _, _, rfl, rfl, _, rfl, hgt _ _ _ _ _ ⟨_, _, rfl, rfl, rfl, _, rfl, ne_no rfl (go_next ?_)⟩⟩
  dsimp only
  -- the cell is let go of, by all
  refine ⟨_, rfl, F.ho, F.hd, _, rfl, Z25.st.ho, rfl, _, rfl, (by show 2 ≤ sizeLine; rw [hz]; decide), fun tw ntw => ?_⟩
  have kw : (upd H25 tw (.tup [.str (Str.ofString "word"), .int 3])) tw = some (.tup (itV (.word 3))) := upd_same
  have Z26 := Z25.same (same_new ntw (.tup [.str (Str.ofString "word"), .int 3]))
  generalize upd H25 tw (.tup [.str (Str.ofString "word"), .int 3]) = H26 at kw Z26 ⊢
  refine ⟨F, _, _, s6, gr, 0, tw, .word 3, s7, rfl, Z26.st, kw, hw7, fun H27 g27 => ?_⟩
  have Z27 := Z26.go g27
  dsimp only
  refine ⟨_, rfl, F.ho, F.hd, _, rfl, Z27.st.ho, rfl, _, rfl, F, _, _, s7, two, s8, rfl, Z27.st, hd8, fun H28 rws28 g28 => ?_⟩
  have Z28 := Z27.go g28
  dsimp only
  refine ⟨_, rfl, F.ho, F.hd, _, rfl, Z28.st.ho, rfl, F, _, _, s8, wn, s9, rfl, Z28.st, hwh, fun H29 ar29 g29 => ?_⟩
  have Z29 := Z28.go g29
  refine ⟨_, rfl, _, _, rfl, rfl, _, rfl, _, _, rfl, rfl, _, rfl, hgt _ _ _ _ _ ⟨_, _, rfl, rfl, rfl, _, rfl, ?_⟩⟩
  rw [hwn, decide_eq_true rfl]
  refine iteT ?_
  refine lay_get Z29 rfl ht9 fun H30 p30 ws30 _ Z30 _ ⟨dx30, wa30, ra30, rt30, hl30, hw30, hr30⟩ => (⟨_, _, _, _, _, rfl, hl30, Cs2.lcl _, C2.l9, rfl, ⟨(by show 0 ≤ sizeLine; omega), fun tg ntg => ?_⟩⟩)
  have kg : (upd H30 tg (.tup [])) tg = some (.tup (([] : List Int).map V.int)) := upd_same
  have kr30 : (upd H30 tg (.tup [])) ra30 = some (.tup (([] : List Int).map V.int)) := by rw [upd_ne (ne_of_none hr30 ntg), hr30, hrem9]
  have Z31 := Z30.same (same_new ntg (.tup []))
  generalize upd H30 tg (.tup []) = H31 at kg kr30 Z31 ⊢
  refine ⟨_, _, dp_ints kr30, dp_ints kg, hs0, hs0, ?_⟩
  rw [SeqAt.eqv_refl _ (SeqAt.canLay_of_shaped hs0)]
  exact q _ (bb.trans (.same Z31.to)) (B4'.same Z31.to)
abbrev s_law : Stmt := top 79
theorem sc_law : FnScope ["_law_script", "_law_bag_here", "_law_turn"] ["_law_script"] (defScope s_law) := ⟨rfl, rfl, rfl, by decide +kernel, rfl, by decide +kernel, by decide +kernel⟩
theorem ok_law (T : Txt K mg base) {f : Addr} {fd : FuncData} (F : Fun K "law" "law" s_law f fd) (D__law_bag : Def P w K mg base CX0 "_law_bag" ["_law_script"] 1 (sp_bag K)) (G__law_turn_right : DefG P w K mg base "_law_turn_right" ["_law_bag_here"] 10 sp_part) (G__law_pace_right : DefG P w K mg base "_law_pace_right" ["_law_bag_here"] 10 sp_part) (D__law_great_right : Def P w K mg base CX0 "_law_great_right" ["_law_bag_here"] 9 sp_part) :
    FnG P w K mg base 11 f fd ["_law_script"] (fun vs H Q _ => ∃ (l : Addr) (ns : List Int), vs = [.ref l] ∧ SqL K H l (ns.map V.int) ∧ ns.length ≤ 63 ∧ ∀ H', Q (.bl true) H') := by
  refine okG F sc_law (fun vs H Q E h => ?_) (fun cdv A outer s H vs Q E hG hr lk h => ?_)
  · obtain ⟨_, _, rfl, _⟩ := h; rfl
  obtain ⟨l, ns, rfl, hl, hn, q⟩ := h
  refine ⟨_, (pss_cons (ps_set (i := 1) sc_law.nd rfl (Or.inl rfl) (pe_call D__law_bag.ok (hr.mono (by omega)) rfl D__law_bag.g D__law_bag.k D__law_bag.b .nil pass0 (pa_cons (pv 0) pa_nil)))
    (pss_cons (ps_for PassesOwn.never rfl (pi_range1 rfl T.n_range (pa_cons pe_int pa_nil)) (pg_name (i := 2) sc_law.nd rfl (Or.inl rfl)) (pss_one (ps_if (PW.pt (pw_or (pt_not (pt_val (pe_callG G__law_turn_right.ok hG (hr.mono (by omega)) rfl G__law_turn_right.g G__law_turn_right.k G__law_turn_right.b (pa_cons (pv 1) pa_nil)))) (pw_or (pt_not (pt_val (pe_callG G__law_pace_right.ok hG (hr.mono (by omega)) rfl G__law_pace_right.g G__law_pace_right.k G__law_pace_right.b (pa_cons (pv 1) pa_nil)))) (pw_or1 (pt_not (pt_val (pe_call D__law_great_right.ok (hr.mono (by omega)) rfl D__law_great_right.g D__law_great_right.k D__law_great_right.b .nil pass0 (pa_cons (pv 1) pa_nil)))))))) (pss_one (ps_ret pe_bl)) pss_nil)))
    (pss_one (ps_ret pe_bl)))), ?_⟩
  generalize hσ : L2.start _ _ = σ0
  have hσ : σ0 = [some (.ref l), none, none] := hσ.symm
  subst hσ
  refine seq_set ⟨_, rfl, l, ns, rfl, hl, hn, fun H1 a g s1 B1 => ?_⟩
  dsimp only [List.set]
  refine seq_join (fun σ H' => True) ?_ ?_
  · rintro σ H' _
    exact q _
  intro NX nx
  refine ⟨2, rfl, by decide, by decide, ?_⟩
  rw [show (2 : Int).toNat = 2 from rfl]
  refine for_range (D := { nx := NX, rt := Q }) (fun i σ H' => ∃ x2 : Option V, σ = [some (.ref l), some (.ref a), x2] ∧ Bag H' a g) ⟨none, rfl, B1⟩ ?_ (fun σ H' _ => nx _ _ trivial)
  rintro i σ G hi ⟨x2, rfl, B⟩
  show tIfS _ _ _ _ [some (.ref l), some (.ref a), some (.int (0 + (i : Int)))] G
  refine ⟨_, rfl, a, g, rfl, B, fun G1 _ B1 => ⟨_, rfl, iteF ⟨_, rfl, a, g, rfl, B1, fun G2 _ B2 => ⟨_, rfl, iteF ⟨_, rfl, a, g, rfl, B2, fun G3 _ B3 => ⟨_, rfl, iteF (go_next ⟨_, rfl, B3⟩)⟩⟩⟩⟩⟩⟩
end
end Wk
set_option maxRecDepth 100000
set_option maxHeartbeats 16000000
namespace Wk
open PySem PySem.Spec L2 TL PyProof.Rows Hm
open SX (S S_len)
/-! ### the end: all promises tied -/
section
variable {P : Program} {w : World} {K : PySem.W.Frag} {mg : Str → Option Value} {base h : Heap}
/-- a def's text -/
structure DfT (K : PySem.W.Frag) (mg : Str → Option Value) (x : Str) (st : Stmt) (ps : List Str) where
  f : Addr
  fd : FuncData
  F : Fun K x x st f fd
  g : mg x = some (.ref f)
  k : PySem.W.keepIn K (.ref f) = true
  b : Binds K fd ps []
def DfT.on {x : Str} {st : Stmt} {ps : List Str} {CX : CXT} {k : Nat} {sp : Sp} (I : DfT K mg x st ps) (h : FnOk P w K mg base CX k I.f I.fd ps sp) : Def P w K mg base CX x ps k sp := ⟨I.f, I.fd, h, I.g, I.k, I.b⟩
def DfT.onG {x : Str} {st : Stmt} {ps : List Str} {k : Nat} {sp : Sp} (I : DfT K mg x st ps) (h : FnG P w K mg base k I.f I.fd ps sp) : DefG P w K mg base x ps k sp := ⟨I.f, I.fd, h, I.g, I.k, I.b⟩
/-- a method's text -/
structure MdT (K : PySem.W.Frag) (C : Addr) (x q : Str) (st : Stmt) (ps : List Str) where
  f : Addr
  fd : FuncData
  F : Fun K x q st f fd
  m : Meth K C x f
  b : Binds K fd ps []
def MdT.on {C : Addr} {x q : Str} {st : Stmt} {ps : List Str} {CX : CXT} {k : Nat} {sp : Sp} (I : MdT K C x q st ps) (h : FnOk P w K mg base CX k I.f I.fd ps sp) : MD P w K mg base CX C x ps k sp := ⟨I.f, I.fd, h, I.m, I.b⟩
/-- a class that is called: its text -/
structure CkT (K : PySem.W.Frag) (mg : Str → Option Value) (x q : Str) (C : Addr) (st : Stmt) (ps : List Str) where
  g : mg x = some (.ref C)
  f : Addr
  fd : FuncData
  F : Fun K "__init__" q st f fd
  m : Mk K C f
  b : Binds K fd ps []
def CkT.on {x q : Str} {C : Addr} {st : Stmt} {ps : List Str} {CX : CXT} {k : Nat} {sp : Sp} (I : CkT K mg x q C st ps) (h : FnOk P w K mg base CX k I.f I.fd ps sp) : MkD P w K mg base CX x C ps k sp := ⟨I.g, I.f, I.fd, I.m, h, I.b⟩
/-- an __init__ that is called by its class's name -/
structure UnT (K : PySem.W.Frag) (mg : Str → Option Value) (x q : Str) (st : Stmt) (ps : List Str) where
  C : Addr
  g : mg x = some (.ref C)
  f : Addr
  fd : FuncData
  F : Fun K "__init__" q st f fd
  u : UFn K C "__init__" f
  b : Binds K fd ps []
theorem fun_parts {x q : Str} {st : Stmt} {f : Addr} (F : ∃ fd, FunD K x q (defArgs st) (defBody st) (defScope st) [] [] f fd) :
    (∃ (oc : Value) (od an : Option Addr) (osl : Array (Option Value)) (kV dc pm cd ct : Value), K.lookup f = some ⟨oc, od, .func (PySem.W.fnOf x q (defArgs st) (defBody st) (defScope st) .none kV dc pm an cd ct), osl⟩ ∧ PySem.W.codeIn K cd q = true) ∧ PySem.W.keepIn K (.ref f) = true := by
  obtain ⟨fd, F⟩ := F
  obtain ⟨oc, od, dV, kV, doc, pm, an, cdv, ct, osl, e, l, c, dfl, _⟩ := F.ex
  rcases dfl with ⟨_, e2⟩ | ⟨e2, _⟩
  · subst e2
    exact ⟨⟨oc, od, an, osl, kV, doc, pm, cdv, ct, e ▸ l, c⟩, F.kp⟩
  · exact absurd rfl e2
abbrev HbT (x q : Str) (st : Stmt) (ps : List Str) : Prop := ∀ (kV doc pm : Value) (an : Option Addr) (cdv ct : Value) (us : List Value), us.length = ps.length → bindArgs (PySem.W.fnOf x q (defArgs st) (defBody st) (defScope st) .none kV doc pm an cdv ct) ⟨us, []⟩ = pure (ps.zip us)
theorem dft_of {x : Str} {st : Stmt} {ps : List Str} (X : K.In h) (G : h.Ns mainGlobals mg) (g : (He.Fa.glo x).ok K = true) (F : ∃ fd, FunD K x x (defArgs st) (defBody st) (defScope st) [] [] (He.ga K x) fd) (hb : HbT x x st ps) : ∃ I : DfT K mg x st ps, I.f = He.ga K x := by
  obtain ⟨⟨oc, od, an, osl, kV, dc, pm, cd, ct, l, c⟩, k⟩ := fun_parts F
  have F := fun_mk (st := st) l c k
  exact ⟨⟨_, _, F, PySem.W.mg_of X G (He.eqO_ok g), k, F.binds hb⟩, rfl⟩
theorem mdt_of {C x q : Str} {st : Stmt} {ps : List Str} (m : (He.Fa.meth C x).ok K = true) (F : ∃ fd, FunD K x q (defArgs st) (defBody st) (defScope st) [] [] (He.ma K (He.ga K C) x) fd) (hb : HbT x q st ps) : Nonempty (MdT K (He.ga K C) x q st ps) := by
  obtain ⟨⟨oc, od, an, osl, kV, dc, pm, cd, ct, l, c⟩, k⟩ := fun_parts F
  have F := fun_mk (st := st) l c k
  exact ⟨⟨_, _, F, He.meth_ok m, F.binds hb⟩⟩
theorem ckt_of {x q : Str} {st : Stmt} {ps : List Str} (X : K.In h) (G : h.Ns mainGlobals mg) (g : (He.Fa.glo x).ok K = true) (k : (He.Fa.mkr x).ok K = true) (m : (He.Fa.meth x "__init__").ok K = true) (F : ∃ fd, FunD K "__init__" q (defArgs st) (defBody st) (defScope st) [] [] (He.ma K (He.ga K x) "__init__") fd) (hb : HbT "__init__" q st ps) : Nonempty (CkT K mg x q (He.ga K x) st ps) := by
  obtain ⟨⟨oc, od, an, osl, kV, dc, pm, cd, ct, l, c⟩, k2⟩ := fun_parts F
  have F := fun_mk (st := st) l c k2
  have hk := He.mkr_ok k
  have hm := He.meth_ok m
  exact ⟨⟨PySem.W.mg_of X G (He.eqO_ok g), _, _, F, ⟨hk.makes, hm.at_, hm.fn, hk.kp⟩, F.binds hb⟩⟩
theorem vals_abs : ∀ {us : List Value} {xs : List V}, us.map absV = xs.map some → Vals xs us
  | [], [], _ => .nil
  | [], _ :: _, e => by cases e
  | _ :: _, [], e => by cases e
  | u :: us, x :: xs, e => by
    have e1 : absV u = some x := (List.cons.inj e).1
    refine .cons ?_ (vals_abs (List.cons.inj e).2)
    cases u <;> first
      | (cases e1; first | rfl | exact ⟨_, rfl⟩)
      | cases e1
theorem seq_K {a : Addr} {dd : Option Addr} {its : Array Value} {n : Nat} {sl : Array (Option Value)} {xs : List V} (l : K.lookup a = some ⟨.type "tuple", dd, .seq its n, sl⟩) (hz : its.size ≤ 1000) (v : its.toList.map absV = xs.map some) (H : Hp) : SqT K H a xs :=
  .inr ⟨_, its, n, l, rfl, rfl, by have := line_eq; omega, vals_abs v⟩
theorem unt_of {x q : Str} {st : Stmt} {ps : List Str} (X : K.In h) (G : h.Ns mainGlobals mg) (g : (He.Fa.glo x).ok K = true) (u : Hd.unB K (He.ga K x) "__init__" = true) (F : ∃ fd, FunD K "__init__" q (defArgs st) (defBody st) (defScope st) [] [] (He.ma K (He.ga K x) "__init__") fd) (hb : HbT "__init__" q st ps) : Nonempty (UnT K mg x q st ps) := by
  obtain ⟨⟨oc, od, an, osl, kV, dc, pm, cd, ct, l, c⟩, k2⟩ := fun_parts F
  have F := fun_mk (st := st) l c k2
  obtain ⟨u1, u2, u3, u4⟩ := Hd.unB_ok u
  exact ⟨⟨_, PySem.W.mg_of X G (He.eqO_ok g), _, _, F, ⟨⟨u1, u2⟩, u4, u3⟩, F.binds hb⟩⟩
/-- all texts -/
structure AllI (K : PySem.W.Frag) (mg : Str → Option Value) (C : Cs K) (C2 : Cs2 K mg C) where
  d_is_integer : DfT K mg "is_integer" s_is_integer ["thing"]
  d_is_of_tag : DfT K mg "is_of_tag" s_is_of_tag ["tag", "payload"]
  d_is_word : DfT K mg "is_word" s_is_word ["thing"]
  d_is_things : DfT K mg "is_things" s_is_things ["word"]
  d_is_sign : DfT K mg "is_sign" s_is_sign ["number"]
  d_is_signs : DfT K mg "is_signs" s_is_signs ["word"]
  d_may_be_many : DfT K mg "may_be_many" s_may_be_many ["sort", "many"]
  d_may_stand : DfT K mg "may_stand" s_may_stand ["sort", "place", "word"]
  d_may_be : DfT K mg "may_be" s_may_be ["sort", "found"]
  d_is_many_steps : DfT K mg "is_many_steps" s_is_many_steps ["thing"]
  b_begin_of : MdT K C.B "begin_of" "Bound.begin_of" s_Bound__begin_of ["self", "half"]
  b_end_of : MdT K C.B "end_of" "Bound.end_of" s_Bound__end_of ["self", "at"]
  b_moved : MdT K C.B "moved" "Bound.moved" s_Bound__moved ["self", "at"]
  b_lead_on : MdT K C.B "lead_on" "Bound.lead_on" s_Bound__lead_on ["self", "places", "low", "high"]
  h_root_rows : MdT K C.H "root_rows" "Heap.root_rows" s_Heap__root_rows ["self"]
  b_lead_roots : MdT K C.B "lead_roots" "Bound.lead_roots" s_Bound__lead_roots ["self", "low", "high"]
  b_filled_words : MdT K C.B "filled_words" "Bound.filled_words" s_Bound__filled_words ["self"]
  b_remember : MdT K C.B "remember" "Bound.remember" s_Bound__remember ["self", "place", "word"]
  b_empty_nursery : MdT K C.B "empty_nursery" "Bound.empty_nursery" s_Bound__empty_nursery ["self"]
  b_change_halves : MdT K C.B "change_halves" "Bound.change_halves" s_Bound__change_halves ["self"]
  b_end_if_done : MdT K C.B "end_if_done" "Bound.end_if_done" s_Bound__end_if_done ["self"]
  b_write : MdT K C.B "write" "Bound.write" s_Bound__write ["self", "at", "place", "word"]
  b_lead_left : MdT K C.B "lead_left" "Bound.lead_left" s_Bound__lead_left ["self", "begin", "end"]
  b_gather : MdT K C.B "gather" "Bound.gather" s_Bound__gather ["self"]
  b_steps : MdT K C.B "steps" "Bound.steps" s_Bound__steps ["self", "many"]
  b_end_turn : MdT K C.B "end_turn" "Bound.end_turn" s_Bound__end_turn ["self"]
  b_turn : MdT K C.B "turn" "Bound.turn" s_Bound__turn ["self"]
  b_copy_all : MdT K C.B "copy_all" "Bound.copy_all" s_Bound__copy_all ["self", "is_tie_followed"]
  b_whole : MdT K C.B "whole" "Bound.whole" s_Bound__whole ["self"]
  b_reserve : MdT K C.B "reserve" "Bound.reserve" s_Bound__reserve ["self", "many"]
  b_place : MdT K C.B "place" "Bound.place" s_Bound__place ["self", "sort", "found"]
  b_settled : MdT K C.B "settled" "Laid.settled" s_Laid__settled ["self", "at"]
  b_sort_at : MdT K C.B "sort_at" "Laid.sort_at" s_Laid__sort_at ["self", "at"]
  b_size_at : MdT K C.B "size_at" "Laid.size_at" s_Laid__size_at ["self", "at"]
  b_number_at : MdT K C.B "number_at" "Laid.number_at" s_Laid__number_at ["self", "at"]
  b_words_at : MdT K C.B "words_at" "Laid.words_at" s_Laid__words_at ["self", "at"]
  b_counted_deeds : MdT K C.B "counted_deeds" "Bound.counted_deeds" s_Bound__counted_deeds ["self"]
  b_told_words : MdT K C.B "told_words" "Bound.told_words" s_Bound__told_words ["self"]
  d_addresses_in : DfT K mg "addresses_in" s_addresses_in ["store", "found"]
  d_room_of : DfT K mg "room_of" s_room_of ["store", "found"]
  d_come_to : DfT K mg "come_to" s_come_to ["store", "begins", "is_tie_followed"]
  h_word_held : MdT K C.H "word_held" "Heap.word_held" s_Heap__word_held ["self", "handle"]
  h_address_held : MdT K C.H "address_held" "Heap.address_held" s_Heap__address_held ["self", "handle"]
  h_is_item : MdT K C.H "is_item" "Heap.is_item" s_Heap__is_item ["self", "thing"]
  h_word_of_item : MdT K C.H "word_of_item" "Heap.word_of_item" s_Heap__word_of_item ["self", "item"]
  h_address_with_place : MdT K C.H "address_with_place" "Heap.address_with_place" s_Heap__address_with_place ["self", "handle", "place"]
  h_give_handle : MdT K C.H "give_handle" "Heap.give_handle" s_Heap__give_handle ["self", "word"]
  h_drop : MdT K C.H "drop" "Heap.drop" s_Heap__drop ["self", "handle"]
  h_root_pairs : MdT K C.H "root_pairs" "Heap.root_pairs" s_Heap__root_pairs ["self"]
  h_come_to_from_handles : MdT K C.H "come_to_from_handles" "Heap.come_to_from_handles" s_Heap__come_to_from_handles ["self", "is_tie_followed"]
  h_filled : MdT K C.H "filled" "Heap.filled" s_Heap__filled ["self"]
  h_gather : MdT K C.H "gather" "Heap.gather" s_Heap__gather ["self"]
  h_turn : MdT K C.H "turn" "Heap.turn" s_Heap__turn ["self"]
  h_whole : MdT K C.H "whole" "Heap.whole" s_Heap__whole ["self"]
  h_steps : MdT K C.H "steps" "Heap.steps" s_Heap__steps ["self", "many"]
  h_counts : MdT K C.H "counts" "Heap.counts" s_Heap__counts ["self"]
  h_write : MdT K C.H "write" "Heap.write" s_Heap__write ["self", "handle", "place", "item"]
  h_make : MdT K C.H "make" "Heap.make" s_Heap__make ["self", "sort", "items"]
  d_check_room : DfT K mg "check_room" s_check_room ["thing"]
  c_Layout : CkT K mg "Layout" "Layout.__init__" C2.L s_Layout____init__ ["self", "room", "words", "use", "free", "scan", "top", "left", "copied", "remembered", "roots", "last"]
  d_layout_with : DfT K mg "layout_with" s_layout_with ["store", "roots"]
  h_layout : MdT K C.H "layout" "Heap.layout" s_Heap__layout ["self"]
  i_Laid : UnT K mg "Laid" "Laid.__init__" s_Laid____init__ ["self", "words"]
  c_Bound : CkT K mg "Bound" "Bound.__init__" C.B s_Bound____init__ ["self", "room", "owner"]
  d_store_for : DfT K mg "store_for" s_store_for ["room", "owner"]
  c_Heap : CkT K mg "Heap" "Heap.__init__" C.H s_Heap____init__ ["self", "room"]
  c_Room : CkT K mg "Room" "Room.__init__" C.R s_Room____init__ ["self", "young", "old", "pace"]
  d__law_bag : DfT K mg "_law_bag" s__law_bag ["_law_script"]
  d__law_pick : DfT K mg "_law_pick" s__law_pick ["_law_bag_here", "_law_many"]
  d__law_is : DfT K mg "_law_is" s__law_is ["_law_found", "_law_due"]
  d__law_chain : DfT K mg "_law_chain" s__law_chain ["_law_heap", "_law_many"]
  d__law_lies : DfT K mg "_law_lies" s__law_lies ["_law_layout", "_law_begin", "_law_numbers"]
  d__law_turn_right : DfT K mg "_law_turn_right" s__law_turn_right ["_law_bag_here"]
  d__law_pace_right : DfT K mg "_law_pace_right" s__law_pace_right ["_law_bag_here"]
  d__law_great_right : DfT K mg "_law_great_right" s__law_great_right ["_law_bag_here"]
def sp_law (K : PySem.W.Frag) : Sp := fun vs H Q _ => ∃ (l : Addr) (ns : List Int), vs = [.ref l] ∧ SqL K H l (ns.map V.int) ∧ ns.length ≤ 63 ∧ ∀ H', Q (.bl true) H'
theorem law_of (T : Txt K mg base) (T5 : Txt5 K w mg) (TN : TxtN K w T5) (C : Cs K) (C2 : Cs2 K mg C) (I : AllI K mg C C2) {f : Addr} {fd : FuncData} (F : Fun K "law" "law" s_law f fd) : FnG P w K mg base 11 f fd ["_law_script"] (sp_law K) := by
  have p_d_is_integer := I.d_is_integer.on (ok_is_integer (P := P) (w := w) (base := base) T I.d_is_integer.F)
  have p_d_is_of_tag := I.d_is_of_tag.on (ok_is_of_tag (P := P) (w := w) (base := base) T I.d_is_of_tag.F p_d_is_integer)
  have p_d_is_word := I.d_is_word.on (ok_is_word (P := P) (w := w) (base := base) T I.d_is_word.F p_d_is_integer p_d_is_of_tag)
  have p_d_is_things := I.d_is_things.on (ok_isthings (P := P) (w := w) (base := base) T T5 I.d_is_things.F)
  have p_d_is_sign := I.d_is_sign.on (ok_issign (P := P) (w := w) (base := base) T T5 I.d_is_sign.F)
  have p_d_is_signs := I.d_is_signs.on (ok_issigns (P := P) (w := w) (base := base) T I.d_is_signs.F p_d_is_sign)
  have p_d_may_be_many := I.d_may_be_many.on (ok_maymany (P := P) (w := w) (base := base) T T5 I.d_may_be_many.F)
  have p_d_may_stand := I.d_may_stand.on (ok_maystand (P := P) (w := w) (base := base) T T5 I.d_may_stand.F p_d_is_signs p_d_is_things)
  have p_d_may_be := I.d_may_be.on (ok_maybe (P := P) (w := w) (base := base) T I.d_may_be.F p_d_may_be_many p_d_may_stand)
  have p_d_is_many_steps := I.d_is_many_steps.on (ok_ismany (P := P) (w := w) (base := base) T T5 I.d_is_many_steps.F p_d_is_integer)
  have p_b_begin_of := I.b_begin_of.on (ok_bbegin (P := P) (w := w) (base := base) (mg := mg) C I.b_begin_of.F)
  have p_b_end_of := I.b_end_of.on (ok_bend (P := P) (w := w) (base := base) T T5 C I.b_end_of.F)
  have p_b_moved := I.b_moved.on (ok_bmoved (P := P) (w := w) (base := base) T T5 C I.b_moved.F)
  have p_b_lead_on := I.b_lead_on.on (ok_bleadon (P := P) (w := w) (base := base) T T5 C I.b_lead_on.F p_b_moved)
  have p_h_root_rows := I.h_root_rows.on (ok_hrows (P := P) (w := w) (base := base) T C I.h_root_rows.F)
  have p_b_lead_roots := I.b_lead_roots.on (ok_bleadroots (P := P) (w := w) (base := base) T T5 C I.b_lead_roots.F p_b_moved p_h_root_rows)
  have p_b_filled_words := I.b_filled_words.on (ok_bfilled (P := P) (w := w) (base := base) (mg := mg) C I.b_filled_words.F p_b_begin_of)
  have p_b_remember := I.b_remember.on (ok_bremember (P := P) (w := w) (base := base) T C I.b_remember.F p_d_is_things)
  have p_b_empty_nursery := I.b_empty_nursery.on (ok_bempty (P := P) (w := w) (base := base) (mg := mg) C I.b_empty_nursery.F)
  have p_b_change_halves := I.b_change_halves.on (ok_bchange (P := P) (w := w) (base := base) (mg := mg) C I.b_change_halves.F p_b_begin_of)
  have p_b_end_if_done := I.b_end_if_done.on (ok_bendif (P := P) (w := w) (base := base) (mg := mg) C I.b_end_if_done.F)
  have p_b_write := I.b_write.on (ok_bwrite (P := P) (w := w) (base := base) T T5 C I.b_write.F p_b_remember)
  have p_b_lead_left := I.b_lead_left.on (ok_bleadleft (P := P) (w := w) (base := base) T C I.b_lead_left.F p_b_begin_of p_b_lead_on)
  have p_b_gather := I.b_gather.on (ok_bgather (P := P) (w := w) (base := base) T T5 C I.b_gather.F p_b_end_of p_b_lead_on p_b_lead_roots p_b_empty_nursery)
  have p_b_steps := I.b_steps.on (ok_bsteps (P := P) (w := w) (base := base) T T5 C I.b_steps.F p_b_end_of p_b_lead_left p_b_end_if_done)
  have p_b_end_turn := I.b_end_turn.on (ok_bendturn (P := P) (w := w) (base := base) T C I.b_end_turn.F p_b_steps)
  have p_b_turn := I.b_turn.on (ok_bturn (P := P) (w := w) (base := base) T T5 C I.b_turn.F p_b_begin_of p_b_gather p_b_change_halves p_b_lead_roots p_b_end_if_done)
  have p_b_copy_all := I.b_copy_all.on (ok_bcopyall (P := P) (w := w) (base := base) T T5 C I.b_copy_all.F p_b_end_of p_b_lead_on p_b_lead_roots p_b_empty_nursery p_b_change_halves)
  have p_b_whole := I.b_whole.on (ok_bwhole (P := P) (w := w) (base := base) T T5 C I.b_whole.F p_b_end_turn p_b_copy_all)
  have p_b_reserve := I.b_reserve.on (ok_breserve (P := P) (w := w) (base := base) T T5 C I.b_reserve.F p_b_filled_words p_b_end_turn p_b_whole p_b_gather)
  have p_b_place := I.b_place.on (ok_bplace (P := P) (w := w) (base := base) T T5 TN C I.b_place.F p_b_remember p_b_steps)
  have p_b_settled := I.b_settled.on (ok_bsettled (P := P) (w := w) (base := base) (mg := mg) C I.b_settled.F)
  have p_b_sort_at := I.b_sort_at.on (ok_bsortat (P := P) (w := w) (base := base) T T5 C I.b_sort_at.F)
  have p_b_size_at := I.b_size_at.on (ok_bsizeat (P := P) (w := w) (base := base) T C I.b_size_at.F)
  have p_b_number_at := I.b_number_at.on (ok_bnumat (P := P) (w := w) (base := base) (mg := mg) C I.b_number_at.F)
  have p_b_words_at := I.b_words_at.on (ok_bwordsat (P := P) (w := w) (base := base) T T5 C I.b_words_at.F)
  have p_b_counted_deeds := I.b_counted_deeds.on (ok_bcounted (P := P) (w := w) (base := base) T C I.b_counted_deeds.F)
  have p_b_told_words := I.b_told_words.on (ok_btold (P := P) (w := w) (base := base) T T5 C I.b_told_words.F p_b_begin_of)
  have p_d_addresses_in := I.d_addresses_in.on (ok_addrs (P := P) (w := w) (base := base) T C I.d_addresses_in.F p_d_is_things p_b_settled)
  have p_d_room_of := I.d_room_of.on (ok_roomof (P := P) (w := w) (base := base) T T5 C I.d_room_of.F p_b_size_at)
  have p_d_come_to := I.d_come_to.on (ok_cometo (P := P) (w := w) (base := base) T C I.d_come_to.F p_d_addresses_in p_b_number_at p_b_sort_at p_b_words_at)
  have p_h_word_held := I.h_word_held.on (ok_hword (P := P) (w := w) (base := base) (mg := mg) C I.h_word_held.F p_d_is_integer)
  have p_h_address_held := I.h_address_held.on (ok_haddr (P := P) (w := w) (base := base) T C I.h_address_held.F p_d_is_things p_h_word_held)
  have p_h_is_item := I.h_is_item.on (ok_hisitem (P := P) (w := w) (base := base) T C I.h_is_item.F p_d_is_integer p_d_is_things p_d_is_word)
  have p_h_word_of_item := I.h_word_of_item.on (ok_hworth (P := P) (w := w) (base := base) T C I.h_word_of_item.F)
  have p_h_address_with_place := I.h_address_with_place.on (ok_haddrp (P := P) (w := w) (base := base) T C I.h_address_with_place.F p_d_is_integer p_h_address_held p_b_size_at)
  have p_h_give_handle := I.h_give_handle.on (ok_hgive (P := P) (w := w) (base := base) T C I.h_give_handle.F)
  have p_h_drop := I.h_drop.on (ok_hdrop (P := P) (w := w) (base := base) (mg := mg) C I.h_drop.F p_h_word_held)
  have p_h_root_pairs := I.h_root_pairs.on (ok_hpairs (P := P) (w := w) (base := base) T C I.h_root_pairs.F)
  have p_h_come_to_from_handles := I.h_come_to_from_handles.on (ok_hcome (P := P) (w := w) (base := base) (mg := mg) C I.h_come_to_from_handles.F p_h_root_pairs p_d_come_to)
  have p_h_filled := I.h_filled.on (ok_hfilled (P := P) (w := w) (base := base) (mg := mg) C I.h_filled.F p_h_come_to_from_handles p_d_room_of)
  have p_h_gather := I.h_gather.on (ok_hgather (P := P) (w := w) (base := base) (mg := mg) C I.h_gather.F p_b_gather)
  have p_h_turn := I.h_turn.on (ok_hturn (P := P) (w := w) (base := base) (mg := mg) C I.h_turn.F p_b_turn)
  have p_h_whole := I.h_whole.on (ok_hwhole (P := P) (w := w) (base := base) (mg := mg) C I.h_whole.F p_b_whole)
  have p_h_steps := I.h_steps.on (ok_hsteps (P := P) (w := w) (base := base) (mg := mg) C I.h_steps.F p_d_is_many_steps p_b_steps)
  have p_h_counts := I.h_counts.on (ok_hcounts (P := P) (w := w) (base := base) (mg := mg) C I.h_counts.F p_b_counted_deeds)
  have p_h_write := I.h_write.on (ok_hwrite (P := P) (w := w) (base := base) (mg := mg) C I.h_write.F p_h_address_with_place p_h_is_item p_h_word_of_item p_b_sort_at p_d_may_stand p_b_write)
  have p_h_make := I.h_make.on (ok_hmake (P := P) (w := w) (base := base) T T5 C I.h_make.F p_h_is_item p_h_word_of_item p_d_may_be p_b_reserve p_b_place p_h_give_handle)
  have p_d_check_room := I.d_check_room.on (ok_croom (P := P) (w := w) (base := base) T C C2 I.d_check_room.F)
  have p_c_Layout := I.c_Layout.on (ok_layinit (P := P) (w := w) (base := base) (mg := mg) C C2 I.c_Layout.F)
  have p_d_layout_with := I.d_layout_with.on (ok_laywith (P := P) (w := w) (base := base) T C C2 I.d_layout_with.F p_b_told_words p_c_Layout)
  have p_h_layout := I.h_layout.on (ok_hlayout (P := P) (w := w) (base := base) (mg := mg) C C2 I.h_layout.F p_h_root_pairs p_d_layout_with)
  have p_i_Laid : LaidI P w K mg base C := ⟨I.i_Laid.C, I.i_Laid.g, I.i_Laid.f, I.i_Laid.fd, I.i_Laid.u, ok_linit (P := P) (w := w) (base := base) (mg := mg) C I.i_Laid.F, I.i_Laid.b⟩
  have p_c_Bound := I.c_Bound.on (ok_binit (P := P) (w := w) (base := base) T C p_i_Laid I.c_Bound.F)
  have p_d_store_for := I.d_store_for.on (ok_storefor (P := P) (w := w) (base := base) (mg := mg) C I.d_store_for.F p_c_Bound)
  have p_c_Heap := I.c_Heap.on (ok_hinit (P := P) (w := w) (base := base) (mg := mg) C I.c_Heap.F p_d_check_room p_d_store_for)
  have p_c_Room := I.c_Room.on (ok_rinit (P := P) (w := w) (base := base) T C I.c_Room.F p_d_is_integer)
  have p_d__law_bag := I.d__law_bag.on (ok_bag (P := P) (w := w) (base := base) T I.d__law_bag.F)
  have p_d__law_pick := I.d__law_pick.on (ok_pick (P := P) (w := w) (base := base) T I.d__law_pick.F)
  have p_d__law_is := I.d__law_is.onG (ok_is (P := P) (w := w) (base := base) T I.d__law_is.F)
  have p_d__law_chain := I.d__law_chain.on (ok_chain (P := P) (w := w) (base := base) T C I.d__law_chain.F p_h_make p_h_drop)
  have p_d__law_lies := I.d__law_lies.on (ok_lies (P := P) (w := w) (base := base) T C C2 I.d__law_lies.F)
  have p_d__law_turn_right := I.d__law_turn_right.onG (ok_turn_right (P := P) (w := w) (base := base) T C C2 I.d__law_turn_right.F p_d__law_pick p_c_Heap p_c_Room p_d__law_chain p_h_layout p_h_gather p_h_turn p_h_whole p_h_steps p_h_counts p_h_filled p_d__law_lies p_d__law_is)
  have p_d__law_pace_right := I.d__law_pace_right.onG (ok_pace_right (P := P) (w := w) (base := base) T C C2 I.d__law_pace_right.F p_d__law_pick p_c_Heap p_c_Room p_d__law_chain p_h_layout p_h_turn p_h_counts p_h_make p_h_drop p_d__law_is)
  have p_d__law_great_right := I.d__law_great_right.on (ok_great_right (P := P) (w := w) (base := base) T C C2 I.d__law_great_right.F p_d__law_pick p_c_Heap p_c_Room p_h_layout p_h_gather p_h_whole p_h_filled p_h_write p_h_make p_h_drop)
  exact ok_law T F p_d__law_bag p_d__law_turn_right p_d__law_pace_right p_d__law_great_right
end
open LamX
/-! ### the law's call, with tables of code objects and what lies below -/
/-- the heap as it is tracked ahead of the law: the script, if the top has not written it, and the tables -/
def firstH (fr : Option HO) (a : Addr) (TT : List Addr) : Hp := fun b => if b = a then fr else if b ∈ TT then some (.tbl #[]) else none
theorem firstH_a {fr : Option HO} {a : Addr} {TT : List Addr} : firstH fr a TT a = fr := if_pos rfl
theorem firstH_t {fr : Option HO} {a b : Addr} {TT : List Addr} (n : b ≠ a) (m : b ∈ TT) : firstH fr a TT b = some (.tbl #[]) := by
  unfold firstH; rw [if_neg n, if_pos m]
theorem firstH_o {fr : Option HO} {a b : Addr} {TT : List Addr} (n : b ≠ a) (m : b ∉ TT) : firstH fr a TT b = none := by
  unfold firstH; rw [if_neg n, if_neg m]
/-- what the law's call is told of the heap -/
structure Begin (w : World) (K : PySem.W.Frag) (mg mb : Str → Option Value) (cs : List (Addr × Addr)) (aG : Addr) (a : Addr) (vs : List Value) (s : Shared) : Prop where
  kin : K.In s.heap
  g : s.heap.Ns mainGlobals mg
  b : s.heap.Ns builtinsNs mb
  bb : ∀ x : Str, x ≠ "__name__" → mb x = bootBuiltins x
  lim : s.heap.NoLimit
  gens : s.gens = #[]
  tab : ∀ p ∈ cs, s.heap.get? p.2 = some { cls := .none, data := .fields #[] }
  noK : ∀ p ∈ cs, K.lookup p.2 = none
  code : ∀ p ∈ cs, PySem.W.CodeHd s.heap p.1 p.2
  bm : ∃ (m : Addr) (ob : Obj), mg "__builtins__" = some (.ref m) ∧ m ≠ builtinsNs ∧ s.heap.get? m = some ob ∧ ob.cls = .type "module" ∧ ob.dict = some builtinsNs ∧ ob.data = .plain
  scr : s.heap.get? a = some { cls := .type "list", data := .seq vs.toArray }
  low : Low s.heap aG greats
theorem law_run {P : Program} {w : World} {K : PySem.W.Frag} {mg mb : Str → Option Value} {k : Nat} {fa a aG : Addr} {cs : List (Addr × Addr)} {fd : FuncData} {sp : Sp} {s : Shared} {vs : List Value} {ns : List Int}
    (B : Begin w K mg mb cs aG a vs s) (hi : IntsAre vs ns) (few : ns.length ≤ 63) (room : Room k callerA)
    (prom : ∀ low : Heap, K.In low → low.Ns mainGlobals mg → (∀ p ∈ cs, TabB low mg p.1 p.2) → Low low aG greats → FnG P w K mg low k fa fd ["_law_script"] sp) (bind : ∀ (s : Shared) (u : Value), BindsTo s fd ⟨[u], []⟩ [("_law_script", u)])
    (want : ∀ H : Hp, (∀ p ∈ cs, H p.2 = some (.tbl #[])) → SqL K H a (ns.map V.int) → sp [.ref a] H (fun v _ => v = .bl true) E0) :
    codeAny (model P w) callerA (.call (.ref fa) ⟨[.ref a], []⟩) (fun r s' => r = .ok (.ret (.bool true)) ∧ OldK s.heap s'.heap ∧ s'.os = s.os ∧ AllBare s'.gens) s := by
  have vals := vals_ints hi
  have many := hi.length
  have line := sizeLine_eq
  let TT : List Addr := cs.map (·.2)
  have inT : ∀ p ∈ cs, p.2 ∈ TT := fun p m => List.mem_map.mpr ⟨p, m, rfl⟩
  have objT : ∀ b ∈ TT, s.heap.get? b = some { cls := .none, data := .fields #[] } := fun b m => by
    obtain ⟨p, m', e⟩ := List.mem_map.mp m
    rw [← e]; exact B.tab p m'
  have noKT : ∀ b ∈ TT, K.lookup b = none := fun b m => by
    obtain ⟨p, m', e⟩ := List.mem_map.mp m
    rw [← e]; exact B.noK p m'
  have offT : ∀ {b : Addr} {o : Obj}, s.heap.get? b = some o → o.data ≠ .fields #[] → b ∉ TT := fun e d m => by
    rw [objT _ m] at e
    exact d (congrArg Obj.data (Option.some.inj e)).symm
  have offA : ∀ {b : Addr} {o : Obj}, s.heap.get? b = some o → o.cls ≠ .type "list" → b ≠ a := fun e c z => by
    rw [z, B.scr] at e
    exact c (congrArg Obj.cls (Option.some.inj e)).symm
  have aT : a ∉ TT := offT B.scr (fun z => by cases z)
  let fr : Option HO := if (K.lookup a).isSome then none else some (.frz { cls := .type "list", data := .seq vs.toArray } (.lst (ns.map V.int)))
  have frN : ∀ o, K.lookup a = some o → fr = none := fun o e => if_pos (by rw [e]; rfl)
  have frS : K.lookup a = none → fr = some (.frz { cls := .type "list", data := .seq vs.toArray } (.lst (ns.map V.int))) := fun e => if_neg (by rw [e]; exact Bool.false_ne_true)
  have cases_ : ∀ {b : Addr} {u : HO}, firstH fr a TT b = some u → (b = a ∧ u = .frz { cls := .type "list", data := .seq vs.toArray } (.lst (ns.map V.int))) ∨ (b ∈ TT ∧ u = .tbl #[]) := fun {b u} e => by
    by_cases ea : b = a
    · rw [ea, firstH_a] at e
      cases hk : K.lookup a with
      | none => rw [frS hk] at e; exact .inl ⟨ea, (Option.some.inj e).symm⟩
      | some o => rw [frN o hk] at e; cases e
    · by_cases et : b ∈ TT
      · rw [firstH_t ea et] at e
        exact .inr ⟨et, (Option.some.inj e).symm⟩
      · rw [firstH_o ea et] at e; cases e
  have tabsH : ∀ p ∈ cs, firstH fr a TT p.2 = some (.tbl #[]) := fun p m => firstH_t (fun z => aT (z ▸ inT p m)) (inT p m)
  have seen : SqL K (firstH fr a TT) a (ns.map V.int) := by
    cases hk : K.lookup a with
    | none => exact .inl (.inr ⟨{ cls := .type "list", data := .seq vs.toArray }, firstH_a.trans (frS hk)⟩)
    | some o =>
      have e := B.kin a o hk
      rw [B.scr] at e
      obtain rfl := (Option.some.inj e)
      exact .inr ⟨_, vs.toArray, _, hk, rfl, rfl, rfl, by rw [List.size_toArray, many]; omega, by simpa using vals⟩
  have hok : HOk P w (firstH fr a TT) s.heap := fun b u e => by
    rcases cases_ e with ⟨eb, eu⟩ | ⟨eb, eu⟩
    · rw [eb, eu]
      exact ⟨B.scr, by rw [List.length_map]; omega, vs, _, vals, B.scr⟩
    · rw [eu]; exact objT b eb
  have down : ∀ {b : Addr} {o : Obj}, s.heap.get? b = some o → o.cls ≠ .type "list" → o.data ≠ .fields #[] → (hidT s.heap (firstH fr a TT)).get? b = some o := fun e c d => hidT_get e (firstH_o (offA e c) (offT e d))
  have downD : ∀ {b : Addr} {o : Obj} {es : Array DictEntry} {n : Nat}, s.heap.get? b = some o → o.data = .dict es n → (hidT s.heap (firstH fr a TT)).get? b = some o := fun {b o es n} e d => by
    refine hidT_get e (firstH_o (fun z => ?_) (offT e (fun z => by rw [d] at z; cases z)))
    rw [z, B.scr] at e
    rw [← Option.some.inj e] at d
    cases d
  have downN : ∀ {b : Addr} {m : Str → Option Value}, s.heap.Ns b m → (hidT s.heap (firstH fr a TT)).Ns b m := fun ⟨o, es, n, e, d, r⟩ => ⟨o, es, n, downD e d, d, r⟩
  have kin : K.In (hidT s.heap (firstH fr a TT)) := fun b o e => by
    refine hidT_get (B.kin b o e) ?_
    by_cases ea : b = a
    · rw [ea, firstH_a]
      exact frN o (ea ▸ e)
    · refine firstH_o ea fun m => ?_
      rw [noKT b m] at e; cases e
  have low : Low (hidT s.heap (firstH fr a TT)) aG greats := by
    obtain ⟨its, rv, o, e, c, n, d⟩ := B.low.ex
    exact ⟨⟨its, rv, o, down e (by rw [c]; intro z; exact absurd (Value.type.inj z) (by decide)) (by rw [d]; intro z; cases z), c, n, d⟩, B.low.sz⟩
  have ground : L2.Mod K mg (hidT s.heap (firstH fr a TT)) := by
    obtain ⟨mc, x1, x2⟩ := B.lim
    exact ⟨kin, downN B.g, ⟨mb, downN B.b, B.bb⟩, ⟨mc, downN x1, x2⟩⟩
  have tabB : ∀ p ∈ cs, TabB (hidT s.heap (firstH fr a TT)) mg p.1 p.2 := fun p m => by
    have tp := B.tab p m
    refine ⟨?_, ?_, fun z => ?_⟩
    · obtain ⟨o, us, file, tf, flags, tg, inF, text, tt, e, c, d, r3, r⟩ := B.code p m
      refine ⟨o, us, file, tf, flags, tg, inF, text, tt, down e (by rw [c]; intro z; exact absurd (Value.type.inj z) (by decide)) (fun z => ?_), c, d, r3, r⟩
      rw [d] at z
      cases z
      simp at r3
    · obtain ⟨m0, ob, b1, b2, b3, b4, b5, b6⟩ := B.bm
      have n1 : m0 ≠ mainGlobals := fun z => by
        obtain ⟨o, es, n, e, d, _⟩ := B.g
        rw [z, e] at b3
        rw [Option.some.inj b3, b6] at d; cases d
      have n2 : m0 ≠ p.2 := fun z => by
        rw [z, tp] at b3
        rw [← Option.some.inj b3] at b6; cases b6
      exact ⟨m0, ob, b1, b2, n1, n2, down b3 (by rw [b4]; intro z; exact absurd (Value.type.inj z) (by decide)) (by rw [b6]; intro z; cases z), b4, b5, b6⟩
    · obtain ⟨o, es, n, e, d, _⟩ := B.g
      rw [z, tp] at e
      rw [← Option.some.inj e] at d; cases d
  have e0 : Env0 P w K mg (hidT s.heap (firstH fr a TT)) callerA [] s (firstH fr a TT) :=
    ⟨rfl, ground, fun b o e => of_hidT e, Nat.le_of_eq (hidT_size _ _), trivial, fun b m => absurd (show b ∈ ([] : List Addr) from m) (by simp), hok, .of_eq B.gens⟩
  refine codeAny_mono ((prom _ kin (downN B.g) tabB low).runG callerA [] s (firstH fr a TT) ⟨[.ref a], []⟩ [.ref a] [.ref a] (fun v _ => v = .bl true) E0 rfl room e0 (bind s (.ref a)) (.cons rfl .nil) (want _ tabsH seen)) fun res s' fin => ?_
  match res, fin with
  | .ok (.ret u), fin =>
    obtain ⟨v, H', os, bare, un, hok', rel, told⟩ := fin
    have told : v = .bl true := told
    subst told
    obtain rfl : u = Value.bool true := rel
    have grown : ∀ b ∈ TT, ∃ more : Array Value, s'.heap.get? b = some { cls := .none, data := .fields more } := fun b m => by
      obtain ⟨more, z⟩ := un.tbls b #[] (firstH_t (fun e => aT (e ▸ m)) m)
      exact ⟨_, hok' b _ z⟩
    have kept : ∀ b o, b ∉ TT → s.heap.get? b = some o → s'.heap.get? b = some o := fun b o nm e => by
      cases q : firstH fr a TT b with
      | none => exact un.keep b o e q (fun z => absurd (show b ∈ ([] : List Addr) from z) (by simp)) (by simp)
      | some x =>
        rcases cases_ q with ⟨eb, ex⟩ | ⟨eb, _⟩
        · rw [ex] at q
          have z := hok' b _ (un.frzs b _ _ q)
          rw [eb, B.scr] at e
          rw [← Option.some.inj e]
          exact z.1
        · exact absurd eb nm
    refine ⟨rfl, ⟨fun b o e => ?_, fun b o e => ?_⟩, os, bare⟩
    · by_cases m : b ∈ TT
      · obtain ⟨p, mp, ep⟩ := List.mem_map.mp m
        obtain ⟨more, gr⟩ := grown b m
        have tp := B.tab p mp
        have same : o = { cls := .none, data := .fields #[] } := Option.some.inj (e.symm.trans (objT b m))
        rw [same]
        refine .inr (.inl ⟨ep ▸ ((B.code p mp).tab tp).isCodeTable, rfl, #[], more, rfl, ?_⟩)
        rw [Array.empty_append]; exact gr
      · exact .inl (kept b o m e)
    · by_cases m : b ∈ TT
      · obtain ⟨more, gr⟩ := grown b m
        exact ⟨_, gr⟩
      · exact ⟨o, kept b o m e⟩
  | .error _, fin => exact (show False from fin).elim
/-- the last theorem's walk -/
theorem walk_ofG {l : PySem.W.OpenLaw} {k : Nat} {q : Program} {loose : List Str} {XP : (Str → Option Value) → Heap → Prop} {YP : World → Heap → Prop} {d : DefRec} (hn : l.most = some 63) (hdf : d.params.defaults = []) (room : Room k callerA)
    (F : ∀ (w : World) (mg : Str → Option Value) (fa : Addr) (h : Heap), YP w h → h.Ns mainGlobals mg → mg d.name = some (.ref fa) →
      ∃ (K : PySem.W.Frag) (aG : Addr) (fd : FuncData), K.In h ∧ Low h aG greats ∧ (∀ (s : Shared) (u : Value), BindsTo s fd ⟨[u], []⟩ [("_law_script", u)]) ∧ ∀ low : Heap, K.In low → low.Ns mainGlobals mg → Low low aG greats → FnG l.prog w K mg low k fa fd ["_law_script"] (sp_law K)) :
    PySem.W.WalkO q loose XP YP l.row.toRowW d [] (fun f vs => PySem.call f vs) := by
  refine Att.attach_call hn hdf fun w s0 s1 mg mb fa o pm cd doc a vs ns G Y ho hd hcd hmg hobj hints hlen hg => ?_
  obtain ⟨K, aG, fd, kin, low, binds, ok⟩ := F w mg fa _ Y G.T.g hmg
  have B : Begin w K mg mb [] aG a vs s1 := ⟨kin, G.T.g, G.T.b, G.T.builtins, G.T.nolimit, hg, fun p m => absurd m (by simp), fun p m => absurd m (by simp), fun p m => absurd m (by simp), G.T.bmain, hobj, low⟩
  exact law_run B hints hlen room (fun lo k1 g1 _ l1 => ok lo k1 g1 l1) binds fun H _ hs => ⟨a, ns, rfl, hs, hlen, fun _ => rfl⟩
end Wk
set_option maxRecDepth 100000
set_option maxHeartbeats 0
namespace HdR
open PySem PySem.Spec L2 Wk PyProof.Rows
open SX (S S_len)
theorem facts {P : Program} {w : World} {K : PySem.W.Frag} {h : Heap} {mg : Str → Option Value} {fa : Addr} (X : K.In h) (G : h.Ns mainGlobals mg) (hfa : mg "law" = some (.ref fa)) (c : Hd.Says fs w K) :
    ∃ (aG : Addr) (fd : FuncData), Low h aG greats ∧ (∀ (s : Shared) (u : Value), BindsTo s fd ⟨[u], []⟩ [("_law_script", u)]) ∧ ∀ base : Heap, K.In base → base.Ns mainGlobals mg → Low base aG greats → FnG P w K mg base 11 fa fd ["_law_script"] (sp_law K) := by
  obtain ⟨tTAGS, c_TAGS⟩ := c.it 13 (x := "TAGS") (j := 8) rfl
  obtain ⟨tINTEGER_TAG, c_INTEGER_TAG⟩ := c.it 14 (x := "INTEGER_TAG") (j := 1) rfl
  obtain ⟨tLEAST_INTEGER, c_LEAST_INTEGER⟩ := c.it 15 (x := "LEAST_INTEGER") (j := -(2 ^ 59)) rfl
  obtain ⟨tLEAST_YOUNG, c_LEAST_YOUNG⟩ := c.it 16 (x := "LEAST_YOUNG") (j := 8) rfl
  obtain ⟨tMOST_YOUNG, c_MOST_YOUNG⟩ := c.it 17 (x := "MOST_YOUNG") (j := 100000) rfl
  obtain ⟨tMOST_OLD, c_MOST_OLD⟩ := c.it 18 (x := "MOST_OLD") (j := 1000000) rfl
  obtain ⟨tMOST_PACE, c_MOST_PACE⟩ := c.it 19 (x := "MOST_PACE") (j := 1000) rfl
  obtain ⟨c_GREATEST, dGREATEST, iGREATEST, nGREATEST, sGREATEST, l_GREATEST, v_GREATEST⟩ := c.tu 20 (x := "GREATEST") (xs := greats) rfl
  obtain ⟨tTHING_TAG, c_THING_TAG⟩ := c.it 21 (x := "THING_TAG") (j := 0) rfl
  obtain ⟨tNIL_WORD, c_NIL_WORD⟩ := c.it 22 (x := "NIL_WORD") (j := 3) rfl
  obtain ⟨tTEXT_SORT, c_TEXT_SORT⟩ := c.it 23 (x := "TEXT_SORT") (j := 0) rfl
  obtain ⟨tTIE_SORT, c_TIE_SORT⟩ := c.it 24 (x := "TIE_SORT") (j := 5) rfl
  obtain ⟨tAHEAD, c_AHEAD⟩ := c.it 25 (x := "AHEAD") (j := 2) rfl
  obtain ⟨tMOST_WORDS, c_MOST_WORDS⟩ := c.it 26 (x := "MOST_WORDS") (j := 60000) rfl
  obtain ⟨tFIRST_SIGN, c_FIRST_SIGN⟩ := c.it 27 (x := "FIRST_SIGN") (j := 32) rfl
  obtain ⟨tLAST_SIGN, c_LAST_SIGN⟩ := c.it 28 (x := "LAST_SIGN") (j := 126) rfl
  obtain ⟨tBARRED_SIGN, c_BARRED_SIGN⟩ := c.it 29 (x := "BARRED_SIGN") (j := 37) rfl
  obtain ⟨tGATHERS, c_GATHERS⟩ := c.it 30 (x := "GATHERS") (j := 0) rfl
  obtain ⟨tTURNS, c_TURNS⟩ := c.it 31 (x := "TURNS") (j := 1) rfl
  obtain ⟨tLOOKS, c_LOOKS⟩ := c.it 32 (x := "LOOKS") (j := 2) rfl
  obtain ⟨tWHOLES, c_WHOLES⟩ := c.it 33 (x := "WHOLES") (j := 3) rfl
  obtain ⟨tMOST_STEPS, c_MOST_STEPS⟩ := c.it 34 (x := "MOST_STEPS") (j := 1000000000) rfl
  obtain ⟨c_SORTS, dSORTS, iSORTS, nSORTS, sSORTS, l_SORTS, v_SORTS⟩ := c.tu 35 (x := "SORTS") (xs := sortL.map fun x => V.str (Str.ofString x)) rfl
  obtain ⟨c_NUM, iNUM, nNUM, l_NUM, t_NUM, b_NUM, v_NUM⟩ := c.di 36 (x := "SORT_NUMBERS") (kvs := numsL) rfl
  have uBound := He.cls_ok (c.fa 37 (f := .cls "Bound") rfl)
  have uHeap := He.cls_ok (c.fa 50 (f := .cls "Heap") rfl)
  have uRoom := He.cls_ok (c.fa 54 (f := .cls "Room") rfl)
  have uLayout := He.cls_ok (c.fa 58 (f := .cls "Layout") rfl)
  obtain ⟨z1, z2, z3, z4⟩ := Hd.iiB_ok (c.ii 59 (x := "Room") rfl)
  obtain ⟨x_d_is_integer, _⟩ := dft_of (st := s_is_integer) (ps := ["thing"]) X G (c.fa 72 (f := .glo "is_integer") rfl) (c.df (d := d_is_integer) 73 rfl) (fun _ _ _ _ _ _ us hl => match us, hl with | [_], _ => rfl)
  obtain ⟨x_d_is_of_tag, _⟩ := dft_of (st := s_is_of_tag) (ps := ["tag", "payload"]) X G (c.fa 74 (f := .glo "is_of_tag") rfl) (c.df (d := d_is_of_tag) 75 rfl) (fun _ _ _ _ _ _ us hl => match us, hl with | [_, _], _ => rfl)
  obtain ⟨x_d_is_word, _⟩ := dft_of (st := s_is_word) (ps := ["thing"]) X G (c.fa 76 (f := .glo "is_word") rfl) (c.df (d := d_is_word) 77 rfl) (fun _ _ _ _ _ _ us hl => match us, hl with | [_], _ => rfl)
  obtain ⟨x_d_is_things, _⟩ := dft_of (st := s_is_things) (ps := ["word"]) X G (c.fa 78 (f := .glo "is_things") rfl) (c.df (d := d_is_things) 79 rfl) (fun _ _ _ _ _ _ us hl => match us, hl with | [_], _ => rfl)
  obtain ⟨x_d_is_sign, _⟩ := dft_of (st := s_is_sign) (ps := ["number"]) X G (c.fa 80 (f := .glo "is_sign") rfl) (c.df (d := d_is_sign) 81 rfl) (fun _ _ _ _ _ _ us hl => match us, hl with | [_], _ => rfl)
  obtain ⟨x_d_is_signs, _⟩ := dft_of (st := s_is_signs) (ps := ["word"]) X G (c.fa 82 (f := .glo "is_signs") rfl) (c.df (d := d_is_signs) 83 rfl) (fun _ _ _ _ _ _ us hl => match us, hl with | [_], _ => rfl)
  obtain ⟨x_d_may_be_many, _⟩ := dft_of (st := s_may_be_many) (ps := ["sort", "many"]) X G (c.fa 84 (f := .glo "may_be_many") rfl) (c.df (d := d_may_be_many) 85 rfl) (fun _ _ _ _ _ _ us hl => match us, hl with | [_, _], _ => rfl)
  obtain ⟨x_d_may_stand, _⟩ := dft_of (st := s_may_stand) (ps := ["sort", "place", "word"]) X G (c.fa 86 (f := .glo "may_stand") rfl) (c.df (d := d_may_stand) 87 rfl) (fun _ _ _ _ _ _ us hl => match us, hl with | [_, _, _], _ => rfl)
  obtain ⟨x_d_may_be, _⟩ := dft_of (st := s_may_be) (ps := ["sort", "found"]) X G (c.fa 88 (f := .glo "may_be") rfl) (c.df (d := d_may_be) 89 rfl) (fun _ _ _ _ _ _ us hl => match us, hl with | [_, _], _ => rfl)
  obtain ⟨x_d_is_many_steps, _⟩ := dft_of (st := s_is_many_steps) (ps := ["thing"]) X G (c.fa 90 (f := .glo "is_many_steps") rfl) (c.df (d := d_is_many_steps) 91 rfl) (fun _ _ _ _ _ _ us hl => match us, hl with | [_], _ => rfl)
  obtain ⟨x_b_begin_of⟩ := mdt_of (C := "Bound") (x := "begin_of") (st := s_Bound__begin_of) (ps := ["self", "half"]) (c.fa 92 (f := .meth "Bound" "begin_of") rfl) (c.df (d := d_Bound__begin_of) 93 rfl) (fun _ _ _ _ _ _ us hl => match us, hl with | [_, _], _ => rfl)
  obtain ⟨x_b_end_of⟩ := mdt_of (C := "Bound") (x := "end_of") (st := s_Bound__end_of) (ps := ["self", "at"]) (c.fa 94 (f := .meth "Bound" "end_of") rfl) (c.df (d := d_Bound__end_of) 95 rfl) (fun _ _ _ _ _ _ us hl => match us, hl with | [_, _], _ => rfl)
  obtain ⟨x_b_moved⟩ := mdt_of (C := "Bound") (x := "moved") (st := s_Bound__moved) (ps := ["self", "at"]) (c.fa 96 (f := .meth "Bound" "moved") rfl) (c.df (d := d_Bound__moved) 97 rfl) (fun _ _ _ _ _ _ us hl => match us, hl with | [_, _], _ => rfl)
  obtain ⟨x_b_lead_on⟩ := mdt_of (C := "Bound") (x := "lead_on") (st := s_Bound__lead_on) (ps := ["self", "places", "low", "high"]) (c.fa 98 (f := .meth "Bound" "lead_on") rfl) (c.df (d := d_Bound__lead_on) 99 rfl) (fun _ _ _ _ _ _ us hl => match us, hl with | [_, _, _, _], _ => rfl)
  obtain ⟨x_h_root_rows⟩ := mdt_of (C := "Heap") (x := "root_rows") (st := s_Heap__root_rows) (ps := ["self"]) (c.fa 100 (f := .meth "Heap" "root_rows") rfl) (c.df (d := d_Heap__root_rows) 101 rfl) (fun _ _ _ _ _ _ us hl => match us, hl with | [_], _ => rfl)
  obtain ⟨x_b_lead_roots⟩ := mdt_of (C := "Bound") (x := "lead_roots") (st := s_Bound__lead_roots) (ps := ["self", "low", "high"]) (c.fa 102 (f := .meth "Bound" "lead_roots") rfl) (c.df (d := d_Bound__lead_roots) 103 rfl) (fun _ _ _ _ _ _ us hl => match us, hl with | [_, _, _], _ => rfl)
  obtain ⟨x_b_filled_words⟩ := mdt_of (C := "Bound") (x := "filled_words") (st := s_Bound__filled_words) (ps := ["self"]) (c.fa 104 (f := .meth "Bound" "filled_words") rfl) (c.df (d := d_Bound__filled_words) 105 rfl) (fun _ _ _ _ _ _ us hl => match us, hl with | [_], _ => rfl)
  obtain ⟨x_b_remember⟩ := mdt_of (C := "Bound") (x := "remember") (st := s_Bound__remember) (ps := ["self", "place", "word"]) (c.fa 106 (f := .meth "Bound" "remember") rfl) (c.df (d := d_Bound__remember) 107 rfl) (fun _ _ _ _ _ _ us hl => match us, hl with | [_, _, _], _ => rfl)
  obtain ⟨x_b_empty_nursery⟩ := mdt_of (C := "Bound") (x := "empty_nursery") (st := s_Bound__empty_nursery) (ps := ["self"]) (c.fa 108 (f := .meth "Bound" "empty_nursery") rfl) (c.df (d := d_Bound__empty_nursery) 109 rfl) (fun _ _ _ _ _ _ us hl => match us, hl with | [_], _ => rfl)
  obtain ⟨x_b_change_halves⟩ := mdt_of (C := "Bound") (x := "change_halves") (st := s_Bound__change_halves) (ps := ["self"]) (c.fa 110 (f := .meth "Bound" "change_halves") rfl) (c.df (d := d_Bound__change_halves) 111 rfl) (fun _ _ _ _ _ _ us hl => match us, hl with | [_], _ => rfl)
  obtain ⟨x_b_end_if_done⟩ := mdt_of (C := "Bound") (x := "end_if_done") (st := s_Bound__end_if_done) (ps := ["self"]) (c.fa 112 (f := .meth "Bound" "end_if_done") rfl) (c.df (d := d_Bound__end_if_done) 113 rfl) (fun _ _ _ _ _ _ us hl => match us, hl with | [_], _ => rfl)
  obtain ⟨x_b_write⟩ := mdt_of (C := "Bound") (x := "write") (st := s_Bound__write) (ps := ["self", "at", "place", "word"]) (c.fa 114 (f := .meth "Bound" "write") rfl) (c.df (d := d_Bound__write) 115 rfl) (fun _ _ _ _ _ _ us hl => match us, hl with | [_, _, _, _], _ => rfl)
  obtain ⟨x_b_lead_left⟩ := mdt_of (C := "Bound") (x := "lead_left") (st := s_Bound__lead_left) (ps := ["self", "begin", "end"]) (c.fa 116 (f := .meth "Bound" "lead_left") rfl) (c.df (d := d_Bound__lead_left) 117 rfl) (fun _ _ _ _ _ _ us hl => match us, hl with | [_, _, _], _ => rfl)
  obtain ⟨x_b_gather⟩ := mdt_of (C := "Bound") (x := "gather") (st := s_Bound__gather) (ps := ["self"]) (c.fa 118 (f := .meth "Bound" "gather") rfl) (c.df (d := d_Bound__gather) 119 rfl) (fun _ _ _ _ _ _ us hl => match us, hl with | [_], _ => rfl)
  obtain ⟨x_b_steps⟩ := mdt_of (C := "Bound") (x := "steps") (st := s_Bound__steps) (ps := ["self", "many"]) (c.fa 120 (f := .meth "Bound" "steps") rfl) (c.df (d := d_Bound__steps) 121 rfl) (fun _ _ _ _ _ _ us hl => match us, hl with | [_, _], _ => rfl)
  obtain ⟨x_b_end_turn⟩ := mdt_of (C := "Bound") (x := "end_turn") (st := s_Bound__end_turn) (ps := ["self"]) (c.fa 122 (f := .meth "Bound" "end_turn") rfl) (c.df (d := d_Bound__end_turn) 123 rfl) (fun _ _ _ _ _ _ us hl => match us, hl with | [_], _ => rfl)
  obtain ⟨x_b_turn⟩ := mdt_of (C := "Bound") (x := "turn") (st := s_Bound__turn) (ps := ["self"]) (c.fa 124 (f := .meth "Bound" "turn") rfl) (c.df (d := d_Bound__turn) 125 rfl) (fun _ _ _ _ _ _ us hl => match us, hl with | [_], _ => rfl)
  obtain ⟨x_b_copy_all⟩ := mdt_of (C := "Bound") (x := "copy_all") (st := s_Bound__copy_all) (ps := ["self", "is_tie_followed"]) (c.fa 126 (f := .meth "Bound" "copy_all") rfl) (c.df (d := d_Bound__copy_all) 127 rfl) (fun _ _ _ _ _ _ us hl => match us, hl with | [_, _], _ => rfl)
  obtain ⟨x_b_whole⟩ := mdt_of (C := "Bound") (x := "whole") (st := s_Bound__whole) (ps := ["self"]) (c.fa 128 (f := .meth "Bound" "whole") rfl) (c.df (d := d_Bound__whole) 129 rfl) (fun _ _ _ _ _ _ us hl => match us, hl with | [_], _ => rfl)
  obtain ⟨x_b_reserve⟩ := mdt_of (C := "Bound") (x := "reserve") (st := s_Bound__reserve) (ps := ["self", "many"]) (c.fa 130 (f := .meth "Bound" "reserve") rfl) (c.df (d := d_Bound__reserve) 131 rfl) (fun _ _ _ _ _ _ us hl => match us, hl with | [_, _], _ => rfl)
  obtain ⟨x_b_place⟩ := mdt_of (C := "Bound") (x := "place") (st := s_Bound__place) (ps := ["self", "sort", "found"]) (c.fa 132 (f := .meth "Bound" "place") rfl) (c.df (d := d_Bound__place) 133 rfl) (fun _ _ _ _ _ _ us hl => match us, hl with | [_, _, _], _ => rfl)
  obtain ⟨x_b_settled⟩ := mdt_of (C := "Bound") (x := "settled") (st := s_Laid__settled) (ps := ["self", "at"]) (c.fa 134 (f := .meth "Bound" "settled") rfl) (c.df (d := d_Laid__settled) 135 rfl) (fun _ _ _ _ _ _ us hl => match us, hl with | [_, _], _ => rfl)
  obtain ⟨x_b_sort_at⟩ := mdt_of (C := "Bound") (x := "sort_at") (st := s_Laid__sort_at) (ps := ["self", "at"]) (c.fa 136 (f := .meth "Bound" "sort_at") rfl) (c.df (d := d_Laid__sort_at) 137 rfl) (fun _ _ _ _ _ _ us hl => match us, hl with | [_, _], _ => rfl)
  obtain ⟨x_b_size_at⟩ := mdt_of (C := "Bound") (x := "size_at") (st := s_Laid__size_at) (ps := ["self", "at"]) (c.fa 138 (f := .meth "Bound" "size_at") rfl) (c.df (d := d_Laid__size_at) 139 rfl) (fun _ _ _ _ _ _ us hl => match us, hl with | [_, _], _ => rfl)
  obtain ⟨x_b_number_at⟩ := mdt_of (C := "Bound") (x := "number_at") (st := s_Laid__number_at) (ps := ["self", "at"]) (c.fa 140 (f := .meth "Bound" "number_at") rfl) (c.df (d := d_Laid__number_at) 141 rfl) (fun _ _ _ _ _ _ us hl => match us, hl with | [_, _], _ => rfl)
  obtain ⟨x_b_words_at⟩ := mdt_of (C := "Bound") (x := "words_at") (st := s_Laid__words_at) (ps := ["self", "at"]) (c.fa 142 (f := .meth "Bound" "words_at") rfl) (c.df (d := d_Laid__words_at) 143 rfl) (fun _ _ _ _ _ _ us hl => match us, hl with | [_, _], _ => rfl)
  obtain ⟨x_b_counted_deeds⟩ := mdt_of (C := "Bound") (x := "counted_deeds") (st := s_Bound__counted_deeds) (ps := ["self"]) (c.fa 144 (f := .meth "Bound" "counted_deeds") rfl) (c.df (d := d_Bound__counted_deeds) 145 rfl) (fun _ _ _ _ _ _ us hl => match us, hl with | [_], _ => rfl)
  obtain ⟨x_b_told_words⟩ := mdt_of (C := "Bound") (x := "told_words") (st := s_Bound__told_words) (ps := ["self"]) (c.fa 146 (f := .meth "Bound" "told_words") rfl) (c.df (d := d_Bound__told_words) 147 rfl) (fun _ _ _ _ _ _ us hl => match us, hl with | [_], _ => rfl)
  obtain ⟨x_d_addresses_in, _⟩ := dft_of (st := s_addresses_in) (ps := ["store", "found"]) X G (c.fa 148 (f := .glo "addresses_in") rfl) (c.df (d := d_addresses_in) 149 rfl) (fun _ _ _ _ _ _ us hl => match us, hl with | [_, _], _ => rfl)
  obtain ⟨x_d_room_of, _⟩ := dft_of (st := s_room_of) (ps := ["store", "found"]) X G (c.fa 150 (f := .glo "room_of") rfl) (c.df (d := d_room_of) 151 rfl) (fun _ _ _ _ _ _ us hl => match us, hl with | [_, _], _ => rfl)
  obtain ⟨x_d_come_to, _⟩ := dft_of (st := s_come_to) (ps := ["store", "begins", "is_tie_followed"]) X G (c.fa 152 (f := .glo "come_to") rfl) (c.df (d := d_come_to) 153 rfl) (fun _ _ _ _ _ _ us hl => match us, hl with | [_, _, _], _ => rfl)
  obtain ⟨x_h_word_held⟩ := mdt_of (C := "Heap") (x := "word_held") (st := s_Heap__word_held) (ps := ["self", "handle"]) (c.fa 154 (f := .meth "Heap" "word_held") rfl) (c.df (d := d_Heap__word_held) 155 rfl) (fun _ _ _ _ _ _ us hl => match us, hl with | [_, _], _ => rfl)
  obtain ⟨x_h_address_held⟩ := mdt_of (C := "Heap") (x := "address_held") (st := s_Heap__address_held) (ps := ["self", "handle"]) (c.fa 156 (f := .meth "Heap" "address_held") rfl) (c.df (d := d_Heap__address_held) 157 rfl) (fun _ _ _ _ _ _ us hl => match us, hl with | [_, _], _ => rfl)
  obtain ⟨x_h_is_item⟩ := mdt_of (C := "Heap") (x := "is_item") (st := s_Heap__is_item) (ps := ["self", "thing"]) (c.fa 158 (f := .meth "Heap" "is_item") rfl) (c.df (d := d_Heap__is_item) 159 rfl) (fun _ _ _ _ _ _ us hl => match us, hl with | [_, _], _ => rfl)
  obtain ⟨x_h_word_of_item⟩ := mdt_of (C := "Heap") (x := "word_of_item") (st := s_Heap__word_of_item) (ps := ["self", "item"]) (c.fa 160 (f := .meth "Heap" "word_of_item") rfl) (c.df (d := d_Heap__word_of_item) 161 rfl) (fun _ _ _ _ _ _ us hl => match us, hl with | [_, _], _ => rfl)
  obtain ⟨x_h_address_with_place⟩ := mdt_of (C := "Heap") (x := "address_with_place") (st := s_Heap__address_with_place) (ps := ["self", "handle", "place"]) (c.fa 162 (f := .meth "Heap" "address_with_place") rfl) (c.df (d := d_Heap__address_with_place) 163 rfl) (fun _ _ _ _ _ _ us hl => match us, hl with | [_, _, _], _ => rfl)
  obtain ⟨x_h_give_handle⟩ := mdt_of (C := "Heap") (x := "give_handle") (st := s_Heap__give_handle) (ps := ["self", "word"]) (c.fa 164 (f := .meth "Heap" "give_handle") rfl) (c.df (d := d_Heap__give_handle) 165 rfl) (fun _ _ _ _ _ _ us hl => match us, hl with | [_, _], _ => rfl)
  obtain ⟨x_h_drop⟩ := mdt_of (C := "Heap") (x := "drop") (st := s_Heap__drop) (ps := ["self", "handle"]) (c.fa 166 (f := .meth "Heap" "drop") rfl) (c.df (d := d_Heap__drop) 167 rfl) (fun _ _ _ _ _ _ us hl => match us, hl with | [_, _], _ => rfl)
  obtain ⟨x_h_root_pairs⟩ := mdt_of (C := "Heap") (x := "root_pairs") (st := s_Heap__root_pairs) (ps := ["self"]) (c.fa 168 (f := .meth "Heap" "root_pairs") rfl) (c.df (d := d_Heap__root_pairs) 169 rfl) (fun _ _ _ _ _ _ us hl => match us, hl with | [_], _ => rfl)
  obtain ⟨x_h_come_to_from_handles⟩ := mdt_of (C := "Heap") (x := "come_to_from_handles") (st := s_Heap__come_to_from_handles) (ps := ["self", "is_tie_followed"]) (c.fa 170 (f := .meth "Heap" "come_to_from_handles") rfl) (c.df (d := d_Heap__come_to_from_handles) 171 rfl) (fun _ _ _ _ _ _ us hl => match us, hl with | [_, _], _ => rfl)
  obtain ⟨x_h_filled⟩ := mdt_of (C := "Heap") (x := "filled") (st := s_Heap__filled) (ps := ["self"]) (c.fa 172 (f := .meth "Heap" "filled") rfl) (c.df (d := d_Heap__filled) 173 rfl) (fun _ _ _ _ _ _ us hl => match us, hl with | [_], _ => rfl)
  obtain ⟨x_h_gather⟩ := mdt_of (C := "Heap") (x := "gather") (st := s_Heap__gather) (ps := ["self"]) (c.fa 174 (f := .meth "Heap" "gather") rfl) (c.df (d := d_Heap__gather) 175 rfl) (fun _ _ _ _ _ _ us hl => match us, hl with | [_], _ => rfl)
  obtain ⟨x_h_turn⟩ := mdt_of (C := "Heap") (x := "turn") (st := s_Heap__turn) (ps := ["self"]) (c.fa 176 (f := .meth "Heap" "turn") rfl) (c.df (d := d_Heap__turn) 177 rfl) (fun _ _ _ _ _ _ us hl => match us, hl with | [_], _ => rfl)
  obtain ⟨x_h_whole⟩ := mdt_of (C := "Heap") (x := "whole") (st := s_Heap__whole) (ps := ["self"]) (c.fa 178 (f := .meth "Heap" "whole") rfl) (c.df (d := d_Heap__whole) 179 rfl) (fun _ _ _ _ _ _ us hl => match us, hl with | [_], _ => rfl)
  obtain ⟨x_h_steps⟩ := mdt_of (C := "Heap") (x := "steps") (st := s_Heap__steps) (ps := ["self", "many"]) (c.fa 180 (f := .meth "Heap" "steps") rfl) (c.df (d := d_Heap__steps) 181 rfl) (fun _ _ _ _ _ _ us hl => match us, hl with | [_, _], _ => rfl)
  obtain ⟨x_h_counts⟩ := mdt_of (C := "Heap") (x := "counts") (st := s_Heap__counts) (ps := ["self"]) (c.fa 182 (f := .meth "Heap" "counts") rfl) (c.df (d := d_Heap__counts) 183 rfl) (fun _ _ _ _ _ _ us hl => match us, hl with | [_], _ => rfl)
  obtain ⟨x_h_write⟩ := mdt_of (C := "Heap") (x := "write") (st := s_Heap__write) (ps := ["self", "handle", "place", "item"]) (c.fa 184 (f := .meth "Heap" "write") rfl) (c.df (d := d_Heap__write) 185 rfl) (fun _ _ _ _ _ _ us hl => match us, hl with | [_, _, _, _], _ => rfl)
  obtain ⟨x_h_make⟩ := mdt_of (C := "Heap") (x := "make") (st := s_Heap__make) (ps := ["self", "sort", "items"]) (c.fa 186 (f := .meth "Heap" "make") rfl) (c.df (d := d_Heap__make) 187 rfl) (fun _ _ _ _ _ _ us hl => match us, hl with | [_, _, _], _ => rfl)
  obtain ⟨x_d_check_room, _⟩ := dft_of (st := s_check_room) (ps := ["thing"]) X G (c.fa 188 (f := .glo "check_room") rfl) (c.df (d := d_check_room) 189 rfl) (fun _ _ _ _ _ _ us hl => match us, hl with | [_], _ => rfl)
  obtain ⟨x_c_Layout⟩ := ckt_of (x := "Layout") (st := s_Layout____init__) (ps := ["self", "room", "words", "use", "free", "scan", "top", "left", "copied", "remembered", "roots", "last"]) X G (c.fa 190 (f := .glo "Layout") rfl) (c.fa 191 (f := .mkr "Layout") rfl) (c.fa 192 (f := .meth "Layout" "__init__") rfl) (c.df (d := d_Layout____init__) 193 rfl) (fun _ _ _ _ _ _ us hl => match us, hl with | [_, _, _, _, _, _, _, _, _, _, _, _], _ => rfl)
  obtain ⟨x_d_layout_with, _⟩ := dft_of (st := s_layout_with) (ps := ["store", "roots"]) X G (c.fa 194 (f := .glo "layout_with") rfl) (c.df (d := d_layout_with) 195 rfl) (fun _ _ _ _ _ _ us hl => match us, hl with | [_, _], _ => rfl)
  obtain ⟨x_h_layout⟩ := mdt_of (C := "Heap") (x := "layout") (st := s_Heap__layout) (ps := ["self"]) (c.fa 196 (f := .meth "Heap" "layout") rfl) (c.df (d := d_Heap__layout) 197 rfl) (fun _ _ _ _ _ _ us hl => match us, hl with | [_], _ => rfl)
  obtain ⟨x_i_Laid⟩ := unt_of (x := "Laid") (st := s_Laid____init__) (ps := ["self", "words"]) X G (c.fa 198 (f := .glo "Laid") rfl) (c.un 199 (x := "Laid") (m := "__init__") rfl) (c.df (d := d_Laid____init__) 200 rfl) (fun _ _ _ _ _ _ us hl => match us, hl with | [_, _], _ => rfl)
  obtain ⟨x_c_Bound⟩ := ckt_of (x := "Bound") (st := s_Bound____init__) (ps := ["self", "room", "owner"]) X G (c.fa 201 (f := .glo "Bound") rfl) (c.fa 202 (f := .mkr "Bound") rfl) (c.fa 203 (f := .meth "Bound" "__init__") rfl) (c.df (d := d_Bound____init__) 204 rfl) (fun _ _ _ _ _ _ us hl => match us, hl with | [_, _, _], _ => rfl)
  obtain ⟨x_d_store_for, _⟩ := dft_of (st := s_store_for) (ps := ["room", "owner"]) X G (c.fa 205 (f := .glo "store_for") rfl) (c.df (d := d_store_for) 206 rfl) (fun _ _ _ _ _ _ us hl => match us, hl with | [_, _], _ => rfl)
  obtain ⟨x_c_Heap⟩ := ckt_of (x := "Heap") (st := s_Heap____init__) (ps := ["self", "room"]) X G (c.fa 207 (f := .glo "Heap") rfl) (c.fa 208 (f := .mkr "Heap") rfl) (c.fa 209 (f := .meth "Heap" "__init__") rfl) (c.df (d := d_Heap____init__) 210 rfl) (fun _ _ _ _ _ _ us hl => match us, hl with | [_, _], _ => rfl)
  obtain ⟨x_c_Room⟩ := ckt_of (x := "Room") (st := s_Room____init__) (ps := ["self", "young", "old", "pace"]) X G (c.fa 60 (f := .glo "Room") rfl) (c.fa 211 (f := .mkr "Room") rfl) (c.fa 212 (f := .meth "Room" "__init__") rfl) (c.df (d := d_Room____init__) 213 rfl) (fun _ _ _ _ _ _ us hl => match us, hl with | [_, _, _, _], _ => rfl)
  obtain ⟨x_d__law_bag, _⟩ := dft_of (st := s__law_bag) (ps := ["_law_script"]) X G (c.fa 214 (f := .glo "_law_bag") rfl) (c.df (d := d__law_bag) 215 rfl) (fun _ _ _ _ _ _ us hl => match us, hl with | [_], _ => rfl)
  obtain ⟨x_d__law_pick, _⟩ := dft_of (st := s__law_pick) (ps := ["_law_bag_here", "_law_many"]) X G (c.fa 216 (f := .glo "_law_pick") rfl) (c.df (d := d__law_pick) 217 rfl) (fun _ _ _ _ _ _ us hl => match us, hl with | [_, _], _ => rfl)
  obtain ⟨x_d__law_is, _⟩ := dft_of (st := s__law_is) (ps := ["_law_found", "_law_due"]) X G (c.fa 218 (f := .glo "_law_is") rfl) (c.df (d := d__law_is) 219 rfl) (fun _ _ _ _ _ _ us hl => match us, hl with | [_, _], _ => rfl)
  obtain ⟨x_d__law_chain, _⟩ := dft_of (st := s__law_chain) (ps := ["_law_heap", "_law_many"]) X G (c.fa 220 (f := .glo "_law_chain") rfl) (c.df (d := d__law_chain) 221 rfl) (fun _ _ _ _ _ _ us hl => match us, hl with | [_, _], _ => rfl)
  obtain ⟨x_d__law_lies, _⟩ := dft_of (st := s__law_lies) (ps := ["_law_layout", "_law_begin", "_law_numbers"]) X G (c.fa 222 (f := .glo "_law_lies") rfl) (c.df (d := d__law_lies) 223 rfl) (fun _ _ _ _ _ _ us hl => match us, hl with | [_, _, _], _ => rfl)
  obtain ⟨x_d__law_turn_right, _⟩ := dft_of (st := s__law_turn_right) (ps := ["_law_bag_here"]) X G (c.fa 224 (f := .glo "_law_turn_right") rfl) (c.df (d := d__law_turn_right) 225 rfl) (fun _ _ _ _ _ _ us hl => match us, hl with | [_], _ => rfl)
  obtain ⟨x_d__law_pace_right, _⟩ := dft_of (st := s__law_pace_right) (ps := ["_law_bag_here"]) X G (c.fa 226 (f := .glo "_law_pace_right") rfl) (c.df (d := d__law_pace_right) 227 rfl) (fun _ _ _ _ _ _ us hl => match us, hl with | [_], _ => rfl)
  obtain ⟨x_d__law_great_right, _⟩ := dft_of (st := s__law_great_right) (ps := ["_law_bag_here"]) X G (c.fa 228 (f := .glo "_law_great_right") rfl) (c.df (d := d__law_great_right) 229 rfl) (fun _ _ _ _ _ _ us hl => match us, hl with | [_], _ => rfl)
  let T5 : Txt5 K w mg := {
    tTHING_TAG := tTHING_TAG, mTHING_TAG := PySem.W.mg_of X G c_THING_TAG,
    tNIL_WORD := tNIL_WORD, mNIL_WORD := PySem.W.mg_of X G c_NIL_WORD,
    tTEXT_SORT := tTEXT_SORT, mTEXT_SORT := PySem.W.mg_of X G c_TEXT_SORT,
    tTIE_SORT := tTIE_SORT, mTIE_SORT := PySem.W.mg_of X G c_TIE_SORT,
    tAHEAD := tAHEAD, mAHEAD := PySem.W.mg_of X G c_AHEAD,
    tMOST_WORDS := tMOST_WORDS, mMOST_WORDS := PySem.W.mg_of X G c_MOST_WORDS,
    tFIRST_SIGN := tFIRST_SIGN, mFIRST_SIGN := PySem.W.mg_of X G c_FIRST_SIGN,
    tLAST_SIGN := tLAST_SIGN, mLAST_SIGN := PySem.W.mg_of X G c_LAST_SIGN,
    tBARRED_SIGN := tBARRED_SIGN, mBARRED_SIGN := PySem.W.mg_of X G c_BARRED_SIGN,
    tGATHERS := tGATHERS, mGATHERS := PySem.W.mg_of X G c_GATHERS,
    tTURNS := tTURNS, mTURNS := PySem.W.mg_of X G c_TURNS,
    tLOOKS := tLOOKS, mLOOKS := PySem.W.mg_of X G c_LOOKS,
    tWHOLES := tWHOLES, mWHOLES := PySem.W.mg_of X G c_WHOLES,
    tMOST_STEPS := tMOST_STEPS, mMOST_STEPS := PySem.W.mg_of X G c_MOST_STEPS,
    aSORTS := _, mSORTS := PySem.W.mg_of X G c_SORTS, kSORTS := seq_K l_SORTS (Hd.size_of v_SORTS (Nat.le_of_ble_eq_true rfl)) v_SORTS,
    aNUMBERS := _, mNUMBERS := PySem.W.mg_of X G c_NUM }
  have TN : TxtN K w T5 := ⟨⟨⟨iNUM, nNUM, ⟨l_NUM, t_NUM, b_NUM⟩, v_NUM⟩⟩⟩
  let C : Cs K := {
    B := He.ga K "Bound",
    bcl := ⟨uBound.pg, uBound.hd, uBound.po, uBound.sa⟩,
    words := He.noat_ok (c.fa 38 (f := .noat "Bound" "words") rfl),
    room := He.noat_ok (c.fa 39 (f := .noat "Bound" "room") rfl),
    owner := He.noat_ok (c.fa 40 (f := .noat "Bound" "owner") rfl),
    use := He.noat_ok (c.fa 41 (f := .noat "Bound" "use") rfl),
    free := He.noat_ok (c.fa 42 (f := .noat "Bound" "free") rfl),
    scan := He.noat_ok (c.fa 43 (f := .noat "Bound" "scan") rfl),
    top := He.noat_ok (c.fa 44 (f := .noat "Bound" "top") rfl),
    left := He.noat_ok (c.fa 45 (f := .noat "Bound" "left") rfl),
    copied := He.noat_ok (c.fa 46 (f := .noat "Bound" "copied") rfl),
    rem := He.noat_ok (c.fa 47 (f := .noat "Bound" "remembered") rfl),
    last := He.noat_ok (c.fa 48 (f := .noat "Bound" "last") rfl),
    tally := He.noat_ok (c.fa 49 (f := .noat "Bound" "tally") rfl),
    H := He.ga K "Heap",
    hcl := ⟨uHeap.pg, uHeap.hd, uHeap.po, uHeap.sa⟩,
    handles := He.noat_ok (c.fa 51 (f := .noat "Heap" "handles") rfl),
    next := He.noat_ok (c.fa 52 (f := .noat "Heap" "next_handle") rfl),
    store := He.noat_ok (c.fa 53 (f := .noat "Heap" "store") rfl),
    R := He.ga K "Room",
    rcl := ⟨uRoom.pg, uRoom.hd, uRoom.po, uRoom.sa⟩,
    young := He.noat_ok (c.fa 55 (f := .noat "Room" "young") rfl),
    old := He.noat_ok (c.fa 56 (f := .noat "Room" "old") rfl),
    pace := He.noat_ok (c.fa 57 (f := .noat "Room" "pace") rfl) }
  let C2 : Cs2 K mg C := {
    gR := PySem.W.mg_of X G (He.eqO_ok (c.fa 60 (f := .glo "Room") rfl)),
    ha := z1, hn := z2, ht := z3, hm := z4,
    L := He.ga K "Layout",
    lcl := ⟨uLayout.pg, uLayout.hd, uLayout.po, uLayout.sa⟩,
    l1 := He.noat_ok (c.fa 61 (f := .noat "Layout" "room") rfl),
    l2 := He.noat_ok (c.fa 62 (f := .noat "Layout" "words") rfl),
    l3 := He.noat_ok (c.fa 63 (f := .noat "Layout" "use") rfl),
    l4 := He.noat_ok (c.fa 64 (f := .noat "Layout" "free") rfl),
    l5 := He.noat_ok (c.fa 65 (f := .noat "Layout" "scan") rfl),
    l6 := He.noat_ok (c.fa 66 (f := .noat "Layout" "top") rfl),
    l7 := He.noat_ok (c.fa 67 (f := .noat "Layout" "left") rfl),
    l8 := He.noat_ok (c.fa 68 (f := .noat "Layout" "copied") rfl),
    l9 := He.noat_ok (c.fa 69 (f := .noat "Layout" "remembered") rfl),
    l10 := He.noat_ok (c.fa 70 (f := .noat "Layout" "roots") rfl),
    l11 := He.noat_ok (c.fa 71 (f := .noat "Layout" "last") rfl) }
  let I : AllI K mg C C2 := {
    d_is_integer := x_d_is_integer,
    d_is_of_tag := x_d_is_of_tag,
    d_is_word := x_d_is_word,
    d_is_things := x_d_is_things,
    d_is_sign := x_d_is_sign,
    d_is_signs := x_d_is_signs,
    d_may_be_many := x_d_may_be_many,
    d_may_stand := x_d_may_stand,
    d_may_be := x_d_may_be,
    d_is_many_steps := x_d_is_many_steps,
    b_begin_of := x_b_begin_of,
    b_end_of := x_b_end_of,
    b_moved := x_b_moved,
    b_lead_on := x_b_lead_on,
    h_root_rows := x_h_root_rows,
    b_lead_roots := x_b_lead_roots,
    b_filled_words := x_b_filled_words,
    b_remember := x_b_remember,
    b_empty_nursery := x_b_empty_nursery,
    b_change_halves := x_b_change_halves,
    b_end_if_done := x_b_end_if_done,
    b_write := x_b_write,
    b_lead_left := x_b_lead_left,
    b_gather := x_b_gather,
    b_steps := x_b_steps,
    b_end_turn := x_b_end_turn,
    b_turn := x_b_turn,
    b_copy_all := x_b_copy_all,
    b_whole := x_b_whole,
    b_reserve := x_b_reserve,
    b_place := x_b_place,
    b_settled := x_b_settled,
    b_sort_at := x_b_sort_at,
    b_size_at := x_b_size_at,
    b_number_at := x_b_number_at,
    b_words_at := x_b_words_at,
    b_counted_deeds := x_b_counted_deeds,
    b_told_words := x_b_told_words,
    d_addresses_in := x_d_addresses_in,
    d_room_of := x_d_room_of,
    d_come_to := x_d_come_to,
    h_word_held := x_h_word_held,
    h_address_held := x_h_address_held,
    h_is_item := x_h_is_item,
    h_word_of_item := x_h_word_of_item,
    h_address_with_place := x_h_address_with_place,
    h_give_handle := x_h_give_handle,
    h_drop := x_h_drop,
    h_root_pairs := x_h_root_pairs,
    h_come_to_from_handles := x_h_come_to_from_handles,
    h_filled := x_h_filled,
    h_gather := x_h_gather,
    h_turn := x_h_turn,
    h_whole := x_h_whole,
    h_steps := x_h_steps,
    h_counts := x_h_counts,
    h_write := x_h_write,
    h_make := x_h_make,
    d_check_room := x_d_check_room,
    c_Layout := x_c_Layout,
    d_layout_with := x_d_layout_with,
    h_layout := x_h_layout,
    i_Laid := x_i_Laid,
    c_Bound := x_c_Bound,
    d_store_for := x_d_store_for,
    c_Heap := x_c_Heap,
    c_Room := x_c_Room,
    d__law_bag := x_d__law_bag,
    d__law_pick := x_d__law_pick,
    d__law_is := x_d__law_is,
    d__law_chain := x_d__law_chain,
    d__law_lies := x_d__law_lies,
    d__law_turn_right := x_d__law_turn_right,
    d__law_pace_right := x_d__law_pace_right,
    d__law_great_right := x_d__law_great_right }
  cases hfa.symm.trans (PySem.W.mg_of X G (He.eqO_ok (c.fa 230 (f := .glo "law") rfl)))
  obtain ⟨⟨oc, od, an, osl, kV, dc, pm, cd, ct, l, cc⟩, kk⟩ := fun_parts (x := "law") (q := "law") (st := s_law) (f := He.ga K "law") (c.df (d := d_law) 231 rfl)
  have lowG : Low h (He.ga K "GREATEST") greats := ⟨⟨iGREATEST.toList, vals_abs v_GREATEST, ⟨_, X _ _ l_GREATEST, rfl, nGREATEST, by simp⟩⟩, by decide⟩
  refine ⟨He.ga K "GREATEST", PySem.W.fnOf "law" "law" (defArgs s_law) (defBody s_law) (defScope s_law) .none kV dc pm an cd ct, lowG, fun s u => .of_eq rfl, fun base _ _ lw => ?_⟩
  have T : Txt K mg base := {
    n_len := PySem.W.mg_none_of X G (c.free 0 rfl),
    n_int := PySem.W.mg_none_of X G (c.free 1 rfl),
    n_abs := PySem.W.mg_none_of X G (c.free 2 rfl),
    n_isinstance := PySem.W.mg_none_of X G (c.free 3 rfl),
    n_bool := PySem.W.mg_none_of X G (c.free 4 rfl),
    n_range := PySem.W.mg_none_of X G (c.free 5 rfl),
    n_sum := PySem.W.mg_none_of X G (c.free 6 rfl),
    n_repr := PySem.W.mg_none_of X G (c.free 7 rfl),
    n_list := PySem.W.mg_none_of X G (c.free 8 rfl),
    n_tuple := PySem.W.mg_none_of X G (c.free 9 rfl),
    n_enumerate := PySem.W.mg_none_of X G (c.free 10 rfl),
    n_all := PySem.W.mg_none_of X G (c.free 11 rfl),
    n_str := PySem.W.mg_none_of X G (c.free 12 rfl),
    tTAGS := tTAGS, mTAGS := PySem.W.mg_of X G c_TAGS,
    tINTEGER_TAG := tINTEGER_TAG, mINTEGER_TAG := PySem.W.mg_of X G c_INTEGER_TAG,
    tLEAST_INTEGER := tLEAST_INTEGER, mLEAST_INTEGER := PySem.W.mg_of X G c_LEAST_INTEGER,
    tLEAST_YOUNG := tLEAST_YOUNG, mLEAST_YOUNG := PySem.W.mg_of X G c_LEAST_YOUNG,
    tMOST_YOUNG := tMOST_YOUNG, mMOST_YOUNG := PySem.W.mg_of X G c_MOST_YOUNG,
    tMOST_OLD := tMOST_OLD, mMOST_OLD := PySem.W.mg_of X G c_MOST_OLD,
    tMOST_PACE := tMOST_PACE, mMOST_PACE := PySem.W.mg_of X G c_MOST_PACE,
    aGREATEST := _, mGREATEST := PySem.W.mg_of X G c_GREATEST, kGREATEST := lw }
  exact law_of T T5 TN C C2 I (fun_mk (st := s_law) l cc kk)
end HdR
open PySem PySem.Calls PySem.W PyProof.Rows
theorem PySem.Challenge.cw_unseenheap_k51_whole_rooms_known_by_hand_holds : PySem.Challenge.rw_unseenheap_k51_whole_rooms_known_by_hand.Holds := by
  w_on; o_law
  refine HandSHeadRun.head_any (r := OpenLaw.row PySem.Challenge.rw_unseenheap_k51_whole_rooms_known_by_hand) (q := HdR.qv) (H := Hd.hook HdR.fs) (ob := Hd.ob HdR.fs) (M := 30000) (loose := HdR.names) (d := HandSHeadRun.topDef (OpenLaw.row PySem.Challenge.rw_unseenheap_k51_whole_rooms_known_by_hand).prog 79) (kwd := []) (Hd.ob_eq HdR.fs)
    (by kernel_rfl) (fun s => by kernel_rfl) HdR.run (by kernel_rfl) (by kernel_rfl) (by kernel_rfl) (by rfl) (by first | assumption | decide +kernel) (by decide +kernel) ⟨rfl, rfl, rfl, rfl, rfl, by decide +kernel⟩ ?hw ?hc
  case hw => w_witness2
  case hc =>
    refine Wk.walk_ofG (l := PySem.Challenge.rw_unseenheap_k51_whole_rooms_known_by_hand) (k := 11) rfl (by kernel_rfl) ⟨rfl, by decide, by decide⟩ ?F
    intro w mg fa h Y G hmg0
    obtain ⟨K, KX, c⟩ := Y
    have hlaw : mg ("law" : PySem.Str) = some (.ref fa) := by
      have e : (HandSHeadRun.topDef (OpenLaw.row PySem.Challenge.rw_unseenheap_k51_whole_rooms_known_by_hand).prog 79).name = ("law" : PySem.Str) := by kernel_rfl
      rw [← e]
      exact hmg0
    obtain ⟨aG, fd, low, hb, hF⟩ := HdR.facts (P := (PySem.Challenge.rw_unseenheap_k51_whole_rooms_known_by_hand).prog) (w := w) KX G hlaw c
    exact ⟨K, aG, fd, KX, low, hb, hF⟩
