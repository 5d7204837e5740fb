import PyProof.Rows.All
import Wide.All
import OpenK.AllK
import Wide.FinOn
import KE.KDictCopyH
import PySem.Challenge.RW_unseenheap_k49_whole_long_runs_in_tight
import HandS.ForMost
import HandS.Exc
import HandS.WordsExc
import HandS.TryOnly
import HandS.ExcOwn
import HandS.ExcInit
import HandS.ExcField
import HandS.Wide
import HandS.IsInst
import HandS.StrMore
import HandS.Codes
import HandS.ReplaceLit
import HandS.ReplaceList
import HandS.Replace
import HandS.OwnEq
import HandS.Lambda
import HandS.EndTab
import HandS.ExcIs
import HandS.Flow
import HandS.Head0
import HandS.Head1
import HandS.Head2
import HandS.HeadEnd
import HandS.HeadHook1
import HandS.HeadHook2
import HandS.HeadHook3
import HandS.ListItems
import HandS.Conv
import HandS.More
import HandS.TupLe
import HandS.WideBits
import HandS.Small
import HandS.Dict
import HandS.Star
import HandS.CallLocal
import HandS.ClsMeth
set_option Elab.async false
set_option linter.all false
set_option maxRecDepth 100000
namespace Wk
open PySem L2 TL
def top (i : Nat) : Stmt := PySem.Challenge.pw_unseenheap_k49_whole_long_runs_in_tight.main.body.getD i (.Pass ⟨0, 0, 0, 0⟩)
open SX (S S_len)
theorem S_tl (l : List Nat) : (S l).cps.toList = l := rfl
theorem S_inj {a b : List Nat} (h : S a = S b) : a = b := by
  have h2 : (S a).cps.toList = (S b).cps.toList := by rw [h]
  exact h2
theorem S_mk (x : Str) : x = S x.cps.toList := ext_tl rfl
theorem S_app (a b : List Nat) : S a ++ S b = S (a ++ b) := ext_tl (tl_append (S a) (S b))
/-- a tuple of the top that the row did not keep as written: it stands below everything -/
structure Low (base : Heap) (a : Addr) (xs : List V) : Prop where
  ex : ∃ its : List Value, L2.Vals xs its ∧ PyProof.Rows.IsTup base a its.toArray
  sz : xs.length ≤ 1000
/-- the greatest payloads -/
def greats : List V := [.non, .int (2 ^ 59 - 1), .int 1, .int 0, .int 8, .non]
/-- what the top has written beside the defs -/
structure Txt (K : PySem.W.Frag) (mg : Str → Option Value) (base : Heap) where
  n_len : mg "len" = none
  n_int : mg "int" = none
  n_abs : mg "abs" = none
  n_isinstance : mg "isinstance" = none
  n_bool : mg "bool" = none
  n_range : mg "range" = none
  n_sum : mg "sum" = none
  n_sorted : mg "sorted" = none
  n_repr : mg "repr" = none
  n_list : mg "list" = none
  n_tuple : mg "tuple" = none
  n_enumerate : mg "enumerate" = none
  n_all : mg "all" = none
  n_str : mg "str" = none
  tTAGS : Tok
  mTAGS : mg "TAGS" = some (.int 8 tTAGS)
  tINTEGER_TAG : Tok
  mINTEGER_TAG : mg "INTEGER_TAG" = some (.int 1 tINTEGER_TAG)
  tLEAST_INTEGER : Tok
  mLEAST_INTEGER : mg "LEAST_INTEGER" = some (.int (-(2 ^ 59)) tLEAST_INTEGER)
  tLEAST_YOUNG : Tok
  mLEAST_YOUNG : mg "LEAST_YOUNG" = some (.int 8 tLEAST_YOUNG)
  tMOST_YOUNG : Tok
  mMOST_YOUNG : mg "MOST_YOUNG" = some (.int 100000 tMOST_YOUNG)
  tMOST_OLD : Tok
  mMOST_OLD : mg "MOST_OLD" = some (.int 1000000 tMOST_OLD)
  tMOST_PACE : Tok
  mMOST_PACE : mg "MOST_PACE" = some (.int 1000 tMOST_PACE)
  aGREATEST : Addr
  mGREATEST : mg "GREATEST" = some (.ref aGREATEST)
  kGREATEST : Low base aGREATEST greats
/-- the callee: where it stands, what it promises -/
structure Def (P : Program) (w : World) (K : PySem.W.Frag) (mg : Str → Option Value) (base : Heap) (CX : CXT) (x : Str) (ps : List Str) (k : Nat) (sp : Sp) where
  f : Addr
  fd : FuncData
  ok : FnOk P w K mg base CX k f fd ps sp
  g : mg x = some (.ref f)
  k : PySem.W.keepIn K (.ref f) = true
  b : Binds K fd ps []
section
variable {X : Cx}
def rLenLow (base : Heap) : List V → Hp → VK → Prop := fun xs H Q => ∃ p ys, xs = [.ref p] ∧ Low base p ys ∧ Q (.int ys.length) H
theorem Low.here {pins : List (Addr × Obj)} {σ : L2.St} {H : Hp} {s : Shared} {p : Addr} {ys : List V} (I : L2.Inv X pins σ H s) (l : Low X.base p ys) : ∃ its : List Value, L2.Vals ys its ∧ PyProof.Rows.IsTup s.heap p its.toArray ∧ ys.length ≤ 1000 := by
  obtain ⟨its, r, o, e, c, n, d⟩ := l.ex
  exact ⟨its, r, ⟨o, (I.bs p o e).1, c, n, d⟩, l.sz⟩
theorem call_len_low : CallR X (.builtin "len") (rLenLow X.base) := by
  intro pins s σ H xs us Q I r h
  obtain ⟨p, ys, rfl, lo, q⟩ := h
  obtain ⟨u, rfl, rx⟩ := vals1 r
  cases rx
  obtain ⟨its, rv, tu, hz⟩ := lo.here I
  have n63 := line63
  have same := rv.length
  have z := sizeLine_eq
  exact PyProof.Rows.len_tuple tu (by simp only [List.size_toArray] <;> omega) ⟨.int ys.length, H, I.tok _, ⟨s.toks + 1, by rw [List.size_toArray, same]⟩, q⟩
def rIxLow (base : Heap) : R2 := fun x y H Q => ∃ p ys i v, x = .ref p ∧ y = .int i ∧ Low base p ys ∧ atI ys i = some v ∧ Q v H
theorem ix_low : IxR X (rIxLow X.base) := by
  intro value slice pins s σ H x y v u Q I rx ry h hs
  obtain ⟨p, ys, i, z, rfl, rfl, lo, he, q⟩ := h
  cases rx
  obtain ⟨t, rfl⟩ := ry
  obtain ⟨its, rv, tu, hz⟩ := lo.here I
  obtain ⟨j, h1, h2, h3, h4, h5⟩ := atI_get he
  obtain ⟨w, ew, rw'⟩ := rv.get h2
  have same := rv.length
  have n63 := line63
  have zz := sizeLine_eq
  exact PyProof.Rows.subscriptTail_builtinR (x := w) tu.typeIs PyProof.Rows.slot_tuple_getitem.lookup
    (PyProof.Rows.getItem_tuple (j := j) (Q := fun r s' => r = w ∧ EP X pins σ Q r s') tu (by omega) (by omega) (by rw [List.size_toArray, ← same]; exact h1) (by simpa using ew) ⟨rfl, z, H, I, rw', q⟩) hs
end
end Wk
set_option maxRecDepth 100000
set_option maxHeartbeats 8000000
/-! ### the head by one run: what the top has written, looked at by facts -/
namespace Hd
open PySem PySem.Spec L2 PyProof.Rows
/-- what is seen of the heap: all that stands -/
def frag (g : Addr → Option Obj) (n : Nat) : PySem.W.Frag := He.frG g (List.range n)
inductive Ob where
  | b (x : Bool)
  | fn (x : Bool) (f : He.FnW)
  | sq (x : Bool) (l : Option (List (Option V)))
  | dk (x : Bool) (k : Option (List (Option (Str × Int)))) (v : Option (List (Option (Str × V))))
inductive Fc where
  | fa (f : He.Fa)
  | st (x z : Str)
  | it (x : Str) (i : Int)
  | df (d : He.DefD)
  | tu (x : Str) (xs : List V)
  | di (x : Str) (kvs : List (String × V))
  | ro (x : Str) (rows : List (String × List V))
  | ox (x : Str)
  | dg (x : Str) (rows : List (String × Str))
  | un (x m : Str)
  | ii (x : Str)
  | xf (x : Str)
def absE (e : DictEntry) : Option (Str × V) := match e.key with
  | .str x _ => (absV e.val).map fun v => (x, v)
  | _ => none
def glo (K : PySem.W.Frag) (x : Str) : Bool := He.eqO (PySem.W.nsIn K mainGlobals x) (some (some (.ref (He.ga K x))))
def tupW (K : PySem.W.Frag) (a : Addr) : Option (List (Option V)) := match K.lookup a with
  | some ⟨.type c, _, .seq its _, _⟩ => (match decide (c = "tuple") with
    | true => some (its.toList.map absV)
    | false => none)
  | _ => none
theorem tupW_ok {K : PySem.W.Frag} {a : Addr} {vs : List (Option V)} (h : tupW K a = some vs) :
    ∃ (d : Option Addr) (its : Array Value) (n : Nat) (sl : Array (Option Value)), K.lookup a = some ⟨.type "tuple", d, .seq its n, sl⟩ ∧ its.toList.map absV = vs := by
  unfold tupW at h
  split at h
  · rename_i c d its n sl q
    split at h
    · rename_i e
      cases of_decide_eq_true e
      exact ⟨d, its, n, sl, q, Option.some.inj h⟩
    · cases h
  · cases h
def entW (K : PySem.W.Frag) (a : Addr) : Option (List (Option (Str × V))) := match K.lookup a with
  | some ⟨_, _, .dict es _, _⟩ => some (es.toList.map absE)
  | _ => none
theorem dict_ok {K : PySem.W.Frag} {a : Addr} {w : World} {ks : List Str} {vs : List (Option (Str × V))} (h : He.dicW K a = some (He.keysIn w.params ks)) (hv : entW K a = some vs) :
    ∃ (es : Array DictEntry) (n : Nat), K.lookup a = some ⟨.type "dict", none, .dict es n, #[]⟩ ∧ PySem.W.KeysLit w.params es.toList ∧ (a == sysModules) = false ∧ es.toList.map absE = vs := by
  obtain ⟨es, n, D⟩ := He.dicW_ok h
  unfold entW at hv
  rw [D.at_] at hv
  exact ⟨es, n, D.at_, D.lit, D.low, Option.some.inj hv⟩
/-- where the i-th value of a table stands -/
def rA (K : PySem.W.Frag) (a : Addr) (i : Nat) : Addr := match K.lookup a with
  | some ⟨_, _, .dict es _, _⟩ => (match es.toList[i]? with
    | some e => (match e.val with
      | .ref r => r
      | _ => 0)
    | none => 0)
  | _ => 0
def rowsAt (K : PySem.W.Frag) (a : Addr) : Nat → List (String × List V) → List (Option (Str × V))
  | _, [] => []
  | i, q :: r => some (Str.ofString q.1, V.ref (rA K a i)) :: rowsAt K a (i + 1) r
def rowsOk (K : PySem.W.Frag) (a : Addr) : Nat → List (String × List V) → Bool
  | _, [] => true
  | i, q :: r => decide (tupW K (rA K a i) = some (q.2.map some)) && rowsOk K a (i + 1) r
theorem rowsOk_at {K : PySem.W.Frag} {a : Addr} : ∀ {i : Nat} {l : List (String × List V)}, rowsOk K a i l = true → ∀ (j : Nat) (q : String × List V), l[j]? = some q → tupW K (rA K a (i + j)) = some (q.2.map some)
  | i, [], _, j, q, e => by cases j <;> cases e
  | i, p :: r, h, 0, q, e => by
    cases e
    exact of_decide_eq_true (He.ba h).1
  | i, p :: r, h, j + 1, q, e => by
    have z := rowsOk_at (He.ba h).2 j q e
    rw [show i + (j + 1) = i + 1 + j by omega]
    exact z
/-- an own error of the top -/
def oxB (K : PySem.W.Frag) (C : Addr) : Bool := (match K.lookup C with
  | some ⟨.type t, _, .cls cd, sl⟩ => (match cd.mro, sl.toList with
    | .ref D :: bm, [_, _, _, _, some (.builtin n), _] => decide (t = "type") && (decide (D = C) && (decide (n = "ValueError.__new__") && (!cd.hasDel && (cd.hasDict && PySem.HandSPX.refsVE bm))))
    | _, _ => false)
  | _ => false) && (He.eqO (PySem.W.findIn K (.ref C) "__setattr__") (some (some (.builtin "object.__setattr__"))) && (decide (PySem.W.subIn K (.ref C) (.type "BaseException") = some true) && (decide (PySem.W.typeIn K (.ref C) = some (.type "type")) && (PySem.W.keepIn K (.ref C) && PySem.W.isClsIn K C))))
theorem oxB_ok {K : PySem.W.Frag} {C : Addr} (h : oxB K C = true) : OexC K C ∧ PySem.W.isClsIn K C = true := by
  obtain ⟨h1, h2⟩ := He.ba h
  obtain ⟨h3, h4⟩ := He.ba h2
  obtain ⟨h5, h6⟩ := He.ba h4
  obtain ⟨h7, h8⟩ := He.ba h6
  obtain ⟨h9, hA⟩ := He.ba h8
  refine ⟨⟨?_, He.eqO_ok h3, of_decide_eq_true h5, of_decide_eq_true h7, h9⟩, hA⟩
  split at h1
  · rename_i t dd cd sl ho
    split at h1
    · rename_i D bm k0 k1 k2 k3 n k5 hm hs
      obtain ⟨a1, a2⟩ := He.ba h1
      obtain ⟨a3, a4⟩ := He.ba a2
      obtain ⟨a5, a6⟩ := He.ba a4
      obtain ⟨a7, a8⟩ := He.ba a6
      obtain ⟨a9, aA⟩ := He.ba a8
      cases of_decide_eq_true a1
      cases of_decide_eq_true a3
      cases of_decide_eq_true a5
      obtain ⟨nm, bs, mro, ns, qn, hdict, sn, sub, ab, col, dels⟩ := cd
      dsimp only at hm a7 a9
      have a7' : dels = false := by cases dels with
        | true => cases a7
        | false => rfl
      subst hm a7' a9
      have hsl : sl = #[k0, k1, k2, k3, some (.builtin "ValueError.__new__"), k5] := by
        obtain ⟨l⟩ := sl
        simp only at hs
        rw [hs]
      subst hsl
      exact ⟨nm, qn, ns, bs, bm, sn, sub, ab, col, dd, k0, k1, k2, k3, k5, ho, aA⟩
    · cases h1
  · cases h1
/-- values that are what names of the top lead to -/
def refsAt (K : PySem.W.Frag) (rows : List (String × Str)) : List (Option (Str × V)) := rows.map fun q => some (Str.ofString q.1, V.ref (He.ga K q.2))
/-- C.m is a plain def, found on the class itself -/
def unB (K : PySem.W.Frag) (C : Addr) (m : Str) : Bool := PySem.W.readsIn K C (.type "type") && (He.eqO (PySem.W.specialIn K (.ref C) "__getattribute__") (some (some (.builtin "type.__getattribute__"))) && (PySem.W.keepIn K (.ref (He.ma K C m)) && (match PySem.W.findCls K (.ref C) (.type "type") m with
  | some (.val (.ref a)) => decide (a = He.ma K C m)
  | _ => false)))
theorem unB_ok {K : PySem.W.Frag} {C : Addr} {m : Str} (h : unB K C m = true) : PySem.W.readsIn K C (.type "type") = true ∧ PySem.W.specialIn K (.ref C) "__getattribute__" = some (some (.builtin "type.__getattribute__")) ∧ PySem.W.keepIn K (.ref (He.ma K C m)) = true ∧ PySem.W.findCls K (.ref C) (.type "type") m = some (.val (.ref (He.ma K C m))) := by
  obtain ⟨h1, h2⟩ := He.ba h
  obtain ⟨h3, h4⟩ := He.ba h2
  obtain ⟨h5, h6⟩ := He.ba h4
  refine ⟨h1, He.eqO_ok h3, h5, ?_⟩
  split at h6
  · rename_i a e
    rw [e, of_decide_eq_true h6]
  · cases h6
/-- what isinstance asks of an instance's class -/
def iiB (K : PySem.W.Frag) (C : Addr) : Bool := He.eqO (PySem.W.findIn K (.ref C) "__class__") (some (some (.builtin "object.__class__"))) && (He.eqO (PySem.W.specialIn K (.builtin "object.__class__") "__get__") (some (some (.builtin "getset_descriptor.__get__"))) && (decide (PySem.W.takesIn K (.builtin "object.__class__") = some true) && decide (PySem.W.mroIn K C (.type "object") = some true)))
theorem iiB_ok {K : PySem.W.Frag} {C : Addr} (h : iiB K C = true) : PySem.W.findIn K (.ref C) "__class__" = some (some (.builtin "object.__class__")) ∧ PySem.W.specialIn K (.builtin "object.__class__") "__get__" = some (some (.builtin "getset_descriptor.__get__")) ∧ PySem.W.takesIn K (.builtin "object.__class__") = some true ∧ PySem.W.mroIn K C (.type "object") = some true := by
  obtain ⟨h1, h2⟩ := He.ba h
  obtain ⟨h3, h4⟩ := He.ba h2
  obtain ⟨h5, h6⟩ := He.ba h4
  exact ⟨He.eqO_ok h1, He.eqO_ok h3, of_decide_eq_true h5, of_decide_eq_true h6⟩
def Fc.ob (K : PySem.W.Frag) : Fc → Ob
  | .un x m => .b (unB K (He.ga K x) m)
  | .ii x => .b (iiB K (He.ga K x))
  | .xf x => .b (xfB K (He.ga K x))
  | .fa f => .b (f.ok K)
  | .st x z => .b (match PySem.W.nsIn K mainGlobals x with
    | some (some (.str u _)) => decide (u = z)
    | _ => false)
  | .it x i => .b (match PySem.W.nsIn K mainGlobals x with
    | some (some (.int u _)) => decide (u = i)
    | _ => false)
  | .df d => .fn (d.ok K) (He.fnW K d.at_)
  | .tu x _ => .sq (glo K x) (tupW K (He.ga K x))
  | .di x _ => .dk (glo K x) (He.dicW K (He.ga K x)) (entW K (He.ga K x))
  | .ro x rows => .dk (glo K x && (decide (entW K (He.ga K x) = some (rowsAt K (He.ga K x) 0 rows)) && rowsOk K (He.ga K x) 0 rows)) (He.dicW K (He.ga K x)) none
  | .ox x => .b (glo K x && oxB K (He.ga K x))
  | .dg x rows => .dk (glo K x && decide (entW K (He.ga K x) = some (refsAt K rows))) (He.dicW K (He.ga K x)) none
def Fc.val (w : World) : Fc → Ob
  | .un _ _ => .b true
  | .ii _ => .b true
  | .xf _ => .b true
  | .fa _ => .b true
  | .st _ _ => .b true
  | .it _ _ => .b true
  | .df d => .fn true d.val
  | .tu _ xs => .sq true (some (xs.map some))
  | .di _ kvs => .dk true (some (He.keysIn w.params (kvs.map fun q => Str.ofString q.1))) (some (kvs.map fun q => some (Str.ofString q.1, q.2)))
  | .ro _ rows => .dk true (some (He.keysIn w.params (rows.map fun q => Str.ofString q.1))) none
  | .ox _ => .b true
  | .dg _ rows => .dk true (some (He.keysIn w.params (rows.map fun q => Str.ofString q.1))) none
def obs (fs : List Fc) (K : PySem.W.Frag) : List Ob := fs.map (Fc.ob K)
def val (fs : List Fc) (w : World) : List Ob := fs.map (Fc.val w)
def Says (fs : List Fc) (w : World) (K : PySem.W.Frag) : Prop := obs fs K = val fs w
def hook (fs : List Fc) : PySem.W.Hook where
  α := List Ob
  obs := fun s => obs fs (frag s.heap.get? s.heap.objs.size)
  val := val fs
  says := fun w h => ∃ K : PySem.W.Frag, K.In h ∧ Says fs w K
  of := fun _ _ e => ⟨_, He.frG_in, e⟩
  keeps := fun _ _ _ ⟨K, kin, says⟩ still => ⟨K, PySem.W.Frag.In.keeps kin still, says⟩
/-- the same, off the tree -/
def ob (fs : List Fc) (s : PySem.W.SharedT) : List Ob := obs fs (frag (HandSHeadRun.getT s) s.n)
theorem ob_eq (fs : List Fc) (s : PySem.W.SharedT) : ob fs s = (hook fs).obs s.abs := by
  have e : HandSHeadRun.getT s = s.abs.heap.get? := funext fun a => HandSHeadRun.getT_eq s a
  have n : s.abs.heap.objs.size = s.n := PySem.W.absHeap_size s.tree s.n s.life
  show obs fs (frag (HandSHeadRun.getT s) s.n) = obs fs (frag s.abs.heap.get? s.abs.heap.objs.size)
  rw [e, n]
section
variable {fs : List Fc} {w : World} {K : PySem.W.Frag}
theorem Says.at (c : Says fs w K) (i : Nat) {f : Fc} (h : fs[i]? = some f) : f.ob K = f.val w := by
  have e : (fs.map (Fc.ob K))[i]? = (fs.map (Fc.val w))[i]? := congrArg (fun z : List Ob => z[i]?) c
  rw [List.getElem?_map, List.getElem?_map, h] at e
  exact Option.some.inj e
theorem Says.fa (c : Says fs w K) (i : Nat) {f : He.Fa} (h : fs[i]? = some (.fa f)) : f.ok K = true := by
  have e := c.at i h
  exact Ob.b.inj e
theorem Says.free (c : Says fs w K) (i : Nat) {x : Str} (h : fs[i]? = some (.fa (.free x))) : PySem.W.nsIn K mainGlobals x = some none := He.eqO_ok (c.fa i h)
theorem Says.st (c : Says fs w K) (i : Nat) {x z : Str} (h : fs[i]? = some (.st x z)) : ∃ (y : Str) (t : Tok), PySem.W.nsIn K mainGlobals x = some (some (.str y t)) ∧ y = z := by
  have e : (match PySem.W.nsIn K mainGlobals x with
    | some (some (.str u _)) => decide (u = z)
    | _ => false) = true := Ob.b.inj (c.at i h)
  split at e
  · rename_i y t q
    exact ⟨y, t, q, of_decide_eq_true e⟩
  · cases e
theorem Says.it (c : Says fs w K) (i : Nat) {x : Str} {j : Int} (h : fs[i]? = some (.it x j)) : ∃ t : Tok, PySem.W.nsIn K mainGlobals x = some (some (.int j t)) := by
  have e : (match PySem.W.nsIn K mainGlobals x with
    | some (some (.int y _)) => decide (y = j)
    | _ => false) = true := Ob.b.inj (c.at i h)
  split at e
  · rename_i y t q
    cases of_decide_eq_true e
    exact ⟨t, q⟩
  · cases e
theorem Says.un (c : Says fs w K) (i : Nat) {x m : Str} (h : fs[i]? = some (.un x m)) : unB K (He.ga K x) m = true := Ob.b.inj (c.at i h)
theorem Says.ii (c : Says fs w K) (i : Nat) {x : Str} (h : fs[i]? = some (.ii x)) : iiB K (He.ga K x) = true := Ob.b.inj (c.at i h)
theorem Says.xf (c : Says fs w K) (i : Nat) {x : Str} (h : fs[i]? = some (.xf x)) : XfC K (He.ga K x) := xfB_ok (Ob.b.inj (c.at i h))
theorem Says.df (c : Says fs w K) (i : Nat) {d : He.DefD} (h : fs[i]? = some (.df d)) : ∃ fd, FunD K d.name d.qual d.params d.body d.scope (d.dvs K) (d.kws K) (He.fAd K d.at_) fd := by
  obtain ⟨e1, e2⟩ := Ob.fn.inj (c.at i h)
  exact He.DefD.funD e2 e1
theorem Says.tu (c : Says fs w K) (i : Nat) {x : Str} {xs : List V} (h : fs[i]? = some (.tu x xs)) :
    PySem.W.nsIn K mainGlobals x = some (some (.ref (He.ga K x))) ∧ ∃ (d : Option Addr) (its : Array Value) (n : Nat) (sl : Array (Option Value)), K.lookup (He.ga K x) = some ⟨.type "tuple", d, .seq its n, sl⟩ ∧ its.toList.map absV = xs.map some := by
  obtain ⟨e1, e2⟩ := Ob.sq.inj (c.at i h)
  exact ⟨He.eqO_ok e1, tupW_ok e2⟩
theorem Says.di (c : Says fs w K) (i : Nat) {x : Str} {kvs : List (String × V)} (h : fs[i]? = some (.di x kvs)) :
    PySem.W.nsIn K mainGlobals x = some (some (.ref (He.ga K x))) ∧ ∃ (es : Array DictEntry) (n : Nat), K.lookup (He.ga K x) = some ⟨.type "dict", none, .dict es n, #[]⟩ ∧ PySem.W.KeysLit w.params es.toList ∧ (He.ga K x == sysModules) = false ∧ es.toList.map absE = kvs.map fun q => some (Str.ofString q.1, q.2) := by
  obtain ⟨e1, e2, e3⟩ := Ob.dk.inj (c.at i h)
  exact ⟨He.eqO_ok e1, dict_ok e2 e3⟩
theorem Says.ro (c : Says fs w K) (i : Nat) {x : Str} {rows : List (String × List V)} (h : fs[i]? = some (.ro x rows)) :
    PySem.W.nsIn K mainGlobals x = some (some (.ref (He.ga K x))) ∧ (∃ (es : Array DictEntry) (n : Nat), K.lookup (He.ga K x) = some ⟨.type "dict", none, .dict es n, #[]⟩ ∧ PySem.W.KeysLit w.params es.toList ∧ (He.ga K x == sysModules) = false ∧ es.toList.map absE = rowsAt K (He.ga K x) 0 rows) ∧
      ∀ (j : Nat) (q : String × List V), rows[j]? = some q → ∃ (d : Option Addr) (its : Array Value) (n : Nat) (sl : Array (Option Value)), K.lookup (rA K (He.ga K x) j) = some ⟨.type "tuple", d, .seq its n, sl⟩ ∧ its.toList.map absV = q.2.map some := by
  obtain ⟨e1, e2, _⟩ := Ob.dk.inj (c.at i h)
  obtain ⟨g1, g2⟩ := He.ba e1
  obtain ⟨g3, g4⟩ := He.ba g2
  refine ⟨He.eqO_ok g1, dict_ok e2 (of_decide_eq_true g3), fun j q hq => ?_⟩
  have z := rowsOk_at g4 j q hq
  rw [Nat.zero_add] at z
  exact tupW_ok z
theorem Says.dg (c : Says fs w K) (i : Nat) {x : Str} {rows : List (String × Str)} (h : fs[i]? = some (.dg x rows)) :
    PySem.W.nsIn K mainGlobals x = some (some (.ref (He.ga K x))) ∧ ∃ (es : Array DictEntry) (n : Nat), K.lookup (He.ga K x) = some ⟨.type "dict", none, .dict es n, #[]⟩ ∧ PySem.W.KeysLit w.params es.toList ∧ (He.ga K x == sysModules) = false ∧ es.toList.map absE = refsAt K rows := by
  obtain ⟨e1, e2, _⟩ := Ob.dk.inj (c.at i h)
  obtain ⟨g1, g2⟩ := He.ba e1
  exact ⟨He.eqO_ok g1, dict_ok e2 (of_decide_eq_true g2)⟩
theorem Says.ox (c : Says fs w K) (i : Nat) {x : Str} (h : fs[i]? = some (.ox x)) : PySem.W.nsIn K mainGlobals x = some (some (.ref (He.ga K x))) ∧ OexC K (He.ga K x) ∧ PySem.W.isClsIn K (He.ga K x) = true := by
  obtain ⟨e1, e2⟩ := He.ba (Ob.b.inj (c.at i h))
  exact ⟨He.eqO_ok e1, oxB_ok e2⟩
end
theorem size_of {its : Array Value} {xs : List V} (v : its.toList.map absV = xs.map some) {k : Nat} (h : xs.length ≤ k) : its.size ≤ k := by
  have elen := congrArg List.length v
  rw [List.length_map, List.length_map] at elen
  have e2 : its.toList.length = its.size := Array.length_toList
  omega
/-! ### a run for each part of the facts -/
theorem opt_join {A B C : Type} {o : Option A} {l : A → B} {m : A → C} {x y z : A → List Ob} {bv : B} {cv : C} {xv yv zv : List Ob} (hz : ∀ s, z s = x s ++ y s) (hv : zv = xv ++ yv)
    (h1 : o.map (fun s => (l s, m s, x s)) = some (bv, cv, xv)) (h2 : o.map y = some yv) : o.map (fun s => (l s, m s, z s)) = some (bv, cv, zv) := by
  cases o with
  | none => cases h1
  | some s =>
    have e1 : (l s, m s, x s) = (bv, cv, xv) := Option.some.inj h1
    have e2 : y s = yv := Option.some.inj h2
    obtain ⟨a, e3⟩ := Prod.mk.inj e1
    obtain ⟨b, c⟩ := Prod.mk.inj e3
    show some (l s, m s, z s) = some (bv, cv, zv)
    rw [hz s, hv, a, b, c, e2]
def Half (r : PySem.W.OpenRow) (fb : List Fc) (M : Nat) (w : World) : Prop :=
  ∀ os : OsState, (HandSHeadRun.endF (HandSHeadRun.stepQ (HandSHeadRun.denQ HandSHeadRun.tabQ) r.prog w) M r.prog w os).map (ob fb) = some (val fb w)
theorem join {r : PySem.W.OpenRow} {q : Program} {M : Nat} {loose : List Str} {w : World} {fa fb : List Fc} (h1 : HandSHeadRun.RunEq r q (hook fa) (ob fa) M loose w) (h2 : Half r fb M w) :
    HandSHeadRun.RunEq r q (hook (fa ++ fb)) (ob (fa ++ fb)) M loose w :=
  fun os => opt_join (fun _ => List.map_append) List.map_append (h1 os) (h2 os)
end Hd
set_option maxRecDepth 100000
set_option maxHeartbeats 0
noncomputable section
namespace HdR
open PySem PySem.Spec L2 PyProof.Rows
open Wk (top greats)
def sortL : List String := ["text", "list", "object", "function", "cell", "tie"]
def numsL : List (String × V) := [("text", .int 0), ("list", .int 1), ("object", .int 2), ("function", .int 3), ("cell", .int 4), ("tie", .int 5)]
def nm0 : List PySem.Str := [("_wall" : PySem.Str), ("__name__" : PySem.Str), ("HeapError" : PySem.Str), ("NoNumber" : PySem.Str), ("NoRoom" : PySem.Str), ("NoSort" : PySem.Str), ("NoItems" : PySem.Str), ("NoHandle" : PySem.Str), ("NoThing" : PySem.Str), ("NoPlace" : PySem.Str), ("BadRoom" : PySem.Str), ("HeapFull" : PySem.Str), ("is_integer" : PySem.Str), ("TAGS" : PySem.Str), ("THING_TAG" : PySem.Str), ("INTEGER_TAG" : PySem.Str), ("NIL_WORD" : PySem.Str), ("LEAST_INTEGER" : PySem.Str), ("GREATEST_INTEGER" : PySem.Str), ("GREATEST" : PySem.Str), ("is_word" : PySem.Str), ("is_of_tag" : PySem.Str), ("SORTS" : PySem.Str), ("SORT_NUMBERS" : PySem.Str), ("TEXT_SORT" : PySem.Str), ("TIE_SORT" : PySem.Str), ("AHEAD" : PySem.Str), ("MOST_WORDS" : PySem.Str), ("FIRST_SIGN" : PySem.Str), ("LAST_SIGN" : PySem.Str), ("BARRED_SIGN" : PySem.Str), ("is_things" : PySem.Str), ("may_be" : PySem.Str), ("may_be_many" : PySem.Str), ("may_stand" : PySem.Str), ("is_signs" : PySem.Str), ("is_sign" : PySem.Str), ("Laid" : PySem.Str), ("addresses_in" : PySem.Str), ("come_to" : PySem.Str)]
def nm1 : List PySem.Str := [("worth_of" : PySem.Str), ("meaning_from" : PySem.Str), ("room_of" : PySem.Str), ("MOST_STEPS" : PySem.Str), ("is_many_steps" : PySem.Str), ("LEAST_YOUNG" : PySem.Str), ("MOST_YOUNG" : PySem.Str), ("MOST_OLD" : PySem.Str), ("MOST_PACE" : PySem.Str), ("Room" : PySem.Str), ("check_room" : PySem.Str), ("GATHERS" : PySem.Str), ("TURNS" : PySem.Str), ("LOOKS" : PySem.Str), ("WHOLES" : PySem.Str), ("Bound" : PySem.Str), ("Endless" : PySem.Str), ("store_for" : PySem.Str), ("Heap" : PySem.Str), ("_law_bag" : PySem.Str), ("_law_pick" : PySem.Str), ("_law_some" : PySem.Str), ("_law_is" : PySem.Str), ("_law_int" : PySem.Str), ("_law_graph" : PySem.Str), ("_law_worth" : PySem.Str), ("_law_given" : PySem.Str), ("_law_flood" : PySem.Str), ("_law_filled" : PySem.Str), ("_law_meaning" : PySem.Str), ("_law_plain_word" : PySem.Str), ("_law_item" : PySem.Str), ("_law_thing_item" : PySem.Str), ("_law_items" : PySem.Str), ("_law_done" : PySem.Str), ("_law_called" : PySem.Str), ("_law_size" : PySem.Str), ("_law_ring_deed" : PySem.Str), ("_law_wished" : PySem.Str), ("_law_put" : PySem.Str)]
def names : List PySem.Str := nm0 ++ nm1
abbrev s_is_integer : Stmt := top 13
abbrev d_is_integer : He.DefD := ⟨("is_integer", none), "is_integer", "is_integer", defArgs s_is_integer, defBody s_is_integer, defScope s_is_integer, [], []⟩
abbrev s_is_of_tag : Stmt := top 23
abbrev d_is_of_tag : He.DefD := ⟨("is_of_tag", none), "is_of_tag", "is_of_tag", defArgs s_is_of_tag, defBody s_is_of_tag, defScope s_is_of_tag, [], []⟩
abbrev s_is_word : Stmt := top 22
abbrev d_is_word : He.DefD := ⟨("is_word", none), "is_word", "is_word", defArgs s_is_word, defBody s_is_word, defScope s_is_word, [], []⟩
abbrev s_is_things : Stmt := top 34
abbrev d_is_things : He.DefD := ⟨("is_things", none), "is_things", "is_things", defArgs s_is_things, defBody s_is_things, defScope s_is_things, [], []⟩
abbrev s_is_sign : Stmt := top 39
abbrev d_is_sign : He.DefD := ⟨("is_sign", none), "is_sign", "is_sign", defArgs s_is_sign, defBody s_is_sign, defScope s_is_sign, [], []⟩
abbrev s_is_signs : Stmt := top 38
abbrev d_is_signs : He.DefD := ⟨("is_signs", none), "is_signs", "is_signs", defArgs s_is_signs, defBody s_is_signs, defScope s_is_signs, [], []⟩
abbrev s_may_be_many : Stmt := top 36
abbrev d_may_be_many : He.DefD := ⟨("may_be_many", none), "may_be_many", "may_be_many", defArgs s_may_be_many, defBody s_may_be_many, defScope s_may_be_many, [], []⟩
abbrev s_may_stand : Stmt := top 37
abbrev d_may_stand : He.DefD := ⟨("may_stand", none), "may_stand", "may_stand", defArgs s_may_stand, defBody s_may_stand, defScope s_may_stand, [], []⟩
abbrev s_may_be : Stmt := top 35
abbrev d_may_be : He.DefD := ⟨("may_be", none), "may_be", "may_be", defArgs s_may_be, defBody s_may_be, defScope s_may_be, [], []⟩
abbrev s_Bound__begin_of : Stmt := inClass (top 62) 1
abbrev d_Bound__begin_of : He.DefD := ⟨("Bound", some "begin_of"), "begin_of", "Bound.begin_of", defArgs s_Bound__begin_of, defBody s_Bound__begin_of, defScope s_Bound__begin_of, [], []⟩
abbrev s_Bound__end_of : Stmt := inClass (top 62) 13
abbrev d_Bound__end_of : He.DefD := ⟨("Bound", some "end_of"), "end_of", "Bound.end_of", defArgs s_Bound__end_of, defBody s_Bound__end_of, defScope s_Bound__end_of, [], []⟩
abbrev s_Bound__moved : Stmt := inClass (top 62) 9
abbrev d_Bound__moved : He.DefD := ⟨("Bound", some "moved"), "moved", "Bound.moved", defArgs s_Bound__moved, defBody s_Bound__moved, defScope s_Bound__moved, [], []⟩
abbrev s_Bound__lead_on : Stmt := inClass (top 62) 10
abbrev d_Bound__lead_on : He.DefD := ⟨("Bound", some "lead_on"), "lead_on", "Bound.lead_on", defArgs s_Bound__lead_on, defBody s_Bound__lead_on, defScope s_Bound__lead_on, [], []⟩
abbrev s_Heap__root_rows : Stmt := inClass (top 68) 1
abbrev d_Heap__root_rows : He.DefD := ⟨("Heap", some "root_rows"), "root_rows", "Heap.root_rows", defArgs s_Heap__root_rows, defBody s_Heap__root_rows, defScope s_Heap__root_rows, [], []⟩
abbrev s_Bound__lead_roots : Stmt := inClass (top 62) 11
abbrev d_Bound__lead_roots : He.DefD := ⟨("Bound", some "lead_roots"), "lead_roots", "Bound.lead_roots", defArgs s_Bound__lead_roots, defBody s_Bound__lead_roots, defScope s_Bound__lead_roots, [], []⟩
abbrev s_Bound__filled_words : Stmt := inClass (top 62) 2
abbrev d_Bound__filled_words : He.DefD := ⟨("Bound", some "filled_words"), "filled_words", "Bound.filled_words", defArgs s_Bound__filled_words, defBody s_Bound__filled_words, defScope s_Bound__filled_words, [], []⟩
abbrev s_Bound__remember : Stmt := inClass (top 62) 5
abbrev d_Bound__remember : He.DefD := ⟨("Bound", some "remember"), "remember", "Bound.remember", defArgs s_Bound__remember, defBody s_Bound__remember, defScope s_Bound__remember, [], []⟩
abbrev s_Bound__empty_nursery : Stmt := inClass (top 62) 15
abbrev d_Bound__empty_nursery : He.DefD := ⟨("Bound", some "empty_nursery"), "empty_nursery", "Bound.empty_nursery", defArgs s_Bound__empty_nursery, defBody s_Bound__empty_nursery, defScope s_Bound__empty_nursery, [], []⟩
abbrev s_Bound__change_halves : Stmt := inClass (top 62) 16
abbrev d_Bound__change_halves : He.DefD := ⟨("Bound", some "change_halves"), "change_halves", "Bound.change_halves", defArgs s_Bound__change_halves, defBody s_Bound__change_halves, defScope s_Bound__change_halves, [], []⟩
abbrev s_Bound__end_if_done : Stmt := inClass (top 62) 18
abbrev d_Bound__end_if_done : He.DefD := ⟨("Bound", some "end_if_done"), "end_if_done", "Bound.end_if_done", defArgs s_Bound__end_if_done, defBody s_Bound__end_if_done, defScope s_Bound__end_if_done, [], []⟩
abbrev s_Bound__write : Stmt := inClass (top 62) 8
abbrev d_Bound__write : He.DefD := ⟨("Bound", some "write"), "write", "Bound.write", defArgs s_Bound__write, defBody s_Bound__write, defScope s_Bound__write, [], []⟩
abbrev s_Bound__lead_left : Stmt := inClass (top 62) 12
abbrev d_Bound__lead_left : He.DefD := ⟨("Bound", some "lead_left"), "lead_left", "Bound.lead_left", defArgs s_Bound__lead_left, defBody s_Bound__lead_left, defScope s_Bound__lead_left, [], []⟩
abbrev s_Bound__gather : Stmt := inClass (top 62) 14
abbrev d_Bound__gather : He.DefD := ⟨("Bound", some "gather"), "gather", "Bound.gather", defArgs s_Bound__gather, defBody s_Bound__gather, defScope s_Bound__gather, [], []⟩
abbrev s_Bound__steps : Stmt := inClass (top 62) 19
abbrev d_Bound__steps : He.DefD := ⟨("Bound", some "steps"), "steps", "Bound.steps", defArgs s_Bound__steps, defBody s_Bound__steps, defScope s_Bound__steps, [], []⟩
abbrev s_Bound__end_turn : Stmt := inClass (top 62) 20
abbrev d_Bound__end_turn : He.DefD := ⟨("Bound", some "end_turn"), "end_turn", "Bound.end_turn", defArgs s_Bound__end_turn, defBody s_Bound__end_turn, defScope s_Bound__end_turn, [], []⟩
abbrev s_Bound__turn : Stmt := inClass (top 62) 17
abbrev d_Bound__turn : He.DefD := ⟨("Bound", some "turn"), "turn", "Bound.turn", defArgs s_Bound__turn, defBody s_Bound__turn, defScope s_Bound__turn, [], []⟩
abbrev s_Bound__copy_all : Stmt := inClass (top 62) 22
abbrev d_Bound__copy_all : He.DefD := ⟨("Bound", some "copy_all"), "copy_all", "Bound.copy_all", defArgs s_Bound__copy_all, defBody s_Bound__copy_all, defScope s_Bound__copy_all, [], []⟩
abbrev s_Bound__whole : Stmt := inClass (top 62) 21
abbrev d_Bound__whole : He.DefD := ⟨("Bound", some "whole"), "whole", "Bound.whole", defArgs s_Bound__whole, defBody s_Bound__whole, defScope s_Bound__whole, [], []⟩
abbrev s_Bound__reserve : Stmt := inClass (top 62) 3
abbrev d_Bound__reserve : He.DefD := ⟨("Bound", some "reserve"), "reserve", "Bound.reserve", defArgs s_Bound__reserve, defBody s_Bound__reserve, defScope s_Bound__reserve, [], []⟩
abbrev s_Bound__place : Stmt := inClass (top 62) 4
abbrev d_Bound__place : He.DefD := ⟨("Bound", some "place"), "place", "Bound.place", defArgs s_Bound__place, defBody s_Bound__place, defScope s_Bound__place, [], []⟩
abbrev s_Laid__settled : Stmt := inClass (top 40) 1
abbrev d_Laid__settled : He.DefD := ⟨("Bound", some "settled"), "settled", "Laid.settled", defArgs s_Laid__settled, defBody s_Laid__settled, defScope s_Laid__settled, [], []⟩
abbrev s_Laid__sort_at : Stmt := inClass (top 40) 2
abbrev d_Laid__sort_at : He.DefD := ⟨("Bound", some "sort_at"), "sort_at", "Laid.sort_at", defArgs s_Laid__sort_at, defBody s_Laid__sort_at, defScope s_Laid__sort_at, [], []⟩
abbrev s_Laid__size_at : Stmt := inClass (top 40) 3
abbrev d_Laid__size_at : He.DefD := ⟨("Bound", some "size_at"), "size_at", "Laid.size_at", defArgs s_Laid__size_at, defBody s_Laid__size_at, defScope s_Laid__size_at, [], []⟩
abbrev s_Laid__number_at : Stmt := inClass (top 40) 4
abbrev d_Laid__number_at : He.DefD := ⟨("Bound", some "number_at"), "number_at", "Laid.number_at", defArgs s_Laid__number_at, defBody s_Laid__number_at, defScope s_Laid__number_at, [], []⟩
abbrev s_Laid__words_at : Stmt := inClass (top 40) 5
abbrev d_Laid__words_at : He.DefD := ⟨("Bound", some "words_at"), "words_at", "Laid.words_at", defArgs s_Laid__words_at, defBody s_Laid__words_at, defScope s_Laid__words_at, [], []⟩
abbrev s_addresses_in : Stmt := top 42
abbrev d_addresses_in : He.DefD := ⟨("addresses_in", none), "addresses_in", "addresses_in", defArgs s_addresses_in, defBody s_addresses_in, defScope s_addresses_in, [], []⟩
abbrev s_room_of : Stmt := top 46
abbrev d_room_of : He.DefD := ⟨("room_of", none), "room_of", "room_of", defArgs s_room_of, defBody s_room_of, defScope s_room_of, [], []⟩
abbrev s_come_to : Stmt := top 43
abbrev d_come_to : He.DefD := ⟨("come_to", none), "come_to", "come_to", defArgs s_come_to, defBody s_come_to, defScope s_come_to, [], []⟩
abbrev s_worth_of : Stmt := top 44
abbrev d_worth_of : He.DefD := ⟨("worth_of", none), "worth_of", "worth_of", defArgs s_worth_of, defBody s_worth_of, defScope s_worth_of, [], []⟩
abbrev s_meaning_from : Stmt := top 45
abbrev d_meaning_from : He.DefD := ⟨("meaning_from", none), "meaning_from", "meaning_from", defArgs s_meaning_from, defBody s_meaning_from, defScope s_meaning_from, [], []⟩
abbrev s_Heap__word_held : Stmt := inClass (top 68) 4
abbrev d_Heap__word_held : He.DefD := ⟨("Heap", some "word_held"), "word_held", "Heap.word_held", defArgs s_Heap__word_held, defBody s_Heap__word_held, defScope s_Heap__word_held, [], []⟩
abbrev s_Heap__address_held : Stmt := inClass (top 68) 5
abbrev d_Heap__address_held : He.DefD := ⟨("Heap", some "address_held"), "address_held", "Heap.address_held", defArgs s_Heap__address_held, defBody s_Heap__address_held, defScope s_Heap__address_held, [], []⟩
abbrev s_Heap__is_item : Stmt := inClass (top 68) 6
abbrev d_Heap__is_item : He.DefD := ⟨("Heap", some "is_item"), "is_item", "Heap.is_item", defArgs s_Heap__is_item, defBody s_Heap__is_item, defScope s_Heap__is_item, [], []⟩
abbrev s_Heap__word_of_item : Stmt := inClass (top 68) 7
abbrev d_Heap__word_of_item : He.DefD := ⟨("Heap", some "word_of_item"), "word_of_item", "Heap.word_of_item", defArgs s_Heap__word_of_item, defBody s_Heap__word_of_item, defScope s_Heap__word_of_item, [], []⟩
abbrev s_Heap__address_with_place : Stmt := inClass (top 68) 8
abbrev d_Heap__address_with_place : He.DefD := ⟨("Heap", some "address_with_place"), "address_with_place", "Heap.address_with_place", defArgs s_Heap__address_with_place, defBody s_Heap__address_with_place, defScope s_Heap__address_with_place, [], []⟩
abbrev s_Heap__give_handle : Stmt := inClass (top 68) 3
abbrev d_Heap__give_handle : He.DefD := ⟨("Heap", some "give_handle"), "give_handle", "Heap.give_handle", defArgs s_Heap__give_handle, defBody s_Heap__give_handle, defScope s_Heap__give_handle, [], []⟩
abbrev s_Heap__drop : Stmt := inClass (top 68) 11
abbrev d_Heap__drop : He.DefD := ⟨("Heap", some "drop"), "drop", "Heap.drop", defArgs s_Heap__drop, defBody s_Heap__drop, defScope s_Heap__drop, [], []⟩
abbrev s_Heap__root_pairs : Stmt := inClass (top 68) 2
abbrev d_Heap__root_pairs : He.DefD := ⟨("Heap", some "root_pairs"), "root_pairs", "Heap.root_pairs", defArgs s_Heap__root_pairs, defBody s_Heap__root_pairs, defScope s_Heap__root_pairs, [], []⟩
abbrev s_Heap__come_to_from_handles : Stmt := inClass (top 68) 27
abbrev d_Heap__come_to_from_handles : He.DefD := ⟨("Heap", some "come_to_from_handles"), "come_to_from_handles", "Heap.come_to_from_handles", defArgs s_Heap__come_to_from_handles, defBody s_Heap__come_to_from_handles, defScope s_Heap__come_to_from_handles, [], []⟩
abbrev s_Heap__filled : Stmt := inClass (top 68) 30
abbrev d_Heap__filled : He.DefD := ⟨("Heap", some "filled"), "filled", "Heap.filled", defArgs s_Heap__filled, defBody s_Heap__filled, defScope s_Heap__filled, [], []⟩
abbrev s_Heap__meaning : Stmt := inClass (top 68) 19
abbrev d_Heap__meaning : He.DefD := ⟨("Heap", some "meaning"), "meaning", "Heap.meaning", defArgs s_Heap__meaning, defBody s_Heap__meaning, defScope s_Heap__meaning, [], []⟩
abbrev s_Heap__turn : Stmt := inClass (top 68) 22
abbrev d_Heap__turn : He.DefD := ⟨("Heap", some "turn"), "turn", "Heap.turn", defArgs s_Heap__turn, defBody s_Heap__turn, defScope s_Heap__turn, [], []⟩
abbrev s_Heap__write : Stmt := inClass (top 68) 17
abbrev d_Heap__write : He.DefD := ⟨("Heap", some "write"), "write", "Heap.write", defArgs s_Heap__write, defBody s_Heap__write, defScope s_Heap__write, [], []⟩
abbrev s_Heap__make : Stmt := inClass (top 68) 9
abbrev d_Heap__make : He.DefD := ⟨("Heap", some "make"), "make", "Heap.make", defArgs s_Heap__make, defBody s_Heap__make, defScope s_Heap__make, [], []⟩
abbrev s_check_room : Stmt := top 56
abbrev d_check_room : He.DefD := ⟨("check_room", none), "check_room", "check_room", defArgs s_check_room, defBody s_check_room, defScope s_check_room, [], []⟩
abbrev s_Laid____init__ : Stmt := inClass (top 40) 0
abbrev d_Laid____init__ : He.DefD := ⟨("Laid", some "__init__"), "__init__", "Laid.__init__", defArgs s_Laid____init__, defBody s_Laid____init__, defScope s_Laid____init__, [], []⟩
abbrev s_Bound____init__ : Stmt := inClass (top 62) 0
abbrev d_Bound____init__ : He.DefD := ⟨("Bound", some "__init__"), "__init__", "Bound.__init__", defArgs s_Bound____init__, defBody s_Bound____init__, defScope s_Bound____init__, [], []⟩
abbrev s_store_for : Stmt := top 66
abbrev d_store_for : He.DefD := ⟨("store_for", none), "store_for", "store_for", defArgs s_store_for, defBody s_store_for, defScope s_store_for, [], []⟩
abbrev s_Heap____init__ : Stmt := inClass (top 68) 0
abbrev d_Heap____init__ : He.DefD := ⟨("Heap", some "__init__"), "__init__", "Heap.__init__", defArgs s_Heap____init__, defBody s_Heap____init__, defScope s_Heap____init__, [], []⟩
abbrev s_Room____init__ : Stmt := inClass (top 55) 0
abbrev d_Room____init__ : He.DefD := ⟨("Room", some "__init__"), "__init__", "Room.__init__", defArgs s_Room____init__, defBody s_Room____init__, defScope s_Room____init__, [], []⟩
abbrev s__law_bag : Stmt := top 70
abbrev d__law_bag : He.DefD := ⟨("_law_bag", none), "_law_bag", "_law_bag", defArgs s__law_bag, defBody s__law_bag, defScope s__law_bag, [], []⟩
abbrev s__law_pick : Stmt := top 71
abbrev d__law_pick : He.DefD := ⟨("_law_pick", none), "_law_pick", "_law_pick", defArgs s__law_pick, defBody s__law_pick, defScope s__law_pick, [], []⟩
abbrev s__law_some : Stmt := top 72
abbrev d__law_some : He.DefD := ⟨("_law_some", none), "_law_some", "_law_some", defArgs s__law_some, defBody s__law_some, defScope s__law_some, [], []⟩
abbrev s__law_is : Stmt := top 73
abbrev d__law_is : He.DefD := ⟨("_law_is", none), "_law_is", "_law_is", defArgs s__law_is, defBody s__law_is, defScope s__law_is, [], []⟩
abbrev s__law_int : Stmt := top 74
abbrev d__law_int : He.DefD := ⟨("_law_int", none), "_law_int", "_law_int", defArgs s__law_int, defBody s__law_int, defScope s__law_int, [], []⟩
abbrev s__law_graph : Stmt := top 75
abbrev d__law_graph : He.DefD := ⟨("_law_graph", none), "_law_graph", "_law_graph", defArgs s__law_graph, defBody s__law_graph, defScope s__law_graph, [], []⟩
abbrev s__law_worth : Stmt := top 76
abbrev d__law_worth : He.DefD := ⟨("_law_worth", none), "_law_worth", "_law_worth", defArgs s__law_worth, defBody s__law_worth, defScope s__law_worth, [], []⟩
abbrev s__law_given : Stmt := top 77
abbrev d__law_given : He.DefD := ⟨("_law_given", none), "_law_given", "_law_given", defArgs s__law_given, defBody s__law_given, defScope s__law_given, [], []⟩
abbrev s__law_flood : Stmt := top 78
abbrev d__law_flood : He.DefD := ⟨("_law_flood", none), "_law_flood", "_law_flood", defArgs s__law_flood, defBody s__law_flood, defScope s__law_flood, [], []⟩
abbrev s__law_filled : Stmt := top 79
abbrev d__law_filled : He.DefD := ⟨("_law_filled", none), "_law_filled", "_law_filled", defArgs s__law_filled, defBody s__law_filled, defScope s__law_filled, [], []⟩
abbrev s__law_meaning : Stmt := top 80
abbrev d__law_meaning : He.DefD := ⟨("_law_meaning", none), "_law_meaning", "_law_meaning", defArgs s__law_meaning, defBody s__law_meaning, defScope s__law_meaning, [], []⟩
abbrev s__law_plain_word : Stmt := top 81
abbrev d__law_plain_word : He.DefD := ⟨("_law_plain_word", none), "_law_plain_word", "_law_plain_word", defArgs s__law_plain_word, defBody s__law_plain_word, defScope s__law_plain_word, [], []⟩
abbrev s__law_item : Stmt := top 82
abbrev d__law_item : He.DefD := ⟨("_law_item", none), "_law_item", "_law_item", defArgs s__law_item, defBody s__law_item, defScope s__law_item, [], []⟩
abbrev s__law_items : Stmt := top 84
abbrev d__law_items : He.DefD := ⟨("_law_items", none), "_law_items", "_law_items", defArgs s__law_items, defBody s__law_items, defScope s__law_items, [], []⟩
abbrev s__law_ring_deed : Stmt := top 88
abbrev d__law_ring_deed : He.DefD := ⟨("_law_ring_deed", none), "_law_ring_deed", "_law_ring_deed", defArgs s__law_ring_deed, defBody s__law_ring_deed, defScope s__law_ring_deed, [], []⟩
abbrev s__law_size : Stmt := top 87
abbrev d__law_size : He.DefD := ⟨("_law_size", none), "_law_size", "_law_size", defArgs s__law_size, defBody s__law_size, defScope s__law_size, [], []⟩
abbrev s__law_wished : Stmt := top 89
abbrev d__law_wished : He.DefD := ⟨("_law_wished", none), "_law_wished", "_law_wished", defArgs s__law_wished, defBody s__law_wished, defScope s__law_wished, [], []⟩
abbrev s__law_done : Stmt := top 85
abbrev d__law_done : He.DefD := ⟨("_law_done", none), "_law_done", "_law_done", defArgs s__law_done, defBody s__law_done, defScope s__law_done, [], []⟩
abbrev s__law_called : Stmt := top 86
abbrev d__law_called : He.DefD := ⟨("_law_called", none), "_law_called", "_law_called", defArgs s__law_called, defBody s__law_called, defScope s__law_called, [], []⟩
abbrev s__law_put : Stmt := top 90
abbrev d__law_put : He.DefD := ⟨("_law_put", none), "_law_put", "_law_put", defArgs s__law_put, defBody s__law_put, defScope s__law_put, [], []⟩
abbrev s_HeapFull____init__ : Stmt := inClass (top 11) 0
abbrev d_HeapFull____init__ : He.DefD := ⟨("HeapFull", some "__init__"), "__init__", "HeapFull.__init__", defArgs s_HeapFull____init__, defBody s_HeapFull____init__, defScope s_HeapFull____init__, [], []⟩
abbrev s_law : Stmt := top 91
abbrev d_law : He.DefD := ⟨("law", none), "law", "law", defArgs s_law, defBody s_law, defScope s_law, [], []⟩
def fs0 : List Hd.Fc := [.fa (.free "len"), .fa (.free "int"), .fa (.free "abs"), .fa (.free "isinstance"), .fa (.free "bool"), .fa (.free "range"), .fa (.free "sum"), .fa (.free "sorted"), .fa (.free "repr"), .fa (.free "list"), .fa (.free "tuple"), .fa (.free "enumerate"), .fa (.free "all"), .fa (.free "str"), .it "TAGS" (8), .it "INTEGER_TAG" (1), .it "LEAST_INTEGER" (-(2 ^ 59)), .it "LEAST_YOUNG" (8), .it "MOST_YOUNG" (100000), .it "MOST_OLD" (1000000), .it "MOST_PACE" (1000), .tu "GREATEST" (greats), .it "THING_TAG" (0), .it "NIL_WORD" (3), .it "TEXT_SORT" (0), .it "TIE_SORT" (5), .it "AHEAD" (2), .it "MOST_WORDS" (60000), .it "FIRST_SIGN" (32), .it "LAST_SIGN" (126), .it "BARRED_SIGN" (37), .it "GATHERS" (0), .it "TURNS" (1), .it "LOOKS" (2), .it "WHOLES" (3), .it "MOST_STEPS" (1000000000), .tu "SORTS" (sortL.map fun x => V.str (Str.ofString x)), .di "SORT_NUMBERS" numsL, .fa (.cls "Bound"), .fa (.noat "Bound" "words"), .fa (.noat "Bound" "room"), .fa (.noat "Bound" "owner"), .fa (.noat "Bound" "use"), .fa (.noat "Bound" "free"), .fa (.noat "Bound" "scan"), .fa (.noat "Bound" "top"), .fa (.noat "Bound" "left"), .fa (.noat "Bound" "copied"), .fa (.noat "Bound" "remembered"), .fa (.noat "Bound" "last"), .fa (.noat "Bound" "tally"), .fa (.cls "Heap"), .fa (.noat "Heap" "handles"), .fa (.noat "Heap" "next_handle"), .fa (.noat "Heap" "store"), .fa (.cls "Room"), .fa (.noat "Room" "young"), .fa (.noat "Room" "old"), .fa (.noat "Room" "pace"), .ii "Room", .fa (.glo "Room"), .fa (.glo "is_integer"), .df d_is_integer, .fa (.glo "is_of_tag"), .df d_is_of_tag, .fa (.glo "is_word"), .df d_is_word, .fa (.glo "is_things"), .df d_is_things, .fa (.glo "is_sign"), .df d_is_sign, .fa (.glo "is_signs"), .df d_is_signs, .fa (.glo "may_be_many"), .df d_may_be_many, .fa (.glo "may_stand"), .df d_may_stand, .fa (.glo "may_be"), .df d_may_be, .fa (.meth "Bound" "begin_of"), .df d_Bound__begin_of, .fa (.meth "Bound" "end_of"), .df d_Bound__end_of, .fa (.meth "Bound" "moved"), .df d_Bound__moved, .fa (.meth "Bound" "lead_on"), .df d_Bound__lead_on, .fa (.meth "Heap" "root_rows"), .df d_Heap__root_rows, .fa (.meth "Bound" "lead_roots"), .df d_Bound__lead_roots, .fa (.meth "Bound" "filled_words"), .df d_Bound__filled_words, .fa (.meth "Bound" "remember"), .df d_Bound__remember, .fa (.meth "Bound" "empty_nursery"), .df d_Bound__empty_nursery, .fa (.meth "Bound" "change_halves"), .df d_Bound__change_halves, .fa (.meth "Bound" "end_if_done"), .df d_Bound__end_if_done, .fa (.meth "Bound" "write"), .df d_Bound__write, .fa (.meth "Bound" "lead_left"), .df d_Bound__lead_left, .fa (.meth "Bound" "gather"), .df d_Bound__gather, .fa (.meth "Bound" "steps"), .df d_Bound__steps, .fa (.meth "Bound" "end_turn"), .df d_Bound__end_turn, .fa (.meth "Bound" "turn"), .df d_Bound__turn, .fa (.meth "Bound" "copy_all"), .df d_Bound__copy_all, .fa (.meth "Bound" "whole"), .df d_Bound__whole, .fa (.meth "Bound" "reserve")]
def fs1 : List Hd.Fc := [.df d_Bound__reserve, .fa (.meth "Bound" "place"), .df d_Bound__place, .fa (.meth "Bound" "settled"), .df d_Laid__settled, .fa (.meth "Bound" "sort_at"), .df d_Laid__sort_at, .fa (.meth "Bound" "size_at"), .df d_Laid__size_at, .fa (.meth "Bound" "number_at"), .df d_Laid__number_at, .fa (.meth "Bound" "words_at"), .df d_Laid__words_at, .fa (.glo "addresses_in"), .df d_addresses_in, .fa (.glo "room_of"), .df d_room_of, .fa (.glo "come_to"), .df d_come_to, .fa (.glo "worth_of"), .df d_worth_of, .fa (.glo "meaning_from"), .df d_meaning_from, .fa (.meth "Heap" "word_held"), .df d_Heap__word_held, .fa (.meth "Heap" "address_held"), .df d_Heap__address_held, .fa (.meth "Heap" "is_item"), .df d_Heap__is_item, .fa (.meth "Heap" "word_of_item"), .df d_Heap__word_of_item, .fa (.meth "Heap" "address_with_place"), .df d_Heap__address_with_place, .fa (.meth "Heap" "give_handle"), .df d_Heap__give_handle, .fa (.meth "Heap" "drop"), .df d_Heap__drop, .fa (.meth "Heap" "root_pairs"), .df d_Heap__root_pairs, .fa (.meth "Heap" "come_to_from_handles"), .df d_Heap__come_to_from_handles, .fa (.meth "Heap" "filled"), .df d_Heap__filled, .fa (.meth "Heap" "meaning"), .df d_Heap__meaning, .fa (.meth "Heap" "turn"), .df d_Heap__turn, .fa (.meth "Heap" "write"), .df d_Heap__write, .fa (.meth "Heap" "make"), .df d_Heap__make, .fa (.glo "check_room"), .df d_check_room, .fa (.glo "Laid"), .un "Laid" "__init__", .df d_Laid____init__, .fa (.glo "Bound"), .fa (.mkr "Bound"), .fa (.meth "Bound" "__init__"), .df d_Bound____init__, .fa (.glo "store_for"), .df d_store_for, .fa (.glo "Heap"), .fa (.mkr "Heap"), .fa (.meth "Heap" "__init__"), .df d_Heap____init__, .fa (.mkr "Room"), .fa (.meth "Room" "__init__"), .df d_Room____init__, .fa (.glo "_law_bag"), .df d__law_bag, .fa (.glo "_law_pick"), .df d__law_pick, .fa (.glo "_law_some"), .df d__law_some, .fa (.glo "_law_is"), .df d__law_is, .fa (.glo "_law_int"), .df d__law_int, .fa (.glo "_law_graph"), .df d__law_graph, .fa (.glo "_law_worth"), .df d__law_worth, .fa (.glo "_law_given"), .df d__law_given, .fa (.glo "_law_flood"), .df d__law_flood, .fa (.glo "_law_filled"), .df d__law_filled, .fa (.glo "_law_meaning"), .df d__law_meaning, .fa (.glo "_law_plain_word"), .df d__law_plain_word, .fa (.glo "_law_item"), .df d__law_item, .fa (.glo "_law_items"), .df d__law_items, .fa (.glo "_law_ring_deed"), .df d__law_ring_deed, .fa (.glo "_law_size"), .df d__law_size, .fa (.glo "_law_wished"), .df d__law_wished, .fa (.glo "_law_done"), .df d__law_done, .fa (.glo "_law_called"), .df d__law_called, .fa (.glo "_law_put"), .df d__law_put, .ox "HeapFull", .fa (.meth "HeapFull" "__init__"), .df d_HeapFull____init__, .xf "HeapFull", .fa (.noat "HeapFull" "taken"), .fa (.exm "HeapFull" "HeapFull" true), .fa (.glo "law"), .df d_law]
def fs : List Hd.Fc := (fs0 ++ fs1)
abbrev Rw : PySem.W.OpenRow := PySem.W.OpenLaw.row PySem.Challenge.rw_unseenheap_k49_whole_long_runs_in_tight
abbrev qv : Program := PySem.W.view Rw.prog [91]
theorem run0_false (w : World) : HandSHeadRun.RunEq Rw qv (Hd.hook fs0) (Hd.ob fs0) 30000 names (w.withFollow "special-get-raises" false) := by
  intro os
  kernel_rfl
theorem run0_true (w : World) : HandSHeadRun.RunEq Rw qv (Hd.hook fs0) (Hd.ob fs0) 30000 names (w.withFollow "special-get-raises" true) := by
  intro os
  kernel_rfl
theorem run0 (w : World) : HandSHeadRun.RunEq Rw qv (Hd.hook fs0) (Hd.ob fs0) 30000 names w := PySem.W.byRow2 "special-get-raises" (P := fun w => HandSHeadRun.RunEq Rw qv (Hd.hook fs0) (Hd.ob fs0) 30000 names w) run0_false run0_true w
theorem run1_false (w : World) : Hd.Half Rw fs1 30000 (w.withFollow "special-get-raises" false) := by
  intro os
  kernel_rfl
theorem run1_true (w : World) : Hd.Half Rw fs1 30000 (w.withFollow "special-get-raises" true) := by
  intro os
  kernel_rfl
theorem run1 (w : World) : Hd.Half Rw fs1 30000 w := PySem.W.byRow2 "special-get-raises" (P := fun w => Hd.Half Rw fs1 30000 w) run1_false run1_true w
theorem run (w : World) : HandSHeadRun.RunEq Rw qv (Hd.hook fs) (Hd.ob fs) 30000 names w := Hd.join (run0 w) (run1 w)
end HdR
end
set_option maxRecDepth 100000
set_option maxHeartbeats 4000000
namespace Wk
open PySem L2 TL PySem.Builtin
open PySem.Builtin.Str (tooLong)
open SX (S S_len)
theorem take_next {α : Type} : ∀ {l : List α} {i : Nat} {x : α}, l[i]? = some x → l.take (i + 1) = l.take i ++ [x]
  | [], i, x, h => by simp at h
  | a :: l, 0, x, h => by
    have e : a = x := Option.some.inj h
    subst e; rfl
  | a :: l, i + 1, x, h => by
    show a :: l.take (i + 1) = a :: l.take i ++ [x]
    rw [take_next (l := l) (i := i) (x := x) h]; rfl
theorem same_new {H : Hp} {p : Addr} (h : H p = none) (o : HO) : Same H (upd H p o) := fun b u q => by rw [upd_ne (ne_of_none q h)]; exact q
theorem same_to {H H' : Hp} {p : Addr} (g : Same H H') (h : H' p = none) (o : HO) : Same H (upd H' p o) := g.trans (same_new h o)
/-- an object that H does not know may change -/
theorem same_mut {H H' : Hp} {p : Addr} (g : Same H H') (h : H p = none) (o : HO) : Same H (upd H' p o) := fun b u q => by rw [upd_ne (ne_of_none q h)]; exact g b u q
theorem seqT {K : PySem.W.Frag} {H H' : Hp} {a : Addr} {xs : List V} (e : Same H H') (h : SqT K H a xs) : SqT K H' a xs := by
  rcases h with (h | ⟨o, h⟩) | h
  · exact .inl (.inl (e _ _ h))
  · exact .inl (.inr ⟨o, e _ _ h⟩)
  · exact .inr h
theorem line_eq : sizeLine = 16777216 := sizeLine_eq
theorem ited {p A B : Prop} [Decidable p] (h1 : p → A) (h2 : ¬ p → B) : if decide p = true then A else B := by
  by_cases h : p
  · rw [if_pos (decide_eq_true h)]; exact h1 h
  · rw [if_neg (by rw [decide_eq_false h]; exact Bool.false_ne_true)]; exact h2 h
theorem itedn {p A B : Prop} [Decidable p] (h1 : ¬ p → A) (h2 : p → B) : if (!decide p) = true then A else B := by
  by_cases h : p
  · rw [if_neg (by rw [decide_eq_true h]; exact Bool.false_ne_true)]; exact h2 h
  · rw [if_pos (by rw [decide_eq_false h]; rfl)]; exact h1 h
theorem iteb {b : Bool} {A B : Prop} (h1 : b = true → A) (h2 : b = false → B) : if b = true then A else B := by
  cases b with
  | true => rw [if_pos rfl]; exact h1 rfl
  | false => rw [if_neg Bool.false_ne_true]; exact h2 rfl
theorem itebn {b : Bool} {A B : Prop} (h1 : b = false → A) (h2 : b = true → B) : if (!b) = true then A else B := by
  cases b with
  | true => rw [if_neg (by exact Bool.false_ne_true)]; exact h2 rfl
  | false => rw [if_pos (by rfl)]; exact h1 rfl
theorem bl_to {R : VK} {x y : Bool} {H : Hp} (r : R (.bl y) H) (e : x = y) : R (.bl x) H := e ▸ r
/-- all([.. for sign in text]) -/
theorem all_text {K : PySem.W.Frag} {l : List Nat} {p : Nat → Bool} {i : Nat} {te tv : TE} {σ : L2.St} {H : Hp} {Q : VK} (hl : l.length < sizeLine)
    (hv : ∀ R : V → Hp → Prop, R (.str (S l)) H → tv σ H R) (hw : ∀ c, wipe ((wipe σ [i]).set i (some (.str (S [c])))) [i] = wipe σ [i])
    (he : ∀ c ∈ l, ∀ H' (R : VK), R (.bl (p c)) H' → te ((wipe σ [i]).set i (some (.str (S [c])))) H' R) (q : ∀ H', Same H H' → Q (.bl (l.all p)) H') :
    tCB (rAll K) (tCons (tLc (iStr tv) (gName i) tYes te [i]) tNil) σ H Q := by
  refine hv _ ⟨_, rfl, fun D hD => ?_⟩
  refine ⟨fun k m H' => k + m = l.length ∧ Same H H' ∧ H' D = some (.lst ((l.take k).map fun c => V.bl (p c))), ⟨l.length, by omega, same_new hD _, upd_same⟩, ?_⟩
  rintro k m H' ⟨e, g, hd⟩
  by_cases hk : k < l.length
  · have hg : (S l).cps.size = l.length := by simp [S]
    have hx : l[k]? = some l[k] := List.getElem?_eq_getElem hk
    refine .inr ⟨(by show k < (S l).cps.size; rw [hg]; exact hk), fun H2 => k + 1 + (m - 1) = l.length ∧ Same H H2 ∧ H2 D = some (.lst ((l.take (k + 1)).map fun c => V.bl (p c))), fun H2 h2 => ⟨m - 1, by omega, h2⟩, fun x H2 y => ?_⟩
    obtain ⟨e2, c, hc, e3⟩ := y
    subst e2; subst e3
    have hc' : l[k]? = some c := by
      have : (S l).cps.toList[k]? = some c := by rw [Array.getElem?_toList]; exact hc
      exact this
    have hm : c ∈ l := List.mem_of_getElem? hc'
    refine ⟨hw c, ?_⟩
    unfold tYes
    dsimp only
    rw [if_pos rfl]
    refine he c hm _ _ ?_
    refine ⟨_, hd, by rw [List.length_map, List.length_take]; omega, by omega, same_mut g hD _, ?_⟩
    rw [upd_same, take_next hc', List.map_append]; rfl
  · have ek : k = l.length := by omega
    have hg : (S l).cps.size = l.length := by simp [S]
    refine .inl ⟨(by show (S l).cps.size ≤ k; rw [hg]; omega), ?_⟩
    subst ek
    rw [List.take_length] at hd
    refine ⟨D, l.map p, rfl, SqL.of (by rw [List.map_map]; exact hd), ?_⟩
    have e2 : (l.map p).all id = l.all p := by rw [List.all_map]; rfl
    rw [e2]
    exact q _ g
/-- text * int, two times and more -/
theorem fold_app : ∀ (n : Nat) (l : List Nat) (acc : Array Nat), (List.replicate n l.toArray).foldl (· ++ ·) acc = (acc.toList ++ (List.replicate n l).flatten).toArray
  | 0, l, acc => by simp
  | n + 1, l, acc => by
    rw [List.replicate_succ, List.foldl_cons, fold_app n l _, List.replicate_succ, List.flatten_cons]
    simp
def rMulS : R2 := fun x y H Q => ∃ (l : List Nat) (k : Int), x = .str (S l) ∧ y = .int k ∧ 2 ≤ k ∧ k ≤ 100000 ∧ 1 ≤ l.length ∧ l.length ≤ 100 ∧ Q (.str (S (List.replicate k.toNat l).flatten)) H
section
variable {X : Cx}
theorem op_mul_str : OpR X (binaryOp .Mult) rMulS := by
  intro pins s σ H x y v u Q I rx ry h
  obtain ⟨l, k, rfl, rfl, h2, h3, h4, h5, q⟩ := h
  obtain ⟨t, rfl⟩ := rx
  obtain ⟨t', rfl⟩ := ry
  have hlen : (S l).length = l.length := S_len l
  have hz : sizeLine = 16777216 := sizeLine_eq
  have hp : l.length * k.toNat ≤ 100 * 100000 := Nat.mul_le_mul h5 (by omega)
  have e1 : (decide (k < -(2 ^ 63 : Int)) || decide (k ≥ 2 ^ 63)) = false := by
    rw [decide_eq_false (show ¬ k < -(2 ^ 63 : Int) by omega), decide_eq_false (show ¬ k ≥ 2 ^ 63 by omega)]; rfl
  have e2 : (k == 1 || (S l).length == 0) = false := by
    rw [hlen, Bool.or_eq_false_iff]
    exact ⟨beq_eq_false_iff_ne.mpr (by omega), beq_eq_false_iff_ne.mpr (by omega)⟩
  have hl : tooLong ((S l).length * k.toNat) = false := by
    unfold tooLong
    rw [hlen]
    exact decide_eq_false (by omega)
  refine PySem.P.mul_str e1 (fun _ _ => ?_) (fun _ _ => hl) ?_
  · rw [hlen]
    have : (2 ^ 63 - 1 : Int) / 100000 ≤ (2 ^ 63 - 1) / k := by
      apply Int.le_ediv_of_mul_le (by omega)
      have : (2 ^ 63 - 1 : Int) / 100000 * k ≤ (2 ^ 63 - 1 : Int) / 100000 * 100000 := Int.mul_le_mul_of_nonneg_left h3 (by decide)
      omega
    have : (92233720368547 : Int) ≤ (2 ^ 63 - 1) / k := this
    generalize (2 ^ 63 - 1 : Int) / k = q at this ⊢
    omega
  · rw [if_neg (by omega), if_neg (by rw [e2]; exact Bool.false_ne_true)]
    have e3 : (⟨(List.replicate k.toNat (S l).cps).foldl (· ++ ·) #[]⟩ : Str) = S (List.replicate k.toNat l).flatten := by
      show (⟨(List.replicate k.toNat l.toArray).foldl (· ++ ·) #[]⟩ : Str) = _
      rw [fold_app]
      rfl
    rw [e3]
    refine ⟨?_, ⟨.str _, H, I.tok _, ⟨_, rfl⟩, q⟩⟩
    rw [S_len]
    have : (List.replicate k.toNat l).flatten.length = k.toNat * l.length := by simp
    rw [this, Nat.mul_comm]
    omega
theorem pget_list : PGet X (rIxL X.K) := by
  intro pins s σ H o i ov iv Q I ro ri h
  obtain ⟨p, xs, k, z, rfl, rfl, hq, he, q⟩ := h
  cases ro
  obtain ⟨t, rfl⟩ := ri
  obtain ⟨its, r, pl, hz⟩ := I.list hq
  obtain ⟨j, h1, h2, h3, h4, h5⟩ := atI_get he
  obtain ⟨w, ew, rw'⟩ := r.get h2
  have hl := r.length
  have hn := line63
  have fin : EP X pins σ Q w s := ⟨z, H, I, rw', q⟩
  by_cases h0 : 0 ≤ k
  · have hj : k.toNat = j := by
      rw [seqIndex_of h0 h5] at h1
      exact Option.some.inj h1
    exact wpAny_getItem_list pl.isList h0 (by omega) (by rw [hj]; simpa using ew) fin
  · have hj : (k + (its.toArray.size : Int)).toNat = j := by
      rw [seqIndex_neg (by omega) h4] at h1
      rw [List.size_toArray, ← hl]
      exact Option.some.inj h1
    exact wpAny_getItem_list_neg (Q := fun r s' => EP X pins σ Q r s') pl.isList (by omega) (by rw [List.size_toArray] <;> omega) (by omega) (by rw [hj]; simpa using ew) fin
/-- a written text + what wants a token -/
theorem pe_addT {e : Expr} {te : TE} {r : R2} {c : Str} {j : Nat} {cp pos : Pos} (ho : OpR X (binaryOp .Add) r) (he : PET X e te) : PE X (.BinOp (.Constant (.str c) j cp) .Add e pos) (tOp r (tC (.str c)) te) := by
  refine ⟨fun pins s σ H Q I h => ?_⟩
  refine wpAny_BinOp (Calls.Constant_str ?_)
  exact thn (he pins _ σ H _ (by show 1 ≤ s.toks + 1; omega) (I.tok (s.toks + 1)) h) fun u s2 ⟨y, H2, I2, r2, q2⟩ => ho pins s2 σ H2 (.str c) y _ u Q I2 ⟨_, rfl⟩ r2 q2
theorem pa_consT {es : List Expr} {ta : TA} {c : Str} {j : Nat} {cp : Pos} (hr : PAT X es ta) (hs : starEach (.Constant (.str c) j cp :: es) X.env = (false, eval (.Constant (.str c) j cp) X.env) :: starEach es X.env := by rfl) : PA X (.Constant (.str c) j cp :: es) (tCons (tC (.str c)) ta) := by
  refine ⟨fun pos pins s σ H Q I h => ?_⟩
  rw [hs]
  show wpAny _ _ (spliced ((false, eval (.Constant (.str c) j cp) X.env) :: backTo pos (starEach es X.env))) _ _ s
  refine Calls.spliced_cons (Calls.Constant_str ?_)
  exact thn (hr pos pins _ σ H _ (by show 1 ≤ s.toks + 1; omega) (I.tok (s.toks + 1)) h) fun us s2 ⟨xs, H2, I2, r2, q2⟩ => ⟨.str c :: xs, H2, I2, .cons ⟨_, rfl⟩ r2, q2⟩
end
end Wk
set_option maxRecDepth 100000
set_option maxHeartbeats 4000000
namespace Wk
open PySem L2 TL PyProof.Rows
/-- a loop with one way out that is told once -/
theorem while_of {c : TT} {tb : TS} {D : Ends} {σ : L2.St} {H : Hp} (R : L2.St → Hp → Prop) (W : Nat → L2.St → Hp → Prop) (m0 : Nat) (h0 : W m0 σ H) (after : ∀ σ H, R σ H → D.nx σ H)
    (turn : ∀ NX : L2.St → Hp → Prop, (∀ σ H, R σ H → NX σ H) → ∀ m σ H, W m σ H → c σ H fun b H1 => if b = true then ∃ N : L2.St → Hp → Prop, (∀ σ' H', N σ' H' → ∃ m', m' < m ∧ W m' σ' H') ∧ tb { D with nx := N, ct := N, bk := NX } σ H1 else NX σ H1) :
    tWhile c tb D σ H := ⟨W, ⟨m0, h0⟩, turn D.nx after⟩
theorem go_next {D : Ends} {σ : L2.St} {H : Hp} (h : D.nx σ H) : tNext D σ H := h
theorem seq_set {te : TE} {u : TS} {i : Nat} {D : Ends} {σ : L2.St} {H : Hp} (h : te σ H fun x H1 => u D (σ.set i (some x)) H1) : tSeq (tAsg te (gName i)) u D σ H := h
theorem seq_setC {v : V} {u : TS} {i : Nat} {D : Ends} {σ : L2.St} {H : Hp} (h : u D (σ.set i (some v)) H) : tSeq (tAsg (tC v) (gName i)) u D σ H := h
/-- what stands behind a statement, told once -/
theorem seq_join {t u : TS} {D : Ends} {σ : L2.St} {H : Hp} (R : L2.St → Hp → Prop) (after : ∀ σ H, R σ H → u D σ H) (h : ∀ NX : L2.St → Hp → Prop, (∀ σ H, R σ H → NX σ H) → t { D with nx := NX } σ H) : tSeq t u D σ H := h _ after
theorem for_rangeR {lo : Int} {n : Nat} {g : TG} {tb : TS} {D : Ends} {σ : L2.St} {H : Hp} (R : L2.St → Hp → Prop) (Pv : Nat → L2.St → Hp → Prop) (h0 : Pv 0 σ H) (after : ∀ σ H, R σ H → D.nx σ H) (hd : ∀ σ H, Pv n σ H → R σ H)
    (turn : ∀ NX : L2.St → Hp → Prop, (∀ σ H, R σ H → NX σ H) → ∀ i σ H, i < n → Pv i σ H → g (.int (lo + i)) σ H fun σ2 H2 => tb { D with nx := Pv (i + 1), ct := Pv (i + 1), bk := NX } σ2 H2) :
    ∃ W : Nat → Nat → L2.St → Hp → Prop, (∃ m, W 0 m σ H) ∧ ∀ i m σ H, W i m σ H →
      ((Itr lo n).stop i H ∧ D.nx σ H) ∨ ((Itr lo n).go i H ∧ ∃ N : L2.St → Hp → Prop, (∀ σ' H', N σ' H' → ∃ m', m' < m ∧ W (i + 1) m' σ' H') ∧ ∀ x H', (Itr lo n).yld i H x H' → g x σ H' fun σ2 H2 => tb { D with nx := N, ct := N, bk := D.nx } σ2 H2) :=
  L2.for_range Pv h0 (fun i σ H hi hp => turn D.nx after i σ H hi hp) (fun σ H hp => after σ H (hd σ H hp))
theorem mod_in {x m : Int} (hm : 0 < m) (h : m ≤ 2 ^ 63) : -(2 ^ 64) < x % m ∧ x % m < 2 ^ 64 := by
  have h1 := Int.emod_nonneg x (Int.ne_of_gt hm)
  have h2 := Int.emod_lt_of_pos x hm
  constructor <;> omega
end Wk
set_option maxRecDepth 100000
set_option maxHeartbeats 4000000
namespace Wk
open PySem L2 TL PyProof.Rows
open SX (S S_len)
/-! ### things of all kinds, as they are handed to what judges -/
inductive Od (H : Hp) : V → Prop
  | bl (b : Bool) : Od H (.bl b)
  | non : Od H .non
  | int (i : Int) : Od H (.int i)
  | str (x : Str) : Od H (.str x)
  | tup {p : Addr} {xs : List V} (h : H p = some (.tup xs)) : Od H (.ref p)
  | lst {p : Addr} {xs : List V} (h : H p = some (.lst xs)) : Od H (.ref p)
  | dct {p : Addr} (h : H p = some (.dK [])) : Od H (.ref p)
def isI : V → Bool
  | .int _ => true
  | _ => false
def isB : V → Bool
  | .bl _ => true
  | _ => false
theorem Od.isi {K : PySem.W.Frag} {H : Hp} {v : V} (h : Od H v) : ∃ t, TyX K H v (.type t) ∧ kitB t "int" = some (isI v || isB v) ∧ kitB t "bool" = some (isB v) := by
  cases h with
  | bl b => exact ⟨"bool", .base (.bl b), (show kitB "bool" "int" = some true by decide +kernel), (show kitB "bool" "bool" = some true by decide +kernel)⟩
  | non => exact ⟨"NoneType", .base .non, (show kitB "NoneType" "int" = some false by decide +kernel), (show kitB "NoneType" "bool" = some false by decide +kernel)⟩
  | int i => exact ⟨"int", .base (.int i), (show kitB "int" "int" = some true by decide +kernel), (show kitB "int" "bool" = some false by decide +kernel)⟩
  | str x => exact ⟨"str", .base (.str x), (show kitB "str" "int" = some false by decide +kernel), (show kitB "str" "bool" = some false by decide +kernel)⟩
  | tup e => exact ⟨"tuple", .base (.tup e), (show kitB "tuple" "int" = some false by decide +kernel), (show kitB "tuple" "bool" = some false by decide +kernel)⟩
  | lst e => exact ⟨"list", .base (.lst e), (show kitB "list" "int" = some false by decide +kernel), (show kitB "list" "bool" = some false by decide +kernel)⟩
  | dct e => exact ⟨"dict", .base (.dK e), (show kitB "dict" "int" = some false by decide +kernel), (show kitB "dict" "bool" = some false by decide +kernel)⟩
theorem Od.same {H H' : Hp} {v : V} (g : Same H H') (h : Od H v) : Od H' v := by
  cases h with
  | bl b => exact .bl b
  | non => exact .non
  | int i => exact .int i
  | str x => exact .str x
  | tup e => exact .tup (g _ _ e)
  | lst e => exact .lst (g _ _ e)
  | dct e => exact .dct (g _ _ e)
section
variable {X : Cx} {K : PySem.W.Frag}
theorem isi {v : V} {T t : String} {b : Bool} {σ : L2.St} {H : Hp} {Q : Bool → Hp → Prop} {i : Nat} (hv : σ[i]? = some (some v)) (ty : TyX K H v (.type T)) (k : kitB T t = some b) (q : Q b H) : tB (tCB (rIsi K) (tCons (tVar i) (tCons (tC (V.ty t)) tNil))) σ H Q :=
  ⟨v, hv, v, .ty t, .type T, .type t, b, rfl, .ty t, ty, kit_ty k, b, rfl, q⟩
theorem isiV {v : V} {T t : String} {b : Bool} {σ : L2.St} {H : Hp} {Q : VK} {i : Nat} (hv : σ[i]? = some (some v)) (ty : TyX K H v (.type T)) (k : kitB T t = some b) (q : Q (.bl b) H) : tCB (rIsi K) (tCons (tVar i) (tCons (tC (V.ty t)) tNil)) σ H Q :=
  ⟨v, hv, v, .ty t, .type T, .type t, b, rfl, .ty t, ty, kit_ty k, q⟩
end
section
variable {P : Program} {w : World} {K : PySem.W.Frag} {mg : Str → Option Value} {base : Heap}
abbrev s_is_integer : Stmt := top 13
theorem sc_is_integer : FnScope ["thing"] ["thing"] (defScope s_is_integer) := ⟨rfl, rfl, rfl, by decide +kernel, rfl, by decide +kernel, by decide +kernel⟩
def sp_is_integer : Sp := fun vs H Q _ => ∃ v, vs = [v] ∧ Od H v ∧ Q (.bl (isI v)) H
theorem ok_is_integer (T : Txt K mg base) {f : Addr} {fd : FuncData} (F : Fun K "is_integer" "is_integer" s_is_integer f fd) : FnOk P w K mg base CX0 1 f fd ["thing"] sp_is_integer := by
  refine F.ok sc_is_integer (fun vs H Q E h => ?_) (fun cdv A outer s H vs Q E hr h => ?_)
  · obtain ⟨c, rfl, _⟩ := h; rfl
  obtain ⟨v, rfl, ho, q⟩ := h
  refine ⟨_, (pss_one (ps_ret (pe_and (pe_callB call_isi rfl T.n_isinstance boot_isinstance (pa_cons (pv 0) (pa_cons (pe_bltn (v := .ty "int") rfl T.n_int boot_int rfl) pa_nil))) (pe_one (pe_not (pe_callB call_isi rfl T.n_isinstance boot_isinstance (pa_cons (pv 0) (pa_cons (pe_bltn (v := .ty "bool") rfl T.n_bool boot_bool rfl) pa_nil)))))))), ?_⟩
  obtain ⟨t, ty, k1, k2⟩ := ho.isi (K := K)
  refine isiV (K := K) rfl ty k1 ⟨_, rfl, ?_⟩
  have e : isI v = ((isI v || isB v) && !isB v) := by cases v <;> rfl
  rw [e] at q
  revert q
  generalize (isI v || isB v) = b1 at *
  intro q
  cases b1 with
  | false => exact iteF q
  | true => exact iteT (isiV (K := K) rfl ty k2 ⟨_, rfl, q⟩)
end
/-! ### words -/
/-- what a word may be made of -/
def okT (t p : Int) : Bool := decide ((t = 1 ∧ -(2 ^ 59) ≤ p ∧ p ≤ 2 ^ 59 - 1) ∨ ((t = 0 ∨ t = 5) ∧ 0 ≤ p) ∨ (t = 2 ∧ 0 ≤ p ∧ p ≤ 1) ∨ (t = 3 ∧ p = 0) ∨ (t = 4 ∧ 0 ≤ p ∧ p ≤ 8))
def okW : V → V → Bool
  | .int t, .int p => okT t p
  | _, _ => false
def isW : V → Bool
  | .int n => okT (n % 8) (n / 8)
  | _ => false
theorem isI_ex {v : V} (h : isI v = true) : ∃ i, v = .int i := by
  cases v <;> first | exact ⟨_, rfl⟩ | cases h
theorem okW_l {v u : V} (h : isI v = false) : okW v u = false := by cases v <;> first | rfl | cases h
theorem okW_r {v u : V} (h : isI u = false) : okW v u = false := by
  cases v <;> cases u <;> first | rfl | cases h
theorem isW_l {v : V} (h : isI v = false) : isW v = false := by cases v <;> first | rfl | cases h
section
variable {P : Program} {w : World} {K : PySem.W.Frag} {mg : Str → Option Value} {base : Heap}
abbrev s_is_of_tag : Stmt := top 23
theorem sc_is_of_tag : FnScope ["tag", "payload", "least"] ["tag", "payload"] (defScope s_is_of_tag) := ⟨rfl, rfl, rfl, by decide +kernel, rfl, by decide +kernel, by decide +kernel⟩
def sp_is_of_tag : Sp := fun vs H Q _ => ∃ v u, vs = [v, u] ∧ Od H v ∧ Od H u ∧ Q (.bl (okW v u)) H
theorem ok_is_of_tag (T : Txt K mg base) {f : Addr} {fd : FuncData} (F : Fun K "is_of_tag" "is_of_tag" s_is_of_tag f fd)
    (D_is_integer : Def P w K mg base CX0 "is_integer" ["thing"] 1 sp_is_integer) : FnOk P w K mg base CX0 2 f fd ["tag", "payload"] sp_is_of_tag := by
  refine F.ok sc_is_of_tag (fun vs H Q E h => ?_) (fun cdv A outer s H vs Q E hr h => ?_)
  · obtain ⟨c, d, rfl, _⟩ := h; rfl
  obtain ⟨v, u, rfl, ho, hp, q⟩ := h
  refine ⟨_, (pss_cons (ps_if (PW.pt (pw_or (pt_not (pt_val (pe_call D_is_integer.ok (hr.mono (by omega)) rfl D_is_integer.g D_is_integer.k D_is_integer.b .nil pass0 (pa_cons (pv 0) pa_nil)))) (pw_or (pt_not (pt_val (pe_call D_is_integer.ok (hr.mono (by omega)) rfl D_is_integer.g D_is_integer.k D_is_integer.b .nil pass0 (pa_cons (pv 1) pa_nil)))) (pw_or1 (pt_not (pt_chain op_le op_lt pe_int (pv 0) (pe_callB call_len_low rfl T.n_len boot_len (pa_cons (pe_glob (v := .ref T.aGREATEST) rfl T.mGREATEST rfl) pa_nil)))))))) (pss_one (ps_ret pe_bl)) pss_nil)
    (pss_cons (ps_set (i := 2) sc_is_of_tag.nd rfl (Or.inl rfl) (pe_ifExp (pt_cmpR op_eq (pv 0) (pe_glob (v := .int 1) rfl T.mINTEGER_TAG ⟨_, rfl⟩) (nomark _)) (pe_glob (v := .int (-(2 ^ 59))) rfl T.mLEAST_INTEGER ⟨_, rfl⟩) pe_int))
    (pss_one (ps_ret (pe_and (pe_cmpR op_ge (pv 1) (pv 2) (nomark _)) (pe_one (pe_or (pe_cmpR op_isN (pe_ix ix_low (pe_glob (v := .ref T.aGREATEST) rfl T.mGREATEST rfl) (pv 0) (fun _ _ => rfl)) pe_non (nomark _)) (pe_one (pe_cmpR op_le (pv 1) (pe_ix ix_low (pe_glob (v := .ref T.aGREATEST) rfl T.mGREATEST rfl) (pv 0) (fun _ _ => rfl)) (nomark _)))))))))), ?_⟩
  refine seq_join (fun σ H' => H' = H ∧ ∃ t p : Int, v = .int t ∧ u = .int p ∧ σ = [some (.int t), some (.int p), none] ∧ 0 ≤ t ∧ t ≤ 5) ?_ ?_
  rotate_left
  · intro NX nx
    refine ⟨_, rfl, v, rfl, ho, _, rfl, ?_⟩
    refine itebn (fun h1 => ?_) (fun h1 => ?_)
    · rw [okW_l h1] at q; exact q
    obtain ⟨t, rfl⟩ := isI_ex h1
    refine ⟨_, rfl, u, rfl, hp, _, rfl, ?_⟩
    refine itebn (fun h2 => ?_) (fun h2 => ?_)
    · rw [okW_r h2] at q; exact q
    obtain ⟨p, rfl⟩ := isI_ex h2
    refine ⟨_, rfl, _, _, rfl, rfl, _, rfl, ?_⟩
    have out : ¬ (0 ≤ t ∧ t ≤ 5) → okW (.int t) (.int p) = false := fun h => decide_eq_false (by omega)
    refine ited (fun h3 => ?_) (fun h3 => ?_)
    · refine ⟨_, greats, rfl, T.kGREATEST, _, _, rfl, rfl, _, rfl, ?_⟩
      refine itedn (fun h4 => ?_) (fun h4 => ?_)
      · have h5 : ¬ t < 6 := h4
        rw [out (by omega)] at q; exact q
      · have h5 : t < 6 := h4
        exact go_next (nx _ _ ⟨rfl, t, p, rfl, rfl, rfl, h3, by omega⟩)
    · rw [out (by omega)] at q
      exact ⟨_, rfl, iteT q⟩
  rintro σ H' ⟨rfl, t, p, rfl, rfl, rfl, h0, h5⟩
  refine seq_join (fun σ H2 => H2 = H' ∧ ∃ l : Int, σ = [some (.int t), some (.int p), some (.int l)] ∧ l = (if t = 1 then -(2 ^ 59) else 0)) ?_ ?_
  rotate_left
  · intro NX nx
    refine ⟨_, rfl, rfl, _, rfl, ?_⟩
    refine ited (fun e => ?_) (fun e => ?_)
    · have e1 : t = 1 := V.int.inj e
      exact nx _ _ ⟨rfl, _, rfl, by rw [if_pos e1]⟩
    · have e1 : ¬ t = 1 := fun z => e (by rw [z])
      exact nx _ _ ⟨rfl, _, rfl, by rw [if_neg e1]⟩
  rintro σ H2 ⟨rfl, l, rfl, hl⟩
  have fin : ∀ {b : Bool}, b = okT t p → Q (.bl b) H2 := fun e => by rw [e]; exact q
  refine ⟨_, rfl, _, rfl, _, _, rfl, rfl, _, rfl, ?_⟩
  have at_ : ∃ v, atI greats t = some v ∧ (v = .non ↔ t = 0 ∨ t = 5) ∧ (v = .non ∨ ∃ g : Int, v = .int g ∧ (t = 1 → g = 2 ^ 59 - 1) ∧ (t = 2 → g = 1) ∧ (t = 3 → g = 0) ∧ (t = 4 → g = 8)) := by
    have : t = 0 ∨ t = 1 ∨ t = 2 ∨ t = 3 ∨ t = 4 ∨ t = 5 := by omega
    rcases this with rfl | rfl | rfl | rfl | rfl | rfl
    · exact ⟨.non, rfl, by simp, .inl rfl⟩
    · exact ⟨.int (2 ^ 59 - 1), rfl, by simp, .inr ⟨_, rfl, by simp⟩⟩
    · exact ⟨.int 1, rfl, by simp, .inr ⟨_, rfl, by simp⟩⟩
    · exact ⟨.int 0, rfl, by simp, .inr ⟨_, rfl, by simp⟩⟩
    · exact ⟨.int 8, rfl, by simp, .inr ⟨_, rfl, by simp⟩⟩
    · exact ⟨.non, rfl, by simp, .inl rfl⟩
  obtain ⟨v, a1, a2, a3⟩ := at_
  refine ited (fun h1 => ?_) (fun h1 => ?_)
  · refine ⟨_, rfl, _, greats, t, v, rfl, rfl, T.kGREATEST, a1, rfl, _, rfl, ?_⟩
    refine ited (fun h2 => ?_) (fun h2 => ?_)
    · refine fin (decide_eq_true ?_).symm
      have := a2.mp h2
      have h1' : l ≤ p := h1
      rw [if_neg (by omega)] at hl
      omega
    · rcases a3 with z | ⟨g, rfl, g1, g2, g3, g4⟩
      · exact absurd z h2
      refine ⟨_, rfl, _, rfl, _, greats, t, _, rfl, rfl, T.kGREATEST, a1, _, _, rfl, rfl, fin ?_⟩
      have : ¬ (t = 0 ∨ t = 5) := fun z => h2 (a2.mpr z)
      have h1' : l ≤ p := h1
      rw [Bool.eq_iff_iff]
      unfold okT
      rw [decide_eq_true_eq, decide_eq_true_eq]
      by_cases e1 : t = 1
      · rw [if_pos e1] at hl
        have := g1 e1
        omega
      · rw [if_neg e1] at hl
        omega
  · refine fin (decide_eq_false ?_).symm
    have h1' : ¬ l ≤ p := h1
    by_cases e1 : t = 1
    · rw [if_pos e1] at hl; omega
    · rw [if_neg e1] at hl; omega
abbrev s_is_word : Stmt := top 22
theorem sc_is_word : FnScope ["thing"] ["thing"] (defScope s_is_word) := ⟨rfl, rfl, rfl, by decide +kernel, rfl, by decide +kernel, by decide +kernel⟩
def sp_is_word : Sp := fun vs H Q _ => ∃ v, vs = [v] ∧ Od H v ∧ Q (.bl (isW v)) H
theorem ok_is_word (T : Txt K mg base) {f : Addr} {fd : FuncData} (F : Fun K "is_word" "is_word" s_is_word f fd)
    (D_is_integer : Def P w K mg base CX0 "is_integer" ["thing"] 1 sp_is_integer) (D_is_of_tag : Def P w K mg base CX0 "is_of_tag" ["tag", "payload"] 2 sp_is_of_tag) : FnOk P w K mg base CX0 3 f fd ["thing"] sp_is_word := by
  refine F.ok sc_is_word (fun vs H Q E h => ?_) (fun cdv A outer s H vs Q E hr h => ?_)
  · obtain ⟨c, rfl, _⟩ := h; rfl
  obtain ⟨v, rfl, ho, q⟩ := h
  refine ⟨_, (pss_cons (ps_if (pt_not (pt_val (pe_call D_is_integer.ok (hr.mono (by omega)) rfl D_is_integer.g D_is_integer.k D_is_integer.b .nil pass0 (pa_cons (pv 0) pa_nil)))) (pss_one (ps_ret pe_bl)) pss_nil)
    (pss_one (ps_ret (pe_call D_is_of_tag.ok (hr.mono (by omega)) rfl D_is_of_tag.g D_is_of_tag.k D_is_of_tag.b .nil pass0 (pa_cons (pe_op op_sub (pv 0) (pe_op op_mul (pe_op op_fdivW (pv 0) (pe_glob (v := .int 8) rfl T.mTAGS ⟨_, rfl⟩)) (pe_glob (v := .int 8) rfl T.mTAGS ⟨_, rfl⟩))) (pa_cons (pe_op op_fdivW (pv 0) (pe_glob (v := .int 8) rfl T.mTAGS ⟨_, rfl⟩)) pa_nil)))))), ?_⟩
  refine ⟨_, rfl, v, rfl, ho, _, rfl, ?_⟩
  refine itebn (fun h1 => ?_) (fun h1 => go_next ?_)
  · rw [isW_l h1] at q; exact q
  obtain ⟨n, rfl⟩ := isI_ex h1
  have e : okW (.int (n - n / 8 * 8)) (.int (n / 8)) = isW (.int n) := by
    have : n - n / 8 * 8 = n % 8 := by omega
    show okT _ _ = okT _ _
    rw [this]
  refine ⟨_, rfl, _, rfl, _, _, rfl, rfl, ⟨by decide, by decide⟩, _, _, rfl, rfl, .inr ⟨by decide, by decide⟩, _, _, rfl, rfl, _, rfl, _, _, rfl, rfl, ⟨by decide, by decide⟩, _, _, rfl, .int _, .int _, ?_⟩
  rw [e]; exact q
end
end Wk
set_option maxRecDepth 100000
set_option maxHeartbeats 4000000
namespace Wk
open PySem PySem.Spec L2 TL PyProof.Rows
open SX (S S_len)
/-! ### repr of data -/
def rRepr (K : PySem.W.Frag) : List V → Hp → VK → Prop := fun xs H Q => ∃ a d, xs = [V.ref a] ∧ Dp K H (.ref a) d ∧ d.showable = true ∧ d.hasDict = false ∧ d.depth ≤ 60 ∧ d.shown.length ≤ sizeLine ∧ Q (.str d.shown) H
theorem call_repr_deep {X : Cx} (hG : X.A.guards = some []) (hu : X.A.units + 64 < cLine) : CallR X (.builtin "repr") (rRepr X.K) := by
  intro pins s σ H xs us Q I r h
  obtain ⟨a, d, rfl, hd, hs, hn, hp, hz, q⟩ := h
  obtain ⟨u, rfl, rx⟩ := vals1 r
  obtain ⟨as, rd⟩ := Dp.reads I d _ u hd rx
  cases rx
  exact repr_of_reads' rd hs (PyData.noDict_hsm hn) hG (by omega) (fun _ _ e => e) (fun h' t tk hk => ⟨.str d.shown, H, I.kept hk, ⟨_, rfl⟩, q⟩) hz
/-! ### a def that wants to know that no repr is under way -/
structure FnG (P : Program) (w : World) (K : PySem.W.Frag) (mg : Str → Option Value) (base : Heap) (k : Nat) (f : Addr) (fd : FuncData) (ps : List Str) (sp : Sp) : Prop where
  len : ∀ vs H Q E, sp vs H Q E → vs.length = ps.length
  runG : ∀ (A : Around) (outer : List Env) (s : Shared) (H : Hp) (args : Args) (us : List Value) (vs : List V) (Q : VK) (E : XK), A.guards = some [] → Room k A → Env0 P w K mg base A outer s H → BindsTo s fd args (ps.zip us) → L2.Vals vs us → sp vs H Q E →
    codeAny (model P w) A (.call (.ref f) args) (CR CX0 outer P w H s Q E) s
section
variable {P : Program} {w : World} {K : PySem.W.Frag} {mg : Str → Option Value} {base : Heap}
theorem okG {x qual : Str} {st : Stmt} {f : Addr} {fd : FuncData} {N ps : List Str} {k : Nat} {sp : Sp} (F : Fun K x qual st f fd) (hS : FnScope N ps (defScope st)) (len : ∀ vs H Q E, sp vs H Q E → vs.length = ps.length)
    (body : ∀ (cdv : Value) (A : Around) (outer : List Env) (s : Shared) (H : Hp) (vs : List V) (Q : VK) (E : XK), (A.deeper (envOfC qual (defScope st) s.heap.objs.size f cdv)).guards = some [] → Room k (A.deeper (envOfC qual (defScope st) s.heap.objs.size f cdv)) → (∃ oc od kV doc pm an ct osl, K.lookup f = some ⟨oc, od, .func (PySem.W.fnOf x qual (defArgs st) (defBody st) (defScope st) .none kV doc pm an cdv ct), osl⟩) → sp vs H Q E →
      ∃ t, PSs (cxOf CX0 P w K mg base N qual (defScope st) f cdv A outer s H E).nox (defBody st) t ∧ t { nx := fun _ H' => Q .non H', rt := Q } (L2.start N vs) H) : FnG P w K mg base (k + 1) f fd ps sp := by
  obtain ⟨oc, od, kV, doc, pm, an, cdv, ct, osl, rfl, lk, hcd⟩ := F.ex
  refine ⟨len, fun A outer s H args us vs Q E hG hr e0 hb r hsp => ?_⟩
  refine LamX.run_ofS lk hcd hS hr e0 hb r (len _ _ _ _ hsp) fun hr' => ?_
  obtain ⟨t, h, q⟩ := body cdv A outer s H vs Q E hG hr' ⟨oc, od, kV, doc, pm, an, ct, osl, lk⟩ hsp
  exact ⟨t, h.nox, q⟩
end
structure DefG (P : Program) (w : World) (K : PySem.W.Frag) (mg : Str → Option Value) (base : Heap) (x : Str) (ps : List Str) (k : Nat) (sp : Sp) where
  f : Addr
  fd : FuncData
  ok : FnG P w K mg base k f fd ps sp
  g : mg x = some (.ref f)
  k : PySem.W.keepIn K (.ref f) = true
  b : Binds K fd ps []
section
variable {X : Cx} {k : Nat} {f : Addr} {fd : FuncData} {ps : List Str} {sp : Sp} {x : Str} {p pos : Pos} {e : Expr} {es : List Expr} {t : TA}
theorem pe_callG (F : FnG X.prog X.w X.K X.mg X.base k f fd ps sp) (hG : X.A.guards = some []) (hr : Room k X.A) (hg : Gl X x) (hm : X.mg x = some (.ref f)) (hk : PySem.W.keepIn X.K (.ref f) = true) (hb : Binds X.K fd ps [])
    (ha : PA X (e :: es) t) (hdb : (x == ("__debug__" : Str)) = false := by decide) (he : starEach (e :: es) X.env = (false, eval e X.env) :: starEach es X.env := by rfl) (hpl : (backTo pos (starEach es X.env)).any (·.1) = false := by rfl) :
    PE X (.Call (.Name x p) (e :: es) [] pos) (tCall sp [] E0 t) := by
  refine ⟨fun pins s σ H Q I want => wpAny_Call_Name_kw (ld_glob I hg hm ?_ hdb)⟩
  refine PySem.W.callWith_K (h₀ := X.base) I.ok.mod.kin hk (thn (ha.run pos pins s σ H _ I want) fun us s1 ⟨vs, H1, I1, r, q⟩ => ⟨I1.kIn, ?_⟩) he hpl
  have q' : sp vs H1 Q E0 := by rw [← List.append_nil vs]; exact q
  have many : (us ++ []).length = ps.length := by rw [List.append_nil, ← r.length]; exact F.len _ _ _ _ q'
  have bound := hb s1 us I1.kIn many
  rw [List.append_nil] at bound
  refine wpAny_call (codeAny_mono (F.runG X.A X.stack s1 H1 ⟨us, []⟩ us vs Q E0 hG hr I1.env0 bound r q') fun res s2 hq => ?_)
  match res, hq with
  | .error _, z => exact (show False from z).elim
  | .ok (.ret u), z => exact I1.after z
end
end Wk
set_option maxRecDepth 100000
set_option maxHeartbeats 8000000
namespace Wk
open PySem L2 TL PyProof.Rows
open SX (S S_len)
/-! ### the bag of drawn numbers -/
def Bag (H : Hp) (a g : Addr) : Prop := ∃ (s n : Int) (z : V) (gs : List Int), H a = some (.lst [.int s, .int n, .ref g, z]) ∧ H g = some (.lst (gs.map V.int)) ∧ g ≠ a ∧ (z = .non ∨ ∃ k : Int, z = .int k) ∧ gs.length ≤ 63
/-- all that was tracked is as it was, but the bag -/
def But (a g : Addr) (H H' : Hp) : Prop := ∀ b u, b ≠ a → b ≠ g → H b = some u → H' b = some u
theorem But.refl (a g : Addr) (H : Hp) : But a g H H := fun _ _ _ _ h => h
theorem But.trans {a g : Addr} {H H1 H2 : Hp} (x : But a g H H1) (y : But a g H1 H2) : But a g H H2 := fun b u n m h => y b u n m (x b u n m h)
theorem But.same {a g : Addr} {H H1 : Hp} (s : Same H H1) : But a g H H1 := fun b u _ _ h => s b u h
theorem But.one {a g : Addr} {H : Hp} {o : HO} : But a g H (upd H a o) := fun b u n _ h => by rw [upd_ne n]; exact h
theorem But.two {a g : Addr} {H : Hp} {o : HO} : But a g H (upd H g o) := fun b u _ n h => by rw [upd_ne n]; exact h
theorem But.new {a g : Addr} {H H1 : Hp} (x : But a g H H1) {p : Addr} (h : H1 p = none) (o : HO) : But a g H (upd H1 p o) := x.trans (.same (same_new h o))
theorem Bag.same {a g : Addr} {H H1 : Hp} (b : Bag H a g) (s : Same H H1) : Bag H1 a g := by
  obtain ⟨x, n, z, gs, h1, h2, h3⟩ := b
  exact ⟨x, n, z, gs, s _ _ h1, s _ _ h2, h3⟩
theorem Bag.new {a g : Addr} {H : Hp} (b : Bag H a g) {p : Addr} (h : H p = none) (o : HO) : Bag (upd H p o) a g := b.same (same_new h o)
theorem Bag.lists {a g : Addr} {H : Hp} (b : Bag H a g) : (∃ xs, H a = some (.lst xs)) ∧ ∃ xs, H g = some (.lst xs) := by
  obtain ⟨x, n, z, gs, h1, h2, _⟩ := b
  exact ⟨⟨_, h1⟩, ⟨_, h2⟩⟩
theorem Bag.off {a g p : Addr} {H : Hp} (b : Bag H a g) (h : H p = none) : p ≠ a ∧ p ≠ g := by
  obtain ⟨⟨xs, h1⟩, ⟨ys, h2⟩⟩ := b.lists
  exact ⟨fun e => (by rw [e, h1] at h; cases h), fun e => (by rw [e, h2] at h; cases h)⟩
theorem Od.but {a g : Addr} {H H1 : Hp} {v : V} (h : Od H v) (x : But a g H H1) (b : Bag H a g) (b1 : Bag H1 a g) : Od H1 v := by
  obtain ⟨⟨xs, h1⟩, ⟨ys, h2⟩⟩ := b.lists
  obtain ⟨⟨xs', h1'⟩, ⟨ys', h2'⟩⟩ := b1.lists
  cases h with
  | bl b => exact .bl b
  | non => exact .non
  | int i => exact .int i
  | str x => exact .str x
  | tup e => exact .tup (x _ _ (fun z => by rw [z, h1] at e; cases e) (fun z => by rw [z, h2] at e; cases e) e)
  | @lst p zs e =>
    by_cases ea : p = a
    · rw [ea]; exact .lst h1'
    · by_cases eg : p = g
      · rw [eg]; exact .lst h2'
      · exact .lst (x _ _ ea eg e)
  | dct e => exact .dct (x _ _ (fun z => by rw [z, h1] at e; cases e) (fun z => by rw [z, h2] at e; cases e) e)
section
variable {P : Program} {w : World} {K : PySem.W.Frag} {mg : Str → Option Value} {base : Heap}
abbrev s__law_pick : Stmt := top 71
theorem sc__law_pick : FnScope ["bag", "many", "great", "digit", "number"] ["bag", "many"] (defScope s__law_pick) := ⟨rfl, rfl, rfl, by decide +kernel, rfl, by decide +kernel, by decide +kernel⟩
/-- a drawn number below n -/
def sp_pick : Sp := fun vs H Q _ => ∃ (a g : Addr) (n : Nat), vs = [.ref a, .int (n : Int)] ∧ 0 < n ∧ n < 2 ^ 100 ∧ Bag H a g ∧ ∀ H' (d : Nat), d < n → But a g H H' → Bag H' a g → Q (.int (d : Int)) H'
theorem ok_pick (T : Txt K mg base) {f : Addr} {fd : FuncData} (F : Fun K "_law_pick" "_law_pick" s__law_pick f fd) : FnOk P w K mg base CX0 1 f fd ["bag", "many"] sp_pick := by
  refine F.ok sc__law_pick (fun vs H Q E h => ?_) (fun cdv A outer s H vs Q E hr h => ?_)
  · obtain ⟨a, g, n, rfl, _⟩ := h; rfl
  obtain ⟨a, g, n, rfl, hn, hn2, ⟨sd, nm, z, gs, ha, hg, hne, hz, hl⟩, q⟩ := h
  refine ⟨_, (pss_cons (ps_if (pt_cmpR op_notN (pe_ix ix_list (pv 0) pe_int (fun _ _ => rfl)) pe_non (nomark _)) (pss_one (ps_ret (pe_op op_mod (pe_callTy call_int1 rfl T.n_int boot_int (pa_cons (pe_ix ix_list (pv 0) pe_int (fun _ _ => rfl)) pa_nil)) (pv 1)))) pss_nil)
    (pss_cons (ps_asg (pe_op op_add (pe_ix ix_list (pv 0) pe_int (fun _ _ => rfl)) pe_int) (pg_sub (pv 0) pe_int set_list))
    (pss_cons (ps_set (i := 2) sc__law_pick.nd rfl (Or.inl rfl) (pe_ix ix_list (pv 0) pe_int (fun _ _ => rfl)))
    (pss_cons (ps_if (pt_cmpR op_gt (pe_callB call_len_seq rfl T.n_len boot_len (pa_cons (pv 2) pa_nil)) pe_int (nomark _)) (pss_cons (ps_set (i := 3) sc__law_pick.nd rfl (Or.inl rfl) (pe_op op_mod (pe_callTy call_int1 rfl T.n_int boot_int (pa_cons (pe_ix ix_list (pv 2) pe_int (fun _ _ => rfl)) pa_nil)) (pv 1)))
      (pss_cons (ps_asg (pe_op op_fdivW (pe_callTy call_int1 rfl T.n_int boot_int (pa_cons (pe_ix ix_list (pv 2) pe_int (fun _ _ => rfl)) pa_nil)) (pv 1)) (pg_sub (pv 2) pe_int set_list))
      (pss_cons (ps_if (pt_cmpR op_eq (pe_ix ix_list (pv 2) pe_int (fun _ _ => rfl)) pe_int (nomark _)) (pss_one (ps_expr (pe_bm PySem.F.plainAttrs_list PySem.F.slot_list_pop PySem.F.type_list_pop mt_popAt (pv 2) (pa_cons pe_int pa_nil)))) pss_nil)
      (pss_one (ps_ret (pv 3)))))) pss_nil)
    (pss_cons (ps_set (i := 4) sc__law_pick.nd rfl (Or.inl rfl) (pe_op op_mod (pe_callTy call_int1 rfl T.n_int boot_int (pa_cons (pe_op op_mul (pe_op op_add (pe_ix ix_list (pv 0) pe_int (fun _ _ => rfl)) (pe_op op_mul pe_int (pe_ix ix_list (pv 0) pe_int (fun _ _ => rfl)))) pe_int) pa_nil)) pe_int))
    (pss_cons (ps_set (i := 4) sc__law_pick.nd rfl (Or.inl rfl) (pe_op op_mod (pe_callTy call_int1 rfl T.n_int boot_int (pa_cons (pe_op op_mul (pv 4) (pe_op op_add (pe_op op_fdivW (pv 4) pe_int) pe_int)) pa_nil)) pe_int))
    (pss_cons (ps_set (i := 4) sc__law_pick.nd rfl (Or.inl rfl) (pe_op op_mod (pe_callTy call_int1 rfl T.n_int boot_int (pa_cons (pe_op op_mul (pv 4) (pe_op op_add (pe_op op_fdivW (pv 4) pe_int) pe_int)) pa_nil)) pe_int))
    (pss_one (ps_ret (pe_op op_mod (pe_callTy call_int1 rfl T.n_int boot_int (pa_cons (pe_op op_fdivW (pv 4) pe_int) pa_nil)) (pv 1))))))))))), ?_⟩
  have hpos : (0 : Int) < (n : Int) := by omega
  have hlog : ((n : Int)).natAbs.log2 < 9000 := by
    have : ((n : Int)).natAbs = n := Int.natAbs_natCast n
    rw [this]
    have := (Nat.log2_lt (Nat.ne_of_gt hn)).mpr hn2
    omega
  have out : ∀ (x : Int) (H' : Hp), But a g H H' → Bag H' a g → Q (.int (x % (n : Int))) H' := fun x H' b bg => by
    have h0 := Int.emod_nonneg x (Int.ne_of_gt hpos)
    have h1 := Int.emod_lt_of_pos x hpos
    have e : V.int (x % (n : Int)) = V.int (((x % (n : Int)).toNat : Nat) : Int) := congrArg V.int (by omega)
    rw [e]
    exact q H' _ (by omega) b bg
  -- bag[3] is not None
  refine seq_join (fun σ H' => H' = H ∧ z = .non ∧ σ = [some (.ref a), some (.int (n : Int)), none, none, none]) ?_ ?_
  rotate_left
  · intro NX nx
    refine ⟨_, rfl, a, _, _, _, rfl, rfl, SqL.of ha, atI_nat (j := 3) rfl, rfl, _, rfl, ?_⟩
    refine itedn (fun h1 => ?_) (fun h1 => go_next (nx _ _ ⟨rfl, h1, rfl⟩))
    rcases hz with e | ⟨k, rfl⟩
    · exact absurd e h1
    refine ⟨_, rfl, a, _, _, _, rfl, rfl, SqL.of ha, atI_nat (j := 3) rfl, .inl ⟨_, rfl, _, rfl, _, _, rfl, rfl, hpos, ?_⟩⟩
    exact out k H (.refl a g H) ⟨sd, nm, _, gs, ha, hg, hne, .inr ⟨k, rfl⟩, hl⟩
  rintro σ H' ⟨rfl, rfl, rfl⟩
  -- bag[1] = bag[1] + 1
  refine ⟨_, rfl, a, _, _, _, rfl, rfl, SqL.of ha, atI_nat (j := 1) rfl, _, _, rfl, rfl, _, rfl, a, _, _, 1, rfl, rfl, ha, rfl, ?_⟩
  have b1 : But a g H' (upd H' a (.lst [V.int sd, V.int (nm + 1), V.ref g, V.non])) := .one
  have ha1 : (upd H' a (.lst [V.int sd, V.int (nm + 1), V.ref g, V.non])) a = some (.lst [V.int sd, V.int (nm + 1), V.ref g, V.non]) := upd_same
  have hg1 : (upd H' a (.lst [V.int sd, V.int (nm + 1), V.ref g, V.non])) g = some (.lst (gs.map V.int)) := by rw [upd_ne hne]; exact hg
  dsimp only
  show tSeq (tAsg _ (gName 2)) _ _ _ (upd H' a (.lst [V.int sd, V.int (nm + 1), V.ref g, V.non]))
  generalize upd H' a (.lst [V.int sd, V.int (nm + 1), V.ref g, V.non]) = H1 at *
  generalize nm + 1 = nm at *
  refine seq_set ?_
  refine ⟨_, rfl, a, _, _, _, rfl, rfl, SqL.of ha1, atI_nat (j := 2) rfl, ?_⟩
  refine seq_join (fun σ H2 => H2 = H1 ∧ σ = [some (.ref a), some (.int (n : Int)), some (.ref g), none, none]) ?_ ?_
  rotate_left
  · intro NX nx
    refine ⟨_, rfl, g, _, rfl, .inl (SqL.of hg1), _, _, rfl, rfl, _, rfl, ?_⟩
    refine ited (fun h1 => ?_) (fun h1 => go_next (nx _ _ ⟨rfl, rfl⟩))
    obtain ⟨c, r, rfl⟩ : ∃ c r, gs = c :: r := by
      cases gs with
      | nil => exact absurd h1 (by decide)
      | cons c r => exact ⟨c, r, rfl⟩
    refine seq_set ?_
    refine ⟨_, rfl, g, _, _, _, rfl, rfl, SqL.of hg1, atI_nat (j := 0) rfl, .inl ⟨_, rfl, _, rfl, _, _, rfl, rfl, hpos, ?_⟩⟩
    refine ⟨_, rfl, g, _, _, _, rfl, rfl, SqL.of hg1, atI_nat (j := 0) rfl, .inl ⟨_, rfl, _, rfl, _, _, rfl, rfl, ⟨hpos, hlog⟩, ?_⟩⟩
    refine ⟨_, rfl, g, _, _, 0, rfl, rfl, hg1, by simp [ixN], ?_⟩
    have b2 : But a g H1 (upd H1 g (.lst (((c / (n : Int)) :: r).map V.int))) := .two
    have ha2 : (upd H1 g (.lst (((c / (n : Int)) :: r).map V.int))) a = some (.lst [V.int sd, V.int nm, V.ref g, V.non]) := by rw [upd_ne hne.symm]; exact ha1
    have hg2 : (upd H1 g (.lst (((c / (n : Int)) :: r).map V.int))) g = some (.lst (((c / (n : Int)) :: r).map V.int)) := upd_same
    dsimp only
    show tSeq (tIfS _ _ _) _ _ _ (upd H1 g (.lst (((c / (n : Int)) :: r).map V.int)))
    generalize upd H1 g (.lst (((c / (n : Int)) :: r).map V.int)) = H2 at *
    generalize c / (n : Int) = c2 at *
    have fin : ∀ H3, But a g H2 H3 → Bag H3 a g → Q (.int (c % (n : Int))) H3 := fun H3 b bg => out c H3 ((b1.trans b2).trans b) bg
    refine seq_join (fun σ H3 => But a g H2 H3 ∧ Bag H3 a g ∧ σ = [some (.ref a), some (.int (n : Int)), some (.ref g), some (.int (c % (n : Int))), none]) ?_ ?_
    · rintro σ H3 ⟨b3, bg3, rfl⟩
      exact ⟨_, rfl, fin H3 b3 bg3⟩
    intro NX2 nx2
    refine ⟨_, rfl, g, _, _, _, rfl, rfl, SqL.of hg2, atI_nat (j := 0) rfl, rfl, _, rfl, ?_⟩
    have hl2 : (c2 :: r).length ≤ 63 := hl
    refine ited (fun h2 => ?_) (fun h2 => go_next (nx2 _ _ ⟨.refl a g H2, ⟨sd, nm, _, _, ha2, hg2, hne, .inl rfl, hl2⟩, rfl⟩))
    refine ⟨_, rfl, .inl ⟨rfl, _, SqL.of hg2⟩, g, _, 0, 0, _, rfl, rfl, hg2, by decide, by decide, seqIndex_of (by decide) (by simp only [List.length_map, List.length_cons]; omega), rfl, ?_⟩
    exact nx2 _ _ ⟨.two, ⟨sd, nm, _, r, by rw [upd_ne hne.symm]; exact ha2, upd_same, hne, .inl rfl, by simp only [List.length_cons] at hl2; omega⟩, rfl⟩
  rintro σ H2 ⟨rfl, rfl⟩
  have fin : ∀ x : Int, Q (.int (x % (n : Int))) H2 := fun x => out x H2 b1 ⟨sd, nm, _, gs, ha1, hg1, hne, .inl rfl, hl⟩
  have at0 := atI_nat (xs := [V.int sd, V.int nm, V.ref g, V.non]) (j := 0) rfl
  have at1 := atI_nat (xs := [V.int sd, V.int nm, V.ref g, V.non]) (j := 1) rfl
  refine seq_set ?_
  refine ⟨_, rfl, a, _, _, _, rfl, rfl, SqL.of ha1, at0, _, rfl, a, _, _, _, rfl, rfl, SqL.of ha1, at1, _, _, rfl, rfl, .inl ⟨by decide, by decide⟩, _, _, rfl, rfl, _, _, rfl, rfl, .inr ⟨by decide, by decide⟩, .inl ⟨_, rfl, _, _, rfl, rfl, (show (0 : Int) < 2147483647 by decide), ?_⟩⟩
  refine seq_set ?_
  refine ⟨_, rfl, _, rfl, _, _, rfl, rfl, ⟨by decide, by decide⟩, _, _, rfl, rfl, _, _, rfl, rfl, .inl (mod_in (by decide) (by decide)), .inl ⟨_, rfl, _, _, rfl, rfl, (show (0 : Int) < 2147483647 by decide), ?_⟩⟩
  refine seq_set ?_
  refine ⟨_, rfl, _, rfl, _, _, rfl, rfl, ⟨by decide, by decide⟩, _, _, rfl, rfl, _, _, rfl, rfl, .inl (mod_in (by decide) (by decide)), .inl ⟨_, rfl, _, _, rfl, rfl, (show (0 : Int) < 2147483399 by decide), ?_⟩⟩
  refine ⟨_, rfl, _, _, rfl, rfl, ⟨by decide, by decide⟩, .inl ⟨_, rfl, _, rfl, _, _, rfl, rfl, hpos, fin _⟩⟩
end
end Wk
set_option maxRecDepth 100000
set_option maxHeartbeats 8000000
namespace Wk
open PySem L2 TL PyProof.Rows
open SX (S S_len)
section
variable {P : Program} {w : World} {K : PySem.W.Frag} {mg : Str → Option Value} {base : Heap}
/-! ### what is told and due -/
abbrev s__law_is : Stmt := top 73
theorem sc__law_is : FnScope ["found", "due"] ["found", "due"] (defScope s__law_is) := ⟨rfl, rfl, rfl, by decide +kernel, rfl, by decide +kernel, by decide +kernel⟩
def sp_is (K : PySem.W.Frag) : Sp := fun vs H Q _ => ∃ a b d, vs = [.ref a, .ref b] ∧ Dp K H (.ref a) d ∧ Dp K H (.ref b) d ∧ SeqAt.shaped d = true ∧ d.showable = true ∧ d.hasDict = false ∧ d.depth ≤ 60 ∧ d.shown.length ≤ sizeLine ∧ Q (.bl true) H
theorem ok_is (T : Txt K mg base) {f : Addr} {fd : FuncData} (F : Fun K "_law_is" "_law_is" s__law_is f fd) : FnG P w K mg base 1 f fd ["found", "due"] (sp_is K) := by
  refine okG F sc__law_is (fun vs H Q E h => ?_) (fun cdv A outer s H vs Q E hG hr lk h => ?_)
  · obtain ⟨a, b, d, rfl, _⟩ := h; rfl
  obtain ⟨a, b, d, rfl, da, db, h1, h2, h3, h4, h5, q⟩ := h
  refine ⟨_, (pss_one (ps_ret (pe_and (pe_cmpR (op_eqD hr.units) (pv 0) (pv 1) (nomark _)) (pe_one (pe_cmpR op_eq (pe_callB (call_repr_deep hG hr.units) rfl T.n_repr (by decide +kernel) (pa_cons (pv 0) pa_nil)) (pe_callB (call_repr_deep hG hr.units) rfl T.n_repr (by decide +kernel) (pa_cons (pv 1) pa_nil)) (nomark _)))))), ?_⟩
  refine ⟨_, rfl, _, rfl, d, d, da, db, h1, h1, _, rfl, ?_⟩
  rw [SeqAt.eqv_refl d (SeqAt.canLay_of_shaped h1)]
  refine iteT ?_
  refine ⟨_, rfl, a, d, rfl, da, h2, h3, h4, h5, _, rfl, b, d, rfl, db, h2, h3, h4, h5, rfl, ?_⟩
  rw [decide_eq_true rfl]
  exact q
end
end Wk
set_option maxRecDepth 100000
set_option maxHeartbeats 8000000
namespace Wk
open PySem L2 TL PyProof.Rows
open SX (S S_len)
section
variable {P : Program} {w : World} {K : PySem.W.Frag} {mg : Str → Option Value} {base : Heap}
theorem cut_ints (ns : List Int) (lo hi : Option Int) : ∃ ms : List Int, cutV (ns.map V.int) lo hi = ms.map V.int ∧ ms.length ≤ ns.length := by
  refine ⟨(ns.drop (HT.sIx (ns.map V.int).length 0 lo)).take (HT.sIx (ns.map V.int).length (ns.map V.int).length hi - HT.sIx (ns.map V.int).length 0 lo), ?_, ?_⟩
  · unfold cutV
    rw [List.map_take, List.map_drop]
  · rw [List.length_take, List.length_drop]; omega
theorem cut_mem {xs : List V} {lo hi : Option Int} {x : V} (h : x ∈ cutV xs lo hi) : x ∈ xs := List.mem_of_mem_drop (List.mem_of_mem_take h)
abbrev s__law_bag : Stmt := top 70
theorem sc__law_bag : FnScope ["script", "seed", "cell", "great", "always"] ["script"] (defScope s__law_bag) := ⟨rfl, rfl, rfl, by decide +kernel, rfl, by decide +kernel, by decide +kernel⟩
def sp_bag (K : PySem.W.Frag) : Sp := fun vs H Q _ => ∃ (l : Addr) (ns : List Int), vs = [.ref l] ∧ SqL K H l (ns.map V.int) ∧ ns.length ≤ 63 ∧ ∀ H' a g, Same H H' → Bag H' a g → Q (.ref a) H'
theorem ok_bag (T : Txt K mg base) {f : Addr} {fd : FuncData} (F : Fun K "_law_bag" "_law_bag" s__law_bag f fd) : FnOk P w K mg base CX0 1 f fd ["script"] (sp_bag K) := by
  refine F.ok sc__law_bag (fun vs H Q E h => ?_) (fun cdv A outer s H vs Q E hr h => ?_)
  · obtain ⟨l, ns, rfl, _⟩ := h; rfl
  obtain ⟨l, ns, rfl, hl, hn, q⟩ := h
  refine ⟨_, (pss_cons (ps_set (i := 1) sc__law_bag.nd rfl (Or.inl rfl) (pe_op op_add pe_int (pe_callB call_len_seq rfl T.n_len boot_len (pa_cons (pv 0) pa_nil))))
    (pss_cons (ps_for PassesOwn.never rfl (pi_list (pe_slice sl_list (pv 0) po_none (po_some pe_int))) (pg_name (i := 2) sc__law_bag.nd rfl (Or.inl rfl)) (pss_one (ps_set (i := 1) sc__law_bag.nd rfl (Or.inl rfl) (pe_op op_mod (pe_callTy call_int1 rfl T.n_int boot_int (pa_cons (pe_op op_add (pe_op op_add (pe_op op_mul (pv 1) pe_int) (pe_op op_mod (pe_callTy call_int1 rfl T.n_int boot_int (pa_cons (pv 2) pa_nil)) pe_int)) pe_int) pa_nil)) pe_int))))
    (pss_cons (ps_setLc (i := 3) (own := [("cell", 2)]) (g := gName 2) rfl sc__law_bag.nd rfl rfl (sw_true rfl rfl rfl (by decide +kernel)) (pi_list (pe_slice sl_list (pv 0) po_none (po_some pe_int))) (blkOk_by (N := ["script", "seed", "cell", "great", "always"]) (sc := defScope s__law_bag) (by decide +kernel)) (fun _ _ _ _ _ => pg_name (i := 2) sc__law_bag.nd rfl (Or.inl rfl)) (fun _ _ _ _ _ => pts_one (pt_cmpR op_ge (pe_callB call_abs rfl T.n_abs boot_abs (pa_cons (pe_callTy call_int1 rfl T.n_int boot_int (pa_cons (pv 2) pa_nil)) pa_nil)) (pe_op op_pow pe_int pe_int) (nomark _))) (fun _ _ _ _ _ => (pe_callB call_abs rfl T.n_abs boot_abs (pa_cons (pe_callTy call_int1 rfl T.n_int boot_int (pa_cons (pv 2) pa_nil)) pa_nil))))
    (pss_cons (ps_set (i := 4) sc__law_bag.nd rfl (Or.inl rfl) pe_non)
    (pss_cons (ps_if (PW.pt (pw_and (pt_cmpR op_lt (pe_callB call_len_seq rfl T.n_len boot_len (pa_cons (pv 0) pa_nil)) pe_int (nomark _)) (pw_and1 (pt_cmpR op_eq (pe_callB call_len_seq rfl T.n_len boot_len (pa_cons (pv 3) pa_nil)) pe_int (nomark _))))) (pss_one (ps_set (i := 4) sc__law_bag.nd rfl (Or.inl rfl) (pe_callB call_abs rfl T.n_abs boot_abs (pa_cons (pe_callB (cr_sum rfl) rfl T.n_sum boot_sum (pa_cons (pe_lc (own := [("cell", 2)]) (g := gName 2) (tt := tYes) rfl sc__law_bag.nd (pi_list (pv 0)) (blkOk_by (N := ["script", "seed", "cell", "great", "always"]) (sc := defScope s__law_bag) (by decide +kernel)) (fun _ _ _ _ _ => pg_name (i := 2) sc__law_bag.nd rfl (Or.inl rfl)) (fun _ _ _ _ _ => pts_nil) (fun _ _ _ _ _ => (pe_callTy call_int1 rfl T.n_int boot_int (pa_cons (pv 2) pa_nil)))) pa_nil)) pa_nil)))) pss_nil)
    (pss_one (ps_ret (pe_lst (pa_cons (pv 1) (pa_cons pe_int (pa_cons (pv 3) (pa_cons (pv 4) pa_nil)))))))))))), ?_⟩
  have hz := line_eq
  refine seq_set ?_
  refine ⟨_, rfl, l, _, rfl, .inl hl, _, _, rfl, rfl, ?_⟩
  refine seq_join (fun σ H' => Same H H' ∧ ∃ (x : Int) (o : Option V), σ = [some (.ref l), some (.int x), o, none, none]) ?_ ?_
  rotate_left
  · intro NX nx
    refine ⟨_, rfl, _, rfl, l, _, rfl, hl, fun p np => ?_⟩
    obtain ⟨ms, em, lm⟩ := cut_ints ns none (some 63)
    rw [em]
    refine ⟨p, rfl, ⟨_, SqL.of upd_same⟩, ?_⟩
    refine for_list (xs := ms.map V.int) (fun _ σ H' => Same H H' ∧ H' p = some (.lst (ms.map V.int)) ∧ ∃ (x : Int) (o : Option V), σ = [some (.ref l), some (.int x), o, none, none]) ⟨same_new np _, upd_same, _, _, rfl⟩ (fun i σ H' _ h => SqL.of h.2.1) ?_ (fun σ H' h => nx _ _ ⟨h.1, h.2.2⟩)
    rintro i v σ H' hv ⟨g, hp, x, o, rfl⟩
    obtain ⟨m, rfl⟩ : ∃ m : Int, v = .int m := by
      rw [List.getElem?_map] at hv
      cases e : ms[i]? with
      | none => rw [e] at hv; cases hv
      | some m => rw [e] at hv; exact ⟨m, (Option.some.inj hv).symm⟩
    refine ⟨_, rfl, _, _, rfl, rfl, .inr ⟨by decide, by decide⟩, _, rfl, .inl ⟨_, rfl, _, _, rfl, rfl, (show (0 : Int) < 1000003 by decide), _, _, rfl, rfl, _, _, rfl, rfl, .inl ⟨_, rfl, _, _, rfl, rfl, (show (0 : Int) < 2147483647 by decide), ?_⟩⟩⟩
    exact ⟨g, hp, _, _, rfl⟩
  rintro σ H1 ⟨g1, sd, o, rfl⟩
  have hl1 := g1.seq hl
  -- great = [..]
  refine seq_join (fun σ H' => Same H1 H' ∧ ∃ (p : Addr) (gs : List Int), H' p = some (.lst (gs.map V.int)) ∧ gs.length ≤ 63 ∧ H1 p = none ∧ σ = [some (.ref l), some (.int sd), o, some (.ref p), none]) ?_ ?_
  rotate_left
  · intro NX nx
    refine ⟨_, rfl, _, rfl, l, _, rfl, hl1, fun p np => ?_⟩
    obtain ⟨ms, em, lm⟩ := cut_ints ns none (some 63)
    rw [em]
    refine ⟨p, rfl, ⟨_, SqL.of upd_same⟩, fun D hD => ?_⟩
    have pD : p ≠ D := ne_of_none upd_same hD
    have nD : H1 D = none := by rw [upd_ne pD.symm] at hD; exact hD
    refine lc_list (xs := ms.map V.int) (fun i H' => Same H1 H' ∧ H' p = some (.lst (ms.map V.int)) ∧ ∃ gs : List Int, H' D = some (.lst (gs.map V.int)) ∧ gs.length ≤ i ∧ i ≤ ms.length) ⟨(same_new np _).trans (same_new hD _), by rw [upd_ne pD]; exact upd_same, [], upd_same, Nat.le_refl _, Nat.zero_le _⟩ (fun i H' _ h => SqL.of h.2.1) ?_ ?_
    · rintro i v H' hv ⟨g, hp, gs, hd, hi, hi2⟩
      have hlt : i < ms.length := by
        rcases Nat.lt_or_ge i ms.length with z | z
        · exact z
        · rw [List.getElem?_eq_none (by rw [List.length_map]; exact z)] at hv; cases hv
      obtain ⟨m, rfl⟩ : ∃ m : Int, v = .int m := by
        rw [List.getElem?_map] at hv
        cases e : ms[i]? with
        | none => rw [e] at hv; cases hv
        | some m => rw [e] at hv; exact ⟨m, (Option.some.inj hv).symm⟩
      refine ⟨rfl, ?_⟩
      refine ⟨_, rfl, .inl ⟨_, rfl, _, rfl, _, _, rfl, rfl, ⟨by decide, by decide, by decide⟩, _, _, rfl, rfl, _, rfl, ?_⟩⟩
      refine ited (fun h1 => ?_) (fun h1 => ⟨g, hp, gs, hd, Nat.le_succ_of_le hi, hlt⟩)
      refine ⟨_, rfl, .inl ⟨_, rfl, _, rfl, _, hd, by rw [List.length_map]; omega, ?_⟩⟩
      refine ⟨same_mut g nD _, by rw [upd_ne pD]; exact hp, gs ++ [if m < 0 then -m else m], ?_, by rw [List.length_append]; exact Nat.succ_le_succ hi, hlt⟩
      rw [upd_same, List.map_append]; rfl
    · rintro H' ⟨g, hp, gs, hd, hi, hi2⟩
      rw [List.length_map] at hi
      exact nx _ _ ⟨g, D, gs, hd, by omega, nD, rfl⟩
  rintro σ H2 ⟨g2, p, gs, hp, hgs, np, rfl⟩
  have hl2 := g2.seq hl1
  refine seq_setC ?_
  refine seq_join (fun σ H' => Same H2 H' ∧ ∃ z : V, (z = .non ∨ ∃ k : Int, z = .int k) ∧ σ = [some (.ref l), some (.int sd), o, some (.ref p), some z]) ?_ ?_
  rotate_left
  · intro NX nx
    refine ⟨_, rfl, l, _, rfl, .inl hl2, _, _, rfl, rfl, _, rfl, ?_⟩
    refine ited (fun h1 => ?_) (fun h1 => go_next (nx _ _ ⟨Same.refl H2, .non, .inl rfl, rfl⟩))
    refine ⟨_, rfl, p, _, rfl, .inl (SqL.of hp), rfl, _, rfl, ?_⟩
    refine ited (fun h2 => ?_) (fun h2 => go_next (nx _ _ ⟨Same.refl H2, .non, .inl rfl, rfl⟩))
    refine ⟨_, rfl, l, rfl, ⟨_, hl2⟩, fun D hD => ?_⟩
    have lD : ∀ {H'}, Same H2 H' → SqL K H' l (ns.map V.int) := fun g => g.seq hl2
    refine lc_list (xs := ns.map V.int) (fun i H' => Same H2 H' ∧ ∃ gs : List Int, H' D = some (.lst (gs.map V.int)) ∧ gs.length ≤ i ∧ i ≤ ns.length) ⟨same_new hD _, [], upd_same, Nat.le_refl _, Nat.zero_le _⟩ (fun i H' _ h => lD h.1) ?_ ?_
    · rintro i v H' hv ⟨g, gs, hd, hi, hi2⟩
      have hlt : i < ns.length := by
        rcases Nat.lt_or_ge i ns.length with z | z
        · exact z
        · rw [List.getElem?_eq_none (by rw [List.length_map]; exact z)] at hv; cases hv
      obtain ⟨m, rfl⟩ : ∃ m : Int, v = .int m := by
        rw [List.getElem?_map] at hv
        cases e : ns[i]? with
        | none => rw [e] at hv; cases hv
        | some m => rw [e] at hv; exact ⟨m, (Option.some.inj hv).symm⟩
      refine ⟨rfl, ?_⟩
      unfold tYes
      dsimp only
      rw [if_pos rfl]
      refine ⟨_, rfl, .inl ⟨_, rfl, _, hd, by rw [List.length_map]; omega, ?_⟩⟩
      refine ⟨same_mut g hD _, gs ++ [m], ?_, by rw [List.length_append]; exact Nat.succ_le_succ hi, hlt⟩
      rw [upd_same, List.map_append]; rfl
    · rintro H' ⟨g, gs, hd, hi, hi2⟩
      refine ⟨D, gs, rfl, SqL.of hd, _, rfl, ?_⟩
      exact nx _ _ ⟨g, _, .inr ⟨_, rfl⟩, rfl⟩
  rintro σ H3 ⟨g3, z, hz3, rfl⟩
  refine ⟨_, rfl, _, rfl, _, rfl, by show 4 ≤ sizeLine; omega, fun a na => ?_⟩
  have pa : p ≠ a := ne_of_none (g3 _ _ hp) na
  exact q _ a p (((g1.trans g2).trans g3).trans (same_new na _)) ⟨sd, 1, z, gs, upd_same, by rw [upd_ne pa]; exact g3 _ _ hp, pa, hz3, hgs⟩
end
end Wk
set_option maxRecDepth 100000
set_option maxHeartbeats 4000000
/-! Rules of my own: tuple(d) and list(d.values()) of a dict, xs[a:b] = ys. -/
namespace Wk
open PySem PySem.Spec PyProof.Rows L2
section
variable {P : Program} {w : World} {A : Around} {E : Value → Shared → Prop} {s : Shared} {T : String} {r d : Addr} {n : Nat} {R : Nat → Value → Prop} {OK : Heap → Prop}
/-- all that a source tells, in a list that nobody sees -/
theorem collect_src {Q : List Value → Shared → Prop} (K : PySem.W.KdlSrc P w T r d n R OK) (hh : A.handled = none) (hok : OK s.heap) (hn : n ≤ sizeLine)
    (hQ : ∀ (h' : Heap) (tk : Nat) (got : Array Value), (∀ b o, s.heap.get? b = some o → h'.get? b = some o) → ItemsOf R got n → Q got.toList { s with heap := h', toks := tk }) :
    wpAny (model P w) A (collect (.ref r)) Q E s := by
  unfold collect
  refine wpAny_bind (wpAny_runValue (codeAny_builtin F.entry_proto_collect ?_)); rw [Around.under_plainId F.plain_proto_collect _]
  show wpAny _ A.in1 (newList [] >>= fun x => again (.builtin "list.__iadd__" ⟨[x, .ref r], []⟩)) _ _ s
  refine wpAny_bind (wpAny_newObj_type (wpAny_pure ⟨plainId_quiet F.plain_list_iadd _, codeAny_builtin F.entry_list_iadd ?_⟩)); rw [Around.under_plainId F.plain_list_iadd _]
  show wpAny _ A.in1 (Builtin.List.listExtendWith (.ref s.heap.objs.size) (.ref r) (.ref s.heap.objs.size)) _ _ _
  have hl := K.there _ hok
  have new : (s.heap.push { cls := .type "list", data := .seq ([] : List Value).toArray }).get? s.heap.objs.size = some { cls := .type "list", data := .seq #[] 0 } := Heap.get?_push_size _ rfl
  refine wpAny_mono (PySem.W.kdl_extend (A := A) (s := { s with heap := s.heap.push { cls := .type "list", data := .seq ([] : List Value).toArray } })
    (R := fun q s' => q = .ok (.ret (.ref s.heap.objs.size)) ∧ ∃ (h' : Heap) (tk : Nat) (got : Array Value) (c' : Nat), s' = { s with heap := h', toks := tk } ∧ (∀ b o, s.heap.get? b = some o → h'.get? b = some o) ∧ h'.get? s.heap.objs.size = some { cls := .type "list", dict := none, data := .seq got c', slots := #[] } ∧ ItemsOf R got n)
    K hh (K.keep _ _ hok fun b _ o q => Heap.get?_push_of_some _ q) s.heap.objs.size (Nat.ne_of_gt hl.1) (Nat.ne_of_gt hl.2) _ 0 new
    (fun h' tk got c' hk e hi => ⟨rfl, h', tk, got, c', rfl, fun b o q => hk b o (Nat.ne_of_lt (Heap.lt_size q)) (Heap.get?_push_of_some _ q), e, hi⟩) hn) (fun fin s' h => ?_) (fun e s' h => absurd h.1 (by simp))
  cases fin with
  | done f =>
    obtain ⟨e, h', tk, got, c', rfl, hk, hS, hi⟩ := h
    cases e
    show wpAny _ A (load s.heap.objs.size >>= _) _ _ _
    exact wpAny_bind (wpAny_load hS (wpAny_pure (hQ h' tk got hk hi)))
  | again c' =>
    refine ⟨h.1, codeAny_mono h.2 fun q s'' hq => ?_⟩
    obtain ⟨rfl, h', tk, got, c', rfl, hk, hS, hi⟩ := hq
    show wpAny _ A (load s.heap.objs.size >>= _) _ _ _
    exact wpAny_bind (wpAny_load hS (wpAny_pure (hQ h' tk got hk hi)))
theorem tuple_src {Q : Value → Shared → Prop} (K : PySem.W.KdlSrc P w T r d n R OK) (hT : T ≠ "tuple") (hh : A.handled = none) (hok : OK s.heap) (hn : n ≤ sizeLine)
    (hQ : ∀ (h' : Heap) (tk : Nat) (got : Array Value), (∀ b o, s.heap.get? b = some o → h'.get? b = some o) → ItemsOf R got n → Q (.ref h'.objs.size) { s with heap := h'.push { cls := .type "tuple", data := .seq got }, toks := tk }) :
    wpAny (model P w) A (call (.type "tuple") [.ref r]) Q E s := by
  have made : ∀ {Q₁ : Value → Shared → Prop}, (∀ (h' : Heap) (tk : Nat) (got : Array Value), (∀ b o, s.heap.get? b = some o → h'.get? b = some o) → ItemsOf R got n → Q₁ (.ref h'.objs.size) { s with heap := h'.push { cls := .type "tuple", data := .seq got }, toks := tk }) →
      codeAny (model P w) A.in1 (.call (.builtin "tuple.__new__") ⟨[.type "tuple", .ref r], []⟩) (wants Q₁ E) s := fun {Q₁} h => by
    refine codeAny_of_tree ?_
    show wpAny _ A.in1.in1 (do checkBuiltinCall "tuple.__new__" ⟨[.type "tuple", .ref r], []⟩; again (.builtin "tuple.__new__" ⟨[.type "tuple", .ref r], []⟩)) _ _ s
    refine wpAny_bind (wpAny_of_eq (F.newCall_tuple_1 _) (wpAny_pure ⟨plainId_quiet F.plain_tuple_new _, codeAny_builtin F.entry_tuple_new ?_⟩)); rw [Around.under_plainId F.plain_tuple_new _]
    have a1 := sub_tuple_self
    have a2 := init_tuple_lookup
    have a3 := madeHere_tuple
    have a4 := K.type s hok
    have a5 : A.in1.in1.handled = none := hh
    wp_walk using wpAny_typeOf a4, collect_src (A := A.in1.in1) K a5 hok hn
    intro h' tk got hk hi
    show wpAny _ _ (Builtin.Tuple.tupleExact got.toList.toArray >>= fun v => ret v) _ _ _
    unfold Builtin.Tuple.tupleExact
    have e : got.toList.toArray = got := by simp
    rw [e]
    exact wpAny_bind (wpAny_newObj_type (wpAny_pure (h h' tk got hk hi)) (by show got.size ≤ sizeLine; rw [hi.1]; exact hn))
  refine callType_codes (Q₁ := fun o s₁ => s₁.TypeIs o "tuple" ∧ Q o s₁) F.called_tuple (F.typeCall_tuple_1 _) F.entry_object_init (made fun h' tk got hk hi => ⟨⟨_, Heap.get?_push_size _ rfl, rfl⟩, hQ h' tk got hk hi⟩) fun o s₁ h₁ => ?_
  exact ⟨h₁.1, F.args_object_init_2 o _, object_init_meets F.called_tuple.init.lookup F.called_tuple.made (by decide) P w A.in1 _ s₁ ⟨h₁.1, rfl, h₁.2⟩⟩
end
section
variable {X : Cx} {e : Expr} {te : TE} {p apos cpos pos : Pos}
/-- tuple(d) of a dict: its keys -/
def rTupD : List V → Hp → VK → Prop := fun xs H Q => ∃ d kvs, xs = [.ref d] ∧ H d = some (.dK kvs) ∧ ∀ q, H q = none → Q (.ref q) (upd H q (.tup (kvs.map fun kv => kV kv.1)))
theorem call_tup_dK (hc : X.calm = true) : CallR X (.type "tuple") rTupD := by
  intro pins s σ H xs us Q I r h
  obtain ⟨d, kvs, rfl, hd, q⟩ := h
  obtain ⟨u, rfl, rx⟩ := vals1 r
  obtain rfl : u = Value.ref d := rx
  obtain ⟨z, lo, vs, rk, ho⟩ := (show ObjOk X.prog X.w H s.heap d (.dK kvs) from I.hok d _ hd)
  obtain ⟨ep, at_⟩ := ho.dictAt
  have hl : kvs.length = vs.length := Paired.length rk
  refine tuple_src (PySem.W.kdl_dict (knd := mixKind X.prog X.w) (kvs := vs) (ep := ep) lo) (by decide) (I.ok.hd hc) at_ (by rw [← hl]; exact z) fun h' tk got keep hi => ?_
  have J : Inv X pins σ H { s with heap := h', toks := tk } := I.kept keep
  refine ⟨.ref h'.objs.size, upd H h'.objs.size (.tup (kvs.map fun kv => kV kv.1)), J.laid (t' := tk) (fun b o q => Heap.get?_push_of_some _ q) (Nat.le_refl _) (show ObjOk X.prog X.w _ _ _ (.tup (kvs.map fun kv => kV kv.1)) from ⟨by rw [List.length_map]; exact z, got.toList, ?_, ?_⟩), rfl, q _ (J.hok.fresh (Nat.le_refl _))⟩
  · have el : got.toList.length = got.size := by simp
    refine vals_of_at (by rw [List.length_map, el, hi.1, hl]) fun j x v h1 h2 => ?_
    obtain ⟨k, y, hk, hv⟩ := hi.2 j v (by rw [← Array.getElem?_toList]; exact h2)
    have e1 : (kvs.map (·.1))[j]? = some k := by rw [KV.keys rk, List.getElem?_map, hk]; rfl
    have e2 : (kvs.map fun kv => kV kv.1)[j]? = some (kV k) := by
      rw [show (kvs.map fun kv => kV kv.1) = (kvs.map (·.1)).map kV from by rw [List.map_map]; rfl, List.getElem?_map, e1]; rfl
    cases h1.symm.trans e2
    exact keyIs_rel hv
  · rw [Array.toArray_toList]; exact IsTup.new _ _
/-- list(e.values()) -/
def rValsL : V → Hp → VK → Prop := fun x H Q => ∃ (d : Addr) (kvs : List (Key × V)), x = .ref d ∧ H d = some (.dK kvs) ∧ ∀ q, H q = none → Q (.ref q) (upd H q (.lst (kvs.map Prod.snd)))
def tListVals (te : TE) : TE := fun σ H Q => te σ H fun x H1 => rValsL x H1 Q
theorem kv_get : ∀ {kvs : List (Key × V)} {vs : List (Key × Value)}, KV kvs vs → ∀ {j : Nat} {k : Key} {v : Value}, vs[j]? = some (k, v) → ∃ x, kvs[j]? = some (k, x) ∧ RelV x v
  | _, _, .cons r t, 0, k, v, h => by
    cases h
    exact ⟨_, congrArg some (Prod.ext r.1 rfl), r.2⟩
  | _, _, .cons r t, j + 1, k, v, h => kv_get t (j := j) h
theorem pe_listVals (hc : X.calm = true) (he : PE X e te) (hg : Gl X "list") (hm : X.mg "list" = none) (hv : bootBuiltins "list" = some (.type "list")) (hbase : attributeBase e "values" X.env (eval e X.env) = eval e X.env := by rfl) (hline : (apos.endLine == cpos.line) = true := by rfl)
    (hs : starEach [.Call (.Attribute e "values" apos) [] [] cpos] X.env = (false, eval (.Call (.Attribute e "values" apos) [] [] cpos) X.env) :: starEach [] X.env := by rfl) : PE X (.Call (.Name "list" p) [.Call (.Attribute e "values" apos) [] [] cpos] [] pos) (tListVals te) := by
  refine ⟨fun pins s σ H Q I hq => wpAny_Call_Name_kw (ld_blt I hg hm hv (PyProof.Rows.callWith_type1 ?_ hs rfl))⟩
  rw [hs]
  show wpAny _ _ (spliced ((false, eval (.Call (.Attribute e "values" apos) [] [] cpos) X.env) :: backTo pos (starEach [] X.env))) _ _ s
  refine Calls.spliced_cons (wpAny_Call_method (T := "dict") (id := "dict.values") hbase rfl hline F.plainAttrs_dict F.slot_dict_values F.type_dict_values (thn (he.run pins s σ H _ I hq) fun u s1 ⟨x, H1, I1, rx, d, kvs, ex, hd, q⟩ => ?_))
  subst ex
  obtain rfl : u = Value.ref d := rx
  obtain ⟨hz, lo, vs, kv, ho⟩ := I1.hok d _ hd
  obtain ⟨ep, at_⟩ := ho.dictAt
  have hl : kvs.length = vs.length := Paired.length kv
  have I2 : Inv X pins σ H1 { s1 with heap := s1.heap.push { cls := .type "dict_values", data := .fields #[.ref d] } } := I1.kept (t' := s1.toks) fun b ob q => Heap.get?_push_of_some _ q
  refine ⟨ho.typeIs, ho.mapOf.noDict, ?_⟩
  show wpAny _ _ (callWith cpos (.builtin "dict.values") [.ref d] [] []) _ X.xe s1
  refine method_meetsIn F.slot_dict_values F.entry_dict_values rfl (PySem.evalArgs_none ⟨rfl, ho.typeIs, F.args_dict_values_1 _, _, meets_dict_values (mixKind X.prog X.w) d lo, ⟨vs, ho⟩, Calls.spliced_nil ?_⟩)
  refine PySem.W.kdl_call (PySem.W.kdl_values (knd := mixKind X.prog X.w) (kvs := vs) (ep := ep)) (I1.ok.hd hc) ⟨⟨_, Heap.get?_push_size _ rfl, rfl, rfl⟩, at_.push _⟩ (by omega) fun h' tk got c keep hS hi => ?_
  have new := I2.hok.fresh (Nat.le_refl _)
  refine ⟨.ref _, upd H1 _ (.lst (kvs.map Prod.snd)), I2.laid (t' := tk) keep (Nat.le_refl _) (show ObjOk X.prog X.w _ _ _ (.lst (kvs.map Prod.snd)) from ⟨by rw [List.length_map]; exact hz, got.toList, c, ?_, by rw [Array.toArray_toList]; exact hS⟩), rfl, q _ new⟩
  have el : got.toList.length = got.size := by simp
  refine vals_of_at (by rw [List.length_map, el, hi.1, hl]) fun j x v h1 h2 => ?_
  obtain ⟨k, hk⟩ := hi.2 j v (by rw [← Array.getElem?_toList]; exact h2)
  obtain ⟨y, e1, e2⟩ := kv_get kv hk
  rw [List.getElem?_map, e1] at h1
  cases h1
  exact e2
/-- xs[a:b] = ys, ys another list -/
def gSlice (to : TE) (tl th : TO) : TG := fun v σ H Q => to σ H fun x H1 => tl σ H1 fun a H2 => th σ H2 fun c H3 => ∃ (l b : Addr) (xs ys : List V) (i j : Int), x = .ref l ∧ v = .ref b ∧ a = some i ∧ c = some j ∧ H3 l = some (.lst xs) ∧ H3 b = some (.lst ys) ∧ l ≠ b ∧ 0 ≤ i ∧ i ≤ j ∧ j ≤ xs.length ∧ xs.length + ys.length ≤ sizeLine ∧ Q σ (upd H3 l (.lst (xs.take i.toNat ++ ys ++ xs.drop j.toNat)))
theorem pg_slice {o lo hi : Expr} {to : TE} {tl th : TO} {p2 : Pos} (ho : PE X o to) (hl : PO X (some lo) tl) (hu : PO X (some hi) th)
    (ha : ∀ v, assign (.Subscript o (.Slice (some lo) (some hi) none p2) pos) X.env v = (do
      let a ← holding [v] (eval o X.env)
      let b ← holding [v, a] (eval (.Slice (some lo) (some hi) none p2) X.env)
      standAt pos
      holding [v, a, b] (setItem a b v)
      release [b, v, a] []) := by intro _; rfl) : PG X (.Subscript o (.Slice (some lo) (some hi) none p2) pos) (gSlice to tl th) := by
  refine ⟨fun pins s σ H v u Q I r h => ?_⟩
  rw [ha]
  refine wpAny_bind (wpAny_holding (thn (ho.run pins s σ H _ I h) fun ov s1 ⟨x, H1, I1, r1, q1⟩ => wpAny_bind (wpAny_holding ?_)))
  refine wpAny_Slice (thn (hl.run pins s1 σ H1 _ I1 q1) fun vl s2 ⟨l, H2, I2, pl, q2⟩ => thn (hu.run pins s2 σ H2 _ I2 q2) fun vu s3 ⟨c, H3, I3, pu, q3⟩ => ?_)
  obtain ⟨L, b, xs, ys, i, j, rfl, rfl, rfl, rfl, hL, hb, hne, h0, h1, h2, hz, q⟩ := q3
  cases r1
  cases r
  rw [evalPart_none]
  refine wpAny_pure ?_
  have I4 : Inv X pins σ H3 { s3 with heap := s3.heap.push { cls := .type "slice", data := .fields #[vl, vu, .none] } } := I3.kept (t' := s3.toks) fun a ob z => Heap.get?_push_of_some _ z
  refine wpAny_bind (wpAny_standAt (wpAny_bind (wpAny_holding ?_)))
  exact set_slice I4 hL hb hne (Heap.IsSliceOf.new ..) (by cases pl; exact ⟨_, rfl⟩) (by cases pu; exact ⟨_, rfl⟩) h0 h1 h2 hz fun s4 I5 => wpAny_release ⟨σ, _, I5, q⟩
end
end Wk
set_option maxRecDepth 100000
/-! A bounded heap as the program keeps it, worked out by functions that say none where the program would leave its way. -/
namespace Hm
structure Bd where
  words : List Int
  young : Int
  old : Int
  pace : Int
  use : Int
  free : Int
  scan : Int
  top : Int
  left : Int
  copied : Int
  rem : List Int
  last : Int
  tally : List Int
  rows : List (Int × Int)
  next : Int
def gI (ws : List Int) (i : Int) : Option Int := if 0 ≤ i then ws[i.toNat]? else none
def sI (ws : List Int) (i : Int) (v : Int) : Option (List Int) := if 0 ≤ i ∧ i < ws.length then some (ws.set i.toNat v) else none
def gS (ws : List Int) (a b : Int) : Option (List Int) := if 0 ≤ a ∧ a ≤ b ∧ b ≤ ws.length then some ((ws.drop a.toNat).take (b.toNat - a.toNat)) else none
def setS (ws : List Int) (a b : Int) (ys : List Int) : Option (List Int) := if 0 ≤ a ∧ a ≤ b ∧ b ≤ ws.length ∧ b - a = ys.length then some (ws.take a.toNat ++ ys ++ ws.drop b.toNat) else none
def beginOf (s : Bd) (h : Int) : Int := s.young + h * s.old
def filledW (s : Bd) : Int := s.free - beginOf s s.use + s.top + s.left - s.copied
def isT (w : Int) : Bool := w % 8 == 0
def remember (s : Bd) (p w : Int) : Option Bd :=
  if isT w && decide (w / 8 < s.young) then (if s.rem.contains p then some s else if s.rem.length < 1000000 then some { s with rem := s.rem ++ [p] } else none) else some s
def moved (s : Bd) (a : Int) : Option (Int × Bd) :=
  match gI s.words a with
  | none => none
  | some h => if h < 0 then some (-1 - h, s) else
    match gS s.words a (a + (h / 8 + 2)) with
    | none => none
    | some part => match setS s.words s.free (s.free + (h / 8 + 2)) part with
      | none => none
      | some w1 => match sI w1 a (-1 - s.free) with
        | none => none
        | some w2 => some (s.free, { s with words := w2, free := s.free + (h / 8 + 2) })
def within (lo hi w : Int) : Bool := isT w && (decide (lo ≤ w / 8) && decide (w / 8 < hi))
def leadAt (lo hi p : Int) (s : Bd) : Option Bd :=
  match gI s.words p with
  | none => none
  | some w => if within lo hi w then (match moved s (w / 8) with
      | none => none
      | some (n, s1) => match sI s1.words p (n * 8 + 0) with
        | none => none
        | some ws => some { s1 with words := ws })
    else some s
def leadOn (lo hi : Int) : List Int → Bd → Option Bd
  | [], s => some s
  | p :: ps, s => match leadAt lo hi p s with
    | none => none
    | some s1 => leadOn lo hi ps s1
/-- the rows from the k-th on -/
def leadRows (lo hi : Int) : Nat → Nat → Bd → Option Bd
  | 0, _, s => some s
  | f + 1, k, s => match s.rows[k]? with
    | none => some s
    | some (h, w) => if within lo hi w then (match moved s (w / 8) with
        | none => none
        | some (n, s1) => leadRows lo hi f (k + 1) { s1 with rows := s1.rows.set k (h, n * 8 + 0) })
      else leadRows lo hi f (k + 1) s
def leadRoots (lo hi : Int) (s : Bd) : Option Bd := leadRows lo hi s.rows.length 0 s
def upTo : Nat → Int → List Int
  | 0, _ => []
  | n + 1, a => a :: upTo n (a + 1)
def range (a b : Int) : List Int := upTo (b - a).toNat a
/-- the places from a on, below b -/
def leadR (lo hi a b : Int) (s : Bd) : Option Bd := if 0 ≤ a ∧ a ≤ b ∧ b ≤ 3000000 then leadOn lo hi (range a b) s else none
def leadLeft (b e : Int) (s : Bd) : Option Bd :=
  match leadR (beginOf s (1 - s.use)) (beginOf s (1 - s.use) + s.old) b e s with
  | none => none
  | some s1 => some { s1 with copied := s1.copied + (s1.free - s.free) }
def endOf (s : Bd) (a : Int) : Option Int := match gI s.words a with
  | none => none
  | some h => some (a + 2 + h / 8)
def bump (l : List Int) (i : Nat) (n : Int) : List Int := l.set i (l.getD i 0 + n)
def gatherGo : Nat → Int → Int → Bd → Option (Int × Bd)
  | 0, _, _, _ => none
  | f + 1, a, many, s => if a < s.free then (match gI s.words a with
      | none => none
      | some h => match (if h % 8 != 0 then leadR 0 s.young (a + 2) (a + 2 + h / 8) s else some s) with
        | none => none
        | some s1 => match endOf s1 a with
          | none => none
          | some e => gatherGo f e (many + 1) s1)
    else some (many, s)
def emptyNur (s : Bd) : Bd := { s with top := 0, rem := [], scan := if s.left = 0 then s.free else s.scan }
def gather (s : Bd) : Option (Int × Bd) :=
  match leadRoots 0 s.young { s with tally := bump s.tally 0 1 } with
  | none => none
  | some s1 => match leadOn 0 s.young s1.rem s1 with
    | none => none
    | some s2 => match gatherGo (s.words.length + 1) s.free 0 s2 with
      | none => none
      | some (many, s3) => some (many, emptyNur s3)
def changeH (s : Bd) : Bd := { s with use := 1 - s.use, free := beginOf s (1 - s.use), scan := beginOf s (1 - s.use) }
def endIf (s : Bd) : Bd := if s.scan = s.free then { s with left := 0, copied := 0 } else s
def turn (s : Bd) : Option (Int × Bd) :=
  if s.left > 0 then some (0, s) else
  match gather s with
  | none => none
  | some (_, s1) =>
    match leadRoots (beginOf s1 s1.use) (beginOf s1 s1.use + s1.old) (changeH { s1 with tally := bump s1.tally 1 1, left := s1.free - beginOf s1 s1.use }) with
    | none => none
    | some s2 => some (1, endIf { s2 with copied := s2.free - beginOf s1 (1 - s1.use) })
def stepsGo : Nat → Int → Int → Bd → Option (Int × Bd)
  | 0, _, _, _ => none
  | f + 1, many, looked, s => if s.left > 0 ∧ looked < many then (match gI s.words s.scan with
      | none => none
      | some h => match (if h % 8 != 0 then leadLeft (s.scan + 2) (s.scan + 2 + h / 8) { s with scan := s.scan + 2 + h / 8 } else some { s with scan := s.scan + 2 + h / 8 }) with
        | none => none
        | some s1 => stepsGo f many (looked + 1) (endIf s1))
    else some (looked, s)
def steps (s : Bd) (many : Int) : Option (Int × Bd) :=
  match stepsGo (s.words.length + 1) many 0 s with
  | none => none
  | some (l, s1) => some (l, { s1 with tally := bump s1.tally 2 l })
def copyGo : Nat → Bool → Int → Bd → Option Bd
  | 0, _, _, _ => none
  | f + 1, tie, a, s => if a < s.free then (match gI s.words a with
      | none => none
      | some h => match (if h % 8 != 0 && (tie || h % 8 != 5) then leadR 0 s.words.length (a + 2) (a + 2 + h / 8) s else some s) with
        | none => none
        | some s1 => match endOf s1 a with
          | none => none
          | some e => copyGo f tie e s1)
    else some s
def copyAll (s : Bd) (tie : Bool) : Option (Int × Bd) :=
  match leadRoots 0 s.words.length (changeH s) with
  | none => none
  | some s2 => match copyGo (s.words.length + 1) tie (beginOf s (1 - s.use)) s2 with
    | none => none
    | some s3 => some (beginOf s (1 - s.use), emptyNur s3)
def whole (s : Bd) : Option (Int × Bd) :=
  match steps s s.words.length with
  | none => none
  | some (_, s1) => match copyAll { s1 with tally := bump s1.tally 3 1 } true with
    | none => none
    | some (b, s2) => some (s2.free - b, s2)
def reserve (s : Bd) (many : Int) : Option Bd :=
  match (if filledW s + many > s.old then (steps s s.words.length).map Prod.snd else some s) with
  | none => none
  | some s1 => match (if filledW s1 + many > s1.old then (whole s1).map Prod.snd else some s1) with
    | none => none
    | some s2 => if filledW s2 + many > s2.old then none else
      if many ≤ s2.young ∧ s2.young < s2.top + many then (gather s2).map Prod.snd else some s2
def rememberAll (a : Int) : Nat → List Int → Bd → Option Bd
  | _, [], s => some s
  | k, w :: ws, s => match remember s (a + 2 + (k : Int)) w with
    | none => none
    | some s1 => rememberAll a (k + 1) ws s1
def placeAt (s : Bd) (found : List Int) : Int := if (found.length : Int) + 2 ≤ s.young then s.top else s.free
/-- behind the words that are laid -/
def placed (s : Bd) (found : List Int) : Option Bd :=
  if (found.length : Int) + 2 ≤ s.young then some { s with top := s.top + ((found.length : Int) + 2) } else
  match rememberAll s.free 0 found { s with free := s.free + ((found.length : Int) + 2) } with
  | none => none
  | some a => some (if a.left = 0 then { a with scan := a.free } else a)
def place (s : Bd) (sort : Nat) (found : List Int) : Option (Int × Bd) :=
  match setS s.words (placeAt s found) (placeAt s found + ((found.length : Int) + 2)) (((found.length : Int) * 8 + (sort : Int)) :: (s.last + 1) :: found) with
  | none => none
  | some ws => match placed { s with last := s.last + 1, words := ws } found with
    | none => none
    | some s2 => match (if s2.left > 0 then (steps s2 s2.pace).map Prod.snd else some s2) with
      | none => none
      | some s3 => some (placeAt s found * 8 + 0, s3)
def bwrite (s : Bd) (a p v : Int) : Option Bd :=
  match sI s.words (a + 2 + p) v with
  | none => none
  | some ws => if s.young ≤ a then remember { s with words := ws } (a + 2 + p) v else some { s with words := ws }
/-! ### by handles -/
inductive It
  | word (n : Int)
  | held (h : Int)
def look : List (Int × Int) → Int → Option Int
  | [], _ => none
  | (k, w) :: r, h => if k = h then some w else look r h
def worth (s : Bd) : It → Option Int
  | .word n => some n
  | .held h => look s.rows h
def worths (s : Bd) : List It → Option (List Int)
  | [] => some []
  | i :: r => match worth s i, worths s r with
    | some a, some b => some (a :: b)
    | _, _ => none
def itemOk (s : Bd) : It → Bool
  | .word n => Wk.isW (.int n) && !isT n
  | .held h => (look s.rows h).isSome
def isSigns (w : Int) : Bool := w % 8 == 1 && (decide (32 ≤ w / 8) && decide (w / 8 ≤ 126) && w / 8 != 37)
def mayMany (sort many : Nat) : Bool := if sort = 4 ∨ sort = 5 then many == 1 else decide (many ≤ 60000) && (decide (0 < many) || sort == 0 || sort == 1)
def mayStand (sort place : Nat) (w : Int) : Bool := if sort = 0 then isSigns w else if sort = 5 then isT w || w == 3 else decide (0 < place) || (sort == 1 || sort == 4) || w % 8 == 1
def mayAll (sort : Nat) : Nat → List Int → Bool
  | _, [] => true
  | k, w :: ws => mayStand sort k w && mayAll sort (k + 1) ws
def mayBe (sort : Nat) (ws : List Int) : Bool := mayMany sort ws.length && mayAll sort 0 ws
def give (s : Bd) (w : Int) : Option (Int × Bd) := if (look s.rows s.next).isSome = true ∨ 100000 ≤ s.rows.length then none else some (s.next, { s with rows := s.rows ++ [(s.next, w)], next := s.next + 1 })
def make (s : Bd) (sort : Nat) (items : List It) : Option (Int × Bd) :=
  if sort ≤ 5 ∧ items.all (itemOk s) = true ∧ s.rows.length < 100000 then (match worths s items with
    | none => none
    | some w0 => if mayBe sort w0 then (match reserve s ((items.length : Int) + 2) with
        | none => none
        | some s1 => match worths s1 items with
          | none => none
          | some ws => match place s1 sort ws with
            | none => none
            | some (w, s2) => give s2 w)
      else none)
  else none
def dropH (l : List (Int × Int)) (h : Int) : List (Int × Int) := l.filter fun q => !decide (q.1 = h)
def drop (s : Bd) (h : Int) : Option Bd := match look s.rows h with
  | none => none
  | some _ => some { s with rows := dropH s.rows h }
def write (s : Bd) (h : Int) (p : Nat) (it : It) : Option Bd :=
  match look s.rows h with
  | none => none
  | some w => if isT w then (match gI s.words (w / 8) with
      | none => none
      | some hd => if (p : Int) < hd / 8 ∧ hd % 8 ≤ 5 ∧ itemOk s it = true then (match worth s it with
          | none => none
          | some v => if mayStand (hd % 8).toNat p v then bwrite s (w / 8) p v else none)
        else none)
    else none
def start (y o p : Nat) : Bd := { words := List.replicate (y + 2 * o) 0, young := y, old := o, pace := p, use := 0, free := y, scan := y, top := 0, left := 0, copied := 0, rem := [], last := 0, tally := [0,0,0,0,0], rows := [], next := 0 }
/-- the words as they are told -/
def told (s : Bd) : Option (List Int) :=
  let other := beginOf s (1 - s.use)
  let b := beginOf s s.use
  match gS s.words 0 s.top, gS s.words b s.free, gS s.words other (other + s.left) with
  | some p1, some p2, some p3 => match setS (List.replicate s.words.length (0 : Int)) 0 s.top p1 with
    | none => none
    | some f1 => match setS f1 b s.free p2 with
      | none => none
      | some f2 => setS f2 other (other + s.left) p3
  | _, _, _ => none
def settled (s : Bd) (a : Int) : Option Int := match gI s.words a with
  | none => none
  | some h => some (if h ≥ 0 then a else -1 - h)
def addrs (s : Bd) : List Int → Option (List Int)
  | [] => some []
  | w :: r => if isT w then (match settled s (w / 8), addrs s r with
      | some a, some b => some (a :: b)
      | _, _ => none)
    else addrs s r
/-- waiting is kept the last first -/
def comeGo (tie : Bool) (s : Bd) : Nat → List Int → List (Int × Int) → Option (List (Int × Int))
  | 0, _, _ => none
  | _ + 1, [], found => some found
  | f + 1, a :: r, found => match gI s.words (a + 1) with
    | none => none
    | some n => if (look found n).isSome then comeGo tie s f r found else
      match gI s.words a with
      | none => none
      | some h => if h % 8 ≤ 5 ∧ found.length < 1000000 then (if h % 8 != 0 && (tie || h % 8 != 5) then (match gS s.words (a + 2) (a + 2 + h / 8) with
          | none => none
          | some part => match addrs s part with
            | none => none
            | some more => if more.length + r.length < 1000000 then comeGo tie s f (more.reverse ++ r) (found ++ [(n, a)]) else none)
        else comeGo tie s f r (found ++ [(n, a)])) else none
def sizes (s : Bd) : List (Int × Int) → Option Int
  | [] => some 0
  | (_, a) :: r => match gI s.words a, sizes s r with
    | some h, some n => some (h / 8 + 2 + n)
    | _, _ => none
def filled (s : Bd) : Option Int := match addrs s (s.rows.map Prod.snd) with
  | none => none
  | some b => match comeGo true s 1000000 b.reverse [] with
    | none => none
    | some found => sizes s found
/-! ### what the law asks of them -/
def chain : Nat → Int → Bd → Option (Int × Bd)
  | 0, last, s => some (last, s)
  | n + 1, last, s => match make s 1 [.held last] with
    | none => none
    | some (l, s1) => match drop s1 last with
      | none => none
      | some s2 => chain n l s2
def chain0 (s : Bd) (many : Nat) : Option (Int × Bd) := match make s 1 [.word 3] with
  | none => none
  | some (l, s1) => chain (many - 1) l s1
def lies (ws : List Int) (b : Int) : Nat → List Int → Bool
  | _, [] => true
  | k, n :: ns => gS ws (b + 3 * (k : Int)) (b + 3 * (k : Int) + 2) == some [9, n] && lies ws b (k + 1) ns
def downTo : Nat → List Int
  | 0 => []
  | n + 1 => ((n : Int) + 1) :: downTo n
def turnLoop (many : Nat) : Nat → Nat → Bd → Option Bd
  | 0, _, s => some s
  | f + 1, k, s => match turn s with
    | some (0, s1) => (match steps s1 1 with
      | some (1, s2) => if (told s2).isSome && s2.left == (if k + 1 < many then 3 * (many : Int) else 0) && s2.copied == (if k + 1 < many then 3 * ((k : Int) + 2) else 0) then turnLoop many f (k + 1) s2 else none
      | _ => none)
    | _ => none
def turnRight (many : Nat) : Bool := match chain0 (start (3 * many + 8) (3 * many + 60) 1) many with
  | none => false
  | some (_, s1) => (told s1).isSome && s1.top == 3 * (many : Int) && (match gather s1 with
    | none => false
    | some (g, s2) => g == (many : Int) && s2.free == s2.young + 3 * (many : Int) && (match told s2 with
      | none => false
      | some w2 => lies w2 s2.young 0 (downTo many) && (match turn s2 with
        | some (1, s3) => (told s3).isSome && s3.left == 3 * (many : Int) && s3.copied == 3 && s3.use == 1 && s3.free == s3.young + s3.old + 3 && (match turnLoop many many 0 s3 with
          | none => false
          | some s4 => match steps s4 5 with
            | some (0, s5) => (match told s5 with
              | none => false
              | some w5 => lies w5 (s5.young + s5.old) 0 (downTo many) && s5.tally == [2, 1, (many : Int), 0, 0] && (match whole s5 with
                | none => false
                | some (w, s6) => w == 3 * (many : Int) && filled s6 == some (3 * (many : Int))))
            | _ => false)
        | _ => false)))
def paceGo : Nat → Nat → Bd → Option (Nat × Bd)
  | 0, _, _ => none
  | f + 1, made, s => match told s with
    | none => none
    | some _ => if s.left > 0 ∧ made < 40 then (match make s 4 [.word 3] with
        | none => none
        | some (h, s1) => match drop s1 h with
          | none => none
          | some s2 => paceGo f (made + 1) s2)
      else some (made, s)
def paceRight (many pace : Nat) : Bool := match chain0 (start (3 * many + 8) 200 pace) many with
  | none => false
  | some (_, s1) => match turn s1 with
    | none => false
    | some (_, s2) => match paceGo 42 0 s2 with
      | none => false
      | some (made, s3) => (made : Int) == ((many : Int) + pace - 1) / pace && s3.free - s3.young == 200 + 3 * (many : Int) &&
        s3.tally == [if (made : Int) > 0 then 1 + (3 * (made : Int) - 1) / (3 * ((3 * (many : Int) + 8) / 3)) else 1, 1, (many : Int), 0, 0]
def writes (g two : Int) : Nat → Bd → Option Bd
  | 0, s => some s
  | n + 1, s => match write s g 0 (.held two) with
    | none => none
    | some s1 => writes g two n s1
def greatRight (many p : Nat) : Bool := match make (start 8 (3 * many) 0) 4 [.word 9] with
  | none => false
  | some (one, s1) => match make s1 1 ((List.replicate many (It.word 3)).set p (.held one)) with
    | none => false
    | some (g, s2) => (told s2).isSome && s2.top == 3 && s2.free == 8 + (many : Int) + 2 && s2.rem == [10 + (p : Int)] && (match drop s2 one with
      | none => false
      | some s3 => match gather s3 with
        | some (1, s4) => (match told s4 with
          | none => false
          | some w4 => s4.rem == [] && gI w4 (10 + (p : Int)) == some (8 * (8 + (many : Int) + 2)) && (match make s4 4 [.word 3] with
            | none => false
            | some (two, s5) => match writes g two 3 s5 with
              | none => false
              | some s6 => (told s6).isSome && s6.rem == [10] && filled s6 == some ((many : Int) + 2 + (if p > 0 then 6 else 3)) && (match write s6 g 0 (.word 3) with
                | none => false
                | some s7 => match drop s7 two with
                  | none => false
                  | some s8 => match whole s8 with
                    | none => false
                    | some (n, s9) => n == (many : Int) + 2 + (if p > 0 then 3 else 0) && (told s9).isSome && s9.rem == [])))
        | _ => false)
end Hm
set_option maxRecDepth 100000
set_option maxHeartbeats 4000000
namespace Wk
open PySem L2 TL PyProof.Rows Hm
open SX (S S_len)
/-! ### a bounded heap, as it lies in the program's objects -/
/-- a method, and its promise -/
structure MD (P : Program) (w : World) (K : PySem.W.Frag) (mg : Str → Option Value) (base : Heap) (CX : CXT) (C : Addr) (m : Str) (ps : List Str) (k : Nat) (sp : Sp) where
  f : Addr
  fd : FuncData
  ok : FnOk P w K mg base CX k f fd ps sp
  m : Meth K C m f
  b : Binds K fd ps []
def sortL : List String := ["text", "list", "object", "function", "cell", "tie"]
section
variable {X : Cx} {st : Stmt} {e : Expr}
/-- what nobody comes to -/
theorem ps_no : PS X st (fun _ _ _ => False) := ⟨fun _ _ _ _ _ _ h => h.elim⟩
theorem pe_no : PE X e (fun _ _ _ => False) := ⟨fun _ _ _ _ _ _ h => h.elim⟩
end
/-- what the top has written for heaps -/
structure Txt5 (K : PySem.W.Frag) (w : World) (mg : Str → Option Value) where
  tTHING_TAG : Tok
  mTHING_TAG : mg "THING_TAG" = some (.int 0 tTHING_TAG)
  tNIL_WORD : Tok
  mNIL_WORD : mg "NIL_WORD" = some (.int 3 tNIL_WORD)
  tTEXT_SORT : Tok
  mTEXT_SORT : mg "TEXT_SORT" = some (.int 0 tTEXT_SORT)
  tTIE_SORT : Tok
  mTIE_SORT : mg "TIE_SORT" = some (.int 5 tTIE_SORT)
  tAHEAD : Tok
  mAHEAD : mg "AHEAD" = some (.int 2 tAHEAD)
  tMOST_WORDS : Tok
  mMOST_WORDS : mg "MOST_WORDS" = some (.int 60000 tMOST_WORDS)
  tFIRST_SIGN : Tok
  mFIRST_SIGN : mg "FIRST_SIGN" = some (.int 32 tFIRST_SIGN)
  tLAST_SIGN : Tok
  mLAST_SIGN : mg "LAST_SIGN" = some (.int 126 tLAST_SIGN)
  tBARRED_SIGN : Tok
  mBARRED_SIGN : mg "BARRED_SIGN" = some (.int 37 tBARRED_SIGN)
  tGATHERS : Tok
  mGATHERS : mg "GATHERS" = some (.int 0 tGATHERS)
  tTURNS : Tok
  mTURNS : mg "TURNS" = some (.int 1 tTURNS)
  tLOOKS : Tok
  mLOOKS : mg "LOOKS" = some (.int 2 tLOOKS)
  tWHOLES : Tok
  mWHOLES : mg "WHOLES" = some (.int 3 tWHOLES)
  tMOST_STEPS : Tok
  mMOST_STEPS : mg "MOST_STEPS" = some (.int 1000000000 tMOST_STEPS)
  aSORTS : Addr
  mSORTS : mg "SORTS" = some (.ref aSORTS)
  kSORTS : ∀ H, SqT K H aSORTS (sortL.map fun x => V.str (Str.ofString x))
  aNUMBERS : Addr
  mNUMBERS : mg "SORT_NUMBERS" = some (.ref aNUMBERS)
def roomF (v1 v2 v3 : V) : List (Str × V) := [("young", v1), ("old", v2), ("pace", v3)]
/-- the classes, as the top has left them -/
structure Cs (K : PySem.W.Frag) where
  B : Addr
  bcl : Cls K B
  H : Addr
  hcl : Cls K H
  R : Addr
  rcl : Cls K R
  words : NoAttr K B "words"
  room : NoAttr K B "room"
  owner : NoAttr K B "owner"
  use : NoAttr K B "use"
  free : NoAttr K B "free"
  scan : NoAttr K B "scan"
  top : NoAttr K B "top"
  left : NoAttr K B "left"
  copied : NoAttr K B "copied"
  rem : NoAttr K B "remembered"
  last : NoAttr K B "last"
  tally : NoAttr K B "tally"
  handles : NoAttr K H "handles"
  next : NoAttr K H "next_handle"
  store : NoAttr K H "store"
  young : NoAttr K R "young"
  old : NoAttr K R "old"
  pace : NoAttr K R "pace"
/-- where it lies -/
structure Fx where
  ho : Addr
  hd : Addr
  bo : Addr
  bd : Addr
  aw : Addr
  ro : Addr
  rd : Addr
  tl : Addr
  ah : Addr
def bdF (F : Fx) (ar : Addr) (s : Bd) : List (Str × V) := [("words", .ref F.aw), ("room", .ref F.ro), ("owner", .ref F.ho), ("use", .int s.use), ("free", .int s.free), ("scan", .int s.scan), ("top", .int s.top), ("left", .int s.left), ("copied", .int s.copied), ("remembered", .ref ar), ("last", .int s.last), ("tally", .ref F.tl)]
def hdF (F : Fx) (s : Bd) : List (Str × V) := [("handles", .ref F.ah), ("next_handle", .int s.next), ("store", .ref F.bo)]
def rowD : List (Int × Int) → List Addr → List (Key × V)
  | q :: qs, r :: rs => (.inl q.1, .ref r) :: rowD qs rs
  | _, _ => []
def remD (l : List Int) : List (Key × V) := l.map fun p => (.inl p, .bl true)
def Rows (H : Hp) : List Addr → List (Int × Int) → Prop
  | [], [] => True
  | r :: rs, q :: qs => H r = some (.lst [.int q.2]) ∧ Rows H rs qs
  | _, _ => False
def own7 (F : Fx) (ar : Addr) : List Addr := [F.ho, F.bo, F.aw, F.tl, F.ah, ar]
def Own (F : Fx) (ar : Addr) (rws : List Addr) (b : Addr) : Prop := b ∈ own7 F ar ∨ b ∈ rws
structure St {K : PySem.W.Frag} (C : Cs K) (H : Hp) (F : Fx) (ar : Addr) (rws : List Addr) (s : Bd) : Prop where
  bo : H F.bo = some (.ins C.B F.bd (bdF F ar s))
  aw : H F.aw = some (.lst (s.words.map V.int))
  rmd : H ar = some (.dK (remD s.rem))
  tl : H F.tl = some (.lst (s.tally.map V.int))
  ho : H F.ho = some (.ins C.H F.hd (hdF F s))
  ah : H F.ah = some (.dK (rowD s.rows rws))
  rw : Rows H rws s.rows
  ro : H F.ro = some (.ins C.R F.rd (roomF (.int s.young) (.int s.old) (.int s.pace)))
  nd : (F.ro :: (own7 F ar ++ rws)).Nodup
  z1 : s.words.length ≤ 3000000
  z2 : s.rows.length ≤ 100000
  z3 : s.rem.length ≤ 1000000
  z4 : 0 ≤ s.young ∧ s.young ≤ 100000 ∧ 0 ≤ s.old ∧ s.old ≤ 1000000
  z5 : s.tally.length = 5
/-- what was there and is not the heap's own stays, and is not the heap's own -/
def Ch (F : Fx) (ar : Addr) (rws : List Addr) (H : Hp) (ar' : Addr) (rws' : List Addr) (H' : Hp) : Prop := ∀ b u, ¬ Own F ar rws b → H b = some u → ¬ Own F ar' rws' b ∧ H' b = some u
theorem Ch.refl {F : Fx} {ar : Addr} {rws : List Addr} {H : Hp} : Ch F ar rws H ar rws H := fun _ _ n h => ⟨n, h⟩
theorem Ch.trans {F : Fx} {ar a1 a2 : Addr} {rws r1 r2 : List Addr} {H H1 H2 : Hp} (x : Ch F ar rws H a1 r1 H1) (y : Ch F a1 r1 H1 a2 r2 H2) : Ch F ar rws H a2 r2 H2 := fun b u n h => by
  obtain ⟨n1, h1⟩ := x b u n h
  exact y b u n1 h1
theorem Ch.own {F : Fx} {ar : Addr} {rws : List Addr} {H : Hp} {b : Addr} (h : Own F ar rws b) (o : HO) : Ch F ar rws H ar rws (upd H b o) := fun c u n e => ⟨n, by rw [upd_ne (fun z => n (by rw [z]; exact h))]; exact e⟩
theorem Ch.new {F : Fx} {ar : Addr} {rws : List Addr} {H : Hp} {b : Addr} (h : H b = none) (o : HO) : Ch F ar rws H ar rws (upd H b o) := fun c u n e => ⟨n, by rw [upd_ne (fun z => by rw [z, h] at e; cases e)]; exact e⟩
/-- the heap stands as s says, and what else there was stands as it did -/
structure Go {K : PySem.W.Frag} (C : Cs K) (F : Fx) (a0 : Addr) (r0 : List Addr) (H0 H : Hp) (ar : Addr) (rws : List Addr) (s : Bd) : Prop where
  st : St C H F ar rws s
  ch : Ch F a0 r0 H0 ar rws H
section
variable {K : PySem.W.Frag} {C : Cs K} {F : Fx} {ar a0 a1 : Addr} {rws r0 r1 : List Addr} {H H0 H1 : Hp} {s s1 s2 : Bd}
theorem St.go (S : St C H F ar rws s) : Go C F ar rws H H ar rws s := ⟨S, .refl⟩
theorem Go.trans (x : Go C F a0 r0 H0 H1 a1 r1 s1) (y : Go C F a1 r1 H1 H ar rws s) : Go C F a0 r0 H0 H ar rws s := ⟨y.st, x.ch.trans y.ch⟩
theorem rows_len : ∀ {rs : List Addr} {qs : List (Int × Int)}, Rows H rs qs → rs.length = qs.length
  | [], [], _ => rfl
  | _ :: _, _ :: _, h => congrArg Nat.succ (rows_len h.2)
  | [], _ :: _, h => h.elim
  | _ :: _, [], h => h.elim
theorem rows_mem : ∀ {rs : List Addr} {qs : List (Int × Int)}, Rows H rs qs → ∀ r ∈ rs, ∃ v, H r = some (.lst [V.int v])
  | [], [], _, r, hr => by cases hr
  | _ :: _, q :: _, h, r, hr => by
    rcases List.mem_cons.mp hr with rfl | hr
    · exact ⟨_, h.1⟩
    · exact rows_mem h.2 r hr
  | [], _ :: _, h, _, _ => h.elim
  | _ :: _, [], h, _, _ => h.elim
theorem rows_keep (g : ∀ r ∈ rws, ∀ u, H r = some u → H1 r = some u) : ∀ {qs : List (Int × Int)}, Rows H rws qs → Rows H1 rws qs := by
  induction rws with
  | nil => exact fun {qs} h => by cases qs <;> first | trivial | exact h.elim
  | cons r rs ih =>
    intro qs h
    cases qs with
    | nil => exact h.elim
    | cons q qs => exact ⟨g r List.mem_cons_self _ h.1, ih (fun r hr => g r (List.mem_cons_of_mem _ hr)) h.2⟩
theorem rows_off {b : Addr} {o : HO} (n : b ∉ rws) {qs : List (Int × Int)} (h : Rows H rws qs) : Rows (upd H b o) rws qs :=
  rows_keep (fun r hr u e => by rw [upd_ne (fun z => n (by rw [← z]; exact hr))]; exact e) h
theorem rows_at : ∀ {rs : List Addr} {qs : List (Int × Int)} {k : Nat} {q : Int × Int}, Rows H rs qs → qs[k]? = some q → ∃ r, rs[k]? = some r ∧ H r = some (.lst [.int q.2])
  | [], [], _, _, _, e => by simp at e
  | r :: _, _ :: _, 0, _, h, e => by cases e; exact ⟨r, rfl, h.1⟩
  | _ :: _, _ :: _, k + 1, _, h, e => rows_at (k := k) h.2 e
  | [], _ :: _, _, _, h, _ => h.elim
  | _ :: _, [], _, _, h, _ => h.elim
theorem rows_set {v h0 : Int} {o : HO} : ∀ {rs : List Addr} {qs : List (Int × Int)} {k : Nat} {r : Addr}, rs.Nodup → Rows H rs qs → rs[k]? = some r → o = .lst [.int v] → Rows (upd H r o) rs (qs.set k (h0, v))
  | [], _, _, _, _, _, e, _ => by simp at e
  | _ :: _, [], _, _, _, h, _, _ => h.elim
  | r :: rs, q :: qs, 0, _, nd, h, e, ho => by
    cases e
    exact ⟨by rw [upd_same, ho], rows_off (List.nodup_cons.mp nd).1 h.2⟩
  | r :: rs, q :: qs, k + 1, b, nd, h, e, ho => by
    have hb : b ∈ rs := List.mem_of_getElem? (show rs[k]? = some b from e)
    refine ⟨?_, rows_set (k := k) (List.nodup_cons.mp nd).2 h.2 e ho⟩
    rw [upd_ne (fun z => (List.nodup_cons.mp nd).1 (by rw [z]; exact hb))]
    exact h.1
theorem rowD_set {v h0 : Int} : ∀ {rs : List Addr} {qs : List (Int × Int)} {k : Nat} {w : Int}, qs[k]? = some (h0, w) → rowD (qs.set k (h0, v)) rs = rowD qs rs
  | _, [], _, _, e => by simp at e
  | [], _ :: _, k, _, e => by cases k <;> rfl
  | _ :: _, _ :: _, 0, _, e => by cases e; rfl
  | r :: rs, q :: qs, k + 1, w, e => by
    show (Sum.inl q.1, V.ref r) :: rowD (qs.set k (h0, v)) rs = _
    rw [rowD_set (k := k) (w := w) e]; rfl
theorem rowD_snd : ∀ {rs : List Addr} {qs : List (Int × Int)}, rs.length = qs.length → (rowD qs rs).map Prod.snd = rs.map V.ref
  | [], [], _ => rfl
  | r :: rs, q :: qs, h => congrArg (V.ref r :: ·) (rowD_snd (Nat.succ.inj h))
  | [], _ :: _, h => by cases h
  | _ :: _, [], h => by cases h
/-! #### the parts lie apart -/
theorem St.ndo (S : St C H F ar rws s) : F.ho ≠ F.bo ∧ F.ho ≠ F.aw ∧ F.ho ≠ F.tl ∧ F.ho ≠ F.ah ∧ F.ho ≠ ar ∧ F.bo ≠ F.aw ∧ F.bo ≠ F.tl ∧ F.bo ≠ F.ah ∧ F.bo ≠ ar ∧ F.aw ≠ F.tl ∧ F.aw ≠ F.ah ∧ F.aw ≠ ar ∧ F.tl ≠ F.ah ∧ F.tl ≠ ar ∧ F.ah ≠ ar := by
  have h := (List.nodup_append.mp (List.nodup_cons.mp S.nd).2).1
  simp only [own7, List.nodup_cons, List.mem_cons, List.not_mem_nil, or_false, not_or] at h
  obtain ⟨⟨h1, h2, h3, h4, h5⟩, ⟨h6, h7, h8, h9⟩, ⟨h10, h11, h12⟩, ⟨h13, h14⟩, h15, _⟩ := h
  exact ⟨h1, h2, h3, h4, h5, h6, h7, h8, h9, h10, h11, h12, h13, h14, h15⟩
theorem St.ndr (S : St C H F ar rws s) : ∀ b ∈ own7 F ar, b ∉ rws ∧ b ≠ F.ro := fun b hb => by
  obtain ⟨h1, h2⟩ := List.nodup_cons.mp S.nd
  exact ⟨fun z => (List.nodup_append.mp h2).2.2 b hb b z rfl, fun z => h1 (by rw [← z]; exact List.mem_append_left _ hb)⟩
theorem St.nrw (S : St C H F ar rws s) : rws.Nodup ∧ F.ro ∉ rws := by
  obtain ⟨h1, h2⟩ := List.nodup_cons.mp S.nd
  exact ⟨(List.nodup_append.mp h2).2.1, fun z => h1 (List.mem_append_right _ z)⟩
theorem own_bo : Own F ar rws F.bo := .inl (by simp [own7])
theorem own_aw : Own F ar rws F.aw := .inl (by simp [own7])
theorem own_tl : Own F ar rws F.tl := .inl (by simp [own7])
theorem own_ho : Own F ar rws F.ho := .inl (by simp [own7])
theorem own_ah : Own F ar rws F.ah := .inl (by simp [own7])
theorem own_ar : Own F ar rws ar := .inl (by simp [own7])
/-- nothing but the plain numbers differs -/
structure Alk (s t : Bd) : Prop where
  words : t.words = s.words
  rem : t.rem = s.rem
  tally : t.tally = s.tally
  rows : t.rows = s.rows
  next : t.next = s.next
  young : t.young = s.young
  old : t.old = s.old
  pace : t.pace = s.pace
theorem St.put {t : Bd} (S : St C H F ar rws s) (k : Alk s t) {fs : List (Str × V)} (e : fs = bdF F ar t) : St C (upd H F.bo (.ins C.B F.bd fs)) F ar rws t := by
  obtain ⟨n1, n2, n3, n4, n5, n6, n7, n8, n9, n10, n11, n12, n13, n14, n15⟩ := S.ndo
  have nr := S.ndr F.bo (by simp [own7])
  obtain ⟨k1, k2, k3, k4, k5, k6, k7, k8⟩ := k
  refine ⟨by rw [upd_same, e], ?_, ?_, ?_, ?_, ?_, ?_, ?_, S.nd, ?_, ?_, ?_, ?_, ?_⟩
  · rw [upd_ne n6.symm, k1]; exact S.aw
  · rw [upd_ne n9.symm, k2]; exact S.rmd
  · rw [upd_ne n7.symm, k3]; exact S.tl
  · rw [upd_ne n1, S.ho, hdF, hdF, k5]
  · rw [upd_ne n8.symm, k4]; exact S.ah
  · rw [k4]; exact rows_off nr.1 S.rw
  · rw [upd_ne nr.2.symm, k6, k7, k8]; exact S.ro
  · rw [k1]; exact S.z1
  · rw [k4]; exact S.z2
  · rw [k2]; exact S.z3
  · rw [k6, k7]; exact S.z4
  · rw [k3]; exact S.z5
theorem St.setW {ws : List Int} (S : St C H F ar rws s) (hl : ws.length = s.words.length) : St C (upd H F.aw (.lst (ws.map V.int))) F ar rws { s with words := ws } := by
  obtain ⟨n1, n2, n3, n4, n5, n6, n7, n8, n9, n10, n11, n12, n13, n14, n15⟩ := S.ndo
  have nr := S.ndr F.aw (by simp [own7])
  refine ⟨by rw [upd_ne n6]; exact S.bo, upd_same, by rw [upd_ne n12.symm]; exact S.rmd, by rw [upd_ne n10.symm]; exact S.tl, by rw [upd_ne n2]; exact S.ho, by rw [upd_ne n11.symm]; exact S.ah, rows_off nr.1 S.rw, by rw [upd_ne nr.2.symm]; exact S.ro, S.nd, by rw [hl]; exact S.z1, S.z2, S.z3, S.z4, S.z5⟩
theorem St.setT {l : List Int} (S : St C H F ar rws s) (hl : l.length = 5) : St C (upd H F.tl (.lst (l.map V.int))) F ar rws { s with tally := l } := by
  obtain ⟨n1, n2, n3, n4, n5, n6, n7, n8, n9, n10, n11, n12, n13, n14, n15⟩ := S.ndo
  have nr := S.ndr F.tl (by simp [own7])
  refine ⟨by rw [upd_ne n7]; exact S.bo, by rw [upd_ne n10]; exact S.aw, by rw [upd_ne n14.symm]; exact S.rmd, upd_same, by rw [upd_ne n3]; exact S.ho, by rw [upd_ne n13.symm]; exact S.ah, rows_off nr.1 S.rw, by rw [upd_ne nr.2.symm]; exact S.ro, S.nd, S.z1, S.z2, S.z3, S.z4, hl⟩
theorem St.setR {l : List Int} (S : St C H F ar rws s) (hl : l.length ≤ 1000000) : St C (upd H ar (.dK (remD l))) F ar rws { s with rem := l } := by
  obtain ⟨n1, n2, n3, n4, n5, n6, n7, n8, n9, n10, n11, n12, n13, n14, n15⟩ := S.ndo
  have nr := S.ndr ar (by simp [own7])
  refine ⟨by rw [upd_ne n9]; exact S.bo, by rw [upd_ne n12]; exact S.aw, upd_same, by rw [upd_ne n14]; exact S.tl, by rw [upd_ne n5]; exact S.ho, by rw [upd_ne n15]; exact S.ah, rows_off nr.1 S.rw, by rw [upd_ne nr.2.symm]; exact S.ro, S.nd, S.z1, S.z2, hl, S.z4, S.z5⟩
theorem St.setRow {h0 v w : Int} {k : Nat} {r : Addr} (S : St C H F ar rws s) (hr : rws[k]? = some r) (hq : s.rows[k]? = some (h0, w)) : St C (upd H r (.lst [.int v])) F ar rws { s with rows := s.rows.set k (h0, v) } := by
  have hm : r ∈ rws := List.mem_of_getElem? hr
  have ne : ∀ b ∈ own7 F ar, b ≠ r := fun b hb z => (S.ndr b hb).1 (by rw [z]; exact hm)
  have nro : F.ro ≠ r := fun z => S.nrw.2 (by rw [z]; exact hm)
  refine ⟨by rw [upd_ne (ne F.bo (by simp [own7]))]; exact S.bo, by rw [upd_ne (ne F.aw (by simp [own7]))]; exact S.aw, by rw [upd_ne (ne ar (by simp [own7]))]; exact S.rmd, by rw [upd_ne (ne F.tl (by simp [own7]))]; exact S.tl, by rw [upd_ne (ne F.ho (by simp [own7]))]; exact S.ho, ?_, rows_set S.nrw.1 S.rw hr rfl, by rw [upd_ne nro]; exact S.ro, S.nd, S.z1, by rw [List.length_set]; exact S.z2, S.z3, S.z4, S.z5⟩
  rw [upd_ne (ne F.ah (by simp [own7])), S.ah, rowD_set hq]
theorem St.same (S : St C H F ar rws s) (g : Same H H1) : St C H1 F ar rws s :=
  ⟨g _ _ S.bo, g _ _ S.aw, g _ _ S.rmd, g _ _ S.tl, g _ _ S.ho, g _ _ S.ah, rows_keep (fun r _ u e => g _ _ e) S.rw, g _ _ S.ro, S.nd, S.z1, S.z2, S.z3, S.z4, S.z5⟩
theorem St.off (S : St C H F ar rws s) {p : Addr} (h : H p = none) : ¬ Own F ar rws p := fun z => by
  rcases z with z | z
  · simp only [own7, List.mem_cons, List.not_mem_nil, or_false] at z
    rcases z with rfl | rfl | rfl | rfl | rfl | rfl
    · rw [S.ho] at h; cases h
    · rw [S.bo] at h; cases h
    · rw [S.aw] at h; cases h
    · rw [S.tl] at h; cases h
    · rw [S.ah] at h; cases h
    · rw [S.rmd] at h; cases h
  · obtain ⟨v, e⟩ := rows_mem S.rw p z
    rw [e] at h; cases h
/-- the nursery's places are remembered anew, in another dict -/
theorem St.newR {p : Addr} (S : St C H F ar rws s) (hp : H p = some (.dK (remD []))) (ho : ¬ Own F ar rws p) (hro : p ≠ F.ro) {fs : List (Str × V)} (e : fs = bdF F p s) : St C (upd H F.bo (.ins C.B F.bd fs)) F p rws { s with rem := [] } := by
  obtain ⟨n1, n2, n3, n4, n5, n6, n7, n8, n9, n10, n11, n12, n13, n14, n15⟩ := S.ndo
  have nr := S.ndr F.bo (by simp [own7])
  have nb : p ≠ F.bo := fun z => ho (by rw [z]; exact own_bo)
  refine ⟨by rw [upd_same, e]; rfl, by rw [upd_ne n6.symm]; exact S.aw, by rw [upd_ne nb]; exact hp, by rw [upd_ne n7.symm]; exact S.tl, by rw [upd_ne n1]; exact S.ho, by rw [upd_ne n8.symm]; exact S.ah, rows_off nr.1 S.rw, by rw [upd_ne nr.2.symm]; exact S.ro, ?_, S.z1, S.z2, Nat.zero_le _, S.z4, S.z5⟩
  obtain ⟨h1, h2⟩ := List.nodup_cons.mp S.nd
  obtain ⟨h3, h4, h5⟩ := List.nodup_append.mp h2
  have hs : ∀ b, b = F.ho ∨ b = F.bo ∨ b = F.aw ∨ b = F.tl ∨ b = F.ah → b ∈ own7 F ar := fun b hb => by
    simp only [own7, List.mem_cons, List.not_mem_nil, or_false]
    rcases hb with h | h | h | h | h <;> simp [h]
  have hs2 : ∀ b ∈ own7 F p, b = p ∨ b ∈ own7 F ar := fun b hb => by
    simp only [own7, List.mem_cons, List.not_mem_nil, or_false] at hb
    rcases hb with h | h | h | h | h | h
    · exact .inr (hs b (by simp [h]))
    · exact .inr (hs b (by simp [h]))
    · exact .inr (hs b (by simp [h]))
    · exact .inr (hs b (by simp [h]))
    · exact .inr (hs b (by simp [h]))
    · exact .inl h
  have np : ∀ b ∈ own7 F ar, b ≠ p := fun b hb z => ho (.inl (by rw [← z]; exact hb))
  refine List.nodup_cons.mpr ⟨fun z => ?_, List.nodup_append.mpr ⟨?_, h4, fun b hb c hc z => ?_⟩⟩
  · rcases List.mem_append.mp z with z | z
    · rcases hs2 _ z with z | z
      · exact hro z.symm
      · exact h1 (List.mem_append_left _ z)
    · exact h1 (List.mem_append_right _ z)
  · have q1 := np F.ho (hs _ (by simp))
    have q2 := np F.bo (hs _ (by simp))
    have q3 := np F.aw (hs _ (by simp))
    have q4 := np F.tl (hs _ (by simp))
    have q5 := np F.ah (hs _ (by simp))
    simp only [own7, List.nodup_cons, List.mem_cons, List.not_mem_nil, or_false, not_or, not_false_eq_true, List.nodup_nil, and_true]
    exact ⟨⟨n1, n2, n3, n4, q1⟩, ⟨n6, n7, n8, q2⟩, ⟨n10, n11, q3⟩, ⟨n13, q4⟩, q5⟩
  · rcases hs2 b hb with e | e
    · exact ho (.inr (by rw [← e, z]; exact hc))
    · exact h5 b e c hc z
theorem Ch.newR {p : Addr} (hp : H p = none) : Ch F ar rws H p rws H := fun b u n h => by
  refine ⟨fun z => ?_, h⟩
  rcases z with z | z
  · simp only [own7, List.mem_cons, List.not_mem_nil, or_false] at z
    rcases z with e | e | e | e | e | e
    · exact n (.inl (by simp [own7, e]))
    · exact n (.inl (by simp [own7, e]))
    · exact n (.inl (by simp [own7, e]))
    · exact n (.inl (by simp [own7, e]))
    · exact n (.inl (by simp [own7, e]))
    · rw [e, hp] at h; cases h
  · exact n (.inr z)
/-! #### words by their places -/
theorem gI_at {ws : List Int} {i v : Int} (h : gI ws i = some v) : atI (ws.map V.int) i = some (.int v) := by
  unfold gI at h
  split at h
  · rename_i h0
    obtain ⟨n, rfl⟩ := Int.eq_ofNat_of_zero_le h0
    rw [Int.toNat_natCast] at h
    exact atI_nat (j := n) (by rw [List.getElem?_map, h]; rfl)
  · cases h
theorem sI_set {ws us : List Int} {i v : Int} (h : sI ws i v = some us) : ∃ n : Nat, i = (n : Int) ∧ n < ws.length ∧ us = ws.set n v := by
  unfold sI at h
  split at h
  · rename_i h0
    obtain ⟨n, rfl⟩ := Int.eq_ofNat_of_zero_le h0.1
    cases h
    rw [Int.toNat_natCast]
    exact ⟨n, rfl, by omega, rfl⟩
  · cases h
theorem sI_len {ws us : List Int} {i v : Int} (h : sI ws i v = some us) : us.length = ws.length := by
  obtain ⟨n, _, _, rfl⟩ := sI_set h
  exact List.length_set
theorem setS_len {ws us ys : List Int} {a b : Int} (h : setS ws a b ys = some us) : us.length = ws.length := by
  unfold setS at h
  split at h
  · cases h
    rw [List.length_append, List.length_append, List.length_take, List.length_drop]; omega
  · cases h
end
end Wk
set_option maxRecDepth 100000
set_option maxHeartbeats 4000000
namespace Wk
open PySem L2 TL PyProof.Rows Hm
open SX (S S_len)
theorem hu1 {k : Nat} {A : Around} (r : Room k A) : A.units + 1 < cLine := by have := r.un; omega
theorem St.mul {K : PySem.W.Frag} {C : Cs K} {H : Hp} {F : Fx} {ar : Addr} {rws : List Addr} {s : Bd} (S : St C H F ar rws s) (i : Int) : CMul i s.old := .inr ⟨by have := S.z4; omega, by have := S.z4; omega⟩
section
variable {P : Program} {w : World} {K : PySem.W.Frag} {mg : Str → Option Value} {base : Heap}
abbrev s_Bound__begin_of : Stmt := inClass (top 62) 1
theorem sc_Bound__begin_of : FnScope ["self", "half"] ["self", "half"] (defScope s_Bound__begin_of) := ⟨rfl, rfl, rfl, by decide +kernel, rfl, by decide +kernel, by decide +kernel⟩
def sp_bbegin (C : Cs K) : Sp := fun vs H Q _ => ∃ F ar rws s h, vs = [.ref F.bo, .int h] ∧ St C H F ar rws s ∧ Q (.int (beginOf s h)) H
theorem ok_bbegin (C : Cs K) {f : Addr} {fd : FuncData} (F : Fun K "begin_of" "Bound.begin_of" s_Bound__begin_of f fd) : FnOk P w K mg base CX0 1 f fd ["self", "half"] (sp_bbegin C) := by
  refine F.ok sc_Bound__begin_of (fun vs H Q E h => ?_) (fun cdv A outer s H vs Q E hr h => ?_)
  · obtain ⟨_, _, _, _, _, rfl, _⟩ := h; rfl
  obtain ⟨F, ar, rws, s, h, rfl, S, q⟩ := h
  refine ⟨_, (pss_one (ps_ret (pe_op op_add (pe_fld (pe_fld (pv 0) rfl) rfl) (pe_op op_mul (pv 1) (pe_fld (pe_fld (pv 0) rfl) rfl))))), ?_⟩
  exact (⟨_, rfl, _, _, _, _, _, rfl, St.bo S, Cs.bcl _, Cs.room _, rfl, _, _, _, _, _, rfl, St.ro S, Cs.rcl _, C.young, rfl, ⟨_, rfl, ((⟨_, rfl, _, _, _, _, _, rfl, St.bo S, Cs.bcl _, Cs.room _, rfl, _, _, _, _, _, rfl, St.ro S, Cs.rcl _, C.old, rfl, ⟨_, _, rfl, rfl, S.mul h, _, _, rfl, rfl, q⟩⟩))⟩⟩)
abbrev s_Bound__end_of : Stmt := inClass (top 62) 13
theorem sc_Bound__end_of : FnScope ["self", "at"] ["self", "at"] (defScope s_Bound__end_of) := ⟨rfl, rfl, rfl, by decide +kernel, rfl, by decide +kernel, by decide +kernel⟩
def sp_bend (C : Cs K) : Sp := fun vs H Q _ => ∃ F ar rws s a e, vs = [.ref F.bo, .int a] ∧ St C H F ar rws s ∧ endOf s a = some e ∧ Q (.int e) H
theorem ok_bend (T : Txt K mg base) (T5 : Txt5 K w mg) (C : Cs K) {f : Addr} {fd : FuncData} (F : Fun K "end_of" "Bound.end_of" s_Bound__end_of f fd) : FnOk P w K mg base CX0 1 f fd ["self", "at"] (sp_bend C) := by
  refine F.ok sc_Bound__end_of (fun vs H Q E h => ?_) (fun cdv A outer s H vs Q E hr h => ?_)
  · obtain ⟨_, _, _, _, _, _, rfl, _⟩ := h; rfl
  obtain ⟨F, ar, rws, s, a, e, rfl, S, he, q⟩ := h
  refine ⟨_, (pss_one (ps_ret (pe_op op_add (pe_op op_add (pv 1) (pe_glob (v := .int 2) rfl T5.mAHEAD ⟨_, rfl⟩)) (pe_op op_fdivW (pe_ix ix_list (pe_fld (pv 0) rfl) (pv 1) (fun _ _ => rfl)) (pe_glob (v := .int 8) rfl T.mTAGS ⟨_, rfl⟩))))), ?_⟩
  unfold endOf at he
  cases hh : gI s.words a with
  | none => rw [hh] at he; cases he
  | some hd =>
    rw [hh] at he
    cases he
    refine ⟨_, rfl, _, _, rfl, rfl, ?_⟩
    refine (⟨_, rfl, _, _, _, _, _, rfl, St.bo S, Cs.bcl _, C.words, rfl, ⟨_, rfl, _, _, _, _, rfl, rfl, SqL.of S.aw, gI_at hh, _, _, rfl, rfl, ⟨by decide, by decide⟩, _, _, rfl, rfl, q⟩⟩)
end
end Wk
set_option maxRecDepth 100000
set_option maxHeartbeats 4000000
namespace Wk
open PySem L2 TL PyProof.Rows Hm
open SX (S S_len)
theorem gS_cut {ws part : List Int} {a b : Int} (h : gS ws a b = some part) : cutV (ws.map V.int) (some a) (some b) = part.map V.int ∧ (part.length : Int) = b - a ∧ 0 ≤ a ∧ a ≤ b ∧ b ≤ ws.length := by
  unfold gS at h
  split at h
  · rename_i h0
    obtain ⟨h1, h2, h3⟩ := h0
    obtain ⟨n, rfl⟩ := Int.eq_ofNat_of_zero_le h1
    obtain ⟨m, rfl⟩ := Int.eq_ofNat_of_zero_le (Int.le_trans h1 h2)
    cases h
    refine ⟨?_, ?_, h1, h2, h3⟩
    · unfold cutV
      rw [HT.sIx_nat, HT.sIx_nat, List.length_map, Int.toNat_natCast, Int.toNat_natCast, List.map_take, List.map_drop, Nat.min_eq_left (by omega), Nat.min_eq_left (by omega)]
    · rw [Int.toNat_natCast, Int.toNat_natCast, List.length_take, List.length_drop]; omega
  · cases h
theorem setS_put {ws us ys : List Int} {a b : Int} (h : setS ws a b ys = some us) : 0 ≤ a ∧ a ≤ b ∧ b ≤ ws.length ∧ us.map V.int = (ws.map V.int).take a.toNat ++ ys.map V.int ++ (ws.map V.int).drop b.toNat := by
  unfold setS at h
  split at h
  · rename_i h0
    cases h
    exact ⟨h0.1, h0.2.1, h0.2.2.1, by rw [List.map_append, List.map_append, List.map_take, List.map_drop]⟩
  · cases h
theorem ixN_of {n j : Nat} (h : j < n) : ixN n (j : Int) = some j := by
  unfold ixN
  rw [if_pos (Int.natCast_nonneg j), if_pos (by omega), Int.toNat_natCast]
theorem ixN_in {ws us : List Int} {i v : Int} (h : sI ws i v = some us) : ∃ j, ixN (ws.map V.int).length i = some j ∧ us.map V.int = (ws.map V.int).set j (.int v) := by
  obtain ⟨n, rfl, hn, rfl⟩ := sI_set h
  refine ⟨n, ixN_of (by rw [List.length_map]; exact hn), ?_⟩
  rw [List.map_set]
section
variable {P : Program} {w : World} {K : PySem.W.Frag} {mg : Str → Option Value} {base : Heap}
abbrev s_Bound__moved : Stmt := inClass (top 62) 9
theorem sc_Bound__moved : FnScope ["self", "at", "head", "new", "many"] ["self", "at"] (defScope s_Bound__moved) := ⟨rfl, rfl, rfl, by decide +kernel, rfl, by decide +kernel, by decide +kernel⟩
def sp_bmoved (C : Cs K) : Sp := fun vs H Q _ => ∃ F ar rws s a n s', vs = [.ref F.bo, .int a] ∧ St C H F ar rws s ∧ moved s a = some (n, s') ∧ ∀ H', Go C F ar rws H H' ar rws s' → Q (.int n) H'
theorem ok_bmoved (T : Txt K mg base) (T5 : Txt5 K w mg) (C : Cs K) {f : Addr} {fd : FuncData} (F : Fun K "moved" "Bound.moved" s_Bound__moved f fd) : FnOk P w K mg base CX0 1 f fd ["self", "at"] (sp_bmoved C) := by
  refine F.ok sc_Bound__moved (fun vs H Q E h => ?_) (fun cdv A outer s H vs Q E hr h => ?_)
  · obtain ⟨_, _, _, _, _, _, _, rfl, _⟩ := h; rfl
  obtain ⟨F, ar, rws, s, a, n, s', rfl, S, hm, q⟩ := h
  refine ⟨_, (pss_cons (ps_set (i := 2) sc_Bound__moved.nd rfl (Or.inl rfl) (pe_ix ix_list (pe_fld (pv 0) rfl) (pv 1) (fun _ _ => rfl)))
    (pss_cons (ps_if (pt_cmpR op_lt (pv 2) pe_int (nomark _)) (pss_one (ps_ret (pe_op op_sub (pe_un un_neg pe_int) (pv 2)))) pss_nil)
    (pss_cons (ps_set (i := 3) sc_Bound__moved.nd rfl (Or.inl rfl) (pe_fld (pv 0) rfl))
    (pss_cons (ps_set (i := 4) sc_Bound__moved.nd rfl (Or.inl rfl) (pe_op op_add (pe_op op_fdivW (pv 2) (pe_glob (v := .int 8) rfl T.mTAGS ⟨_, rfl⟩)) (pe_glob (v := .int 2) rfl T5.mAHEAD ⟨_, rfl⟩)))
    (pss_cons (ps_asg (pe_slice sl_list (pe_fld (pv 0) rfl) (po_some (pv 1)) (po_some (pe_op op_add (pv 1) (pv 4)))) (pg_slice (pe_fld (pv 0) rfl) (po_some (pv 3)) (po_some (pe_op op_add (pv 3) (pv 4)))))
    (pss_cons (ps_asg (pe_op op_sub (pe_un un_neg pe_int) (pv 3)) (pg_sub (pe_fld (pv 0) rfl) (pv 1) set_list))
    (pss_cons (ps_fldaug (pv 0) (pv 4) in_add)
    (pss_one (ps_ret (pv 3)))))))))), ?_⟩
  generalize hσ : L2.start _ _ = σ0
  have hσ : σ0 = [some (.ref F.bo), some (.int a), none, none, none] := hσ.symm
  subst hσ
  have hz := line_eq
  unfold moved at hm
  cases hh : gI s.words a with
  | none => rw [hh] at hm; cases hm
  | some hd =>
  rw [hh] at hm
  dsimp only at hm
  refine seq_set ?_
  refine (⟨_, rfl, _, _, _, _, _, rfl, St.bo S, Cs.bcl _, C.words, rfl, ⟨_, rfl, _, _, _, _, rfl, rfl, SqL.of S.aw, gI_at hh, ?_⟩⟩)
  refine ⟨_, rfl, _, _, rfl, rfl, _, rfl, ?_⟩
  by_cases hneg : hd < 0
  · rw [if_pos hneg] at hm
    cases hm
    rw [decide_eq_true hneg]
    exact iteT ⟨_, rfl, _, rfl, _, _, rfl, rfl, q _ S.go⟩
  rw [if_neg hneg] at hm
  rw [decide_eq_false hneg]
  cases hp : gS s.words a (a + (hd / 8 + 2)) with
  | none => rw [hp] at hm; cases hm
  | some part =>
  rw [hp] at hm
  dsimp only at hm
  cases hw1 : setS s.words s.free (s.free + (hd / 8 + 2)) part with
  | none => rw [hw1] at hm; cases hm
  | some w1 =>
  rw [hw1] at hm
  dsimp only at hm
  cases hw2 : sI w1 a (-1 - s.free) with
  | none => rw [hw2] at hm; cases hm
  | some w2 =>
  rw [hw2] at hm
  cases hm
  obtain ⟨c1, c2, c3, c4, c5⟩ := gS_cut hp
  obtain ⟨d1, d2, d3, d4⟩ := setS_put hw1
  have l1 := setS_len hw1
  have l2 := sI_len hw2
  refine iteF (go_next ?_)
  dsimp only
  refine seq_set ?_
  refine (⟨_, rfl, _, _, _, _, _, rfl, St.bo S, Cs.bcl _, C.free, rfl, ?_⟩)
  refine seq_set ?_
  refine ⟨_, rfl, _, _, rfl, rfl, ⟨by decide, by decide⟩, _, _, rfl, rfl, ?_⟩
  refine (⟨_, rfl, _, _, _, _, _, rfl, St.bo S, Cs.bcl _, C.words, rfl, ⟨_, rfl, _, rfl, _, rfl, _, rfl, _, _, rfl, rfl, _, rfl, F.aw, _, rfl, SqL.of S.aw, fun p np => ?_⟩⟩)
  rw [c1]
  have S1 := S.same (same_new np (.lst (part.map V.int)))
  have g1 : Ch F ar rws H ar rws (upd H p (.lst (part.map V.int))) := .new np _
  have hpp : (upd H p (.lst (part.map V.int))) p = some (.lst (part.map V.int)) := upd_same
  have npw : F.aw ≠ p := fun z => by rw [← z, S.aw] at np; cases np
  show gSlice _ _ _ _ _ (upd H p (.lst (part.map V.int))) _
  generalize upd H p (.lst (part.map V.int)) = H1 at S1 g1 hpp ⊢
  refine (⟨_, rfl, _, _, _, _, _, rfl, St.bo S1, Cs.bcl _, C.words, rfl, ⟨_, rfl, _, rfl, _, rfl, _, rfl, _, _, rfl, rfl, _, rfl, F.aw, p, _, _, _, _, rfl, rfl, rfl, rfl, S1.aw, hpp, npw, d1, d2, (by rw [List.length_map]; exact d3), (by rw [List.length_map, List.length_map]; have := S.z1; omega), ?_⟩⟩)
  rw [← d4]
  have S2 := S1.setW l1
  have g2 : Ch F ar rws H ar rws (upd H1 F.aw (.lst (w1.map V.int))) := g1.trans (.own own_aw _)
  dsimp only
  generalize upd H1 F.aw (.lst (w1.map V.int)) = H2 at S2 g2 ⊢
  obtain ⟨j, j1, j2⟩ := ixN_in hw2
  refine ⟨_, rfl, _, rfl, _, _, rfl, rfl, ?_⟩
  refine (⟨_, rfl, _, _, _, _, _, rfl, St.bo S2, Cs.bcl _, C.words, rfl, ⟨_, rfl, _, _, _, _, rfl, rfl, S2.aw, j1, ?_⟩⟩)
  rw [← j2]
  have S3 := S2.setW (ws := w2) l2
  have g3 : Ch F ar rws H ar rws (upd H2 F.aw (.lst (w2.map V.int))) := g2.trans (.own own_aw _)
  dsimp only
  generalize upd H2 F.aw (.lst (w2.map V.int)) = H3 at S3 g3 ⊢
  refine (⟨_, rfl, _, _, _, _, _, rfl, St.bo S3, Cs.bcl _, C.free, rfl, ⟨_, rfl, _, _, rfl, rfl, _, _, S3.bo, (by show 12 < 1000; omega), ?_⟩⟩)
  refine ⟨_, rfl, q _ ⟨S3.put (t := { s with words := w2, free := s.free + (hd / 8 + 2) }) (⟨rfl, rfl, rfl, rfl, rfl, rfl, rfl, rfl⟩) rfl, g3.trans (.own own_bo _)⟩⟩
end
end Wk
set_option maxRecDepth 100000
set_option maxHeartbeats 4000000
namespace Wk
open PySem L2 TL PyProof.Rows Hm
open SX (S S_len)
theorem ints_at {ps : List Int} {k : Nat} {x : V} (h : (ps.map V.int)[k]? = some x) : ∃ p, ps[k]? = some p ∧ x = .int p ∧ ps.drop k = p :: ps.drop (k + 1) := by
  rw [List.getElem?_map] at h
  cases e : ps[k]? with
  | none => rw [e] at h; cases h
  | some p =>
    rw [e] at h
    cases h
    obtain ⟨hk, rfl⟩ := List.getElem?_eq_some_iff.mp e
    exact ⟨_, rfl, rfl, List.drop_eq_getElem_cons hk⟩
theorem within_read {i lo hi : Nat} {l h w : Int} {σ : L2.St} {H : Hp} {Q : Bool → Hp → Prop} (e1 : σ[i]? = some (some (.int w))) (e2 : σ[lo]? = some (some (.int l))) (e3 : σ[hi]? = some (some (.int h))) (q : Q (within l h w) H) :
    tAnd (tTest (tOp rEq (tOp (fun x y H Q => ∃ (i : Int) (k : Nat), x = V.int i ∧ y = V.int (2 ^ k - 1) ∧ Q (V.int (i % 2 ^ k)) H) (tVar i) (tOp (rI0 fun i j => V.int (i - j)) (tC (V.int 8)) (tC (V.int 1)))) (tC (V.int 0))))
      (tTest (tChain (rI0 fun i j => V.bl (decide (i ≤ j))) (rI0 fun i j => V.bl (decide (i < j))) (tVar lo) (tOp (rI CDivW fun i j => V.int (i / j)) (tVar i) (tC (V.int 8))) (tVar hi))) σ H Q := by
  unfold within isT at q
  refine ⟨_, e1, _, _, rfl, rfl, w, 3, rfl, rfl, rfl, _, rfl, ?_⟩
  have e8 : (2 : Int) ^ 3 = 8 := by decide
  rw [e8]
  by_cases h0 : w % 8 = 0
  · rw [show decide (V.int (w % 8) = V.int 0) = true from decide_eq_true (by rw [h0])]
    rw [show (w % 8 == 0) = true from beq_iff_eq.mpr h0, Bool.true_and] at q
    refine iteT ⟨_, e2, _, e1, _, _, rfl, rfl, ⟨by decide, by decide⟩, _, _, rfl, rfl, _, rfl, ?_⟩
    by_cases h1 : l ≤ w / 8
    · rw [decide_eq_true h1]
      rw [decide_eq_true h1, Bool.true_and] at q
      exact iteT ⟨_, e3, _, _, rfl, rfl, _, rfl, q⟩
    · rw [decide_eq_false h1]
      rw [decide_eq_false h1, Bool.false_and] at q
      exact iteF ⟨_, rfl, q⟩
  · rw [show decide (V.int (w % 8) = V.int 0) = false from decide_eq_false (fun z => h0 (V.int.inj z))]
    rw [show (w % 8 == 0) = false from by simpa using h0, Bool.false_and] at q
    exact iteF q
section
variable {P : Program} {w : World} {K : PySem.W.Frag} {mg : Str → Option Value} {base : Heap}
abbrev s_Bound__lead_on : Stmt := inClass (top 62) 10
theorem sc_Bound__lead_on : FnScope ["self", "places", "low", "high", "place", "word"] ["self", "places", "low", "high"] (defScope s_Bound__lead_on) := ⟨rfl, rfl, rfl, by decide +kernel, rfl, by decide +kernel, by decide +kernel⟩
def sp_bleadon (C : Cs K) : Sp := fun vs H Q _ => ∃ F ar rws s pl ps lo hi s', vs = [.ref F.bo, .ref pl, .int lo, .int hi] ∧ St C H F ar rws s ∧ H pl = some (.lst (ps.map V.int)) ∧ ¬ Own F ar rws pl ∧ leadOn lo hi ps s = some s' ∧ ∀ H', Go C F ar rws H H' ar rws s' → Q .non H'
theorem ok_bleadon (T : Txt K mg base) (T5 : Txt5 K w mg) (C : Cs K) {f : Addr} {fd : FuncData} (F : Fun K "lead_on" "Bound.lead_on" s_Bound__lead_on f fd) (Mb_moved : MD P w K mg base CX0 C.B "moved" ["self", "at"] 1 (sp_bmoved C)) : FnOk P w K mg base CX0 2 f fd ["self", "places", "low", "high"] (sp_bleadon C) := by
  refine F.ok sc_Bound__lead_on (fun vs H Q E h => ?_) (fun cdv A outer s H vs Q E hr h => ?_)
  · obtain ⟨_, _, _, _, _, _, _, _, _, rfl, _⟩ := h; rfl
  obtain ⟨F, ar, rws, s, pl, ps, lo, hi, s', rfl, S, hpl, npl, hm, q⟩ := h
  refine ⟨_, (pss_one (ps_for PassesOwn.never rfl (pi_list (pv 1)) (pg_name (i := 4) sc_Bound__lead_on.nd rfl (Or.inl rfl)) (pss_cons (ps_set (i := 5) sc_Bound__lead_on.nd rfl (Or.inl rfl) (pe_ix ix_list (pe_fld (pv 0) rfl) (pv 4) (fun _ _ => rfl)))
      (pss_one (ps_if (PW.pt (pw_and (pt_cmpR op_eq (pe_op op_andM (pv 5) (pe_op op_sub (pe_glob (v := .int 8) rfl T.mTAGS ⟨_, rfl⟩) pe_int)) (pe_glob (v := .int 0) rfl T5.mTHING_TAG ⟨_, rfl⟩) (nomark _)) (pw_and1 (pt_chain op_le op_lt (pv 2) (pe_op op_fdivW (pv 5) (pe_glob (v := .int 8) rfl T.mTAGS ⟨_, rfl⟩)) (pv 3))))) (pss_one (ps_asg (pe_op op_add (pe_op op_mul (pe_meth (pv 0) C.bcl Mb_moved.m Mb_moved.ok (hr.mono (by omega)) Mb_moved.b .nil pass0 (pa_cons (pe_op op_fdivW (pv 5) (pe_glob (v := .int 8) rfl T.mTAGS ⟨_, rfl⟩)) pa_nil)) (pe_glob (v := .int 8) rfl T.mTAGS ⟨_, rfl⟩)) (pe_glob (v := .int 0) rfl T5.mTHING_TAG ⟨_, rfl⟩)) (pg_sub (pe_fld (pv 0) rfl) (pv 4) set_list))) pss_nil))))), ?_⟩
  generalize hσ : L2.start _ _ = σ0
  have hσ : σ0 = [some (.ref F.bo), some (.ref pl), some (.int lo), some (.int hi), none, none] := hσ.symm
  subst hσ
  have hz := line_eq
  refine ⟨_, rfl, pl, rfl, ⟨_, SqL.of hpl⟩, ?_⟩
  refine for_list (xs := ps.map V.int) (fun k σ H' => ∃ sk x4 x5, σ = [some (.ref F.bo), some (.ref pl), some (.int lo), some (.int hi), x4, x5] ∧ Go C F ar rws H H' ar rws sk ∧ leadOn lo hi (ps.drop k) sk = some s') ⟨s, none, none, rfl, S.go, hm⟩ (fun k σ H' _ ⟨sk, x4, x5, _, g, _⟩ => SqL.of (g.ch pl _ npl hpl).2) ?_ ?_
  · rintro k x σ H' hk ⟨sk, x4, x5, rfl, g, hm⟩
    obtain ⟨p, ep, rfl, ed⟩ := ints_at hk
    rw [ed, leadOn] at hm
    have S1 := g.st
    cases hw : gI sk.words p with
    | none => rw [leadAt, hw] at hm; cases hm
    | some wd =>
    refine seq_set ?_
    refine (⟨_, rfl, _, _, _, _, _, rfl, St.bo S1, Cs.bcl _, C.words, rfl, ⟨_, rfl, _, _, _, _, rfl, rfl, SqL.of S1.aw, gI_at hw, ?_⟩⟩)
    refine within_read rfl rfl rfl ?_
    rw [leadAt, hw] at hm
    dsimp only at hm
    cases hwi : within lo hi wd with
    | false =>
      rw [hwi] at hm
      exact iteF (go_next ⟨sk, _, _, rfl, g, hm⟩)
    | true =>
    rw [hwi, if_pos rfl] at hm
    cases hmv : moved sk (wd / 8) with
    | none => rw [hmv] at hm; cases hm
    | some nm =>
    obtain ⟨n, s1⟩ := nm
    rw [hmv] at hm
    dsimp only at hm
    cases hs : sI s1.words p (n * 8 + 0) with
    | none => rw [hs] at hm; cases hm
    | some ws =>
    rw [hs] at hm
    dsimp only at hm
    refine iteT ⟨_, rfl, F.bo, F.bd, _, rfl, S1.bo, rfl, _, rfl, _, _, rfl, rfl, ⟨by decide, by decide⟩, F, ar, rws, sk, wd / 8, n, s1, rfl, S1, hmv, fun H2 g2 => ?_⟩
    have S2 := g2.st
    obtain ⟨j, j1, j2⟩ := ixN_in hs
    refine ⟨_, _, rfl, rfl, .inr ⟨by decide, by decide⟩, _, _, rfl, rfl, ?_⟩
    refine (⟨_, rfl, _, _, _, _, _, rfl, St.bo S2, Cs.bcl _, C.words, rfl, ⟨_, rfl, _, _, _, _, rfl, rfl, S2.aw, j1, ?_⟩⟩)
    rw [← j2]
    exact ⟨_, _, _, rfl, (g.trans g2).trans ⟨S2.setW (sI_len hs), .own own_aw _⟩, hm⟩
  · rintro σ H' ⟨sk, x4, x5, rfl, g, hm⟩
    rw [List.length_map, List.drop_length, leadOn] at hm
    cases hm
    exact q _ g
end
end Wk
set_option maxRecDepth 100000
set_option maxHeartbeats 4000000
namespace Wk
open PySem L2 TL PyProof.Rows Hm
open SX (S S_len)
theorem moved_rows {s s' : Bd} {a n : Int} (h : moved s a = some (n, s')) : s'.rows = s.rows := by
  unfold moved at h
  split at h
  · cases h
  · split at h
    · cases h; rfl
    · split at h
      · cases h
      · split at h
        · cases h
        · split at h
          · cases h
          · cases h; rfl
section
variable {P : Program} {w : World} {K : PySem.W.Frag} {mg : Str → Option Value} {base : Heap}
abbrev s_Heap__root_rows : Stmt := inClass (top 68) 1
theorem sc_Heap__root_rows : FnScope ["self"] ["self"] (defScope s_Heap__root_rows) := ⟨rfl, rfl, rfl, by decide +kernel, rfl, by decide +kernel, by decide +kernel⟩
def sp_hrows (C : Cs K) : Sp := fun vs H Q _ => ∃ F ar rws s, vs = [.ref F.ho] ∧ St C H F ar rws s ∧ ∀ p, H p = none → Q (.ref p) (upd H p (.lst (rws.map V.ref)))
theorem ok_hrows (T : Txt K mg base) (C : Cs K) {f : Addr} {fd : FuncData} (F : Fun K "root_rows" "Heap.root_rows" s_Heap__root_rows f fd) : FnOk P w K mg base CX0 1 f fd ["self"] (sp_hrows C) := by
  refine F.ok sc_Heap__root_rows (fun vs H Q E h => ?_) (fun cdv A outer s H vs Q E hr h => ?_)
  · obtain ⟨_, _, _, _, rfl, _⟩ := h; rfl
  obtain ⟨F, ar, rws, s, rfl, S, q⟩ := h
  refine ⟨_, (pss_one (ps_ret (pe_listVals rfl (pe_fld (pv 0) rfl) rfl T.n_list boot_list))), ?_⟩
  refine (⟨_, rfl, _, _, _, _, _, rfl, St.ho S, Cs.hcl _, C.handles, rfl, ⟨F.ah, _, rfl, S.ah, fun p np => ?_⟩⟩)
  rw [rowD_snd (rows_len S.rw)]
  exact q p np
abbrev s_Bound__lead_roots : Stmt := inClass (top 62) 11
theorem sc_Bound__lead_roots : FnScope ["self", "low", "high", "row", "place", "word"] ["self", "low", "high"] (defScope s_Bound__lead_roots) := ⟨rfl, rfl, rfl, by decide +kernel, rfl, by decide +kernel, by decide +kernel⟩
def sp_bleadroots (C : Cs K) : Sp := fun vs H Q _ => ∃ F ar rws s lo hi s', vs = [.ref F.bo, .int lo, .int hi] ∧ St C H F ar rws s ∧ leadRoots lo hi s = some s' ∧ ∀ H', Go C F ar rws H H' ar rws s' → Q .non H'
theorem ok_bleadroots (T : Txt K mg base) (T5 : Txt5 K w mg) (C : Cs K) {f : Addr} {fd : FuncData} (F : Fun K "lead_roots" "Bound.lead_roots" s_Bound__lead_roots f fd) (Mb_moved : MD P w K mg base CX0 C.B "moved" ["self", "at"] 1 (sp_bmoved C)) (Mh_root_rows : MD P w K mg base CX0 C.H "root_rows" ["self"] 1 (sp_hrows C)) : FnOk P w K mg base CX0 2 f fd ["self", "low", "high"] (sp_bleadroots C) := by
  refine F.ok sc_Bound__lead_roots (fun vs H Q E h => ?_) (fun cdv A outer s H vs Q E hr h => ?_)
  · obtain ⟨_, _, _, _, _, _, _, rfl, _⟩ := h; rfl
  obtain ⟨F, ar, rws, s, lo, hi, s', rfl, S, hm, q⟩ := h
  refine ⟨_, (pss_one (ps_for PassesOwn.never rfl (pi_list (pe_meth0 (pe_fld (pv 0) rfl) C.hcl Mh_root_rows.m Mh_root_rows.ok (hr.mono (by omega)) Mh_root_rows.b .nil pass0)) (pg_name (i := 3) sc_Bound__lead_roots.nd rfl (Or.inl rfl)) (pss_one (ps_for PassesOwn.never rfl (pi_range1 rfl T.n_range (pa_cons (pe_callB call_len_seq rfl T.n_len boot_len (pa_cons (pv 3) pa_nil)) pa_nil)) (pg_name (i := 4) sc_Bound__lead_roots.nd rfl (Or.inl rfl)) (pss_cons (ps_set (i := 5) sc_Bound__lead_roots.nd rfl (Or.inl rfl) (pe_ix ix_list (pv 3) (pv 4) (fun _ _ => rfl)))
        (pss_one (ps_if (PW.pt (pw_and (pt_cmpR op_eq (pe_op op_andM (pv 5) (pe_op op_sub (pe_glob (v := .int 8) rfl T.mTAGS ⟨_, rfl⟩) pe_int)) (pe_glob (v := .int 0) rfl T5.mTHING_TAG ⟨_, rfl⟩) (nomark _)) (pw_and1 (pt_chain op_le op_lt (pv 1) (pe_op op_fdivW (pv 5) (pe_glob (v := .int 8) rfl T.mTAGS ⟨_, rfl⟩)) (pv 2))))) (pss_one (ps_asg (pe_op op_add (pe_op op_mul (pe_meth (pv 0) C.bcl Mb_moved.m Mb_moved.ok (hr.mono (by omega)) Mb_moved.b .nil pass0 (pa_cons (pe_op op_fdivW (pv 5) (pe_glob (v := .int 8) rfl T.mTAGS ⟨_, rfl⟩)) pa_nil)) (pe_glob (v := .int 8) rfl T.mTAGS ⟨_, rfl⟩)) (pe_glob (v := .int 0) rfl T5.mTHING_TAG ⟨_, rfl⟩)) (pg_sub (pv 3) (pv 4) set_list))) pss_nil))))))), ?_⟩
  generalize hσ : L2.start _ _ = σ0
  have hσ : σ0 = [some (.ref F.bo), some (.int lo), some (.int hi), none, none, none] := hσ.symm
  subst hσ
  have hz := line_eq
  have hlr := rows_len S.rw
  refine (⟨_, rfl, _, _, _, _, _, rfl, St.bo S, Cs.bcl _, C.owner, rfl, ⟨F.ho, F.hd, _, rfl, S.ho, rfl, F, ar, rws, s, rfl, S, fun p np => ?_⟩⟩)
  have S1 := S.same (same_new np (.lst (rws.map V.ref)))
  have g1 : Go C F ar rws H (upd H p (.lst (rws.map V.ref))) ar rws s := ⟨S1, .new np _⟩
  have hp : (upd H p (.lst (rws.map V.ref))) p = some (.lst (rws.map V.ref)) := upd_same
  have hop := S.off np
  generalize upd H p (.lst (rws.map V.ref)) = H1 at S1 g1 hp ⊢
  refine ⟨p, rfl, ⟨_, SqL.of hp⟩, ?_⟩
  refine for_list (xs := rws.map V.ref) (fun k σ H' => ∃ sk x3 x4 x5, σ = [some (.ref F.bo), some (.int lo), some (.int hi), x3, x4, x5] ∧ Go C F ar rws H1 H' ar rws sk ∧ k ≤ rws.length ∧ leadRows lo hi (rws.length - k) k sk = some s') ⟨s, none, none, none, rfl, S1.go, Nat.zero_le _, by unfold leadRoots at hm; rw [hlr]; exact hm⟩ (fun k σ H' _ ⟨sk, x3, x4, x5, _, g, _⟩ => SqL.of (g.ch p _ hop hp).2) ?_ ?_
  · rintro k x σ H' hk ⟨sk, x3, x4, x5, rfl, g, hkl, hm⟩
    rw [List.getElem?_map] at hk
    have S2 := g.st
    have hl2 := rows_len S2.rw
    cases er : rws[k]? with
    | none => rw [er] at hk; cases hk
    | some r =>
    rw [er] at hk
    cases hk
    have hkr : k < rws.length := (List.getElem?_eq_some_iff.mp er).1
    obtain ⟨q0, eq0⟩ : ∃ q0, sk.rows[k]? = some q0 := ⟨_, List.getElem?_eq_getElem (by omega)⟩
    obtain ⟨r', er', hr'⟩ := rows_at S2.rw eq0
    cases er.symm.trans er'
    obtain ⟨h0, wd⟩ := q0
    rw [show rws.length - k = (rws.length - (k + 1)) + 1 from by omega, leadRows, eq0] at hm
    dsimp only at hm
    show tFor _ _ _ _ [some (.ref F.bo), some (.int lo), some (.int hi), some (.ref r), x4, x5] H'
    refine ⟨_, rfl, r, [V.int wd], rfl, .inl (SqL.of hr'), _, rfl, (by show -2 ^ 62 ≤ (1 : Int); decide), (by show (1 : Int) < 2 ^ 62; decide), ?_⟩
    rw [show ((([V.int wd] : List V).length : Nat) : Int).toNat = 1 from rfl]
    have stay : ∀ {sa sb : Bd} {Ha Hb : Hp}, Go C F ar rws Ha Hb ar rws sb → sb.rows = sa.rows → Go C F ar rws H1 Ha ar rws sa → Hb r = Ha r := fun {sa sb Ha Hb} ga e gb => by
      have e1 : sa.rows.length = rws.length := (rows_len gb.st.rw).symm
      obtain ⟨q1, eq1⟩ : ∃ q1, sa.rows[k]? = some q1 := ⟨_, List.getElem?_eq_getElem (by omega)⟩
      obtain ⟨r1, a1, a2⟩ := rows_at gb.st.rw eq1
      obtain ⟨r2, b1, b2⟩ := rows_at ga.st.rw (by rw [e]; exact eq1)
      cases er.symm.trans a1
      cases er.symm.trans b1
      rw [a2, b2]
    refine for_range (fun i σ H' => ∃ sk x4 x5, σ = [some (.ref F.bo), some (.int lo), some (.int hi), some (.ref r), x4, x5] ∧ Go C F ar rws H1 H' ar rws sk ∧ ((i = 0 ∧ sk.rows[k]? = some (h0, wd) ∧ H' r = some (.lst [V.int wd]) ∧ (if within lo hi wd then (match moved sk (wd / 8) with
        | none => none
        | some (n, s1) => leadRows lo hi (rws.length - (k + 1)) (k + 1) { s1 with rows := s1.rows.set k (h0, n * 8 + 0) }) else leadRows lo hi (rws.length - (k + 1)) (k + 1) sk) = some s') ∨ (i = 1 ∧ leadRows lo hi (rws.length - (k + 1)) (k + 1) sk = some s'))) ⟨sk, _, _, rfl, g, .inl ⟨rfl, eq0, hr', hm⟩⟩ ?_ ?_
    · rintro i σ H2 hi1 ⟨sk, x4, x5, rfl, g, h⟩
      have i0 : i = 0 := by omega
      subst i0
      rcases h with ⟨_, eq0, hr2, hm⟩ | ⟨h, _⟩
      rotate_left
      · omega
      show tSeq _ _ _ [some (.ref F.bo), some (.int lo), some (.int hi), some (.ref r), some (.int (0 + ((0 : Nat) : Int))), x5] H2
      refine seq_set ?_
      refine ⟨_, rfl, _, rfl, r, _, _, _, rfl, rfl, SqL.of hr2, atI_nat (j := 0) rfl, ?_⟩
      refine within_read rfl rfl rfl ?_
      cases hwi : within lo hi wd with
      | false =>
        rw [hwi] at hm
        exact iteF (go_next ⟨sk, _, _, rfl, g, .inr ⟨rfl, hm⟩⟩)
      | true =>
      rw [hwi, if_pos rfl] at hm
      cases hmv : moved sk (wd / 8) with
      | none => rw [hmv] at hm; cases hm
      | some nm =>
      obtain ⟨n, s1⟩ := nm
      rw [hmv] at hm
      dsimp only at hm
      have hrows := moved_rows hmv
      refine iteT ⟨_, rfl, F.bo, F.bd, _, rfl, g.st.bo, rfl, _, rfl, _, _, rfl, rfl, ⟨by decide, by decide⟩, F, ar, rws, sk, wd / 8, n, s1, rfl, g.st, hmv, fun H3 g3 => ?_⟩
      have hr3 := (stay g3 hrows g).trans hr2
      refine ⟨_, _, rfl, rfl, .inr ⟨by decide, by decide⟩, _, _, rfl, rfl, ?_⟩
      refine ⟨_, rfl, _, rfl, r, _, _, 0, rfl, rfl, hr3, rfl, ?_⟩
      have S4 := g3.st.setRow (v := n * 8 + 0) (h0 := h0) (w := wd) er (by rw [hrows]; exact eq0)
      exact ⟨_, _, _, rfl, (g.trans g3).trans ⟨S4, .own (.inr (List.mem_of_getElem? er)) _⟩, .inr ⟨rfl, hm⟩⟩
    · rintro σ H2 ⟨sk, x4, x5, rfl, g, h⟩
      rcases h with ⟨h, _⟩ | ⟨_, hm⟩
      · cases h
      · exact ⟨sk, _, _, _, rfl, g, by omega, hm⟩
  · rintro σ H' ⟨sk, x3, x4, x5, rfl, g, _, hm⟩
    rw [List.length_map, Nat.sub_self, leadRows] at hm
    cases hm
    exact q _ (g1.trans g)
end
end Wk
set_option maxRecDepth 100000
set_option maxHeartbeats 4000000
namespace Wk
open PySem L2 TL PyProof.Rows Hm
open SX (S S_len)
section
variable {P : Program} {w : World} {K : PySem.W.Frag} {mg : Str → Option Value} {base : Heap}
abbrev s_is_things : Stmt := top 34
theorem sc_is_things : FnScope ["word"] ["word"] (defScope s_is_things) := ⟨rfl, rfl, rfl, by decide +kernel, rfl, by decide +kernel, by decide +kernel⟩
def sp_isthings : Sp := fun vs H Q _ => ∃ w, vs = [.int w] ∧ Q (.bl (isT w)) H
theorem ok_isthings (T : Txt K mg base) (T5 : Txt5 K w mg) {f : Addr} {fd : FuncData} (F : Fun K "is_things" "is_things" s_is_things f fd) : FnOk P w K mg base CX0 1 f fd ["word"] sp_isthings := by
  refine F.ok sc_is_things (fun vs H Q E h => ?_) (fun cdv A outer s H vs Q E hr h => ?_)
  · obtain ⟨_, rfl, _⟩ := h; rfl
  obtain ⟨wd, rfl, q⟩ := h
  refine ⟨_, (pss_one (ps_ret (pe_cmpR op_eq (pe_op op_andM (pv 0) (pe_op op_sub (pe_glob (v := .int 8) rfl T.mTAGS ⟨_, rfl⟩) pe_int)) (pe_glob (v := .int 0) rfl T5.mTHING_TAG ⟨_, rfl⟩) (nomark _)))), ?_⟩
  have e8 : (2 : Int) ^ 3 = 8 := by decide
  refine ⟨_, rfl, _, _, rfl, rfl, wd, 3, rfl, rfl, rfl, ?_⟩
  rw [e8]
  have e : decide (V.int (wd % 8) = V.int 0) = isT wd := by
    unfold isT
    by_cases h : wd % 8 = 0
    · rw [h]; rfl
    · rw [decide_eq_false (fun z => h (V.int.inj z))]; exact (beq_eq_false_iff_ne.mpr h).symm
  show Q (.bl (decide (V.int (wd % 8) = V.int 0))) H
  rw [e]; exact q
abbrev s_Bound__filled_words : Stmt := inClass (top 62) 2
theorem sc_Bound__filled_words : FnScope ["self"] ["self"] (defScope s_Bound__filled_words) := ⟨rfl, rfl, rfl, by decide +kernel, rfl, by decide +kernel, by decide +kernel⟩
def sp_bfilled (C : Cs K) : Sp := fun vs H Q _ => ∃ F ar rws s, vs = [.ref F.bo] ∧ St C H F ar rws s ∧ Q (.int (filledW s)) H
theorem ok_bfilled (C : Cs K) {f : Addr} {fd : FuncData} (F : Fun K "filled_words" "Bound.filled_words" s_Bound__filled_words f fd) (Mb_begin_of : MD P w K mg base CX0 C.B "begin_of" ["self", "half"] 1 (sp_bbegin C)) : FnOk P w K mg base CX0 2 f fd ["self"] (sp_bfilled C) := by
  refine F.ok sc_Bound__filled_words (fun vs H Q E h => ?_) (fun cdv A outer s H vs Q E hr h => ?_)
  · obtain ⟨_, _, _, _, rfl, _⟩ := h; rfl
  obtain ⟨F, ar, rws, s, rfl, S, q⟩ := h
  refine ⟨_, (pss_one (ps_ret (pe_op op_sub (pe_op op_add (pe_op op_add (pe_op op_sub (pe_fld (pv 0) rfl) (pe_meth (pv 0) C.bcl Mb_begin_of.m Mb_begin_of.ok (hr.mono (by omega)) Mb_begin_of.b .nil pass0 (pa_cons (pe_fld (pv 0) rfl) pa_nil))) (pe_fld (pv 0) rfl)) (pe_fld (pv 0) rfl)) (pe_fld (pv 0) rfl)))), ?_⟩
  refine (⟨_, rfl, _, _, _, _, _, rfl, St.bo S, Cs.bcl _, C.free, rfl, ⟨_, rfl, F.bo, F.bd, _, rfl, S.bo, rfl, (⟨_, rfl, _, _, _, _, _, rfl, St.bo S, Cs.bcl _, C.use, rfl, ⟨F, ar, rws, s, s.use, rfl, S, ?_⟩⟩)⟩⟩)
  exact ⟨_, _, rfl, rfl, (⟨_, rfl, _, _, _, _, _, rfl, St.bo S, Cs.bcl _, C.top, rfl, ⟨_, _, rfl, rfl, (⟨_, rfl, _, _, _, _, _, rfl, St.bo S, Cs.bcl _, C.left, rfl, ⟨_, _, rfl, rfl, (⟨_, rfl, _, _, _, _, _, rfl, St.bo S, Cs.bcl _, C.copied, rfl, ⟨_, _, rfl, rfl, q⟩⟩)⟩⟩)⟩⟩)⟩
theorem remD_put {l : List Int} {p : Int} : putK (remD l) (.inl p : Key) (.bl true) = remD (if l.contains p = true then l else l ++ [p]) := by
  have e : ((remD l).any fun kv => decide (kv.1 = (.inl p : Key))) = l.contains p := by
    unfold remD
    induction l with
    | nil => rfl
    | cons a l ih =>
      rw [List.map_cons, List.any_cons, ih, List.contains_cons]
      congr 1
      by_cases h : a = p
      · rw [h]; simp
      · rw [decide_eq_false (fun z => h (Sum.inl.inj z)), beq_eq_false_iff_ne.mpr (fun z => h z.symm)]
  unfold putK
  rw [e]
  cases hc : l.contains p with
  | true =>
    rw [if_pos rfl, if_pos rfl]
    unfold remD
    rw [List.map_map]
    refine List.map_congr_left fun x _ => ?_
    show (if (Sum.inl x : Key) = Sum.inl p then ((Sum.inl x : Key), V.bl true) else (Sum.inl x, V.bl true)) = _
    split <;> rfl
  | false =>
    rw [if_neg Bool.false_ne_true, if_neg Bool.false_ne_true]
    unfold remD
    rw [List.map_append]; rfl
abbrev s_Bound__remember : Stmt := inClass (top 62) 5
theorem sc_Bound__remember : FnScope ["self", "place", "word"] ["self", "place", "word"] (defScope s_Bound__remember) := ⟨rfl, rfl, rfl, by decide +kernel, rfl, by decide +kernel, by decide +kernel⟩
def sp_bremember (C : Cs K) : Sp := fun vs H Q _ => ∃ F ar rws s p v s', vs = [.ref F.bo, .int p, .int v] ∧ St C H F ar rws s ∧ remember s p v = some s' ∧ ∀ H', Go C F ar rws H H' ar rws s' → Q .non H'
theorem ok_bremember (T : Txt K mg base) (C : Cs K) {f : Addr} {fd : FuncData} (F : Fun K "remember" "Bound.remember" s_Bound__remember f fd) (D_is_things : Def P w K mg base CX0 "is_things" ["word"] 1 sp_isthings) : FnOk P w K mg base CX0 2 f fd ["self", "place", "word"] (sp_bremember C) := by
  refine F.ok sc_Bound__remember (fun vs H Q E h => ?_) (fun cdv A outer s H vs Q E hr h => ?_)
  · obtain ⟨_, _, _, _, _, _, _, rfl, _⟩ := h; rfl
  obtain ⟨F, ar, rws, s, p, v, s', rfl, S, hm, q⟩ := h
  refine ⟨_, (pss_one (ps_if (PW.pt (pw_and (pt_val (pe_call D_is_things.ok (hr.mono (by omega)) rfl D_is_things.g D_is_things.k D_is_things.b .nil pass0 (pa_cons (pv 2) pa_nil))) (pw_and1 (pt_cmpR op_lt (pe_op op_fdivW (pv 2) (pe_glob (v := .int 8) rfl T.mTAGS ⟨_, rfl⟩)) (pe_fld (pe_fld (pv 0) rfl) rfl) (nomark _))))) (pss_one (ps_dput (hu1 hr) (pe_fld (pv 0) rfl) (pv 1) pe_bl rfl)) pss_nil)), ?_⟩
  unfold remember at hm
  refine ⟨_, rfl, v, rfl, ?_⟩
  cases ht : isT v with
  | false =>
    rw [ht] at hm
    cases hm
    exact ⟨_, rfl, iteF (q _ S.go)⟩
  | true =>
  rw [ht] at hm
  refine ⟨_, rfl, iteT ⟨_, rfl, _, _, rfl, rfl, ⟨by decide, by decide⟩, ?_⟩⟩
  refine (⟨_, rfl, _, _, _, _, _, rfl, St.bo S, Cs.bcl _, Cs.room _, rfl, _, _, _, _, _, rfl, St.ro S, Cs.rcl _, C.young, rfl, ⟨_, _, rfl, rfl, _, rfl, ?_⟩⟩)
  by_cases hy : v / 8 < s.young
  · rw [decide_eq_true hy] at hm ⊢
    refine iteT ?_
    rw [Bool.true_and, if_pos rfl] at hm
    refine (⟨_, rfl, _, _, _, _, _, rfl, St.bo S, Cs.bcl _, C.rem, rfl, ⟨_, rfl, ar, _, rfl, DPut.k (k := Sum.inl p) S.rmd (by unfold remD; rw [List.length_map]; have := S.z3; have := line_eq; omega), ?_⟩⟩)
    rw [remD_put]
    cases hc : s.rem.contains p with
    | true =>
      rw [hc, if_pos rfl] at hm
      cases hm
      rw [if_pos rfl]
      exact q _ ⟨S.setR S.z3, .own own_ar _⟩
    | false =>
      rw [hc, if_neg Bool.false_ne_true] at hm
      rw [if_neg Bool.false_ne_true]
      split at hm
      · rename_i hl
        cases hm
        exact q _ ⟨S.setR (by rw [List.length_append]; exact hl), .own own_ar _⟩
      · cases hm
  · rw [decide_eq_false hy] at hm ⊢
    cases hm
    exact iteF (q _ S.go)
abbrev s_Bound__empty_nursery : Stmt := inClass (top 62) 15
theorem sc_Bound__empty_nursery : FnScope ["self"] ["self"] (defScope s_Bound__empty_nursery) := ⟨rfl, rfl, rfl, by decide +kernel, rfl, by decide +kernel, by decide +kernel⟩
def sp_bempty (C : Cs K) : Sp := fun vs H Q _ => ∃ F ar rws s, vs = [.ref F.bo] ∧ St C H F ar rws s ∧ ∀ H' ar', Go C F ar rws H H' ar' rws (emptyNur s) → Q .non H'
theorem ok_bempty (C : Cs K) {f : Addr} {fd : FuncData} (F : Fun K "empty_nursery" "Bound.empty_nursery" s_Bound__empty_nursery f fd) : FnOk P w K mg base CX0 1 f fd ["self"] (sp_bempty C) := by
  refine F.ok sc_Bound__empty_nursery (fun vs H Q E h => ?_) (fun cdv A outer s H vs Q E hr h => ?_)
  · obtain ⟨_, _, _, _, rfl, _⟩ := h; rfl
  obtain ⟨F, ar, rws, s, rfl, S, q⟩ := h
  refine ⟨_, (pss_cons (ps_fld (pv 0) pe_int rfl)
    (pss_cons (ps_fld (pv 0) pe_dnewK rfl)
    (pss_one (ps_if (pt_cmpR op_eq (pe_fld (pv 0) rfl) pe_int (nomark _)) (pss_one (ps_fld (pv 0) (pe_fld (pv 0) rfl) rfl)) pss_nil)))), ?_⟩
  have S1 := S.put (t := { s with top := 0 }) (⟨rfl, rfl, rfl, rfl, rfl, rfl, rfl, rfl⟩) rfl
  have g1 : Ch F ar rws H ar rws (upd H F.bo (.ins C.B F.bd (bdF F ar { s with top := 0 }))) := .own own_bo _
  refine (⟨_, rfl, _, _, _, _, rfl, St.bo S, Cs.bcl _, C.top, (by show 12 < 1000; omega), ?_⟩)
  dsimp only
  show tSeq _ _ _ _ (upd H F.bo (.ins C.B F.bd (bdF F ar { s with top := 0 })))
  generalize upd H F.bo (.ins C.B F.bd (bdF F ar { s with top := 0 })) = H1 at S1 g1 ⊢
  intro p np
  have S2 := S1.same (same_new np (.dK []))
  have g2 : Ch F ar rws H ar rws (upd H1 p (.dK [])) := g1.trans (.new np _)
  have hp : (upd H1 p (.dK [])) p = some (.dK (remD [])) := upd_same
  have hop := S1.off np
  have hro : p ≠ F.ro := fun z => by rw [z, S1.ro] at np; cases np
  have g3 : Ch F ar rws H p rws (upd H1 p (.dK [])) := (g1.trans (.newR np)).trans (fun b u n h => ⟨n, by rw [upd_ne (fun z => by rw [z, np] at h; cases h)]; exact h⟩)
  generalize upd H1 p (.dK []) = H2 at S2 g2 g3 hp ⊢
  have S3 := S2.newR hp hop hro rfl
  have g4 : Ch F ar rws H p rws (upd H2 F.bo (.ins C.B F.bd (bdF F p { s with top := 0 }))) := g3.trans (.own own_bo _)
  refine (⟨_, rfl, _, _, _, _, rfl, St.bo S2, Cs.bcl _, C.rem, (by show 12 < 1000; omega), ?_⟩)
  dsimp only
  show tIfS _ _ _ _ _ (upd H2 F.bo (.ins C.B F.bd (bdF F p { s with top := 0 })))
  generalize upd H2 F.bo (.ins C.B F.bd (bdF F p { s with top := 0 })) = H3 at S3 g4 ⊢
  refine (⟨_, rfl, _, _, _, _, _, rfl, St.bo S3, Cs.bcl _, C.left, rfl, ⟨rfl, _, rfl, ?_⟩⟩)
  have q := q
  unfold emptyNur at q
  by_cases hl : s.left = 0
  · rw [if_pos hl] at q
    rw [decide_eq_true (by rw [hl])]
    exact iteT ((⟨_, rfl, _, _, _, _, _, rfl, St.bo S3, Cs.bcl _, C.free, rfl, ((⟨_, rfl, _, _, _, _, rfl, St.bo S3, Cs.bcl _, C.scan, (by show 12 < 1000; omega), (q _ p ⟨S3.put (t := { s with top := 0, rem := [], scan := s.free }) (⟨rfl, rfl, rfl, rfl, rfl, rfl, rfl, rfl⟩) rfl, g4.trans (.own own_bo _)⟩)⟩))⟩))
  · rw [if_neg hl] at q
    rw [decide_eq_false (fun z => hl (V.int.inj z))]
    exact iteF (q _ p ⟨S3, g4⟩)
abbrev s_Bound__change_halves : Stmt := inClass (top 62) 16
theorem sc_Bound__change_halves : FnScope ["self"] ["self"] (defScope s_Bound__change_halves) := ⟨rfl, rfl, rfl, by decide +kernel, rfl, by decide +kernel, by decide +kernel⟩
def sp_bchange (C : Cs K) : Sp := fun vs H Q _ => ∃ F ar rws s, vs = [.ref F.bo] ∧ St C H F ar rws s ∧ ∀ H', Go C F ar rws H H' ar rws (changeH s) → Q (.int (beginOf s (1 - s.use))) H'
theorem ok_bchange (C : Cs K) {f : Addr} {fd : FuncData} (F : Fun K "change_halves" "Bound.change_halves" s_Bound__change_halves f fd) (Mb_begin_of : MD P w K mg base CX0 C.B "begin_of" ["self", "half"] 1 (sp_bbegin C)) : FnOk P w K mg base CX0 2 f fd ["self"] (sp_bchange C) := by
  refine F.ok sc_Bound__change_halves (fun vs H Q E h => ?_) (fun cdv A outer s H vs Q E hr h => ?_)
  · obtain ⟨_, _, _, _, rfl, _⟩ := h; rfl
  obtain ⟨F, ar, rws, s, rfl, S, q⟩ := h
  refine ⟨_, (pss_cons (ps_fld (pv 0) (pe_op op_sub pe_int (pe_fld (pv 0) rfl)) rfl)
    (pss_cons (ps_fld (pv 0) (pe_meth (pv 0) C.bcl Mb_begin_of.m Mb_begin_of.ok (hr.mono (by omega)) Mb_begin_of.b .nil pass0 (pa_cons (pe_fld (pv 0) rfl) pa_nil)) rfl)
    (pss_cons (ps_fld (pv 0) (pe_fld (pv 0) rfl) rfl)
    (pss_one (ps_ret (pe_fld (pv 0) rfl)))))), ?_⟩
  have S1 := S.put (t := { s with use := 1 - s.use }) (⟨rfl, rfl, rfl, rfl, rfl, rfl, rfl, rfl⟩) rfl
  have g1 : Ch F ar rws H ar rws (upd H F.bo (.ins C.B F.bd (bdF F ar { s with use := 1 - s.use }))) := .own own_bo _
  refine (⟨_, rfl, _, _, _, _, _, rfl, St.bo S, Cs.bcl _, C.use, rfl, ⟨_, _, rfl, rfl, ?_⟩⟩)
  refine (⟨_, rfl, _, _, _, _, rfl, St.bo S, Cs.bcl _, C.use, (by show 12 < 1000; omega), ?_⟩)
  dsimp only
  show tSeq _ _ _ _ (upd H F.bo (.ins C.B F.bd (bdF F ar { s with use := 1 - s.use })))
  generalize upd H F.bo (.ins C.B F.bd (bdF F ar { s with use := 1 - s.use })) = H1 at S1 g1 ⊢
  refine ⟨_, rfl, F.bo, F.bd, _, rfl, S1.bo, rfl, (⟨_, rfl, _, _, _, _, _, rfl, St.bo S1, Cs.bcl _, C.use, rfl, ⟨F, ar, rws, _, _, rfl, S1, ?_⟩⟩)⟩
  have S2 := S1.put (t := { s with use := 1 - s.use, free := beginOf s (1 - s.use) }) (⟨rfl, rfl, rfl, rfl, rfl, rfl, rfl, rfl⟩) rfl
  have g2 : Ch F ar rws H ar rws (upd H1 F.bo (.ins C.B F.bd (bdF F ar { s with use := 1 - s.use, free := beginOf s (1 - s.use) }))) := g1.trans (.own own_bo _)
  refine (⟨_, rfl, _, _, _, _, rfl, St.bo S1, Cs.bcl _, C.free, (by show 12 < 1000; omega), ?_⟩)
  dsimp only
  show tSeq _ _ _ _ (upd H1 F.bo (.ins C.B F.bd (bdF F ar { s with use := 1 - s.use, free := beginOf s (1 - s.use) })))
  generalize upd H1 F.bo (.ins C.B F.bd (bdF F ar { s with use := 1 - s.use, free := beginOf s (1 - s.use) })) = H2 at S2 g2 ⊢
  refine (⟨_, rfl, _, _, _, _, _, rfl, St.bo S2, Cs.bcl _, C.free, rfl, ((⟨_, rfl, _, _, _, _, rfl, St.bo S2, Cs.bcl _, C.scan, (by show 12 < 1000; omega), ?_⟩))⟩)
  have S3 := S2.put (t := changeH s) (⟨rfl, rfl, rfl, rfl, rfl, rfl, rfl, rfl⟩) rfl
  have g3 : Ch F ar rws H ar rws (upd H2 F.bo (.ins C.B F.bd (bdF F ar (changeH s)))) := g2.trans (.own own_bo _)
  dsimp only
  refine ((⟨_, rfl, _, _, _, _, _, rfl, St.bo S3, Cs.bcl _, C.free, rfl, (q _ ⟨S3, g3⟩)⟩))
abbrev s_Bound__end_if_done : Stmt := inClass (top 62) 18
theorem sc_Bound__end_if_done : FnScope ["self"] ["self"] (defScope s_Bound__end_if_done) := ⟨rfl, rfl, rfl, by decide +kernel, rfl, by decide +kernel, by decide +kernel⟩
def sp_bendif (C : Cs K) : Sp := fun vs H Q _ => ∃ F ar rws s, vs = [.ref F.bo] ∧ St C H F ar rws s ∧ ∀ H', Go C F ar rws H H' ar rws (endIf s) → Q .non H'
theorem ok_bendif (C : Cs K) {f : Addr} {fd : FuncData} (F : Fun K "end_if_done" "Bound.end_if_done" s_Bound__end_if_done f fd) : FnOk P w K mg base CX0 1 f fd ["self"] (sp_bendif C) := by
  refine F.ok sc_Bound__end_if_done (fun vs H Q E h => ?_) (fun cdv A outer s H vs Q E hr h => ?_)
  · obtain ⟨_, _, _, _, rfl, _⟩ := h; rfl
  obtain ⟨F, ar, rws, s, rfl, S, q⟩ := h
  refine ⟨_, (pss_one (ps_if (pt_cmpR op_eq (pe_fld (pv 0) rfl) (pe_fld (pv 0) rfl) (nomark _)) (pss_cons (ps_fld (pv 0) pe_int rfl)
      (pss_one (ps_fld (pv 0) pe_int rfl))) pss_nil)), ?_⟩
  refine (⟨_, rfl, _, _, _, _, _, rfl, St.bo S, Cs.bcl _, C.scan, rfl, ((⟨_, rfl, _, _, _, _, _, rfl, St.bo S, Cs.bcl _, C.free, rfl, ⟨rfl, _, rfl, ?_⟩⟩))⟩)
  unfold endIf at q
  by_cases hd : s.scan = s.free
  · rw [if_pos hd] at q
    rw [hd, decide_eq_true rfl]
    refine iteT ?_
    have S1 := S.put (t := { s with left := 0 }) (⟨rfl, rfl, rfl, rfl, rfl, rfl, rfl, rfl⟩) rfl
    have g1 : Ch F ar rws H ar rws (upd H F.bo (.ins C.B F.bd (bdF F ar { s with left := 0 }))) := .own own_bo _
    refine (⟨_, rfl, _, _, _, _, rfl, St.bo S, Cs.bcl _, C.left, (by show 12 < 1000; omega), ?_⟩)
    dsimp only
    show sFld _ _ _ _ _ _ (upd H F.bo (.ins C.B F.bd (bdF F ar { s with left := 0 })))
    generalize upd H F.bo (.ins C.B F.bd (bdF F ar { s with left := 0 })) = H1 at S1 g1 ⊢
    exact (⟨_, rfl, _, _, _, _, rfl, St.bo S1, Cs.bcl _, C.copied, (by show 12 < 1000; omega), (q _ ⟨S1.put (t := { s with left := 0, copied := 0 }) (⟨rfl, rfl, rfl, rfl, rfl, rfl, rfl, rfl⟩) rfl, g1.trans (.own own_bo _)⟩)⟩)
  · rw [if_neg hd] at q
    rw [decide_eq_false (fun z => hd (V.int.inj z))]
    exact iteF (q _ S.go)
end
end Wk
set_option maxRecDepth 100000
set_option maxHeartbeats 4000000
namespace Wk
open PySem L2 TL PyProof.Rows Hm
open SX (S S_len)
theorem rgV_upTo (a b : Int) : rgV a b = (range a b).map V.int := by
  unfold rgV range
  generalize (b - a).toNat = n
  induction n generalizing a with
  | zero => rfl
  | succ n ih =>
    rw [Hm.upTo, List.map_cons, ← ih (a + 1), List.range_succ_eq_map, List.map_cons, List.map_map]
    congr 1
    · show V.int (a + ((0 : Nat) : Int)) = _
      rw [show a + ((0 : Nat) : Int) = a from by omega]
    · refine List.map_congr_left fun i _ => ?_
      show V.int (a + ((i + 1 : Nat) : Int)) = V.int (a + 1 + (i : Int))
      congr 1; omega
theorem moved_fix {s s' : Bd} {a n : Int} (h : moved s a = some (n, s')) : s'.words.length = s.words.length ∧ s'.young = s.young ∧ s'.old = s.old ∧ s'.pace = s.pace ∧ s'.use = s.use ∧ s'.rem = s.rem := by
  unfold moved at h
  split at h
  · cases h
  · split at h
    · cases h; exact ⟨rfl, rfl, rfl, rfl, rfl, rfl⟩
    · split at h
      · cases h
      · split at h
        · cases h
        · rename_i w1 e1
          split at h
          · cases h
          · rename_i w2 e2
            cases h
            exact ⟨(sI_len e2).trans (setS_len e1), rfl, rfl, rfl, rfl, rfl⟩
theorem leadOn_fix {lo hi : Int} : ∀ {ps : List Int} {s s' : Bd}, leadOn lo hi ps s = some s' → s'.words.length = s.words.length ∧ s'.young = s.young ∧ s'.old = s.old ∧ s'.pace = s.pace ∧ s'.use = s.use ∧ s'.rem = s.rem
  | [], s, s', h => by cases h; exact ⟨rfl, rfl, rfl, rfl, rfl, rfl⟩
  | p :: ps, s, s', h => by
    rw [leadOn] at h
    split at h
    · cases h
    · rename_i s1 e
      obtain ⟨h1, h2, h3, h4, h5, h6⟩ := leadOn_fix h
      unfold leadAt at e
      split at e
      · cases e
      · split at e
        · split at e
          · cases e
          · rename_i n s2 em
            obtain ⟨g1, g2, g3, g4, g5, g6⟩ := moved_fix em
            split at e
            · cases e
            · rename_i ws es
              cases e
              exact ⟨h1.trans ((sI_len es).trans g1), h2.trans g2, h3.trans g3, h4.trans g4, h5.trans g5, h6.trans g6⟩
        · cases e; exact ⟨h1, h2, h3, h4, h5, h6⟩
theorem tal_at {l : List Int} {i : Nat} (hl : l.length = 5) (hi : i < 5) : atI (l.map V.int) (i : Int) = some (.int (l.getD i 0)) := by
  refine atI_nat (j := i) ?_
  rw [List.getElem?_map, List.getD_eq_getElem?_getD, List.getElem?_eq_getElem (by omega)]; rfl
theorem tal_set {l : List Int} {i : Nat} {n : Int} : (l.map V.int).set i (.int (l.getD i 0 + n)) = (Hm.bump l i n).map V.int := by
  rw [Hm.bump, List.map_set]
theorem bump_len {l : List Int} {i : Nat} {n : Int} (hl : l.length = 5) : (Hm.bump l i n).length = 5 := by rw [Hm.bump, List.length_set]; exact hl
/-- the sort of a head -/
theorem head_ne {h : Int} : (!decide (V.int (h % 2 ^ 3) = V.int 0)) = (h % 8 != 0) := by
  rw [show (2 : Int) ^ 3 = 8 from by decide]
  by_cases e : h % 8 = 0
  · rw [e]; rfl
  · rw [decide_eq_false (fun z => e (V.int.inj z))]
    exact (bne_iff_ne.mpr e).symm
theorem leadRows_fix {lo hi : Int} : ∀ {f k : Nat} {s s' : Bd}, leadRows lo hi f k s = some s' → s'.young = s.young
  | 0, k, s, s', h => by cases h; rfl
  | f + 1, k, s, s', h => by
    rw [leadRows] at h
    split at h
    · cases h; rfl
    · split at h
      · split at h
        · cases h
        · rename_i n s1 em
          exact (leadRows_fix (s := { s1 with rows := _ }) h).trans (moved_fix em).2.1
      · exact leadRows_fix h
theorem leadRoots_fix {lo hi : Int} {s s' : Bd} (h : leadRoots lo hi s = some s') : s'.young = s.young := leadRows_fix h
section
variable {P : Program} {w : World} {K : PySem.W.Frag} {mg : Str → Option Value} {base : Heap}
abbrev s_Bound__write : Stmt := inClass (top 62) 8
theorem sc_Bound__write : FnScope ["self", "at", "place", "word"] ["self", "at", "place", "word"] (defScope s_Bound__write) := ⟨rfl, rfl, rfl, by decide +kernel, rfl, by decide +kernel, by decide +kernel⟩
def sp_bwrite (C : Cs K) : Sp := fun vs H Q _ => ∃ F ar rws s a p v s', vs = [.ref F.bo, .int a, .int p, .int v] ∧ St C H F ar rws s ∧ bwrite s a p v = some s' ∧ ∀ H', Go C F ar rws H H' ar rws s' → Q .non H'
theorem ok_bwrite (T : Txt K mg base) (T5 : Txt5 K w mg) (C : Cs K) {f : Addr} {fd : FuncData} (F : Fun K "write" "Bound.write" s_Bound__write f fd) (Mb_remember : MD P w K mg base CX0 C.B "remember" ["self", "place", "word"] 2 (sp_bremember C)) : FnOk P w K mg base CX0 3 f fd ["self", "at", "place", "word"] (sp_bwrite C) := by
  refine F.ok sc_Bound__write (fun vs H Q E h => ?_) (fun cdv A outer s H vs Q E hr h => ?_)
  · obtain ⟨_, _, _, _, _, _, _, _, rfl, _⟩ := h; rfl
  obtain ⟨F, ar, rws, s, a, p, v, s', rfl, S, hm, q⟩ := h
  refine ⟨_, (pss_cons (ps_asg (pv 3) (pg_sub (pe_fld (pv 0) rfl) (pe_op op_add (pe_op op_add (pv 1) (pe_glob (v := .int 2) rfl T5.mAHEAD ⟨_, rfl⟩)) (pv 2)) set_list))
    (pss_one (ps_if (pt_cmpR op_ge (pv 1) (pe_fld (pe_fld (pv 0) rfl) rfl) (nomark _)) (pss_one (ps_expr (pe_meth (pv 0) C.bcl Mb_remember.m Mb_remember.ok (hr.mono (by omega)) Mb_remember.b .nil pass0 (pa_cons (pe_op op_add (pe_op op_add (pv 1) (pe_glob (v := .int 2) rfl T5.mAHEAD ⟨_, rfl⟩)) (pv 2)) (pa_cons (pv 3) pa_nil))))) pss_nil))), ?_⟩
  unfold bwrite at hm
  cases hs : sI s.words (a + 2 + p) v with
  | none => rw [hs] at hm; cases hm
  | some ws =>
  rw [hs] at hm
  dsimp only at hm
  obtain ⟨j, j1, j2⟩ := ixN_in hs
  refine ⟨_, rfl, ?_⟩
  refine (⟨_, rfl, _, _, _, _, _, rfl, St.bo S, Cs.bcl _, C.words, rfl, ⟨_, rfl, _, _, rfl, rfl, _, rfl, _, _, rfl, rfl, _, _, _, _, rfl, rfl, S.aw, j1, ?_⟩⟩)
  rw [← j2]
  have S1 := S.setW (sI_len hs)
  have g1 : Go C F ar rws H (upd H F.aw (.lst (ws.map V.int))) ar rws { s with words := ws } := ⟨S1, .own own_aw _⟩
  dsimp only
  generalize upd H F.aw (.lst (ws.map V.int)) = H1 at S1 g1 ⊢
  refine ⟨_, rfl, (⟨_, rfl, _, _, _, _, _, rfl, St.bo S1, Cs.bcl _, Cs.room _, rfl, _, _, _, _, _, rfl, St.ro S1, Cs.rcl _, C.young, rfl, ⟨_, _, rfl, rfl, _, rfl, ?_⟩⟩)⟩
  by_cases hy : s.young ≤ a
  · rw [if_pos hy] at hm
    rw [decide_eq_true hy]
    exact iteT ⟨_, rfl, F.bo, F.bd, _, rfl, S1.bo, rfl, _, rfl, _, _, rfl, rfl, _, rfl, _, _, rfl, rfl, _, rfl, F, ar, rws, _, _, v, s', rfl, S1, hm, fun H2 g2 => q _ (g1.trans g2)⟩
  · rw [if_neg hy] at hm
    cases hm
    rw [decide_eq_false hy]
    exact iteF (q _ g1)
abbrev s_Bound__lead_left : Stmt := inClass (top 62) 12
theorem sc_Bound__lead_left : FnScope ["self", "begin", "end", "ahead", "low"] ["self", "begin", "end"] (defScope s_Bound__lead_left) := ⟨rfl, rfl, rfl, by decide +kernel, rfl, by decide +kernel, by decide +kernel⟩
def sp_bleadleft (C : Cs K) : Sp := fun vs H Q _ => ∃ F ar rws s b e s', vs = [.ref F.bo, .int b, .int e] ∧ St C H F ar rws s ∧ leadLeft b e s = some s' ∧ ∀ H', Go C F ar rws H H' ar rws s' → Q .non H'
theorem ok_bleadleft (T : Txt K mg base) (C : Cs K) {f : Addr} {fd : FuncData} (F : Fun K "lead_left" "Bound.lead_left" s_Bound__lead_left f fd) (Mb_begin_of : MD P w K mg base CX0 C.B "begin_of" ["self", "half"] 1 (sp_bbegin C)) (Mb_lead_on : MD P w K mg base CX0 C.B "lead_on" ["self", "places", "low", "high"] 2 (sp_bleadon C)) : FnOk P w K mg base CX0 3 f fd ["self", "begin", "end"] (sp_bleadleft C) := by
  refine F.ok sc_Bound__lead_left (fun vs H Q E h => ?_) (fun cdv A outer s H vs Q E hr h => ?_)
  · obtain ⟨_, _, _, _, _, _, _, rfl, _⟩ := h; rfl
  obtain ⟨F, ar, rws, s, b, e, s', rfl, S, hm, q⟩ := h
  refine ⟨_, (pss_cons (ps_set (i := 3) sc_Bound__lead_left.nd rfl (Or.inl rfl) (pe_fld (pv 0) rfl))
    (pss_cons (ps_set (i := 4) sc_Bound__lead_left.nd rfl (Or.inl rfl) (pe_meth (pv 0) C.bcl Mb_begin_of.m Mb_begin_of.ok (hr.mono (by omega)) Mb_begin_of.b .nil pass0 (pa_cons (pe_op op_sub pe_int (pe_fld (pv 0) rfl)) pa_nil)))
    (pss_cons (ps_expr (pe_meth (pv 0) C.bcl Mb_lead_on.m Mb_lead_on.ok (hr.mono (by omega)) Mb_lead_on.b .nil pass0 (pa_cons (pe_listRg rfl rfl T.n_list (prg_2 rfl T.n_range (pv 1) (pv 2))) (pa_cons (pv 4) (pa_cons (pe_op op_add (pv 4) (pe_fld (pe_fld (pv 0) rfl) rfl)) pa_nil)))))
    (pss_one (ps_fldaug (pv 0) (pe_op op_sub (pe_fld (pv 0) rfl) (pv 3)) in_add))))), ?_⟩
  unfold leadLeft leadR at hm
  split at hm
  · cases hm
  rename_i s1 hm1
  cases hm
  split at hm1
  rotate_left
  · cases hm1
  rename_i hb
  refine seq_set ((⟨_, rfl, _, _, _, _, _, rfl, St.bo S, Cs.bcl _, C.free, rfl, (seq_set ⟨_, rfl, F.bo, F.bd, _, rfl, S.bo, rfl, (⟨_, rfl, _, _, _, _, _, rfl, St.bo S, Cs.bcl _, C.use, rfl, ⟨_, _, rfl, rfl, F, ar, rws, s, _, rfl, S, ?_⟩⟩)⟩)⟩))
  refine ⟨_, rfl, F.bo, F.bd, _, rfl, S.bo, rfl, _, rfl, _, rfl, _, _, rfl, rfl, RgOk.of_le (by omega) (by omega) (by omega) (by omega), fun p np => ?_⟩
  rw [rgV_upTo]
  have S1 := S.same (same_new np (.lst ((range b e).map V.int)))
  have g1 : Go C F ar rws H (upd H p (.lst ((range b e).map V.int))) ar rws s := ⟨S1, .new np _⟩
  have hp : (upd H p (.lst ((range b e).map V.int))) p = some (.lst ((range b e).map V.int)) := upd_same
  have hop := S.off np
  generalize upd H p (.lst ((range b e).map V.int)) = H1 at S1 g1 hp ⊢
  refine ⟨_, rfl, _, rfl, (⟨_, rfl, _, _, _, _, _, rfl, St.bo S1, Cs.bcl _, Cs.room _, rfl, _, _, _, _, _, rfl, St.ro S1, Cs.rcl _, C.old, rfl, ⟨_, _, rfl, rfl, F, ar, rws, s, p, _, _, _, _, rfl, S1, hp, hop, hm1, fun H2 g2 => ?_⟩⟩)⟩
  have S2 := g2.st
  refine (⟨_, rfl, _, _, _, _, _, rfl, St.bo S2, Cs.bcl _, C.copied, rfl, ((⟨_, rfl, _, _, _, _, _, rfl, St.bo S2, Cs.bcl _, C.free, rfl, ⟨_, rfl, _, _, rfl, rfl, _, _, rfl, rfl, _, _, S2.bo, (by show 12 < 1000; omega), ?_⟩⟩))⟩)
  exact q _ ((g1.trans g2).trans ⟨S2.put (t := { s1 with copied := s1.copied + (s1.free - s.free) }) (⟨rfl, rfl, rfl, rfl, rfl, rfl, rfl, rfl⟩) rfl, .own own_bo _⟩)
abbrev s_Bound__gather : Stmt := inClass (top 62) 14
theorem sc_Bound__gather : FnScope ["self", "at", "many"] ["self"] (defScope s_Bound__gather) := ⟨rfl, rfl, rfl, by decide +kernel, rfl, by decide +kernel, by decide +kernel⟩
def sp_bgather (C : Cs K) : Sp := fun vs H Q _ => ∃ F ar rws s n s', vs = [.ref F.bo] ∧ St C H F ar rws s ∧ gather s = some (n, s') ∧ ∀ H' ar', Go C F ar rws H H' ar' rws s' → Q (.int n) H'
theorem ok_bgather (T : Txt K mg base) (T5 : Txt5 K w mg) (C : Cs K) {f : Addr} {fd : FuncData} (F : Fun K "gather" "Bound.gather" s_Bound__gather f fd) (Mb_end_of : MD P w K mg base CX0 C.B "end_of" ["self", "at"] 1 (sp_bend C)) (Mb_lead_on : MD P w K mg base CX0 C.B "lead_on" ["self", "places", "low", "high"] 2 (sp_bleadon C)) (Mb_lead_roots : MD P w K mg base CX0 C.B "lead_roots" ["self", "low", "high"] 2 (sp_bleadroots C)) (Mb_empty_nursery : MD P w K mg base CX0 C.B "empty_nursery" ["self"] 1 (sp_bempty C)) : FnOk P w K mg base CX0 3 f fd ["self"] (sp_bgather C) := by
  refine F.ok sc_Bound__gather (fun vs H Q E h => ?_) (fun cdv A outer s H vs Q E hr h => ?_)
  · obtain ⟨_, _, _, _, _, _, rfl, _⟩ := h; rfl
  obtain ⟨F, ar, rws, s, n, s', rfl, S, hm, q⟩ := h
  refine ⟨_, (pss_cons (ps_augS (pe_fld (pv 0) rfl) (pe_glob (v := .int 0) rfl T5.mGATHERS ⟨_, rfl⟩) pget_list pe_int ip_add set_list)
    (pss_cons (ps_set (i := 1) sc_Bound__gather.nd rfl (Or.inl rfl) (pe_fld (pv 0) rfl))
    (pss_cons (ps_expr (pe_meth (pv 0) C.bcl Mb_lead_roots.m Mb_lead_roots.ok (hr.mono (by omega)) Mb_lead_roots.b .nil pass0 (pa_cons pe_int (pa_cons (pe_fld (pe_fld (pv 0) rfl) rfl) pa_nil))))
    (pss_cons (ps_expr (pe_meth (pv 0) C.bcl Mb_lead_on.m Mb_lead_on.ok (hr.mono (by omega)) Mb_lead_on.b .nil pass0 (pa_cons (pe_callTy (call_list_dK rfl) rfl T.n_list boot_list (pa_cons (pe_fld (pv 0) rfl) pa_nil)) (pa_cons pe_int (pa_cons (pe_fld (pe_fld (pv 0) rfl) rfl) pa_nil)))))
    (pss_cons (ps_set (i := 2) sc_Bound__gather.nd rfl (Or.inl rfl) pe_int)
    (pss_cons (ps_while PassesOwn.never (pt_cmpR op_lt (pv 1) (pe_fld (pv 0) rfl) (nomark _)) (pss_cons (ps_if (pt_cmpR op_ne (pe_op op_andM (pe_ix ix_list (pe_fld (pv 0) rfl) (pv 1) (fun _ _ => rfl)) (pe_op op_sub (pe_glob (v := .int 8) rfl T.mTAGS ⟨_, rfl⟩) pe_int)) (pe_glob (v := .int 0) rfl T5.mTEXT_SORT ⟨_, rfl⟩) (nomark _)) (pss_one (ps_expr (pe_meth (pv 0) C.bcl Mb_lead_on.m Mb_lead_on.ok (hr.mono (by omega)) Mb_lead_on.b .nil pass0 (pa_cons (pe_listRg rfl rfl T.n_list (prg_2 rfl T.n_range (pe_op op_add (pv 1) (pe_glob (v := .int 2) rfl T5.mAHEAD ⟨_, rfl⟩)) (pe_meth (pv 0) C.bcl Mb_end_of.m Mb_end_of.ok (hr.mono (by omega)) Mb_end_of.b .nil pass0 (pa_cons (pv 1) pa_nil)))) (pa_cons pe_int (pa_cons (pe_fld (pe_fld (pv 0) rfl) rfl) pa_nil)))))) pss_nil)
      (pss_cons (ps_set (i := 1) sc_Bound__gather.nd rfl (Or.inl rfl) (pe_meth (pv 0) C.bcl Mb_end_of.m Mb_end_of.ok (hr.mono (by omega)) Mb_end_of.b .nil pass0 (pa_cons (pv 1) pa_nil)))
      (pss_one (ps_aug (i := 2) sc_Bound__gather.nd rfl (Or.inl rfl) pe_int ip_add)))))
    (pss_cons (ps_expr (pe_meth0 (pv 0) C.bcl Mb_empty_nursery.m Mb_empty_nursery.ok (hr.mono (by omega)) Mb_empty_nursery.b .nil pass0))
    (pss_one (ps_ret (pv 2)))))))))), ?_⟩
  unfold gather at hm
  split at hm
  · cases hm
  rename_i s1 h1
  split at hm
  · cases hm
  rename_i s2 h2
  split at hm
  · cases hm
  rename_i many s3 h3
  cases hm
  have hz := line_eq
  generalize hσ : L2.start _ _ = σ0
  have hσ : σ0 = [some (.ref F.bo), none, none] := hσ.symm
  subst hσ
  -- self.tally[GATHERS] += 1
  refine (⟨_, rfl, _, _, _, _, _, rfl, St.bo S, Cs.bcl _, C.tally, rfl, ⟨F.tl, _, _, _, rfl, rfl, SqL.of S.tl, tal_at (i := 0) S.z5 (by omega), _, _, rfl, rfl, F.tl, _, _, 0, rfl, rfl, S.tl, ixN_of (j := 0) (by rw [List.length_map, S.z5]; omega), ?_⟩⟩)
  rw [tal_set]
  have S0 := S.setT (l := Hm.bump s.tally 0 1) (bump_len S.z5)
  have g0 : Go C F ar rws H (upd H F.tl (.lst ((Hm.bump s.tally 0 1).map V.int))) ar rws { s with tally := Hm.bump s.tally 0 1 } := ⟨S0, .own own_tl _⟩
  dsimp only
  show tSeq _ _ _ _ (upd H F.tl (.lst ((Hm.bump s.tally 0 1).map V.int)))
  generalize upd H F.tl (.lst ((Hm.bump s.tally 0 1).map V.int)) = H0 at S0 g0 ⊢
  refine seq_set ((⟨_, rfl, _, _, _, _, _, rfl, St.bo S0, Cs.bcl _, C.free, rfl, ?_⟩))
  refine ⟨_, rfl, F.bo, F.bd, _, rfl, S0.bo, rfl, (⟨_, rfl, _, _, _, _, _, rfl, St.bo S0, Cs.bcl _, Cs.room _, rfl, _, _, _, _, _, rfl, St.ro S0, Cs.rcl _, C.young, rfl, ⟨F, ar, rws, _, _, _, s1, rfl, S0, h1, fun H1 g1 => ?_⟩⟩)⟩
  have S1 := g1.st
  dsimp only
  have fy : s1.young = s.young := leadRoots_fix (s := { s with tally := Hm.bump s.tally 0 1 }) h1
  refine ⟨_, rfl, F.bo, F.bd, _, rfl, S1.bo, rfl, (⟨_, rfl, _, _, _, _, _, rfl, St.bo S1, Cs.bcl _, C.rem, rfl, ⟨ar, _, rfl, S1.rmd, fun p np => ?_⟩⟩)⟩
  have er : (remD s1.rem).map (fun kv => kV kv.1) = s1.rem.map V.int := by unfold remD; rw [List.map_map]; rfl
  rw [er]
  have S1' := S1.same (same_new np (.lst (s1.rem.map V.int)))
  have g1' : Go C F ar rws H1 (upd H1 p (.lst (s1.rem.map V.int))) ar rws s1 := ⟨S1', .new np _⟩
  have hp : (upd H1 p (.lst (s1.rem.map V.int))) p = some (.lst (s1.rem.map V.int)) := upd_same
  have hop := S1.off np
  generalize upd H1 p (.lst (s1.rem.map V.int)) = H1' at S1' g1' hp ⊢
  refine (⟨_, rfl, _, _, _, _, _, rfl, St.bo S1', Cs.bcl _, Cs.room _, rfl, _, _, _, _, _, rfl, St.ro S1', Cs.rcl _, C.young, rfl, ⟨F, ar, rws, s1, p, _, _, _, s2, rfl, S1', hp, hop, by rw [fy]; exact h2, fun H2 g2 => ?_⟩⟩)
  dsimp only
  have g := ((g0.trans g1).trans g1').trans g2
  refine seq_setC ?_
  refine seq_join (fun σ H' => ∃ x1 : V, σ = [some (.ref F.bo), some x1, some (.int n)] ∧ Go C F ar rws H H' ar rws s3) ?_ ?_
  · rintro σ H3 ⟨x1, rfl, g3⟩
    refine ⟨_, rfl, F.bo, F.bd, _, rfl, g3.st.bo, rfl, F, ar, rws, s3, rfl, g3.st, fun H4 ar' g4 => ?_⟩
    exact ⟨_, rfl, q _ _ (g3.trans g4)⟩
  · intro NX nx
    refine while_of (fun σ H' => ∃ x1 : V, σ = [some (.ref F.bo), some x1, some (.int n)] ∧ Go C F ar rws H H' ar rws s3) (fun m σ H' => ∃ a many sk, σ = [some (.ref F.bo), some (.int a), some (.int many)] ∧ Go C F ar rws H H' ar rws sk ∧ gatherGo m a many sk = some (n, s3)) (s.words.length + 1) ⟨_, _, _, rfl, g, h3⟩ nx ?_
    rintro NX nx m σ H3 ⟨a, many, sk, rfl, g3, hg⟩
    have S3 := g3.st
    cases m with
    | zero => cases hg
    | succ m =>
    rw [gatherGo] at hg
    refine ⟨_, rfl, (⟨_, rfl, _, _, _, _, _, rfl, St.bo S3, Cs.bcl _, C.free, rfl, ⟨_, _, rfl, rfl, _, rfl, ?_⟩⟩)⟩
    by_cases ha : a < sk.free
    rotate_left
    · rw [if_neg ha] at hg
      cases hg
      rw [decide_eq_false ha]
      rw [if_neg Bool.false_ne_true]
      exact nx _ _ ⟨_, rfl, g3⟩
    rw [if_pos ha] at hg
    rw [decide_eq_true ha, if_pos rfl]
    cases hh : gI sk.words a with
    | none => rw [hh] at hg; cases hg
    | some hd =>
    rw [hh] at hg
    dsimp only at hg
    split at hg
    · cases hg
    rename_i s4 h4
    cases he : endOf s4 a with
    | none => rw [he] at hg; cases hg
    | some e =>
    rw [he] at hg
    dsimp only at hg
    refine ⟨fun σ H' => ∃ a many sk, σ = [some (.ref F.bo), some (.int a), some (.int many)] ∧ Go C F ar rws H H' ar rws sk ∧ gatherGo m a many sk = some (n, s3), fun σ' H' h => ⟨m, Nat.lt_succ_self m, h⟩, ?_⟩
    refine seq_join (fun σ H' => σ = [some (.ref F.bo), some (.int a), some (.int many)] ∧ Go C F ar rws H H' ar rws s4) ?_ ?_
    · rintro σ H4 ⟨rfl, g4⟩
      refine seq_set ⟨_, rfl, F.bo, F.bd, _, rfl, g4.st.bo, rfl, _, rfl, F, ar, rws, s4, a, e, rfl, g4.st, he, ?_⟩
      exact ⟨_, rfl, _, _, rfl, rfl, _, _, _, rfl, g4, hg⟩
    · intro NX2 nx2
      refine (⟨_, rfl, _, _, _, _, _, rfl, St.bo S3, Cs.bcl _, C.words, rfl, ⟨_, rfl, _, _, _, _, rfl, rfl, SqL.of S3.aw, gI_at hh, _, _, rfl, rfl, hd, 3, rfl, rfl, rfl, _, rfl, ?_⟩⟩)
      rw [head_ne]
      cases hs : (hd % 8 != 0) with
      | false =>
        rw [hs] at h4
        cases h4
        exact iteF (nx2 _ _ ⟨rfl, g3⟩)
      | true =>
      rw [hs, if_pos rfl] at h4
      unfold leadR at h4
      split at h4
      rotate_left
      · cases h4
      rename_i hb
      refine iteT ⟨_, rfl, F.bo, F.bd, _, rfl, S3.bo, rfl, ?_⟩
      have hend : endOf sk a = some (a + 2 + hd / 8) := by unfold endOf; rw [hh]
      refine ⟨_, rfl, _, _, rfl, rfl, _, rfl, F.bo, F.bd, _, rfl, S3.bo, rfl, _, rfl, F, ar, rws, sk, a, _, rfl, S3, hend, _, _, rfl, rfl, RgOk.of_le (by omega) (by omega) (by omega) (by omega), fun p np => ?_⟩
      rw [rgV_upTo]
      have S4 := S3.same (same_new np (.lst ((range (a + 2) (a + 2 + hd / 8)).map V.int)))
      have g4 : Go C F ar rws H3 (upd H3 p (.lst ((range (a + 2) (a + 2 + hd / 8)).map V.int))) ar rws sk := ⟨S4, .new np _⟩
      have hp : (upd H3 p (.lst ((range (a + 2) (a + 2 + hd / 8)).map V.int))) p = some (.lst ((range (a + 2) (a + 2 + hd / 8)).map V.int)) := upd_same
      have hop := S3.off np
      generalize upd H3 p (.lst ((range (a + 2) (a + 2 + hd / 8)).map V.int)) = H4 at S4 g4 hp ⊢
      exact (⟨_, rfl, _, _, _, _, _, rfl, St.bo S4, Cs.bcl _, Cs.room _, rfl, _, _, _, _, _, rfl, St.ro S4, Cs.rcl _, C.young, rfl, ⟨F, ar, rws, sk, p, _, _, _, _, rfl, S4, hp, hop, h4, fun H5 g5 => nx2 _ _ ⟨rfl, (g3.trans g4).trans g5⟩⟩⟩)
end
end Wk
set_option maxRecDepth 100000
set_option maxHeartbeats 4000000
namespace Wk
open PySem L2 TL PyProof.Rows Hm
open SX (S S_len)
theorem leadLeft_fix {b e : Int} {s s' : Bd} (h : leadLeft b e s = some s') : s'.words.length = s.words.length ∧ s'.scan = s.scan := by
  unfold leadLeft leadR at h
  split at h
  · cases h
  · rename_i s1 h1
    cases h
    split at h1
    · have := leadOn_fix h1
      refine ⟨this.1, ?_⟩
      exact leadOn_scan (s' := s1) h1
    · cases h1
where
  moved_scan {s s' : Bd} {a n : Int} (h : moved s a = some (n, s')) : s'.scan = s.scan := by
    unfold moved at h
    split at h
    · cases h
    · split at h
      · cases h; rfl
      · split at h
        · cases h
        · split at h
          · cases h
          · split at h
            · cases h
            · cases h; rfl
  leadOn_scan {lo hi : Int} : ∀ {ps : List Int} {s s' : Bd}, leadOn lo hi ps s = some s' → s'.scan = s.scan
    | [], s, s', h => by cases h; rfl
    | p :: ps, s, s', h => by
      rw [leadOn] at h
      split at h
      · cases h
      · rename_i s1 e
        refine (leadOn_scan h).trans ?_
        unfold leadAt at e
        split at e
        · cases e
        · split at e
          · split at e
            · cases e
            · rename_i n s2 em
              split at e
              · cases e
              · cases e
                exact moved_scan (s' := s2) em
          · cases e; rfl
section
variable {P : Program} {w : World} {K : PySem.W.Frag} {mg : Str → Option Value} {base : Heap}
abbrev s_Bound__steps : Stmt := inClass (top 62) 19
theorem sc_Bound__steps : FnScope ["self", "many", "looked", "at"] ["self", "many"] (defScope s_Bound__steps) := ⟨rfl, rfl, rfl, by decide +kernel, rfl, by decide +kernel, by decide +kernel⟩
def sp_bsteps (C : Cs K) : Sp := fun vs H Q _ => ∃ F ar rws s many n s', vs = [.ref F.bo, .int many] ∧ St C H F ar rws s ∧ steps s many = some (n, s') ∧ ∀ H', Go C F ar rws H H' ar rws s' → Q (.int n) H'
theorem ok_bsteps (T : Txt K mg base) (T5 : Txt5 K w mg) (C : Cs K) {f : Addr} {fd : FuncData} (F : Fun K "steps" "Bound.steps" s_Bound__steps f fd) (Mb_end_of : MD P w K mg base CX0 C.B "end_of" ["self", "at"] 1 (sp_bend C)) (Mb_lead_left : MD P w K mg base CX0 C.B "lead_left" ["self", "begin", "end"] 3 (sp_bleadleft C)) (Mb_end_if_done : MD P w K mg base CX0 C.B "end_if_done" ["self"] 1 (sp_bendif C)) : FnOk P w K mg base CX0 4 f fd ["self", "many"] (sp_bsteps C) := by
  refine F.ok sc_Bound__steps (fun vs H Q E h => ?_) (fun cdv A outer s H vs Q E hr h => ?_)
  · obtain ⟨_, _, _, _, _, _, _, rfl, _⟩ := h; rfl
  obtain ⟨F, ar, rws, s, many, n, s', rfl, S, hm, q⟩ := h
  refine ⟨_, (pss_cons (ps_set (i := 2) sc_Bound__steps.nd rfl (Or.inl rfl) pe_int)
    (pss_cons (ps_while PassesOwn.never (PW.pt (pw_and (pt_cmpR op_gt (pe_fld (pv 0) rfl) pe_int (nomark _)) (pw_and1 (pt_cmpR op_lt (pv 2) (pv 1) (nomark _))))) (pss_cons (ps_set (i := 3) sc_Bound__steps.nd rfl (Or.inl rfl) (pe_fld (pv 0) rfl))
      (pss_cons (ps_fld (pv 0) (pe_meth (pv 0) C.bcl Mb_end_of.m Mb_end_of.ok (hr.mono (by omega)) Mb_end_of.b .nil pass0 (pa_cons (pv 3) pa_nil)) rfl)
      (pss_cons (ps_if (pt_cmpR op_ne (pe_op op_andM (pe_ix ix_list (pe_fld (pv 0) rfl) (pv 3) (fun _ _ => rfl)) (pe_op op_sub (pe_glob (v := .int 8) rfl T.mTAGS ⟨_, rfl⟩) pe_int)) (pe_glob (v := .int 0) rfl T5.mTEXT_SORT ⟨_, rfl⟩) (nomark _)) (pss_one (ps_expr (pe_meth (pv 0) C.bcl Mb_lead_left.m Mb_lead_left.ok (hr.mono (by omega)) Mb_lead_left.b .nil pass0 (pa_cons (pe_op op_add (pv 3) (pe_glob (v := .int 2) rfl T5.mAHEAD ⟨_, rfl⟩)) (pa_cons (pe_fld (pv 0) rfl) pa_nil))))) pss_nil)
      (pss_cons (ps_expr (pe_meth0 (pv 0) C.bcl Mb_end_if_done.m Mb_end_if_done.ok (hr.mono (by omega)) Mb_end_if_done.b .nil pass0))
      (pss_one (ps_aug (i := 2) sc_Bound__steps.nd rfl (Or.inl rfl) pe_int ip_add)))))))
    (pss_cons (ps_augS (pe_fld (pv 0) rfl) (pe_glob (v := .int 2) rfl T5.mLOOKS ⟨_, rfl⟩) pget_list (pv 2) ip_add set_list)
    (pss_one (ps_ret (pv 2)))))), ?_⟩
  unfold steps at hm
  split at hm
  · cases hm
  rename_i l s1 h1
  cases hm
  have hz := line_eq
  generalize hσ : L2.start _ _ = σ0
  have hσ : σ0 = [some (.ref F.bo), some (.int many), none, none] := hσ.symm
  subst hσ
  refine seq_setC ?_
  refine seq_join (fun σ H' => ∃ x3 : Option V, σ = [some (.ref F.bo), some (.int many), some (.int n), x3] ∧ Go C F ar rws H H' ar rws s1) ?_ ?_
  · rintro σ H3 ⟨x3, rfl, g3⟩
    have S3 := g3.st
    refine (⟨_, rfl, _, _, _, _, _, rfl, St.bo S3, Cs.bcl _, C.tally, rfl, ⟨F.tl, _, _, _, rfl, rfl, SqL.of S3.tl, tal_at (i := 2) S3.z5 (by omega), _, rfl, _, _, rfl, rfl, F.tl, _, _, 2, rfl, rfl, S3.tl, ixN_of (j := 2) (by rw [List.length_map, S3.z5]; omega), ?_⟩⟩)
    rw [tal_set]
    exact ⟨_, rfl, q _ (g3.trans ⟨S3.setT (bump_len S3.z5), .own own_tl _⟩)⟩
  · intro NX nx
    refine while_of (fun σ H' => ∃ x3 : Option V, σ = [some (.ref F.bo), some (.int many), some (.int n), x3] ∧ Go C F ar rws H H' ar rws s1) (fun m σ H' => ∃ looked x3 sk, σ = [some (.ref F.bo), some (.int many), some (.int looked), x3] ∧ Go C F ar rws H H' ar rws sk ∧ stepsGo m many looked sk = some (n, s1)) (s.words.length + 1) ⟨_, _, _, rfl, S.go, h1⟩ nx ?_
    rintro NX nx m σ H3 ⟨looked, x3, sk, rfl, g3, hg⟩
    have S3 := g3.st
    cases m with
    | zero => cases hg
    | succ m =>
    rw [stepsGo] at hg
    refine (⟨_, rfl, _, _, _, _, _, rfl, St.bo S3, Cs.bcl _, C.left, rfl, ⟨_, _, rfl, rfl, _, rfl, ?_⟩⟩)
    by_cases hc : sk.left > 0 ∧ looked < many
    rotate_left
    · rw [if_neg hc] at hg
      cases hg
      by_cases hl : s1.left > 0
      · have hk : ¬ n < many := fun z => hc ⟨hl, z⟩
        rw [decide_eq_true hl]
        refine iteT ⟨_, rfl, _, rfl, _, _, rfl, rfl, _, rfl, ?_⟩
        rw [decide_eq_false hk]
        refine iteF ?_
        exact nx _ _ ⟨_, rfl, g3⟩
      · rw [decide_eq_false hl]
        refine iteF (iteF ?_)
        exact nx _ _ ⟨_, rfl, g3⟩
    rw [if_pos hc] at hg
    rw [decide_eq_true hc.1]
    refine iteT ⟨_, rfl, _, rfl, _, _, rfl, rfl, _, rfl, ?_⟩
    rw [decide_eq_true hc.2]
    refine iteT ?_
    cases hh : gI sk.words sk.scan with
    | none => rw [hh] at hg; cases hg
    | some hd =>
    rw [hh] at hg
    dsimp only at hg
    split at hg
    · cases hg
    rename_i s4 h4
    have hend : endOf sk sk.scan = some (sk.scan + 2 + hd / 8) := by unfold endOf; rw [hh]
    refine ⟨fun σ H' => ∃ looked x3 sk, σ = [some (.ref F.bo), some (.int many), some (.int looked), x3] ∧ Go C F ar rws H H' ar rws sk ∧ stepsGo m many looked sk = some (n, s1), fun σ' H' h => ⟨m, Nat.lt_succ_self m, h⟩, ?_⟩
    refine seq_set ((⟨_, rfl, _, _, _, _, _, rfl, St.bo S3, Cs.bcl _, C.scan, rfl, ?_⟩))
    refine ⟨_, rfl, F.bo, F.bd, _, rfl, S3.bo, rfl, _, rfl, F, ar, rws, sk, _, _, rfl, S3, hend, ?_⟩
    have S4 := S3.put (t := { sk with scan := sk.scan + 2 + hd / 8 }) (⟨rfl, rfl, rfl, rfl, rfl, rfl, rfl, rfl⟩) rfl
    have g4 : Go C F ar rws H (upd H3 F.bo (.ins C.B F.bd (bdF F ar { sk with scan := sk.scan + 2 + hd / 8 }))) ar rws { sk with scan := sk.scan + 2 + hd / 8 } := g3.trans ⟨S4, .own own_bo _⟩
    refine (⟨_, rfl, _, _, _, _, rfl, St.bo S3, Cs.bcl _, C.scan, (by show 12 < 1000; omega), ?_⟩)
    dsimp only
    show tSeq _ _ _ _ (upd H3 F.bo (.ins C.B F.bd (bdF F ar { sk with scan := sk.scan + 2 + hd / 8 })))
    generalize upd H3 F.bo (.ins C.B F.bd (bdF F ar { sk with scan := sk.scan + 2 + hd / 8 })) = H4 at S4 g4 ⊢
    refine seq_join (fun σ H' => σ = [some (.ref F.bo), some (.int many), some (.int looked), some (.int sk.scan)] ∧ Go C F ar rws H H' ar rws s4) ?_ ?_
    · rintro σ H5 ⟨rfl, g5⟩
      refine ⟨_, rfl, F.bo, F.bd, _, rfl, g5.st.bo, rfl, F, ar, rws, s4, rfl, g5.st, fun H6 g6 => ?_⟩
      exact ⟨_, rfl, _, _, rfl, rfl, _, _, _, rfl, g5.trans g6, hg⟩
    · intro NX2 nx2
      refine (⟨_, rfl, _, _, _, _, _, rfl, St.bo S4, Cs.bcl _, C.words, rfl, ⟨_, rfl, _, _, _, _, rfl, rfl, SqL.of S4.aw, gI_at hh, _, _, rfl, rfl, hd, 3, rfl, rfl, rfl, _, rfl, ?_⟩⟩)
      rw [head_ne]
      cases hs : (hd % 8 != 0) with
      | false =>
        rw [hs] at h4
        cases h4
        exact iteF (nx2 _ _ ⟨rfl, g4⟩)
      | true =>
      rw [hs, if_pos rfl] at h4
      refine iteT ⟨_, rfl, F.bo, F.bd, _, rfl, S4.bo, rfl, _, rfl, _, _, rfl, rfl, (⟨_, rfl, _, _, _, _, _, rfl, St.bo S4, Cs.bcl _, C.scan, rfl, ⟨F, ar, rws, _, _, _, _, rfl, S4, h4, fun H5 g5 => nx2 _ _ ⟨rfl, g4.trans g5⟩⟩⟩)⟩
abbrev s_Bound__end_turn : Stmt := inClass (top 62) 20
theorem sc_Bound__end_turn : FnScope ["self"] ["self"] (defScope s_Bound__end_turn) := ⟨rfl, rfl, rfl, by decide +kernel, rfl, by decide +kernel, by decide +kernel⟩
def sp_bendturn (C : Cs K) : Sp := fun vs H Q _ => ∃ F ar rws s n s', vs = [.ref F.bo] ∧ St C H F ar rws s ∧ steps s s.words.length = some (n, s') ∧ ∀ H', Go C F ar rws H H' ar rws s' → Q .non H'
theorem ok_bendturn (T : Txt K mg base) (C : Cs K) {f : Addr} {fd : FuncData} (F : Fun K "end_turn" "Bound.end_turn" s_Bound__end_turn f fd) (Mb_steps : MD P w K mg base CX0 C.B "steps" ["self", "many"] 4 (sp_bsteps C)) : FnOk P w K mg base CX0 5 f fd ["self"] (sp_bendturn C) := by
  refine F.ok sc_Bound__end_turn (fun vs H Q E h => ?_) (fun cdv A outer s H vs Q E hr h => ?_)
  · obtain ⟨_, _, _, _, _, _, rfl, _⟩ := h; rfl
  obtain ⟨F, ar, rws, s, n, s', rfl, S, hm, q⟩ := h
  refine ⟨_, (pss_one (ps_expr (pe_meth (pv 0) C.bcl Mb_steps.m Mb_steps.ok (hr.mono (by omega)) Mb_steps.b .nil pass0 (pa_cons (pe_callB call_len_seq rfl T.n_len boot_len (pa_cons (pe_fld (pv 0) rfl) pa_nil)) pa_nil)))), ?_⟩
  refine ⟨_, rfl, F.bo, F.bd, _, rfl, S.bo, rfl, (⟨_, rfl, _, _, _, _, _, rfl, St.bo S, Cs.bcl _, C.words, rfl, ⟨F.aw, _, rfl, .inl (SqL.of S.aw), F, ar, rws, s, _, n, s', (by rw [List.length_map]; rfl), S, hm, fun H' g => q _ g⟩⟩)⟩
theorem leadRows_fix2 {lo hi : Int} : ∀ {f k : Nat} {s s' : Bd}, leadRows lo hi f k s = some s' → s'.old = s.old ∧ s'.young = s.young ∧ s'.use = s.use
  | 0, k, s, s', h => by cases h; exact ⟨rfl, rfl, rfl⟩
  | f + 1, k, s, s', h => by
    rw [leadRows] at h
    split at h
    · cases h; exact ⟨rfl, rfl, rfl⟩
    · split at h
      · split at h
        · cases h
        · rename_i n s1 em
          have a := leadRows_fix2 (s := { s1 with rows := _ }) h
          have b := moved_fix em
          exact ⟨a.1.trans b.2.2.1, a.2.1.trans b.2.1, a.2.2.trans b.2.2.2.2.1⟩
      · exact leadRows_fix2 h
theorem leadRoots_fix2 {lo hi : Int} {s s' : Bd} (h : leadRoots lo hi s = some s') : s'.old = s.old ∧ s'.young = s.young ∧ s'.use = s.use := leadRows_fix2 h
theorem gatherGo_fix : ∀ {f : Nat} {a m n : Int} {s s' : Bd}, gatherGo f a m s = some (n, s') → s'.old = s.old ∧ s'.young = s.young ∧ s'.use = s.use
  | 0, _, _, _, _, _, h => by cases h
  | f + 1, a, m, n, s, s', h => by
    rw [gatherGo] at h
    split at h
    · split at h
      · cases h
      · rename_i hd _
        split at h
        · cases h
        · rename_i s1 h1
          split at h
          · cases h
          · have b := gatherGo_fix h
            split at h1
            · unfold leadR at h1
              split at h1
              · have c := leadOn_fix h1
                exact ⟨b.1.trans c.2.2.1, b.2.1.trans c.2.1, b.2.2.trans c.2.2.2.2.1⟩
              · cases h1
            · cases h1; exact b
    · cases h; exact ⟨rfl, rfl, rfl⟩
theorem gather_fix {n : Int} {s s' : Bd} (h : gather s = some (n, s')) : s'.old = s.old ∧ s'.young = s.young ∧ s'.use = s.use := by
  unfold gather at h
  split at h
  · cases h
  rename_i s1 h1
  split at h
  · cases h
  rename_i s2 h2
  split at h
  · cases h
  rename_i many s3 h3
  cases h
  have a1 := leadRoots_fix2 h1
  have a2 := leadOn_fix h2
  have a3 := gatherGo_fix h3
  exact ⟨a3.1.trans (a2.2.2.1.trans a1.1), a3.2.1.trans (a2.2.1.trans a1.2.1), a3.2.2.trans (a2.2.2.2.2.1.trans a1.2.2)⟩
abbrev s_Bound__turn : Stmt := inClass (top 62) 17
theorem sc_Bound__turn : FnScope ["self", "low", "begin"] ["self"] (defScope s_Bound__turn) := ⟨rfl, rfl, rfl, by decide +kernel, rfl, by decide +kernel, by decide +kernel⟩
def sp_bturn (C : Cs K) : Sp := fun vs H Q _ => ∃ F ar rws s n s', vs = [.ref F.bo] ∧ St C H F ar rws s ∧ turn s = some (n, s') ∧ ∀ H' ar', Go C F ar rws H H' ar' rws s' → Q (.int n) H'
theorem ok_bturn (T : Txt K mg base) (T5 : Txt5 K w mg) (C : Cs K) {f : Addr} {fd : FuncData} (F : Fun K "turn" "Bound.turn" s_Bound__turn f fd) (Mb_begin_of : MD P w K mg base CX0 C.B "begin_of" ["self", "half"] 1 (sp_bbegin C)) (Mb_gather : MD P w K mg base CX0 C.B "gather" ["self"] 3 (sp_bgather C)) (Mb_change_halves : MD P w K mg base CX0 C.B "change_halves" ["self"] 2 (sp_bchange C)) (Mb_lead_roots : MD P w K mg base CX0 C.B "lead_roots" ["self", "low", "high"] 2 (sp_bleadroots C)) (Mb_end_if_done : MD P w K mg base CX0 C.B "end_if_done" ["self"] 1 (sp_bendif C)) : FnOk P w K mg base CX0 4 f fd ["self"] (sp_bturn C) := by
  refine F.ok sc_Bound__turn (fun vs H Q E h => ?_) (fun cdv A outer s H vs Q E hr h => ?_)
  · obtain ⟨_, _, _, _, _, _, rfl, _⟩ := h; rfl
  obtain ⟨F, ar, rws, s, n, s', rfl, S, hm, q⟩ := h
  refine ⟨_, (pss_cons (ps_if (pt_cmpR op_gt (pe_fld (pv 0) rfl) pe_int (nomark _)) (pss_one (ps_ret pe_int)) pss_nil)
    (pss_cons (ps_expr (pe_meth0 (pv 0) C.bcl Mb_gather.m Mb_gather.ok (hr.mono (by omega)) Mb_gather.b .nil pass0))
    (pss_cons (ps_augS (pe_fld (pv 0) rfl) (pe_glob (v := .int 1) rfl T5.mTURNS ⟨_, rfl⟩) pget_list pe_int ip_add set_list)
    (pss_cons (ps_fld (pv 0) (pe_op op_sub (pe_fld (pv 0) rfl) (pe_meth (pv 0) C.bcl Mb_begin_of.m Mb_begin_of.ok (hr.mono (by omega)) Mb_begin_of.b .nil pass0 (pa_cons (pe_fld (pv 0) rfl) pa_nil))) rfl)
    (pss_cons (ps_set (i := 1) sc_Bound__turn.nd rfl (Or.inl rfl) (pe_meth (pv 0) C.bcl Mb_begin_of.m Mb_begin_of.ok (hr.mono (by omega)) Mb_begin_of.b .nil pass0 (pa_cons (pe_fld (pv 0) rfl) pa_nil)))
    (pss_cons (ps_set (i := 2) sc_Bound__turn.nd rfl (Or.inl rfl) (pe_meth0 (pv 0) C.bcl Mb_change_halves.m Mb_change_halves.ok (hr.mono (by omega)) Mb_change_halves.b .nil pass0))
    (pss_cons (ps_expr (pe_meth (pv 0) C.bcl Mb_lead_roots.m Mb_lead_roots.ok (hr.mono (by omega)) Mb_lead_roots.b .nil pass0 (pa_cons (pv 1) (pa_cons (pe_op op_add (pv 1) (pe_fld (pe_fld (pv 0) rfl) rfl)) pa_nil))))
    (pss_cons (ps_fld (pv 0) (pe_op op_sub (pe_fld (pv 0) rfl) (pv 2)) rfl)
    (pss_cons (ps_expr (pe_meth0 (pv 0) C.bcl Mb_end_if_done.m Mb_end_if_done.ok (hr.mono (by omega)) Mb_end_if_done.b .nil pass0))
    (pss_one (ps_ret pe_int))))))))))), ?_⟩
  unfold turn at hm
  refine (⟨_, rfl, _, _, _, _, _, rfl, St.bo S, Cs.bcl _, C.left, rfl, ⟨_, _, rfl, rfl, _, rfl, ?_⟩⟩)
  by_cases hl : s.left > 0
  · rw [if_pos hl] at hm
    cases hm
    rw [decide_eq_true hl]
    exact iteT (q _ _ S.go)
  rw [if_neg hl] at hm
  rw [decide_eq_false hl]
  refine iteF (go_next ?_)
  split at hm
  · cases hm
  rename_i n1 s1 h1
  split at hm
  · cases hm
  rename_i s2 h2
  cases hm
  refine ⟨_, rfl, F.bo, F.bd, _, rfl, S.bo, rfl, F, ar, rws, s, n1, s1, rfl, S, h1, fun H1 ar1 g1 => ?_⟩
  have S1 := g1.st
  refine (⟨_, rfl, _, _, _, _, _, rfl, St.bo S1, Cs.bcl _, C.tally, rfl, ⟨F.tl, _, _, _, rfl, rfl, SqL.of S1.tl, tal_at (i := 1) S1.z5 (by omega), _, _, rfl, rfl, F.tl, _, _, 1, rfl, rfl, S1.tl, ixN_of (j := 1) (by rw [List.length_map, S1.z5]; omega), ?_⟩⟩)
  rw [tal_set]
  have S2 := S1.setT (l := Hm.bump s1.tally 1 1) (bump_len S1.z5)
  have g2 : Go C F ar rws H (upd H1 F.tl (.lst ((Hm.bump s1.tally 1 1).map V.int))) ar1 rws { s1 with tally := Hm.bump s1.tally 1 1 } := g1.trans ⟨S2, .own own_tl _⟩
  dsimp only
  show tSeq _ _ _ _ (upd H1 F.tl (.lst ((Hm.bump s1.tally 1 1).map V.int)))
  generalize upd H1 F.tl (.lst ((Hm.bump s1.tally 1 1).map V.int)) = H2 at S2 g2 ⊢
  refine (⟨_, rfl, _, _, _, _, _, rfl, St.bo S2, Cs.bcl _, C.free, rfl, ⟨_, rfl, F.bo, F.bd, _, rfl, S2.bo, rfl, (⟨_, rfl, _, _, _, _, _, rfl, St.bo S2, Cs.bcl _, C.use, rfl, ⟨F, ar1, rws, _, _, rfl, S2, ?_⟩⟩)⟩⟩)
  refine ⟨_, _, rfl, rfl, (⟨_, rfl, _, _, _, _, rfl, St.bo S2, Cs.bcl _, C.left, (by show 12 < 1000; omega), ?_⟩)⟩
  have S3 := S2.put (t := { s1 with tally := Hm.bump s1.tally 1 1, left := s1.free - beginOf s1 s1.use }) (⟨rfl, rfl, rfl, rfl, rfl, rfl, rfl, rfl⟩) rfl
  have g3 : Go C F ar rws H (upd H2 F.bo (.ins C.B F.bd (bdF F ar1 { s1 with tally := Hm.bump s1.tally 1 1, left := s1.free - beginOf s1 s1.use }))) ar1 rws { s1 with tally := Hm.bump s1.tally 1 1, left := s1.free - beginOf s1 s1.use } := g2.trans ⟨S3, .own own_bo _⟩
  dsimp only
  show tSeq _ _ _ _ (upd H2 F.bo (.ins C.B F.bd (bdF F ar1 { s1 with tally := Hm.bump s1.tally 1 1, left := s1.free - beginOf s1 s1.use })))
  generalize upd H2 F.bo (.ins C.B F.bd (bdF F ar1 { s1 with tally := Hm.bump s1.tally 1 1, left := s1.free - beginOf s1 s1.use })) = H3 at S3 g3 ⊢
  refine seq_set ⟨_, rfl, F.bo, F.bd, _, rfl, S3.bo, rfl, (⟨_, rfl, _, _, _, _, _, rfl, St.bo S3, Cs.bcl _, C.use, rfl, ⟨F, ar1, rws, _, _, rfl, S3, ?_⟩⟩)⟩
  refine seq_set ⟨_, rfl, F.bo, F.bd, _, rfl, S3.bo, rfl, F, ar1, rws, _, rfl, S3, fun H4 g4 => ?_⟩
  have S4 := g4.st
  refine ⟨_, rfl, F.bo, F.bd, _, rfl, S4.bo, rfl, _, rfl, _, rfl, (⟨_, rfl, _, _, _, _, _, rfl, St.bo S4, Cs.bcl _, Cs.room _, rfl, _, _, _, _, _, rfl, St.ro S4, Cs.rcl _, C.old, rfl, ⟨_, _, rfl, rfl, F, ar1, rws, _, _, _, s2, rfl, S4, h2, fun H5 g5 => ?_⟩⟩)⟩
  have S5 := g5.st
  dsimp only
  refine (⟨_, rfl, _, _, _, _, _, rfl, St.bo S5, Cs.bcl _, C.free, rfl, ⟨_, rfl, _, _, rfl, rfl, (⟨_, rfl, _, _, _, _, rfl, St.bo S5, Cs.bcl _, C.copied, (by show 12 < 1000; omega), ?_⟩)⟩⟩)
  have S6 := S5.put (t := { s2 with copied := s2.free - beginOf s1 (1 - s1.use) }) (⟨rfl, rfl, rfl, rfl, rfl, rfl, rfl, rfl⟩) rfl
  have g6 : Go C F ar rws H (upd H5 F.bo (.ins C.B F.bd (bdF F ar1 { s2 with copied := s2.free - beginOf s1 (1 - s1.use) }))) ar1 rws { s2 with copied := s2.free - beginOf s1 (1 - s1.use) } := ((g3.trans g4).trans g5).trans ⟨S6, .own own_bo _⟩
  dsimp only
  show tSeq _ _ _ _ (upd H5 F.bo (.ins C.B F.bd (bdF F ar1 { s2 with copied := s2.free - beginOf s1 (1 - s1.use) })))
  generalize upd H5 F.bo (.ins C.B F.bd (bdF F ar1 { s2 with copied := s2.free - beginOf s1 (1 - s1.use) })) = H6 at S6 g6 ⊢
  refine ⟨_, rfl, F.bo, F.bd, _, rfl, S6.bo, rfl, F, ar1, rws, _, rfl, S6, fun H7 g7 => ?_⟩
  exact q _ _ (g6.trans g7)
end
end Wk
set_option maxRecDepth 100000
set_option maxHeartbeats 4000000
namespace Wk
open PySem L2 TL PyProof.Rows Hm
open SX (S S_len)
theorem neI {a b : Int} : (!decide (V.int a = V.int b)) = (a != b) := by
  by_cases e : a = b
  · rw [e]; simp
  · rw [decide_eq_false (fun z => e (V.int.inj z))]
    exact (bne_iff_ne.mpr e).symm
theorem tie_read {i j : Nat} {h : Int} {t : Bool} {σ : L2.St} {H : Hp} {Q : Bool → Hp → Prop} (e1 : σ[i]? = some (some (.int h))) (e2 : σ[j]? = some (some (.bl t))) (q : Q (h != 0 && (t || h != 5)) H) :
    tAnd (tTest (tOp rNe (tVar i) (tC (V.int 0)))) (tOr (tB (tVar j)) (tTest (tOp rNe (tVar i) (tC (V.int 5))))) σ H Q := by
  refine ⟨_, e1, rfl, _, rfl, ?_⟩
  rw [neI]
  cases h0 : (h != 0) with
  | false =>
    rw [h0, Bool.false_and] at q
    exact iteF q
  | true =>
  rw [h0, Bool.true_and] at q
  refine iteT ⟨_, e2, _, rfl, ?_⟩
  cases t with
  | true => exact iteT q
  | false =>
    rw [Bool.false_or] at q
    refine iteF ⟨_, e1, rfl, _, rfl, ?_⟩
    rw [neI]
    exact q
section
variable {P : Program} {w : World} {K : PySem.W.Frag} {mg : Str → Option Value} {base : Heap}
abbrev s_Bound__copy_all : Stmt := inClass (top 62) 22
theorem sc_Bound__copy_all : FnScope ["self", "is_tie_followed", "at", "begin", "sort"] ["self", "is_tie_followed"] (defScope s_Bound__copy_all) := ⟨rfl, rfl, rfl, by decide +kernel, rfl, by decide +kernel, by decide +kernel⟩
def sp_bcopyall (C : Cs K) : Sp := fun vs H Q _ => ∃ F ar rws s tie n s', vs = [.ref F.bo, .bl tie] ∧ St C H F ar rws s ∧ copyAll s tie = some (n, s') ∧ ∀ H' ar', Go C F ar rws H H' ar' rws s' → Q (.int n) H'
theorem ok_bcopyall (T : Txt K mg base) (T5 : Txt5 K w mg) (C : Cs K) {f : Addr} {fd : FuncData} (F : Fun K "copy_all" "Bound.copy_all" s_Bound__copy_all f fd) (Mb_end_of : MD P w K mg base CX0 C.B "end_of" ["self", "at"] 1 (sp_bend C)) (Mb_lead_on : MD P w K mg base CX0 C.B "lead_on" ["self", "places", "low", "high"] 2 (sp_bleadon C)) (Mb_lead_roots : MD P w K mg base CX0 C.B "lead_roots" ["self", "low", "high"] 2 (sp_bleadroots C)) (Mb_empty_nursery : MD P w K mg base CX0 C.B "empty_nursery" ["self"] 1 (sp_bempty C)) (Mb_change_halves : MD P w K mg base CX0 C.B "change_halves" ["self"] 2 (sp_bchange C)) : FnOk P w K mg base CX0 3 f fd ["self", "is_tie_followed"] (sp_bcopyall C) := by
  refine F.ok sc_Bound__copy_all (fun vs H Q E h => ?_) (fun cdv A outer s H vs Q E hr h => ?_)
  · obtain ⟨_, _, _, _, _, _, _, rfl, _⟩ := h; rfl
  obtain ⟨F, ar, rws, s, tie, n, s', rfl, S, hm, q⟩ := h
  refine ⟨_, (pss_cons (ps_set (i := 2) sc_Bound__copy_all.nd rfl (Or.inl rfl) (pe_meth0 (pv 0) C.bcl Mb_change_halves.m Mb_change_halves.ok (hr.mono (by omega)) Mb_change_halves.b .nil pass0))
    (pss_cons (ps_set (i := 3) sc_Bound__copy_all.nd rfl (Or.inl rfl) (pv 2))
    (pss_cons (ps_expr (pe_meth (pv 0) C.bcl Mb_lead_roots.m Mb_lead_roots.ok (hr.mono (by omega)) Mb_lead_roots.b .nil pass0 (pa_cons pe_int (pa_cons (pe_callB call_len_seq rfl T.n_len boot_len (pa_cons (pe_fld (pv 0) rfl) pa_nil)) pa_nil))))
    (pss_cons (ps_while PassesOwn.never (pt_cmpR op_lt (pv 2) (pe_fld (pv 0) rfl) (nomark _)) (pss_cons (ps_set (i := 4) sc_Bound__copy_all.nd rfl (Or.inl rfl) (pe_op op_andM (pe_ix ix_list (pe_fld (pv 0) rfl) (pv 2) (fun _ _ => rfl)) (pe_op op_sub (pe_glob (v := .int 8) rfl T.mTAGS ⟨_, rfl⟩) pe_int)))
      (pss_cons (ps_if (PW.pt (pw_and (pt_cmpR op_ne (pv 4) (pe_glob (v := .int 0) rfl T5.mTEXT_SORT ⟨_, rfl⟩) (nomark _)) (pw_and1 (PW.pt (pw_or (pt_val (pv 1)) (pw_or1 (pt_cmpR op_ne (pv 4) (pe_glob (v := .int 5) rfl T5.mTIE_SORT ⟨_, rfl⟩) (nomark _)))))))) (pss_one (ps_expr (pe_meth (pv 0) C.bcl Mb_lead_on.m Mb_lead_on.ok (hr.mono (by omega)) Mb_lead_on.b .nil pass0 (pa_cons (pe_listRg rfl rfl T.n_list (prg_2 rfl T.n_range (pe_op op_add (pv 2) (pe_glob (v := .int 2) rfl T5.mAHEAD ⟨_, rfl⟩)) (pe_meth (pv 0) C.bcl Mb_end_of.m Mb_end_of.ok (hr.mono (by omega)) Mb_end_of.b .nil pass0 (pa_cons (pv 2) pa_nil)))) (pa_cons pe_int (pa_cons (pe_callB call_len_seq rfl T.n_len boot_len (pa_cons (pe_fld (pv 0) rfl) pa_nil)) pa_nil)))))) pss_nil)
      (pss_one (ps_set (i := 2) sc_Bound__copy_all.nd rfl (Or.inl rfl) (pe_meth (pv 0) C.bcl Mb_end_of.m Mb_end_of.ok (hr.mono (by omega)) Mb_end_of.b .nil pass0 (pa_cons (pv 2) pa_nil)))))))
    (pss_cons (ps_expr (pe_meth0 (pv 0) C.bcl Mb_empty_nursery.m Mb_empty_nursery.ok (hr.mono (by omega)) Mb_empty_nursery.b .nil pass0))
    (pss_one (ps_ret (pv 3)))))))), ?_⟩
  unfold copyAll at hm
  split at hm
  · cases hm
  rename_i s2 h2
  split at hm
  · cases hm
  rename_i s3 h3
  cases hm
  have hz := line_eq
  generalize hσ : L2.start _ _ = σ0
  have hσ : σ0 = [some (.ref F.bo), some (.bl tie), none, none, none] := hσ.symm
  subst hσ
  refine seq_set ⟨_, rfl, F.bo, F.bd, _, rfl, S.bo, rfl, F, ar, rws, s, rfl, S, fun H1 g1 => ?_⟩
  have S1 := g1.st
  refine seq_set ⟨_, rfl, ?_⟩
  refine ⟨_, rfl, F.bo, F.bd, _, rfl, S1.bo, rfl, (⟨_, rfl, _, _, _, _, _, rfl, St.bo S1, Cs.bcl _, C.words, rfl, ⟨F.aw, _, rfl, .inl (SqL.of S1.aw), F, ar, rws, _, _, _, s2, (by rw [List.length_map]; rfl), S1, h2, fun H2 g2 => ?_⟩⟩)⟩
  have g := g1.trans g2
  dsimp only
  refine seq_join (fun σ H' => ∃ (x2 : V) (x4 : Option V), σ = [some (.ref F.bo), some (.bl tie), some x2, some (.int (beginOf s (1 - s.use))), x4] ∧ Go C F ar rws H H' ar rws s3) ?_ ?_
  · rintro σ H3 ⟨x2, x4, rfl, g3⟩
    refine ⟨_, rfl, F.bo, F.bd, _, rfl, g3.st.bo, rfl, F, ar, rws, s3, rfl, g3.st, fun H4 ar' g4 => ?_⟩
    exact ⟨_, rfl, q _ _ (g3.trans g4)⟩
  · intro NX nx
    refine while_of (fun σ H' => ∃ (x2 : V) (x4 : Option V), σ = [some (.ref F.bo), some (.bl tie), some x2, some (.int (beginOf s (1 - s.use))), x4] ∧ Go C F ar rws H H' ar rws s3) (fun m σ H' => ∃ a x4 sk, σ = [some (.ref F.bo), some (.bl tie), some (.int a), some (.int (beginOf s (1 - s.use))), x4] ∧ Go C F ar rws H H' ar rws sk ∧ copyGo m tie a sk = some s3) (s.words.length + 1) ⟨_, _, _, rfl, g, h3⟩ nx ?_
    rintro NX nx m σ H3 ⟨a, x4, sk, rfl, g3, hg⟩
    have S3 := g3.st
    cases m with
    | zero => cases hg
    | succ m =>
    rw [copyGo] at hg
    refine ⟨_, rfl, (⟨_, rfl, _, _, _, _, _, rfl, St.bo S3, Cs.bcl _, C.free, rfl, ⟨_, _, rfl, rfl, _, rfl, ?_⟩⟩)⟩
    by_cases ha : a < sk.free
    rotate_left
    · rw [if_neg ha] at hg
      cases hg
      rw [decide_eq_false ha]
      exact iteF (nx _ _ ⟨_, _, rfl, g3⟩)
    rw [if_pos ha] at hg
    rw [decide_eq_true ha]
    refine iteT ?_
    cases hh : gI sk.words a with
    | none => rw [hh] at hg; cases hg
    | some hd =>
    rw [hh] at hg
    dsimp only at hg
    split at hg
    · cases hg
    rename_i s4 h4
    cases he : endOf s4 a with
    | none => rw [he] at hg; cases hg
    | some e =>
    rw [he] at hg
    dsimp only at hg
    refine ⟨fun σ H' => ∃ a x4 sk, σ = [some (.ref F.bo), some (.bl tie), some (.int a), some (.int (beginOf s (1 - s.use))), x4] ∧ Go C F ar rws H H' ar rws sk ∧ copyGo m tie a sk = some s3, fun σ' H' h => ⟨m, Nat.lt_succ_self m, h⟩, ?_⟩
    refine seq_set ((⟨_, rfl, _, _, _, _, _, rfl, St.bo S3, Cs.bcl _, C.words, rfl, ⟨_, rfl, _, _, _, _, rfl, rfl, SqL.of S3.aw, gI_at hh, _, _, rfl, rfl, hd, 3, rfl, rfl, ?_⟩⟩))
    refine seq_join (fun σ H' => ∃ x4 : Option V, σ = [some (.ref F.bo), some (.bl tie), some (.int a), some (.int (beginOf s (1 - s.use))), x4] ∧ Go C F ar rws H H' ar rws s4) ?_ ?_
    · rintro σ H4 ⟨x4, rfl, g4⟩
      refine ⟨_, rfl, F.bo, F.bd, _, rfl, g4.st.bo, rfl, _, rfl, F, ar, rws, s4, a, e, rfl, g4.st, he, ?_⟩
      exact ⟨_, _, _, rfl, g4, hg⟩
    · intro NX2 nx2
      rw [show (2 : Int) ^ 3 = 8 from by decide]
      refine tie_read rfl rfl ?_
      cases hs : (hd % 8 != 0 && (tie || hd % 8 != 5)) with
      | false =>
        rw [hs] at h4
        cases h4
        exact iteF (nx2 _ _ ⟨_, rfl, g3⟩)
      | true =>
      rw [hs, if_pos rfl] at h4
      unfold leadR at h4
      split at h4
      rotate_left
      · cases h4
      rename_i hb
      have hend : endOf sk a = some (a + 2 + hd / 8) := by unfold endOf; rw [hh]
      refine iteT ⟨_, rfl, F.bo, F.bd, _, rfl, S3.bo, rfl, ?_⟩
      refine ⟨_, rfl, _, _, rfl, rfl, _, rfl, F.bo, F.bd, _, rfl, S3.bo, rfl, _, rfl, F, ar, rws, sk, a, _, rfl, S3, hend, _, _, rfl, rfl, RgOk.of_le (by omega) (by omega) (by omega) (by omega), fun p np => ?_⟩
      rw [rgV_upTo]
      have S4 := S3.same (same_new np (.lst ((range (a + 2) (a + 2 + hd / 8)).map V.int)))
      have g4 : Go C F ar rws H3 (upd H3 p (.lst ((range (a + 2) (a + 2 + hd / 8)).map V.int))) ar rws sk := ⟨S4, .new np _⟩
      have hp : (upd H3 p (.lst ((range (a + 2) (a + 2 + hd / 8)).map V.int))) p = some (.lst ((range (a + 2) (a + 2 + hd / 8)).map V.int)) := upd_same
      have hop := S3.off np
      generalize upd H3 p (.lst ((range (a + 2) (a + 2 + hd / 8)).map V.int)) = H4 at S4 g4 hp ⊢
      exact (⟨_, rfl, _, _, _, _, _, rfl, St.bo S4, Cs.bcl _, C.words, rfl, ⟨F.aw, _, rfl, .inl (SqL.of S4.aw), F, ar, rws, sk, p, _, _, _, _, (by rw [List.length_map]; rfl), S4, hp, hop, h4, fun H5 g5 => nx2 _ _ ⟨_, rfl, (g3.trans g4).trans g5⟩⟩⟩)
abbrev s_Bound__whole : Stmt := inClass (top 62) 21
theorem sc_Bound__whole : FnScope ["self", "begin"] ["self"] (defScope s_Bound__whole) := ⟨rfl, rfl, rfl, by decide +kernel, rfl, by decide +kernel, by decide +kernel⟩
def sp_bwhole (C : Cs K) : Sp := fun vs H Q _ => ∃ F ar rws s n s', vs = [.ref F.bo] ∧ St C H F ar rws s ∧ whole s = some (n, s') ∧ ∀ H' ar', Go C F ar rws H H' ar' rws s' → Q (.int n) H'
theorem ok_bwhole (T : Txt K mg base) (T5 : Txt5 K w mg) (C : Cs K) {f : Addr} {fd : FuncData} (F : Fun K "whole" "Bound.whole" s_Bound__whole f fd) (Mb_end_turn : MD P w K mg base CX0 C.B "end_turn" ["self"] 5 (sp_bendturn C)) (Mb_copy_all : MD P w K mg base CX0 C.B "copy_all" ["self", "is_tie_followed"] 3 (sp_bcopyall C)) : FnOk P w K mg base CX0 6 f fd ["self"] (sp_bwhole C) := by
  refine F.ok sc_Bound__whole (fun vs H Q E h => ?_) (fun cdv A outer s H vs Q E hr h => ?_)
  · obtain ⟨_, _, _, _, _, _, rfl, _⟩ := h; rfl
  obtain ⟨F, ar, rws, s, n, s', rfl, S, hm, q⟩ := h
  refine ⟨_, (pss_cons (ps_expr (pe_meth0 (pv 0) C.bcl Mb_end_turn.m Mb_end_turn.ok (hr.mono (by omega)) Mb_end_turn.b .nil pass0))
    (pss_cons (ps_augS (pe_fld (pv 0) rfl) (pe_glob (v := .int 3) rfl T5.mWHOLES ⟨_, rfl⟩) pget_list pe_int ip_add set_list)
    (pss_cons (ps_set (i := 1) sc_Bound__whole.nd rfl (Or.inl rfl) (pe_meth (pv 0) C.bcl Mb_copy_all.m Mb_copy_all.ok (hr.mono (by omega)) Mb_copy_all.b .nil pass0 (pa_cons pe_bl pa_nil)))
    (pss_one (ps_ret (pe_op op_sub (pe_fld (pv 0) rfl) (pv 1))))))), ?_⟩
  unfold whole at hm
  split at hm
  · cases hm
  rename_i n1 s1 h1
  split at hm
  · cases hm
  rename_i b s2 h2
  injection hm with hm
  injection hm with hm1 hm2
  subst hm1
  subst hm2
  refine ⟨_, rfl, F.bo, F.bd, _, rfl, S.bo, rfl, F, ar, rws, s, _, s1, rfl, S, h1, fun H1 g1 => ?_⟩
  have S1 := g1.st
  refine (⟨_, rfl, _, _, _, _, _, rfl, St.bo S1, Cs.bcl _, C.tally, rfl, ⟨F.tl, _, _, _, rfl, rfl, SqL.of S1.tl, tal_at (i := 3) S1.z5 (by omega), _, _, rfl, rfl, F.tl, _, _, 3, rfl, rfl, S1.tl, ixN_of (j := 3) (by rw [List.length_map, S1.z5]; omega), ?_⟩⟩)
  rw [tal_set]
  have S2 := S1.setT (l := Hm.bump s1.tally 3 1) (bump_len S1.z5)
  have g2 : Go C F ar rws H (upd H1 F.tl (.lst ((Hm.bump s1.tally 3 1).map V.int))) ar rws { s1 with tally := Hm.bump s1.tally 3 1 } := g1.trans ⟨S2, .own own_tl _⟩
  dsimp only
  show tSeq _ _ _ _ (upd H1 F.tl (.lst ((Hm.bump s1.tally 3 1).map V.int)))
  generalize upd H1 F.tl (.lst ((Hm.bump s1.tally 3 1).map V.int)) = H2 at S2 g2 ⊢
  refine seq_set ⟨_, rfl, F.bo, F.bd, _, rfl, S2.bo, rfl, F, ar, rws, _, _, _, s2, rfl, S2, h2, fun H3 ar3 g3 => ?_⟩
  exact (⟨_, rfl, _, _, _, _, _, rfl, St.bo g3.st, Cs.bcl _, C.free, rfl, ⟨_, rfl, _, _, rfl, rfl, q _ _ (g2.trans g3)⟩⟩)
abbrev s_Bound__reserve : Stmt := inClass (top 62) 3
theorem sc_Bound__reserve : FnScope ["self", "many"] ["self", "many"] (defScope s_Bound__reserve) := ⟨rfl, rfl, rfl, by decide +kernel, rfl, by decide +kernel, by decide +kernel⟩
end
end Wk
set_option maxRecDepth 100000
set_option maxHeartbeats 8000000
namespace Wk
open PySem L2 TL PyProof.Rows
open SX (S S_len)
def codes (s : String) : List Nat := s.toList.map Char.toNat
theorem S_of (s : String) : Str.ofString s = S (codes s) := ext_tl (tl_ofString s)
/-! ### a dict of the top whose keys are texts -/
def absE (e : DictEntry) : Option (Str × V) := match e.key with
  | .str x _ => (absV e.val).map fun v => (x, v)
  | _ => none
theorem abs_rel {u : Value} {v : V} (h : absV u = some v) : RelV v u := by
  cases u <;> first
    | (cases h; first | rfl | exact ⟨_, rfl⟩)
    | cases h
structure WD (K : PySem.W.Frag) (w : World) (a : Addr) (kvs : List (String × V)) : Prop where
  d : ∃ es n, KDict K w a es n ∧ es.toList.map absE = kvs.map fun q => some (Str.ofString q.1, q.2)
def valD (kvs : List (String × V)) (l : List Nat) : Option V := (kvs.find? fun q => decide (codes q.1 = l)).map Prod.snd
theorem find_abs (l : List Nat) : ∀ {es : List DictEntry} {kvs : List (String × V)}, es.map absE = (kvs.map fun q => some (Str.ofString q.1, q.2)) → es.any (·.refKey) = false ∧
    (match es.find? (·.key.isStr (S l)) with
      | some e => ∃ v, valD kvs l = some v ∧ RelV v e.val
      | none => valD kvs l = none)
  | [], [], _ => ⟨rfl, rfl⟩
  | [], _ :: _, h => by cases h
  | _ :: _, [], h => by cases h
  | e :: es, q :: kvs, h => by
    rw [List.map_cons, List.map_cons] at h
    obtain ⟨h1, h2⟩ := List.cons.inj h
    have ih := find_abs l h2
    obtain ⟨v, hk, hv⟩ := e
    unfold absE at h1
    cases hk with
    | str x t =>
      dsimp only at h1
      cases ea : absV hv with
      | none => rw [ea] at h1; cases h1
      | some u =>
        rw [ea] at h1
        have h1 := Option.some.inj h1
        have e1 : x = Str.ofString q.1 := congrArg Prod.fst h1
        have e2 : u = q.2 := congrArg Prod.snd h1
        refine ⟨?_, ?_⟩
        · rw [List.any_cons, ih.1]; rfl
        · rw [List.find?_cons]
          by_cases he : codes q.1 = l
          · have : (Value.str x t).isStr (S l) = true := by
              show (x == S l) = true
              rw [e1, S_of, he]; exact beq_self_eq_true _
            rw [show ({ hash := v, key := Value.str x t, val := hv } : DictEntry).key.isStr (S l) = true from this]
            refine ⟨q.2, ?_, ?_⟩
            · unfold valD
              rw [List.find?_cons, decide_eq_true he]; rfl
            · rw [← e2]; exact abs_rel ea
          · have : (Value.str x t).isStr (S l) = false := by
              show (x == S l) = false
              rw [e1, S_of]
              exact beq_eq_false_iff_ne.mpr fun z => he (S_inj z)
            rw [show ({ hash := v, key := Value.str x t, val := hv } : DictEntry).key.isStr (S l) = false from this]
            have e3 : valD (q :: kvs) l = valD kvs l := by
              unfold valD
              rw [List.find?_cons, decide_eq_false he]
            rw [e3]
            exact ih.2
    | _ => cases h1
theorem WD.ns {K : PySem.W.Frag} {w : World} {a : Addr} {kvs : List (String × V)} (D : WD K w a kvs) (l : List Nat) : ∃ es n, KDict K w a es n ∧ ∃ r, PySem.W.nsIn K a (S l) = some r ∧ (match r with
    | some u => ∃ v, valD kvs l = some v ∧ RelV v u
    | none => valD kvs l = none) := by
  obtain ⟨es, n, kd, e⟩ := D.d
  have h := find_abs l e
  refine ⟨es, n, kd, ?_⟩
  unfold PySem.W.nsIn
  rw [kd.at_]
  dsimp only
  cases ef : es.toList.find? (·.key.isStr (S l)) with
  | some d =>
    rw [ef] at h
    exact ⟨some d.val, rfl, h.2⟩
  | none =>
    rw [ef] at h
    dsimp only
    rw [if_neg (by rw [h.1]; exact Bool.false_ne_true)]
    exact ⟨none, rfl, h.2⟩
section
variable {X : Cx} {d : Addr} {kvs : List (String × V)}
theorem op_in_wd (D : WD X.K X.w d kvs) : OpR X (compareOp .In) (fun x y H Q => ∃ l, x = .str (S l) ∧ y = .ref d ∧ Q (.bl (valD kvs l).isSome) H) := by
  intro pins s σ H x y v u Q I rx ry h
  obtain ⟨l, rfl, rfl, q⟩ := h
  obtain ⟨es, n, kd, r, hr, hv⟩ := D.ns l
  refine op_in_kd kd pins s σ H _ _ v u Q I rx ry ⟨S l, r, rfl, rfl, hr, ?_⟩
  cases r with
  | none => rw [hv] at q; exact q
  | some u => obtain ⟨v, e, _⟩ := hv; rw [e] at q; exact q
theorem op_notIn_wd (D : WD X.K X.w d kvs) : OpR X (compareOp .NotIn) (fun x y H Q => ∃ l, x = .str (S l) ∧ y = .ref d ∧ Q (.bl (!(valD kvs l).isSome)) H) := by
  intro pins s σ H x y v u Q I rx ry h
  obtain ⟨l, rfl, rfl, q⟩ := h
  obtain ⟨es, n, kd, r, hr, hv⟩ := D.ns l
  refine op_notIn_kd kd pins s σ H _ _ v u Q I rx ry ⟨S l, r, rfl, rfl, hr, ?_⟩
  cases r with
  | none => rw [hv] at q; exact q
  | some u => obtain ⟨v, e, _⟩ := hv; rw [e] at q; exact q
theorem ix_wd (D : WD X.K X.w d kvs) : IxR X (fun x y H Q => ∃ l v, x = .ref d ∧ y = .str (S l) ∧ valD kvs l = some v ∧ Q v H) := by
  intro value slice pins s σ H x y v u Q I rx ry h hs
  obtain ⟨l, v0, rfl, rfl, hv0, q⟩ := h
  obtain ⟨es, n, kd, r, hr, hv⟩ := D.ns l
  cases r with
  | none => rw [hv] at hv0; cases hv0
  | some u0 =>
    obtain ⟨v1, e, ru⟩ := hv
    rw [hv0] at e
    cases e
    exact ix_kdict value slice pins s σ H _ _ v u Q I rx ry ⟨d, S l, v0, rfl, rfl, ⟨es, n, u0, kd.at_, kd.lit, hr, ru⟩, q⟩ hs
end
/-- the numbers of sorts -/
def numsL : List (String × V) := [("text", .int 0), ("list", .int 1), ("object", .int 2), ("function", .int 3), ("cell", .int 4), ("tie", .int 5)]
structure TxtN (K : PySem.W.Frag) (w : World) {mg : Str → Option Value} (T5 : Txt5 K w mg) : Prop where
  dNUM : WD K w T5.aNUMBERS numsL
/-- a sort's name and its number -/
def SortIs (x : String) (k : Nat) : Prop := sortL[k]? = some x
theorem SortIs.num {x : String} {k : Nat} (h : SortIs x k) : valD numsL (codes x) = some (.int k) := by
  unfold SortIs sortL at h
  rcases k with _ | _ | _ | _ | _ | _ | k
  · cases h; decide +kernel
  · cases h; decide +kernel
  · cases h; decide +kernel
  · cases h; decide +kernel
  · cases h; decide +kernel
  · cases h; decide +kernel
  · simp at h
theorem SortIs.lt {x : String} {k : Nat} (h : SortIs x k) : k < 6 := by
  unfold SortIs at h
  exact (List.getElem?_eq_some_iff.mp h).1
end Wk
set_option maxRecDepth 100000
set_option maxHeartbeats 4000000
namespace Wk
open PySem L2 TL PyProof.Rows Hm
open SX (S S_len)
theorem remember_fix {s s' : Bd} {p v : Int} (h : remember s p v = some s') : s'.left = s.left ∧ s'.free = s.free ∧ s'.rows = s.rows ∧ s'.words = s.words := by
  unfold remember at h
  split at h
  · split at h
    · cases h; exact ⟨rfl, rfl, rfl, rfl⟩
    · split at h
      · cases h; exact ⟨rfl, rfl, rfl, rfl⟩
      · cases h
  · cases h; exact ⟨rfl, rfl, rfl, rfl⟩
/-- for k, x in enumerate(xs), xs as it was all the time -/
theorem for_enum {K : PySem.W.Frag} {a : Addr} {xs : List V} {g : TG} {tb : TS} {D : Ends} {σ : L2.St} {H : Hp} (Pv : Nat → L2.St → Hp → Prop) (h0 : Pv 0 σ H) (hl : ∀ i σ H, i ≤ xs.length → Pv i σ H → SqL K H a xs)
    (hs : ∀ i x σ H T, xs[i]? = some x → Pv i σ H → H T = none → g (.ref T) σ (upd H T (.tup [.int (i : Nat), x])) fun σ2 H2 => tb { D with nx := Pv (i + 1), ct := Pv (i + 1), bk := D.nx } σ2 H2) (hd : ∀ σ H, Pv xs.length σ H → D.nx σ H) :
    ∃ W : Nat → Nat → L2.St → Hp → Prop, (∃ m, W 0 m σ H) ∧ ∀ i m σ H, W i m σ H →
      ((Ite K a).stop i H ∧ D.nx σ H) ∨ ((Ite K a).go i H ∧ ∃ N : L2.St → Hp → Prop, (∀ σ' H', N σ' H' → ∃ m', m' < m ∧ W (i + 1) m' σ' H') ∧ ∀ x H', (Ite K a).yld i H x H' → g x σ H' fun σ2 H2 => tb { D with nx := N, ct := N, bk := D.nx } σ2 H2) := by
  refine ⟨fun i m σ H => m = xs.length - i ∧ i ≤ xs.length ∧ Pv i σ H, ⟨xs.length, by simp, Nat.zero_le _, h0⟩, ?_⟩
  rintro i m σ H ⟨rfl, hi, p⟩
  have q := hl i σ H hi p
  by_cases hlt : i < xs.length
  · refine .inr ⟨⟨xs, xs[i], q, by simp [hlt]⟩, Pv (i + 1), fun σ' H' p' => ⟨xs.length - (i + 1), by omega, rfl, hlt, p'⟩, fun x H' y => ?_⟩
    obtain ⟨T, v, rfl, hT, rfl, hx⟩ := y
    exact hs i v σ H T (hx xs q) p hT
  · have e : i = xs.length := by omega
    subst e
    exact .inl ⟨⟨xs, q, Nat.le_refl _⟩, hd σ H p⟩
section
variable {P : Program} {w : World} {K : PySem.W.Frag} {mg : Str → Option Value} {base : Heap}
abbrev s_Bound__place : Stmt := inClass (top 62) 4
theorem sc_Bound__place : FnScope ["self", "sort", "found", "many", "at", "place", "word"] ["self", "sort", "found"] (defScope s_Bound__place) := ⟨rfl, rfl, rfl, by decide +kernel, rfl, by decide +kernel, by decide +kernel⟩
def sp_bplace (C : Cs K) : Sp := fun vs H Q _ => ∃ F ar rws s x k pl found n s', vs = [.ref F.bo, .str (S (codes x)), .ref pl] ∧ SortIs x k ∧ St C H F ar rws s ∧ H pl = some (.lst (found.map V.int)) ∧ ¬ Own F ar rws pl ∧ found.length ≤ 60000 ∧ place s k found = some (n, s') ∧ ∀ H', Go C F ar rws H H' ar rws s' → Q (.int n) H'
theorem ok_bplace (T : Txt K mg base) (T5 : Txt5 K w mg) (TN : TxtN K w T5) (C : Cs K) {f : Addr} {fd : FuncData} (F : Fun K "place" "Bound.place" s_Bound__place f fd) (Mb_remember : MD P w K mg base CX0 C.B "remember" ["self", "place", "word"] 2 (sp_bremember C)) (Mb_steps : MD P w K mg base CX0 C.B "steps" ["self", "many"] 4 (sp_bsteps C)) : FnOk P w K mg base CX0 5 f fd ["self", "sort", "found"] (sp_bplace C) := by
  refine F.ok sc_Bound__place (fun vs H Q E h => ?_) (fun cdv A outer s H vs Q E hr h => ?_)
  · obtain ⟨_, _, _, _, _, _, _, _, _, _, rfl, _⟩ := h; rfl
  obtain ⟨F, ar, rws, s, x, k, pl, found, n, s', rfl, hx, S, hpl, npl, hl, hm, q⟩ := h
  refine ⟨_, (pss_cons (ps_set (i := 3) sc_Bound__place.nd rfl (Or.inl rfl) (pe_op op_add (pe_callB call_len_seq rfl T.n_len boot_len (pa_cons (pv 2) pa_nil)) (pe_glob (v := .int 2) rfl T5.mAHEAD ⟨_, rfl⟩)))
    (pss_cons (ps_fldaug (pv 0) pe_int in_add)
    (pss_cons (ps_set (i := 4) sc_Bound__place.nd rfl (Or.inl rfl) (pe_ifExp (pt_cmpR op_le (pv 3) (pe_fld (pe_fld (pv 0) rfl) rfl) (nomark _)) (pe_fld (pv 0) rfl) (pe_fld (pv 0) rfl)))
    (pss_cons (ps_asg (pe_lst (pa_cons (pe_op op_add (pe_op op_mul (pe_callB call_len_seq rfl T.n_len boot_len (pa_cons (pv 2) pa_nil)) (pe_glob (v := .int 8) rfl T.mTAGS ⟨_, rfl⟩)) (pe_ix (ix_wd TN.dNUM) (pe_glob (v := .ref T5.aNUMBERS) rfl T5.mNUMBERS rfl) (pv 1) (fun _ _ => rfl))) (pa_cons (pe_fld (pv 0) rfl) (StX.pa_star (pv 2) pa_nil)))) (pg_slice (pe_fld (pv 0) rfl) (po_some (pv 4)) (po_some (pe_op op_add (pv 4) (pv 3)))))
    (pss_cons (ps_if (pt_cmpR op_le (pv 3) (pe_fld (pe_fld (pv 0) rfl) rfl) (nomark _)) (pss_one (ps_fldaug (pv 0) (pv 3) in_add)) (pss_cons (ps_fldaug (pv 0) (pv 3) in_add)
      (pss_cons (ps_for PassesOwn.never rfl (pi_enum rfl T.n_enumerate (pa_cons (pv 2) pa_nil)) (pg_tup rfl (pgs_cons (pg_name (i := 5) sc_Bound__place.nd rfl (Or.inl rfl)) (pgs_cons (pg_name (i := 6) sc_Bound__place.nd rfl (Or.inl rfl)) pgs_nil))) (pss_one (ps_expr (pe_meth (pv 0) C.bcl Mb_remember.m Mb_remember.ok (hr.mono (by omega)) Mb_remember.b .nil pass0 (pa_cons (pe_op op_add (pe_op op_add (pv 4) (pe_glob (v := .int 2) rfl T5.mAHEAD ⟨_, rfl⟩)) (pv 5)) (pa_cons (pv 6) pa_nil))))))
      (pss_one (ps_if (pt_cmpR op_eq (pe_fld (pv 0) rfl) pe_int (nomark _)) (pss_one (ps_fld (pv 0) (pe_fld (pv 0) rfl) rfl)) pss_nil)))))
    (pss_cons (ps_if (pt_cmpR op_gt (pe_fld (pv 0) rfl) pe_int (nomark _)) (pss_one (ps_expr (pe_meth (pv 0) C.bcl Mb_steps.m Mb_steps.ok (hr.mono (by omega)) Mb_steps.b .nil pass0 (pa_cons (pe_fld (pe_fld (pv 0) rfl) rfl) pa_nil)))) pss_nil)
    (pss_one (ps_ret (pe_op op_add (pe_op op_mul (pv 4) (pe_glob (v := .int 8) rfl T.mTAGS ⟨_, rfl⟩)) (pe_glob (v := .int 0) rfl T5.mTHING_TAG ⟨_, rfl⟩)))))))))), ?_⟩
  have hz := line_eq
  generalize hσ : L2.start _ _ = σ0
  have hσ : σ0 = [some (.ref F.bo), some (.str (SX.S (codes x))), some (.ref pl), none, none, none, none] := hσ.symm
  subst hσ
  unfold place at hm
  split at hm
  · cases hm
  rename_i ws hw
  split at hm
  · cases hm
  rename_i s2 h2
  split at hm
  · cases hm
  rename_i s3 h3
  injection hm with hm
  injection hm with hm1 hm2
  subst hm1
  subst hm2
  refine seq_set ⟨_, rfl, pl, _, rfl, .inl (SqL.of hpl), _, _, rfl, rfl, ?_⟩
  rw [List.length_map]
  -- self.last += 1
  refine (⟨_, rfl, _, _, _, _, _, rfl, St.bo S, Cs.bcl _, C.last, rfl, ⟨_, _, rfl, rfl, _, _, S.bo, (by show 12 < 1000; omega), ?_⟩⟩)
  have S1 := S.put (t := { s with last := s.last + 1 }) (⟨rfl, rfl, rfl, rfl, rfl, rfl, rfl, rfl⟩) rfl
  have g1 : Go C F ar rws H (upd H F.bo (.ins C.B F.bd (bdF F ar { s with last := s.last + 1 }))) ar rws { s with last := s.last + 1 } := ⟨S1, .own own_bo _⟩
  have hpl1 := (g1.ch pl _ npl hpl).2
  dsimp only
  show tSeq _ _ _ _ (upd H F.bo (.ins C.B F.bd (bdF F ar { s with last := s.last + 1 })))
  generalize upd H F.bo (.ins C.B F.bd (bdF F ar { s with last := s.last + 1 })) = H1 at S1 g1 hpl1 ⊢
  -- at
  refine seq_set ?_
  have eat : ∀ (σ : L2.St) (R : VK), σ[0]? = some (some (.ref F.bo)) → R (.int (placeAt s found)) H1 → (if decide ((found.length : Int) + 2 ≤ s.young) = true then tFld K (tVar 0) "top" σ H1 R else tFld K (tVar 0) "free" σ H1 R) := fun σ R h0 h => by
    unfold placeAt at h
    by_cases hy : (found.length : Int) + 2 ≤ s.young
    · rw [if_pos hy] at h
      rw [decide_eq_true hy]
      exact iteT ⟨_, h0, _, _, _, _, _, rfl, S1.bo, C.bcl, C.top, rfl, h⟩
    · rw [if_neg hy] at h
      rw [decide_eq_false hy]
      exact iteF ⟨_, h0, _, _, _, _, _, rfl, S1.bo, C.bcl, C.free, rfl, h⟩
  refine ⟨_, rfl, (⟨_, rfl, _, _, _, _, _, rfl, St.bo S1, Cs.bcl _, Cs.room _, rfl, _, _, _, _, _, rfl, St.ro S1, Cs.rcl _, C.young, rfl, ⟨_, _, rfl, rfl, _, rfl, eat _ _ rfl ?_⟩⟩)⟩
  -- the words are laid
  refine ⟨_, rfl, pl, _, rfl, .inl (SqL.of hpl1), _, _, rfl, rfl, .inr ⟨by decide, by decide⟩, _, rfl, codes x, _, rfl, rfl, hx.num, _, _, rfl, rfl, (⟨_, rfl, _, _, _, _, _, rfl, St.bo S1, Cs.bcl _, C.last, rfl, ⟨_, rfl, pl, _, rfl, .inr (SqL.of hpl1), (by rw [List.length_cons, List.length_cons, List.append_nil, List.length_map]; omega), fun p np => ?_⟩⟩)⟩
  rw [List.length_map, List.append_nil]
  obtain ⟨d1, d2, d3, d4⟩ := setS_put hw
  have l1 := setS_len hw
  have S2 := S1.same (same_new np (.lst (V.int ((found.length : Int) * 8 + (k : Int)) :: V.int (s.last + 1) :: found.map V.int)))
  have g2 : Go C F ar rws H (upd H1 p (.lst (V.int ((found.length : Int) * 8 + (k : Int)) :: V.int (s.last + 1) :: found.map V.int))) ar rws { s with last := s.last + 1 } := g1.trans ⟨S2, .new np _⟩
  have hp : (upd H1 p (.lst (V.int ((found.length : Int) * 8 + (k : Int)) :: V.int (s.last + 1) :: found.map V.int))) p = some (.lst ((((found.length : Int) * 8 + (k : Int)) :: (s.last + 1) :: found).map V.int)) := upd_same
  have npw : F.aw ≠ p := fun z => by rw [← z, S1.aw] at np; cases np
  show gSlice _ _ _ _ _ (upd H1 p (.lst (V.int ((found.length : Int) * 8 + (k : Int)) :: V.int (s.last + 1) :: found.map V.int))) _
  generalize upd H1 p (.lst (V.int ((found.length : Int) * 8 + (k : Int)) :: V.int (s.last + 1) :: found.map V.int)) = H2 at S2 g2 hp ⊢
  refine (⟨_, rfl, _, _, _, _, _, rfl, St.bo S2, Cs.bcl _, C.words, rfl, ⟨_, rfl, _, rfl, _, rfl, _, rfl, _, _, rfl, rfl, _, rfl, F.aw, p, _, _, _, _, rfl, rfl, rfl, rfl, S2.aw, hp, npw, d1, d2, (by rw [List.length_map]; exact d3), (by rw [List.length_map, List.length_map]; have := S.z1; show s.words.length + (found.length + 1 + 1) ≤ _; omega), ?_⟩⟩)
  rw [← d4]
  have S3 := S2.setW (ws := ws) l1
  have g3 : Go C F ar rws H (upd H2 F.aw (.lst (ws.map V.int))) ar rws { s with last := s.last + 1, words := ws } := g2.trans ⟨S3, .own own_aw _⟩
  dsimp only
  generalize upd H2 F.aw (.lst (ws.map V.int)) = H3 at S3 g3 ⊢
  unfold Hm.placed at h2
  refine seq_join (fun σ H' => ∃ x5 x6 : Option V, σ = [some (.ref F.bo), some (.str (SX.S (codes x))), some (.ref pl), some (.int ((found.length : Int) + 2)), some (.int (placeAt s found)), x5, x6] ∧ Go C F ar rws H H' ar rws s2) ?_ ?_
  · rintro σ H4 ⟨x5, x6, rfl, g4⟩
    have S4 := g4.st
    refine seq_join (fun σ H' => σ = [some (.ref F.bo), some (.str (SX.S (codes x))), some (.ref pl), some (.int ((found.length : Int) + 2)), some (.int (placeAt s found)), x5, x6] ∧ Go C F ar rws H H' ar rws s3) ?_ ?_
    · rintro σ H5 ⟨rfl, g5⟩
      exact ⟨_, rfl, _, _, rfl, rfl, .inr ⟨by decide, by decide⟩, _, _, rfl, rfl, q _ g5⟩
    · intro NX nx
      refine (⟨_, rfl, _, _, _, _, _, rfl, St.bo S4, Cs.bcl _, C.left, rfl, ⟨_, _, rfl, rfl, _, rfl, ?_⟩⟩)
      by_cases hl4 : s2.left > 0
      · rw [if_pos hl4] at h3
        cases he : steps s2 s2.pace with
        | none => rw [he] at h3; cases h3
        | some z =>
        obtain ⟨n1, sz⟩ := z
        rw [he] at h3
        cases h3
        rw [decide_eq_true hl4]
        exact iteT ⟨_, rfl, F.bo, F.bd, _, rfl, S4.bo, rfl, (⟨_, rfl, _, _, _, _, _, rfl, St.bo S4, Cs.bcl _, Cs.room _, rfl, _, _, _, _, _, rfl, St.ro S4, Cs.rcl _, C.pace, rfl, ⟨F, ar, rws, s2, _, _, _, rfl, S4, he, fun H5 g5 => nx _ _ ⟨rfl, g4.trans g5⟩⟩⟩)⟩
      · rw [if_neg hl4] at h3
        cases h3
        rw [decide_eq_false hl4]
        exact iteF (nx _ _ ⟨rfl, g4⟩)
  · intro NX nx
    refine ⟨_, rfl, (⟨_, rfl, _, _, _, _, _, rfl, St.bo S3, Cs.bcl _, Cs.room _, rfl, _, _, _, _, _, rfl, St.ro S3, Cs.rcl _, C.young, rfl, ⟨_, _, rfl, rfl, _, rfl, ?_⟩⟩)⟩
    by_cases hy : (found.length : Int) + 2 ≤ s.young
    · rw [if_pos hy] at h2
      cases h2
      rw [decide_eq_true hy]
      refine iteT ((⟨_, rfl, _, _, _, _, _, rfl, St.bo S3, Cs.bcl _, C.top, rfl, ⟨_, rfl, _, _, rfl, rfl, _, _, S3.bo, (by show 12 < 1000; omega), nx _ _ ⟨_, _, rfl, g3.trans ⟨S3.put (t := { s with last := s.last + 1, words := ws, top := s.top + ((found.length : Int) + 2) }) (⟨rfl, rfl, rfl, rfl, rfl, rfl, rfl, rfl⟩) rfl, .own own_bo _⟩⟩⟩⟩))
    · rw [if_neg hy] at h2
      rw [decide_eq_false hy]
      split at h2
      · cases h2
      rename_i sa ha
      cases h2
      refine iteF ((⟨_, rfl, _, _, _, _, _, rfl, St.bo S3, Cs.bcl _, C.free, rfl, ⟨_, rfl, _, _, rfl, rfl, _, _, S3.bo, (by show 12 < 1000; omega), ?_⟩⟩))
      have S4 := S3.put (t := { s with last := s.last + 1, words := ws, free := s.free + ((found.length : Int) + 2) }) (⟨rfl, rfl, rfl, rfl, rfl, rfl, rfl, rfl⟩) rfl
      have g4 : Go C F ar rws H (upd H3 F.bo (.ins C.B F.bd (bdF F ar { s with last := s.last + 1, words := ws, free := s.free + ((found.length : Int) + 2) }))) ar rws { s with last := s.last + 1, words := ws, free := s.free + ((found.length : Int) + 2) } := g3.trans ⟨S4, .own own_bo _⟩
      dsimp only
      show tSeq _ _ _ _ (upd H3 F.bo (.ins C.B F.bd (bdF F ar { s with last := s.last + 1, words := ws, free := s.free + ((found.length : Int) + 2) })))
      generalize upd H3 F.bo (.ins C.B F.bd (bdF F ar { s with last := s.last + 1, words := ws, free := s.free + ((found.length : Int) + 2) })) = H4 at S4 g4 ⊢
      have epl : placeAt s found = s.free := by unfold placeAt; rw [if_neg hy]
      rw [epl]
      refine seq_join (fun σ H' => ∃ x5 x6 : Option V, σ = [some (.ref F.bo), some (.str (SX.S (codes x))), some (.ref pl), some (.int ((found.length : Int) + 2)), some (.int s.free), x5, x6] ∧ Go C F ar rws H H' ar rws sa) ?_ ?_
      · rintro σ H5 ⟨x5, x6, rfl, g5⟩
        have S5 := g5.st
        refine (⟨_, rfl, _, _, _, _, _, rfl, St.bo S5, Cs.bcl _, C.left, rfl, ⟨rfl, _, rfl, ?_⟩⟩)
        by_cases hl5 : sa.left = 0
        · rw [if_pos hl5] at nx h3
          rw [decide_eq_true (by rw [hl5])]
          exact iteT ((⟨_, rfl, _, _, _, _, _, rfl, St.bo S5, Cs.bcl _, C.free, rfl, ((⟨_, rfl, _, _, _, _, rfl, St.bo S5, Cs.bcl _, C.scan, (by show 12 < 1000; omega), (nx _ _ ⟨_, _, by rw [epl], g5.trans ⟨S5.put (t := { sa with scan := sa.free }) (⟨rfl, rfl, rfl, rfl, rfl, rfl, rfl, rfl⟩) rfl, .own own_bo _⟩⟩)⟩))⟩))
        · rw [if_neg hl5] at nx h3
          rw [decide_eq_false (fun z => hl5 (V.int.inj z))]
          exact iteF (nx _ _ ⟨_, _, by rw [epl], g5⟩)
      · intro NX2 nx2
        have hpl4 : ∀ {H' : Hp} {sk : Bd}, Go C F ar rws H H' ar rws sk → H' pl = some (.lst (found.map V.int)) := fun g => (g.ch pl _ npl hpl).2
        have ha : rememberAll s.free 0 found { s with last := s.last + 1, words := ws, free := s.free + ((found.length : Int) + 2) } = some sa := ha
        refine ⟨_, rfl, pl, _, rfl, SqL.of (hpl4 g4), ?_⟩
        refine for_enum (D := { nx := NX2, rt := Q }) (xs := found.map V.int) (fun i σ H' => ∃ x5 x6 sk, σ = [some (.ref F.bo), some (.str (SX.S (codes x))), some (.ref pl), some (.int ((found.length : Int) + 2)), some (.int s.free), x5, x6] ∧ Go C F ar rws H H' ar rws sk ∧ rememberAll s.free i (found.drop i) sk = some sa) ⟨none, none, _, rfl, g4, by rw [List.drop_zero]; exact ha⟩ (fun i σ H' _ ⟨_, _, sk, _, g, _⟩ => SqL.of (hpl4 g)) ?_ ?_
        · rintro i v σ H5 T hv ⟨x5, x6, sk, rfl, g5, hk⟩ hT
          obtain ⟨wd, ew, rfl, ed⟩ := ints_at hv
          rw [ed, rememberAll] at hk
          split at hk
          · cases hk
          rename_i sk1 h1
          have g6 : Go C F ar rws H (upd H5 T (.tup [.int (i : Nat), .int wd])) ar rws sk := g5.trans ⟨g5.st.same (same_new hT _), .new hT _⟩
          have hTT : (upd H5 T (.tup [.int (i : Nat), .int wd])) T = some (.tup [.int (i : Nat), .int wd]) := upd_same
          generalize upd H5 T (.tup [.int (i : Nat), .int wd]) = H6 at g6 hTT ⊢
          refine ⟨T, _, rfl, SqT.of hTT, rfl, _, _, rfl, _, _, rfl, rfl, ?_⟩
          refine ⟨_, rfl, F.bo, F.bd, _, rfl, g6.st.bo, rfl, _, rfl, _, _, rfl, rfl, _, rfl, _, _, rfl, rfl, _, rfl, F, ar, rws, sk, _, wd, sk1, rfl, g6.st, h1, fun H7 g7 => ?_⟩
          exact ⟨_, _, _, rfl, g6.trans g7, hk⟩
        · rintro σ H5 ⟨x5, x6, sk, rfl, g5, hk⟩
          rw [List.length_map, List.drop_length, rememberAll] at hk
          cases hk
          exact nx2 _ _ ⟨_, _, rfl, g5⟩
end
end Wk
set_option maxRecDepth 100000
set_option maxHeartbeats 4000000
namespace Wk
open PySem L2 TL PyProof.Rows Hm
open SX (S S_len)
section
variable {P : Program} {w : World} {K : PySem.W.Frag} {mg : Str → Option Value} {base : Heap}
abbrev s_Laid__settled : Stmt := inClass (top 40) 1
theorem sc_Laid__settled : FnScope ["self", "at", "head"] ["self", "at"] (defScope s_Laid__settled) := ⟨rfl, rfl, rfl, by decide +kernel, rfl, by decide +kernel, by decide +kernel⟩
def sp_bsettled (C : Cs K) : Sp := fun vs H Q _ => ∃ F ar rws s a n, vs = [.ref F.bo, .int a] ∧ St C H F ar rws s ∧ settled s a = some n ∧ Q (.int n) H
theorem ok_bsettled (C : Cs K) {f : Addr} {fd : FuncData} (F : Fun K "settled" "Laid.settled" s_Laid__settled f fd) : FnOk P w K mg base CX0 1 f fd ["self", "at"] (sp_bsettled C) := by
  refine F.ok sc_Laid__settled (fun vs H Q E h => ?_) (fun cdv A outer s H vs Q E hr h => ?_)
  · obtain ⟨_, _, _, _, _, _, rfl, _⟩ := h; rfl
  obtain ⟨F, ar, rws, s, a, n, rfl, S, hm, q⟩ := h
  refine ⟨_, (pss_cons (ps_set (i := 2) sc_Laid__settled.nd rfl (Or.inl rfl) (pe_ix ix_list (pe_fld (pv 0) rfl) (pv 1) (fun _ _ => rfl)))
    (pss_one (ps_ret (pe_ifExp (pt_cmpR op_ge (pv 2) pe_int (nomark _)) (pv 1) (pe_op op_sub (pe_un un_neg pe_int) (pv 2)))))), ?_⟩
  unfold settled at hm
  cases hh : gI s.words a with
  | none => rw [hh] at hm; cases hm
  | some hd =>
  rw [hh] at hm
  cases hm
  refine seq_set ((⟨_, rfl, _, _, _, _, _, rfl, St.bo S, Cs.bcl _, C.words, rfl, ⟨_, rfl, _, _, _, _, rfl, rfl, SqL.of S.aw, gI_at hh, ?_⟩⟩))
  refine ⟨_, rfl, _, _, rfl, rfl, _, rfl, ?_⟩
  by_cases h0 : 0 ≤ hd
  · rw [if_pos h0] at q
    rw [decide_eq_true h0]
    exact iteT ⟨_, rfl, q⟩
  · rw [if_neg h0] at q
    rw [decide_eq_false h0]
    exact iteF ⟨_, rfl, _, rfl, _, _, rfl, rfl, q⟩
abbrev s_Laid__sort_at : Stmt := inClass (top 40) 2
theorem sc_Laid__sort_at : FnScope ["self", "at"] ["self", "at"] (defScope s_Laid__sort_at) := ⟨rfl, rfl, rfl, by decide +kernel, rfl, by decide +kernel, by decide +kernel⟩
def sp_bsortat (C : Cs K) : Sp := fun vs H Q _ => ∃ F ar rws s a h k x, vs = [.ref F.bo, .int a] ∧ St C H F ar rws s ∧ gI s.words a = some h ∧ h % 8 = ((k : Nat) : Int) ∧ SortIs x k ∧ Q (.str (S (codes x))) H
theorem ok_bsortat (T : Txt K mg base) (T5 : Txt5 K w mg) (C : Cs K) {f : Addr} {fd : FuncData} (F : Fun K "sort_at" "Laid.sort_at" s_Laid__sort_at f fd) : FnOk P w K mg base CX0 1 f fd ["self", "at"] (sp_bsortat C) := by
  refine F.ok sc_Laid__sort_at (fun vs H Q E h => ?_) (fun cdv A outer s H vs Q E hr h => ?_)
  · obtain ⟨_, _, _, _, _, _, _, _, rfl, _⟩ := h; rfl
  obtain ⟨F, ar, rws, s, a, hd, k, x, rfl, S, hh, hk, hx, q⟩ := h
  refine ⟨_, (pss_one (ps_ret (pe_ix ix_tup (pe_glob (v := .ref T5.aSORTS) rfl T5.mSORTS rfl) (pe_op op_andM (pe_ix ix_list (pe_fld (pv 0) rfl) (pv 1) (fun _ _ => rfl)) (pe_op op_sub (pe_glob (v := .int 8) rfl T.mTAGS ⟨_, rfl⟩) pe_int)) (fun _ _ => rfl)))), ?_⟩
  refine (⟨_, rfl, _, _, _, _, _, rfl, St.bo S, Cs.bcl _, C.words, rfl, ⟨_, rfl, _, _, _, _, rfl, rfl, SqL.of S.aw, gI_at hh, _, _, rfl, rfl, hd, 3, rfl, rfl, ?_⟩⟩)
  rw [show (2 : Int) ^ 3 = 8 from by decide, hk]
  refine ⟨_, _, _, .str (SX.S (codes x)), rfl, rfl, T5.kSORTS _, atI_nat (j := k) ?_, q⟩
  rw [List.getElem?_map, show sortL[k]? = some x from hx, ← S_of]; rfl
abbrev s_Laid__size_at : Stmt := inClass (top 40) 3
theorem sc_Laid__size_at : FnScope ["self", "at"] ["self", "at"] (defScope s_Laid__size_at) := ⟨rfl, rfl, rfl, by decide +kernel, rfl, by decide +kernel, by decide +kernel⟩
def sp_bsizeat (C : Cs K) : Sp := fun vs H Q _ => ∃ F ar rws s a h, vs = [.ref F.bo, .int a] ∧ St C H F ar rws s ∧ gI s.words a = some h ∧ Q (.int (h / 8)) H
theorem ok_bsizeat (T : Txt K mg base) (C : Cs K) {f : Addr} {fd : FuncData} (F : Fun K "size_at" "Laid.size_at" s_Laid__size_at f fd) : FnOk P w K mg base CX0 1 f fd ["self", "at"] (sp_bsizeat C) := by
  refine F.ok sc_Laid__size_at (fun vs H Q E h => ?_) (fun cdv A outer s H vs Q E hr h => ?_)
  · obtain ⟨_, _, _, _, _, _, rfl, _⟩ := h; rfl
  obtain ⟨F, ar, rws, s, a, hd, rfl, S, hh, q⟩ := h
  refine ⟨_, (pss_one (ps_ret (pe_op op_fdivW (pe_ix ix_list (pe_fld (pv 0) rfl) (pv 1) (fun _ _ => rfl)) (pe_glob (v := .int 8) rfl T.mTAGS ⟨_, rfl⟩)))), ?_⟩
  exact (⟨_, rfl, _, _, _, _, _, rfl, St.bo S, Cs.bcl _, C.words, rfl, ⟨_, rfl, _, _, _, _, rfl, rfl, SqL.of S.aw, gI_at hh, _, _, rfl, rfl, ⟨by decide, by decide⟩, q⟩⟩)
abbrev s_Laid__number_at : Stmt := inClass (top 40) 4
theorem sc_Laid__number_at : FnScope ["self", "at"] ["self", "at"] (defScope s_Laid__number_at) := ⟨rfl, rfl, rfl, by decide +kernel, rfl, by decide +kernel, by decide +kernel⟩
def sp_bnumat (C : Cs K) : Sp := fun vs H Q _ => ∃ F ar rws s a n, vs = [.ref F.bo, .int a] ∧ St C H F ar rws s ∧ gI s.words (a + 1) = some n ∧ Q (.int n) H
theorem ok_bnumat (C : Cs K) {f : Addr} {fd : FuncData} (F : Fun K "number_at" "Laid.number_at" s_Laid__number_at f fd) : FnOk P w K mg base CX0 1 f fd ["self", "at"] (sp_bnumat C) := by
  refine F.ok sc_Laid__number_at (fun vs H Q E h => ?_) (fun cdv A outer s H vs Q E hr h => ?_)
  · obtain ⟨_, _, _, _, _, _, rfl, _⟩ := h; rfl
  obtain ⟨F, ar, rws, s, a, hd, rfl, S, hh, q⟩ := h
  refine ⟨_, (pss_one (ps_ret (pe_ix ix_list (pe_fld (pv 0) rfl) (pe_op op_add (pv 1) pe_int) (fun _ _ => rfl)))), ?_⟩
  exact (⟨_, rfl, _, _, _, _, _, rfl, St.bo S, Cs.bcl _, C.words, rfl, ⟨_, rfl, _, _, rfl, rfl, _, _, _, _, rfl, rfl, SqL.of S.aw, gI_at hh, q⟩⟩)
abbrev s_Laid__words_at : Stmt := inClass (top 40) 5
theorem sc_Laid__words_at : FnScope ["self", "at"] ["self", "at"] (defScope s_Laid__words_at) := ⟨rfl, rfl, rfl, by decide +kernel, rfl, by decide +kernel, by decide +kernel⟩
def sp_bwordsat (C : Cs K) : Sp := fun vs H Q _ => ∃ F ar rws s a h part, vs = [.ref F.bo, .int a] ∧ St C H F ar rws s ∧ gI s.words a = some h ∧ gS s.words (a + 2) (a + 2 + h / 8) = some part ∧ ∀ p, H p = none → Q (.ref p) (upd H p (.lst (part.map V.int)))
theorem ok_bwordsat (T : Txt K mg base) (T5 : Txt5 K w mg) (C : Cs K) {f : Addr} {fd : FuncData} (F : Fun K "words_at" "Laid.words_at" s_Laid__words_at f fd) : FnOk P w K mg base CX0 1 f fd ["self", "at"] (sp_bwordsat C) := by
  refine F.ok sc_Laid__words_at (fun vs H Q E h => ?_) (fun cdv A outer s H vs Q E hr h => ?_)
  · obtain ⟨_, _, _, _, _, _, _, rfl, _⟩ := h; rfl
  obtain ⟨F, ar, rws, s, a, hd, part, rfl, S, hh, hp, q⟩ := h
  refine ⟨_, (pss_one (ps_ret (pe_slice sl_list (pe_fld (pv 0) rfl) (po_some (pe_op op_add (pv 1) (pe_glob (v := .int 2) rfl T5.mAHEAD ⟨_, rfl⟩))) (po_some (pe_op op_add (pe_op op_add (pv 1) (pe_glob (v := .int 2) rfl T5.mAHEAD ⟨_, rfl⟩)) (pe_op op_fdivW (pe_ix ix_list (pe_fld (pv 0) rfl) (pv 1) (fun _ _ => rfl)) (pe_glob (v := .int 8) rfl T.mTAGS ⟨_, rfl⟩))))))), ?_⟩
  obtain ⟨c1, c2, c3, c4, c5⟩ := gS_cut hp
  refine (⟨_, rfl, _, _, _, _, _, rfl, St.bo S, Cs.bcl _, C.words, rfl, ⟨_, rfl, _, _, rfl, rfl, _, rfl, _, rfl, _, _, rfl, rfl, (⟨_, rfl, _, _, _, _, _, rfl, St.bo S, Cs.bcl _, C.words, rfl, ⟨_, rfl, _, _, _, _, rfl, rfl, SqL.of S.aw, gI_at hh, _, _, rfl, rfl, ⟨by decide, by decide⟩, _, _, rfl, rfl, _, rfl, F.aw, _, rfl, SqL.of S.aw, fun p np => ?_⟩⟩)⟩⟩)
  rw [c1]
  exact q p np
end
end Wk
set_option maxRecDepth 100000
set_option maxHeartbeats 4000000
namespace Wk
open PySem L2 TL PyProof.Rows Hm
open SX (S S_len)
theorem addrs_len {s : Bd} : ∀ {ws as : List Int}, Hm.addrs s ws = some as → as.length ≤ ws.length
  | [], as, h => by cases h; exact Nat.le_refl _
  | w :: r, as, h => by
    rw [Hm.addrs] at h
    split at h
    · split at h
      · rename_i a b e1 e2
        cases h
        exact Nat.succ_le_succ (addrs_len e2)
      · cases h
    · exact Nat.le_succ_of_le (addrs_len h)
section
variable {P : Program} {w : World} {K : PySem.W.Frag} {mg : Str → Option Value} {base : Heap}
abbrev s_addresses_in : Stmt := top 42
theorem sc_addresses_in : FnScope ["store", "found", "word"] ["store", "found"] (defScope s_addresses_in) := ⟨rfl, rfl, rfl, by decide +kernel, rfl, by decide +kernel, by decide +kernel⟩
def sp_addrs (C : Cs K) : Sp := fun vs H Q _ => ∃ F ar rws s pl ws as, vs = [.ref F.bo, .ref pl] ∧ St C H F ar rws s ∧ H pl = some (.lst (ws.map V.int)) ∧ ws.length ≤ 4000000 ∧ Hm.addrs s ws = some as ∧ ∀ H' p, Same H H' → H p = none → H' p = some (.lst (as.map V.int)) → Q (.ref p) H'
theorem ok_addrs (T : Txt K mg base) (C : Cs K) {f : Addr} {fd : FuncData} (F : Fun K "addresses_in" "addresses_in" s_addresses_in f fd) (D_is_things : Def P w K mg base CX0 "is_things" ["word"] 1 sp_isthings) (Mb_settled : MD P w K mg base CX0 C.B "settled" ["self", "at"] 1 (sp_bsettled C)) : FnOk P w K mg base CX0 2 f fd ["store", "found"] (sp_addrs C) := by
  refine F.ok sc_addresses_in (fun vs H Q E h => ?_) (fun cdv A outer s H vs Q E hr h => ?_)
  · obtain ⟨_, _, _, _, _, _, _, rfl, _⟩ := h; rfl
  obtain ⟨F, ar, rws, s, pl, ws, as, rfl, S, hpl, hl, hm, q⟩ := h
  refine ⟨_, (pss_one (ps_ret (pe_lc (own := [("word", 2)]) (g := gName 2) rfl sc_addresses_in.nd (pi_list (pv 1)) (blkOk_by (N := ["store", "found", "word"]) (sc := defScope s_addresses_in) (by decide +kernel)) (fun _ _ _ _ _ => pg_name (i := 2) sc_addresses_in.nd rfl (Or.inl rfl)) (fun _ _ _ _ _ => pts_one (pt_val (pe_call D_is_things.ok (hr.mono (by omega)) rfl D_is_things.g D_is_things.k D_is_things.b .nil pass0 (pa_cons (pv 2) pa_nil)))) (fun _ _ _ _ _ => (pe_meth (pv 0) C.bcl Mb_settled.m Mb_settled.ok (hr.mono (by omega)) Mb_settled.b .nil pass0 (pa_cons (pe_op op_fdivW (pv 2) (pe_glob (v := .int 8) rfl T.mTAGS ⟨_, rfl⟩)) pa_nil)))))), ?_⟩
  have hz := line_eq
  refine ⟨_, rfl, pl, rfl, ⟨_, SqL.of hpl⟩, fun D hD => ?_⟩
  have pD : pl ≠ D := ne_of_none hpl hD
  refine lc_list (xs := ws.map V.int) (fun i H' => Same H H' ∧ ∃ a1 a2 : List Int, H' D = some (.lst (a1.map V.int)) ∧ a1.length ≤ i ∧ i ≤ ws.length ∧ Hm.addrs s (ws.drop i) = some a2 ∧ as = a1 ++ a2) ⟨same_new hD _, [], as, upd_same, Nat.le_refl _, Nat.zero_le _, by rw [List.drop_zero]; exact hm, rfl⟩ (fun i H' _ h => SqL.of (h.1 _ _ hpl)) ?_ ?_
  · rintro i v H' hv ⟨g, a1, a2, hd, hi, hi2, hk, rfl⟩
    obtain ⟨wd, ew, rfl, ed⟩ := ints_at hv
    have hlt : i < ws.length := (List.getElem?_eq_some_iff.mp ew).1
    rw [ed, Hm.addrs] at hk
    have SH := S.same g
    refine ⟨rfl, ?_⟩
    refine ⟨_, rfl, wd, rfl, _, rfl, ?_⟩
    cases ht : isT wd with
    | false =>
      rw [ht] at hk
      exact iteF ⟨g, a1, a2, hd, Nat.le_succ_of_le hi, hlt, hk, rfl⟩
    | true =>
    rw [ht, if_pos rfl] at hk
    split at hk
    rotate_left
    · cases hk
    rename_i a b e1 e2
    cases hk
    refine iteT ⟨_, rfl, F.bo, F.bd, _, rfl, SH.bo, rfl, _, rfl, _, _, rfl, rfl, ⟨by decide, by decide⟩, F, ar, rws, s, _, a, rfl, SH, e1, _, hd, (by rw [List.length_map]; omega), ?_⟩
    refine ⟨same_mut g hD _, a1 ++ [a], b, ?_, by rw [List.length_append]; exact Nat.succ_le_succ hi, hlt, e2, by rw [List.append_assoc]; rfl⟩
    rw [upd_same, List.map_append]; rfl
  · rintro H' ⟨g, a1, a2, hd, hi, hi2, hk, rfl⟩
    rw [List.length_map, List.drop_length, Hm.addrs] at hk
    cases hk
    rw [List.append_nil] at q
    exact q _ D g hD hd
abbrev s_room_of : Stmt := top 46
theorem sc_room_of : FnScope ["store", "found", "at"] ["store", "found"] (defScope s_room_of) := ⟨rfl, rfl, rfl, by decide +kernel, rfl, by decide +kernel, by decide +kernel⟩
def fndD (found : List (Int × Int)) : List (Key × V) := found.map fun z => (.inl z.1, .int z.2)
def sp_roomof (C : Cs K) : Sp := fun vs H Q _ => ∃ F ar rws s pd found n, vs = [.ref F.bo, .ref pd] ∧ St C H F ar rws s ∧ H pd = some (.dK (fndD found)) ∧ found.length ≤ 1000000 ∧ sizes s found = some n ∧ ∀ H', Same H H' → Q (.int n) H'
theorem ok_roomof (T : Txt K mg base) (T5 : Txt5 K w mg) (C : Cs K) {f : Addr} {fd : FuncData} (F : Fun K "room_of" "room_of" s_room_of f fd) (Mb_size_at : MD P w K mg base CX0 C.B "size_at" ["self", "at"] 1 (sp_bsizeat C)) : FnOk P w K mg base CX0 2 f fd ["store", "found"] (sp_roomof C) := by
  refine F.ok sc_room_of (fun vs H Q E h => ?_) (fun cdv A outer s H vs Q E hr h => ?_)
  · obtain ⟨_, _, _, _, _, _, _, rfl, _⟩ := h; rfl
  obtain ⟨F, ar, rws, s, pd, found, n, rfl, S, hpd, hl, hm, q⟩ := h
  refine ⟨_, (pss_one (ps_ret (pe_callB (cr_sum rfl) rfl T.n_sum boot_sum (pa_cons (pe_lc (own := [("at", 2)]) (g := gName 2) (tt := tYes) rfl sc_room_of.nd (pi_list (pe_listVals rfl (pv 1) rfl T.n_list boot_list)) (blkOk_by (N := ["store", "found", "at"]) (sc := defScope s_room_of) (by decide +kernel)) (fun _ _ _ _ _ => pg_name (i := 2) sc_room_of.nd rfl (Or.inl rfl)) (fun _ _ _ _ _ => pts_nil) (fun _ _ _ _ _ => (pe_op op_add (pe_meth (pv 0) C.bcl Mb_size_at.m Mb_size_at.ok (hr.mono (by omega)) Mb_size_at.b .nil pass0 (pa_cons (pv 2) pa_nil)) (pe_glob (v := .int 2) rfl T5.mAHEAD ⟨_, rfl⟩)))) pa_nil)))), ?_⟩
  have hz := line_eq
  refine ⟨_, rfl, pd, _, rfl, hpd, fun p np => ?_⟩
  have ev : (fndD found).map Prod.snd = (found.map Prod.snd).map V.int := by unfold fndD; rw [List.map_map, List.map_map]; rfl
  rw [ev]
  have g0 : Same H (upd H p (.lst ((found.map Prod.snd).map V.int))) := same_new np _
  have hp : (upd H p (.lst ((found.map Prod.snd).map V.int))) p = some (.lst ((found.map Prod.snd).map V.int)) := upd_same
  generalize upd H p (.lst ((found.map Prod.snd).map V.int)) = H0 at g0 hp ⊢
  refine ⟨p, rfl, ⟨_, SqL.of hp⟩, fun D hD => ?_⟩
  refine lc_list (xs := (found.map Prod.snd).map V.int) (fun i H' => Same H0 H' ∧ ∃ (a1 : List Int) (m : Int), H' D = some (.lst (a1.map V.int)) ∧ a1.length ≤ i ∧ i ≤ found.length ∧ sizes s (found.drop i) = some m ∧ n = a1.sum + m) ⟨same_new hD _, [], n, upd_same, Nat.le_refl _, Nat.zero_le _, by rw [List.drop_zero]; exact hm, by simp⟩ (fun i H' _ h => SqL.of (h.1 _ _ hp)) ?_ ?_
  · rintro i v H' hv ⟨g, a1, m, hd, hi, hi2, hk, rfl⟩
    obtain ⟨ad, ew, rfl, _⟩ := ints_at hv
    rw [List.getElem?_map] at ew
    cases ef : found[i]? with
    | none => rw [ef] at ew; cases ew
    | some z =>
    rw [ef] at ew
    obtain ⟨n0, ad⟩ := z
    cases ew
    obtain ⟨hlt, ez⟩ := List.getElem?_eq_some_iff.mp ef
    rw [List.drop_eq_getElem_cons hlt, ez, sizes] at hk
    split at hk
    rotate_left
    · cases hk
    rename_i hd0 m1 e1 e2
    cases hk
    have SH := S.same (g0.trans g)
    refine ⟨rfl, ?_⟩
    unfold tYes
    dsimp only
    rw [if_pos rfl]
    refine ⟨_, rfl, F.bo, F.bd, _, rfl, SH.bo, rfl, _, rfl, F, ar, rws, s, ad, hd0, rfl, SH, e1, _, _, rfl, rfl, _, hd, (by rw [List.length_map]; omega), ?_⟩
    refine ⟨same_mut g hD _, a1 ++ [hd0 / 8 + 2], m1, ?_, by rw [List.length_append]; exact Nat.succ_le_succ hi, hlt, e2, by rw [List.sum_append]; simp; omega⟩
    rw [upd_same, List.map_append]; rfl
  · rintro H' ⟨g, a1, m, hd, hi, hi2, hk, rfl⟩
    rw [List.length_map, List.length_map, List.drop_length, sizes] at hk
    cases hk
    refine ⟨D, a1, rfl, SqL.of hd, ?_⟩
    rw [Int.add_zero] at q
    exact q _ (g0.trans g)
theorem SortIs.text {x : String} {k : Nat} (h : SortIs x k) : (!decide (V.str (SX.S (codes x)) = V.str (Str.ofString "text"))) = (((k : Nat) : Int) != 0) := by
  unfold SortIs sortL at h
  rcases k with _ | _ | _ | _ | _ | _ | k
  · cases h; decide +kernel
  · cases h; decide +kernel
  · cases h; decide +kernel
  · cases h; decide +kernel
  · cases h; decide +kernel
  · cases h; decide +kernel
  · simp at h
theorem SortIs.tie {x : String} {k : Nat} (h : SortIs x k) : (!decide (V.str (SX.S (codes x)) = V.str (Str.ofString "tie"))) = (((k : Nat) : Int) != 5) := by
  unfold SortIs sortL at h
  rcases k with _ | _ | _ | _ | _ | _ | k
  · cases h; decide +kernel
  · cases h; decide +kernel
  · cases h; decide +kernel
  · cases h; decide +kernel
  · cases h; decide +kernel
  · cases h; decide +kernel
  · simp at h
theorem sort_of {h : Int} (hh : h % 8 ≤ 5) : ∃ (k : Nat) (x : String), h % 8 = (k : Int) ∧ SortIs x k := by
  have h0 : 0 ≤ h % 8 := Int.emod_nonneg _ (by decide)
  obtain ⟨k, hk⟩ := Int.eq_ofNat_of_zero_le h0
  have : k < sortL.length := by show k < 6; omega
  exact ⟨k, sortL[k], hk, List.getElem?_eq_getElem this⟩
theorem strtie_read {i j : Nat} {x : String} {k : Nat} (hx : SortIs x k) {t : Bool} {σ : L2.St} {H : Hp} {Q : Bool → Hp → Prop} (e1 : σ[i]? = some (some (.str (SX.S (codes x))))) (e2 : σ[j]? = some (some (.bl t))) (q : Q (((k : Nat) : Int) != 0 && (t || ((k : Nat) : Int) != 5)) H) :
    tAnd (tTest (tOp rNe (tVar i) (tC (V.str (Str.ofString "text"))))) (tOr (tB (tVar j)) (tTest (tOp rNe (tVar i) (tC (V.str (Str.ofString "tie")))))) σ H Q := by
  refine ⟨_, e1, rfl, _, rfl, ?_⟩
  rw [hx.text]
  cases h0 : (((k : Nat) : Int) != 0) with
  | false =>
    rw [h0, Bool.false_and] at q
    exact iteF q
  | true =>
  rw [h0, Bool.true_and] at q
  refine iteT ⟨_, e2, _, rfl, ?_⟩
  cases t with
  | true => exact iteT q
  | false =>
    rw [Bool.false_or] at q
    refine iteF ⟨_, e1, rfl, _, rfl, ?_⟩
    rw [hx.tie]
    exact q
theorem fnd_look {n : Int} : ∀ {found : List (Int × Int)}, (valV (fndD found) (.inl n : Key)).isSome = (look found n).isSome
  | [] => rfl
  | (k, a) :: r => by
    unfold fndD
    rw [List.map_cons, look]
    by_cases e : k = n
    · rw [if_pos e, valV_pos (by show (Sum.inl k : Key) = _; rw [e])]; rfl
    · rw [if_neg e, valV_neg (fun z => e (Sum.inl.inj z))]
      exact fnd_look
theorem fnd_put {n a : Int} {found : List (Int × Int)} (h : (look found n).isSome = false) : putK (fndD found) (.inl n : Key) (.int a) = fndD (found ++ [(n, a)]) := by
  unfold putK
  rw [valV_any, fnd_look, h, if_neg Bool.false_ne_true]
  unfold fndD
  rw [List.map_append]; rfl
abbrev s_come_to : Stmt := top 43
theorem sc_come_to : FnScope ["store", "begins", "is_tie_followed", "waiting", "found", "at", "sort"] ["store", "begins", "is_tie_followed"] (defScope s_come_to) := ⟨rfl, rfl, rfl, by decide +kernel, rfl, by decide +kernel, by decide +kernel⟩
def sp_cometo (C : Cs K) : Sp := fun vs H Q _ => ∃ F ar rws s pl ws tie bs found, vs = [.ref F.bo, .ref pl, .bl tie] ∧ St C H F ar rws s ∧ H pl = some (.lst (ws.map V.int)) ∧ ws.length ≤ 1000000 ∧ Hm.addrs s ws = some bs ∧ comeGo tie s 1000000 bs.reverse [] = some found ∧ ∀ H' p, Same H H' → H p = none → H' p = some (.dK (fndD found)) → Q (.ref p) H'
theorem ok_cometo (T : Txt K mg base) (C : Cs K) {f : Addr} {fd : FuncData} (F : Fun K "come_to" "come_to" s_come_to f fd) (D_addresses_in : Def P w K mg base CX0 "addresses_in" ["store", "found"] 2 (sp_addrs C)) (Mb_number_at : MD P w K mg base CX0 C.B "number_at" ["self", "at"] 1 (sp_bnumat C)) (Mb_sort_at : MD P w K mg base CX0 C.B "sort_at" ["self", "at"] 1 (sp_bsortat C)) (Mb_words_at : MD P w K mg base CX0 C.B "words_at" ["self", "at"] 1 (sp_bwordsat C)) : FnOk P w K mg base CX0 3 f fd ["store", "begins", "is_tie_followed"] (sp_cometo C) := by
  refine F.ok sc_come_to (fun vs H Q E h => ?_) (fun cdv A outer s H vs Q E hr h => ?_)
  · obtain ⟨_, _, _, _, _, _, _, _, _, rfl, _⟩ := h; rfl
  obtain ⟨F, ar, rws, s, pl, ws, tie, bs, found, rfl, S, hpl, hl, hb, hm, q⟩ := h
  refine ⟨_, (pss_cons (ps_set (i := 3) sc_come_to.nd rfl (Or.inl rfl) (pe_call D_addresses_in.ok (hr.mono (by omega)) rfl D_addresses_in.g D_addresses_in.k D_addresses_in.b .nil pass0 (pa_cons (pv 0) (pa_cons (pv 1) pa_nil))))
    (pss_cons (ps_set (i := 4) sc_come_to.nd rfl (Or.inl rfl) pe_dnewK)
    (pss_cons (ps_while PassesOwn.never (pt_truth (pv 3) (fun _ => rfl)) (pss_cons (ps_set (i := 5) sc_come_to.nd rfl (Or.inl rfl) (pe_bm0 PySem.F.plainAttrs_list PySem.F.slot_list_pop PySem.F.type_list_pop mt_pop (pv 3)))
      (pss_one (ps_if (pt_cmp (pc_dnotin (hu1 hr) (pe_meth (pv 0) C.bcl Mb_number_at.m Mb_number_at.ok (hr.mono (by omega)) Mb_number_at.b .nil pass0 (pa_cons (pv 5) pa_nil)) (pv 4))) (pss_cons (ps_dput (hu1 hr) (pv 4) (pe_meth (pv 0) C.bcl Mb_number_at.m Mb_number_at.ok (hr.mono (by omega)) Mb_number_at.b .nil pass0 (pa_cons (pv 5) pa_nil)) (pv 5) rfl)
        (pss_cons (ps_set (i := 6) sc_come_to.nd rfl (Or.inl rfl) (pe_meth (pv 0) C.bcl Mb_sort_at.m Mb_sort_at.ok (hr.mono (by omega)) Mb_sort_at.b .nil pass0 (pa_cons (pv 5) pa_nil)))
        (pss_one (ps_if (PW.pt (pw_and (pt_cmpR op_ne (pv 6) pe_str (nomark _)) (pw_and1 (PW.pt (pw_or (pt_val (pv 2)) (pw_or1 (pt_cmpR op_ne (pv 6) pe_str (nomark _)))))))) (pss_one (ps_expr (pe_bm PySem.F.plainAttrs_list PySem.F.slot_list_extend PySem.F.type_list_extend mt_extend (pv 3) (pa_cons (pe_call D_addresses_in.ok (hr.mono (by omega)) rfl D_addresses_in.g D_addresses_in.k D_addresses_in.b .nil pass0 (pa_cons (pv 0) (pa_cons (pe_meth (pv 0) C.bcl Mb_words_at.m Mb_words_at.ok (hr.mono (by omega)) Mb_words_at.b .nil pass0 (pa_cons (pv 5) pa_nil)) pa_nil))) pa_nil)))) pss_nil)))) pss_nil))))
    (pss_one (ps_ret (pv 4)))))), ?_⟩
  have hz := line_eq
  generalize hσ : L2.start _ _ = σ0
  have hσ : σ0 = [some (.ref F.bo), some (.ref pl), some (.bl tie), none, none, none, none] := hσ.symm
  subst hσ
  refine seq_set ⟨_, rfl, _, rfl, F, ar, rws, s, pl, ws, bs, rfl, S, hpl, by omega, hb, fun H1 p g1 np hp => ?_⟩
  refine seq_set (fun d nd => ?_)
  have pd : p ≠ d := ne_of_none hp nd
  have npd : H d = none := by
    cases e : H d with
    | none => rfl
    | some u => rw [g1 _ _ e] at nd; cases nd
  have g2 : Same H (upd H1 d (.dK [])) := same_to g1 nd _
  have hp2 : (upd H1 d (.dK [])) p = some (.lst (bs.reverse.reverse.map V.int)) := by rw [upd_ne pd, List.reverse_reverse]; exact hp
  have hd2 : (upd H1 d (.dK [])) d = some (.dK (fndD [])) := upd_same
  dsimp only
  generalize upd H1 d (.dK []) = H2 at g2 hp2 hd2 ⊢
  refine seq_join (fun σ H' => ∃ (x5 x6 : Option V), σ = [some (.ref F.bo), some (.ref pl), some (.bl tie), some (.ref p), some (.ref d), x5, x6] ∧ Same H H' ∧ H' d = some (.dK (fndD found))) ?_ ?_
  · rintro σ H3 ⟨x5, x6, rfl, g3, hd3⟩
    exact ⟨_, rfl, q _ d g3 npd hd3⟩
  intro NX nx
  refine while_of (fun σ H' => ∃ (x5 x6 : Option V), σ = [some (.ref F.bo), some (.ref pl), some (.bl tie), some (.ref p), some (.ref d), x5, x6] ∧ Same H H' ∧ H' d = some (.dK (fndD found))) (fun m σ H' => ∃ (x5 x6 : Option V) (st : List Int) (fd : List (Int × Int)), σ = [some (.ref F.bo), some (.ref pl), some (.bl tie), some (.ref p), some (.ref d), x5, x6] ∧ Same H H' ∧ H' p = some (.lst (st.reverse.map V.int)) ∧ H' d = some (.dK (fndD fd)) ∧ comeGo tie s m st fd = some found) 1000000 ⟨none, none, _, _, rfl, g2, hp2, hd2, hm⟩ nx ?_
  rintro NX nx m σ H3 ⟨x5, x6, st, fd, rfl, g3, hp3, hd3, hk⟩
  cases m with
  | zero => cases hk
  | succ m =>
  cases st with
  | nil =>
    rw [comeGo] at hk
    cases hk
    refine ⟨_, rfl, false, .inl ⟨_, SqL.of hp3, rfl⟩, ?_⟩
    exact iteF (nx _ _ ⟨_, _, rfl, g3, hd3⟩)
  | cons a r =>
  rw [comeGo] at hk
  have S3 := S.same g3
  refine ⟨_, rfl, true, .inl ⟨_, SqL.of hp3, by simp⟩, ?_⟩
  refine iteT ⟨fun σ H' => ∃ (x5 x6 : Option V) (st : List Int) (fd : List (Int × Int)), σ = [some (.ref F.bo), some (.ref pl), some (.bl tie), some (.ref p), some (.ref d), x5, x6] ∧ Same H H' ∧ H' p = some (.lst (st.reverse.map V.int)) ∧ H' d = some (.dK (fndD fd)) ∧ comeGo tie s m st fd = some found, fun σ' H' h => ⟨m, Nat.lt_succ_self m, h⟩, ?_⟩
  -- at = waiting.pop()
  have erev : (a :: r).reverse.map V.int = r.reverse.map V.int ++ [V.int a] := by rw [List.reverse_cons, List.map_append]; rfl
  rw [erev] at hp3
  refine seq_set ⟨_, rfl, .inl ⟨rfl, _, SqL.of hp3⟩, p, _, .int a, rfl, rfl, hp3, by simp, ?_⟩
  rw [List.dropLast_concat]
  have g4 : Same H (upd H3 p (.lst (r.reverse.map V.int))) := same_mut g3 np _
  have hp4 : (upd H3 p (.lst (r.reverse.map V.int))) p = some (.lst (r.reverse.map V.int)) := upd_same
  have hd4 : (upd H3 p (.lst (r.reverse.map V.int))) d = some (.dK (fndD fd)) := by rw [upd_ne pd.symm]; exact hd3
  dsimp only
  generalize upd H3 p (.lst (r.reverse.map V.int)) = H4 at g4 hp4 hd4 ⊢
  have S4 := S.same g4
  cases en : gI s.words (a + 1) with
  | none => rw [en] at hk; cases hk
  | some n =>
  rw [en] at hk
  dsimp only at hk
  refine ⟨_, rfl, F.bo, F.bd, _, rfl, S4.bo, rfl, _, rfl, F, ar, rws, s, a, n, rfl, S4, en, _, rfl, d, _, rfl, DGet.k (k := Sum.inl n) hd4, _, rfl, ?_⟩
  rw [fnd_look]
  cases hl : (look fd n).isSome with
  | true =>
    rw [hl, if_pos rfl] at hk
    exact iteF ⟨_, _, _, _, rfl, g4, hp4, hd4, hk⟩
  | false =>
  rw [hl, if_neg Bool.false_ne_true] at hk
  cases eh : gI s.words a with
  | none => rw [eh] at hk; cases hk
  | some h =>
  rw [eh] at hk
  dsimp only at hk
  split at hk
  rotate_left
  · cases hk
  rename_i hc
  refine iteT ⟨_, rfl, _, rfl, _, rfl, F.bo, F.bd, _, rfl, S4.bo, rfl, _, rfl, F, ar, rws, s, a, n, rfl, S4, en, d, _, rfl, DPut.k (k := Sum.inl n) hd4 (by unfold fndD; rw [List.length_map]; omega), ?_⟩
  rw [fnd_put hl]
  have g5 : Same H (upd H4 d (.dK (fndD (fd ++ [(n, a)])))) := same_mut g4 npd _
  have hp5 : (upd H4 d (.dK (fndD (fd ++ [(n, a)])))) p = some (.lst (r.reverse.map V.int)) := by rw [upd_ne pd]; exact hp4
  have hd5 : (upd H4 d (.dK (fndD (fd ++ [(n, a)])))) d = some (.dK (fndD (fd ++ [(n, a)]))) := upd_same
  dsimp only
  show tSeq _ _ _ _ (upd H4 d (.dK (fndD (fd ++ [(n, a)]))))
  generalize upd H4 d (.dK (fndD (fd ++ [(n, a)]))) = H5 at g5 hp5 hd5 ⊢
  have S5 := S.same g5
  obtain ⟨k, x, ek, hx⟩ := sort_of hc.1
  refine seq_set ⟨_, rfl, F.bo, F.bd, _, rfl, S5.bo, rfl, _, rfl, F, ar, rws, s, a, h, k, x, rfl, S5, eh, ek, hx, ?_⟩
  refine strtie_read hx rfl rfl ?_
  rw [ek] at hk
  cases ht : (((k : Nat) : Int) != 0 && (tie || ((k : Nat) : Int) != 5)) with
  | false =>
    rw [ht, if_neg Bool.false_ne_true] at hk
    exact iteF ⟨_, _, _, _, rfl, g5, hp5, hd5, hk⟩
  | true =>
  rw [ht, if_pos rfl] at hk
  split at hk
  · cases hk
  rename_i part ep
  split at hk
  · cases hk
  rename_i more em
  split at hk
  rotate_left
  · cases hk
  rename_i hlen
  obtain ⟨c1, c2, c3, c4, c5⟩ := gS_cut ep
  refine iteT ⟨_, rfl, .inl ⟨rfl, _, SqL.of hp5⟩, _, rfl, _, rfl, F.bo, F.bd, _, rfl, S5.bo, rfl, _, rfl, F, ar, rws, s, a, h, part, rfl, S5, eh, ep, fun pw npw => ?_⟩
  have g6 : Same H (upd H5 pw (.lst (part.map V.int))) := same_to g5 npw _
  have hp6 : (upd H5 pw (.lst (part.map V.int))) p = some (.lst (r.reverse.map V.int)) := by rw [upd_ne (ne_of_none hp5 npw)]; exact hp5
  have hd6 : (upd H5 pw (.lst (part.map V.int))) d = some (.dK (fndD (fd ++ [(n, a)]))) := by rw [upd_ne (ne_of_none hd5 npw)]; exact hd5
  have hw6 : (upd H5 pw (.lst (part.map V.int))) pw = some (.lst (part.map V.int)) := upd_same
  generalize upd H5 pw (.lst (part.map V.int)) = H6 at g6 hp6 hd6 hw6 ⊢
  have S6 := S.same g6
  refine ⟨F, ar, rws, s, pw, part, more, rfl, S6, hw6, by have := S.z1; omega, em, fun H7 pm g7 npm hm7 => ?_⟩
  have hp7 := g7 _ _ hp6
  refine ⟨p, pm, _, _, rfl, rfl, hp7, hm7, (by rw [List.length_map, List.length_map, List.length_reverse]; omega), ?_⟩
  refine ⟨_, _, more.reverse ++ r, fd ++ [(n, a)], rfl, same_mut (g6.trans g7) np _, ?_, by rw [upd_ne pd.symm]; exact g7 _ _ hd6, hk⟩
  rw [upd_same, List.reverse_append, List.reverse_reverse, List.map_append]
end
end Wk
set_option maxRecDepth 100000
set_option maxHeartbeats 4000000
/-! A rule of my own: C.m(x, ..), a def of a class called by the class's name. -/
namespace Wk
open PySem PySem.Spec PyProof.Rows L2
/-- where C.m is found, as a plain def -/
structure UFn (K : PySem.W.Frag) (C : Addr) (m : Str) (g : Addr) : Prop where
  r : ClX.CRead K C (.type "type")
  c : PySem.W.findCls K (.ref C) (.type "type") m = some (.val (.ref g))
  k : PySem.W.keepIn K (.ref g) = true
def tUMeth (C : Addr) (sp : Sp) (E : XK) (ta : TE) (t : TA) : TE := fun σ H Q => ta σ H fun x H1 => x = .ref C ∧ t σ H1 fun vs H2 => sp vs H2 Q E
section
variable {X : Cx} {CX : CXT} {k : Nat} {C g : Addr} {fd : FuncData} {ps : List Str} {sp : Sp} {E : XK} {o e : Expr} {es : List Expr} {m : Str} {pos apos : Pos} {ta : TE} {t : TA} {pl : Sem Bool}
theorem pe_ucall (he : PE X o ta) (u : UFn X.K C m g) (F : FnOk X.prog X.w X.K X.mg X.base CX k g fd ps sp) (hr : Room k X.A) (hb : Binds X.K fd ps []) (hx : Passes CX X E) (ha : PA X (e :: es) t)
    (hst : starEach (e :: es) X.env = (false, eval e X.env) :: starEach es X.env := by rfl) (hpl : (backTo pos (starEach es X.env)).any (·.1) = false := by rfl)
    (ht : eval (.Call (.Attribute o m apos) (e :: es) [] pos) X.env = (do
      let ov ← eval o X.env
      standAt apos.atName
      let (f, first) ← holding [ov] (getMethod ov m pl)
      callWith pos f first (backTo pos (starEach (e :: es) X.env)) (backToKw pos (keywordEach [] X.env))) := by rfl) :
    PE X (.Call (.Attribute o m apos) (e :: es) [] pos) (tUMeth C sp E ta t) := by
  refine ⟨fun pins s σ H Q I h => ?_⟩
  refine PySem.W.methodCall_KW (pl := pl) (thn (he.run pins s σ H _ I h) fun v s1 ⟨x, H1, I1, rx, ex, q⟩ => ?_) ht
  subst ex
  obtain rfl : v = Value.ref C := rx
  refine PySem.W.method_cls I1.kIn u.r.ga (ClX.getcval_ok I1 u.r (v := .ref g) ⟨u.c, rfl⟩ fun s2 I2 => ?_)
  refine PySem.W.callWith_K (h₀ := X.base) (first := []) I2.ok.mod.kin u.k (thn (ha.run pos pins s2 σ H1 _ I2 q) fun us s3 ⟨vs, H2, I3, rv, q2⟩ => ⟨I3.kIn, ?_⟩) hst hpl
  exact run_fn F hr hb .nil hx I3 rv (by rw [List.append_nil]; exact q2)
end
end Wk
set_option maxRecDepth 100000
set_option maxHeartbeats 4000000
namespace Wk
open PySem L2 TL PyProof.Rows Hm
open SX (S S_len)
def itV : Hm.It → List V
  | .word n => [.str (Str.ofString "word"), .int n]
  | .held h => [.str (Str.ofString "held"), .int h]
theorem row_look {H : Hp} {h : Int} : ∀ {rows : List (Int × Int)} {rws : List Addr}, Rows H rws rows → (match look rows h with
    | some w => ∃ r, valV (rowD rows rws) (.inl h : Key) = some (.ref r) ∧ H r = some (.lst [.int w]) ∧ r ∈ rws
    | none => valV (rowD rows rws) (.inl h : Key) = none)
  | [], [], _ => rfl
  | (k, w) :: qs, r :: rs, hr => by
    rw [look, rowD]
    by_cases e : k = h
    · rw [if_pos e]
      exact ⟨r, by rw [valV_pos (by show (Sum.inl k : Key) = _; rw [e])], hr.1, List.mem_cons_self⟩
    · rw [if_neg e, valV_neg (fun z => e (Sum.inl.inj z))]
      have ih := row_look (h := h) hr.2
      cases e2 : look qs h with
      | some w2 =>
        rw [e2] at ih
        obtain ⟨r2, h1, h2, h3⟩ := ih
        exact ⟨r2, h1, h2, List.mem_cons_of_mem _ h3⟩
      | none =>
        rw [e2] at ih
        exact ih
  | [], _ :: _, h => h.elim
  | _ :: _, [], h => h.elim
theorem row_some {H : Hp} {h w : Int} {rows : List (Int × Int)} {rws : List Addr} (hr : Rows H rws rows) (e : look rows h = some w) : ∃ r, valV (rowD rows rws) (.inl h : Key) = some (.ref r) ∧ H r = some (.lst [.int w]) ∧ r ∈ rws := by
  have := row_look (h := h) hr
  rw [e] at this; exact this
theorem row_is {H : Hp} {h : Int} {rows : List (Int × Int)} {rws : List Addr} (hr : Rows H rws rows) : (valV (rowD rows rws) (.inl h : Key)).isSome = (look rows h).isSome := by
  have := row_look (h := h) hr
  split at this
  · rename_i w e
    obtain ⟨r, h1, _⟩ := this
    rw [h1, e]; rfl
  · rename_i e
    rw [this, e]; rfl
theorem rows_app {H : Hp} {r : Addr} {h w : Int} (hr : H r = some (.lst [.int w])) : ∀ {rs : List Addr} {qs : List (Int × Int)}, Rows H rs qs → Rows H (rs ++ [r]) (qs ++ [(h, w)])
  | [], [], _ => ⟨hr, trivial⟩
  | _ :: _, _ :: _, g => ⟨g.1, rows_app hr g.2⟩
  | [], _ :: _, g => g.elim
  | _ :: _, [], g => g.elim
theorem rowD_app {r : Addr} {q : Int × Int} : ∀ {rs : List Addr} {qs : List (Int × Int)}, rs.length = qs.length → rowD (qs ++ [q]) (rs ++ [r]) = rowD qs rs ++ [(.inl q.1, .ref r)]
  | [], [], _ => rfl
  | a :: rs, p :: qs, h => by
    show (Sum.inl p.1, V.ref a) :: rowD (qs ++ [q]) (rs ++ [r]) = _
    rw [rowD_app (Nat.succ.inj h)]; rfl
  | [], _ :: _, h => by cases h
  | _ :: _, [], h => by cases h
def dropA : List (Int × Int) → List Addr → Int → List Addr
  | q :: qs, r :: rs, h => if q.1 = h then dropA qs rs h else r :: dropA qs rs h
  | _, _, _ => []
theorem dropA_sub {h : Int} : ∀ {qs : List (Int × Int)} {rs : List Addr}, (dropA qs rs h).Sublist rs
  | q :: qs, r :: rs => by
    rw [dropA]
    split
    · exact (dropA_sub (qs := qs)).cons _
    · exact (dropA_sub (qs := qs)).cons₂ _
  | [], _ => by rw [dropA]; exact List.nil_sublist _; intro _ _ _ _ z; cases z
  | _ :: _, [] => List.nil_sublist _
theorem dropA_rows {H : Hp} {h : Int} : ∀ {qs : List (Int × Int)} {rs : List Addr}, Rows H rs qs → Rows H (dropA qs rs h) (dropH qs h) ∧ dropK (rowD qs rs) (.inl h : Key) = rowD (dropH qs h) (dropA qs rs h)
  | [], [], _ => ⟨trivial, rfl⟩
  | q :: qs, r :: rs, g => by
    have ih := dropA_rows (h := h) g.2
    rw [dropA, rowD]
    unfold dropH dropK at ih ⊢
    rw [List.filter_cons, List.filter_cons]
    by_cases e : q.1 = h
    · rw [if_pos e, if_neg (by rw [decide_eq_true e]; exact Bool.false_ne_true), if_neg (by simp [e])]
      exact ih
    · rw [if_neg e, if_pos (by rw [decide_eq_false e]; rfl), if_pos (by simp [e])]
      refine ⟨⟨g.1, ih.1⟩, ?_⟩
      rw [ih.2]; rfl
  | [], _ :: _, g => g.elim
  | _ :: _, [], g => g.elim
section
variable {K : PySem.W.Frag} {C : Cs K} {F : Fx} {ar : Addr} {rws : List Addr} {H : Hp} {s : Bd}
theorem St.own_some (S : St C H F ar rws s) {b : Addr} (h : b ∈ F.ro :: (own7 F ar ++ rws)) : ∃ o, H b = some o := by
  rcases List.mem_cons.mp h with rfl | h
  · exact ⟨_, S.ro⟩
  rcases List.mem_append.mp h with z | z
  · simp only [own7, List.mem_cons, List.not_mem_nil, or_false] at z
    rcases z with rfl | rfl | rfl | rfl | rfl | rfl
    · exact ⟨_, S.ho⟩
    · exact ⟨_, S.bo⟩
    · exact ⟨_, S.aw⟩
    · exact ⟨_, S.tl⟩
    · exact ⟨_, S.ah⟩
    · exact ⟨_, S.rmd⟩
  · obtain ⟨v, e⟩ := rows_mem S.rw b z
    exact ⟨_, e⟩
/-- a handle more -/
theorem St.give {r : Addr} {wd : Int} (S : St C H F ar rws s) (nr : H r = none) (hl : s.rows.length < 100000) :
    Go C F ar rws H (upd (upd (upd H r (.lst [.int wd])) F.ah (.dK (rowD (s.rows ++ [(s.next, wd)]) (rws ++ [r])))) F.ho (.ins C.H F.hd (hdF F { s with rows := s.rows ++ [(s.next, wd)], next := s.next + 1 }))) ar (rws ++ [r]) { s with rows := s.rows ++ [(s.next, wd)], next := s.next + 1 } := by
  obtain ⟨n1, n2, n3, n4, n5, n6, n7, n8, n9, n10, n11, n12, n13, n14, n15⟩ := S.ndo
  have nrr : ∀ b, b ∈ F.ro :: (own7 F ar ++ rws) → b ≠ r := fun b hb z => by
    obtain ⟨o, e⟩ := S.own_some hb
    rw [z, nr] at e; cases e
  have m : ∀ b ∈ own7 F ar, b ≠ r := fun b hb => nrr b (List.mem_cons_of_mem _ (List.mem_append_left _ hb))
  have nah := S.ndr F.ah (by simp [own7])
  have nho := S.ndr F.ho (by simp [own7])
  refine ⟨⟨?_, ?_, ?_, ?_, upd_same, ?_, ?_, ?_, ?_, S.z1, ?_, S.z3, S.z4, S.z5⟩, ?_⟩
  · rw [upd_ne n1.symm, upd_ne n8, upd_ne (m F.bo (by simp [own7]))]; exact S.bo
  · rw [upd_ne n2.symm, upd_ne n11, upd_ne (m F.aw (by simp [own7]))]; exact S.aw
  · rw [upd_ne n5.symm, upd_ne n15.symm, upd_ne (m ar (by simp [own7]))]; exact S.rmd
  · rw [upd_ne n3.symm, upd_ne n13, upd_ne (m F.tl (by simp [own7]))]; exact S.tl
  · rw [upd_ne n4.symm, upd_same]
  · refine rows_app ?_ ?_
    · rw [upd_ne (m F.ho (by simp [own7])).symm, upd_ne (m F.ah (by simp [own7])).symm, upd_same]
    · refine rows_keep (fun q hq u e => ?_) S.rw
      rw [upd_ne (fun z => nho.1 (by rw [← z]; exact hq)), upd_ne (fun z => nah.1 (by rw [← z]; exact hq)), upd_ne (nrr q (List.mem_cons_of_mem _ (List.mem_append_right _ hq)))]
      exact e
  · rw [upd_ne nho.2.symm, upd_ne nah.2.symm, upd_ne (nrr F.ro List.mem_cons_self)]; exact S.ro
  · rw [show F.ro :: (own7 F ar ++ (rws ++ [r])) = (F.ro :: (own7 F ar ++ rws)) ++ [r] from by rw [List.cons_append, List.append_assoc]]
    exact List.nodup_append.mpr ⟨S.nd, List.nodup_cons.mpr ⟨List.not_mem_nil, List.nodup_nil⟩, fun b hb c hc z => nrr b hb (by rw [z]; exact List.mem_singleton.mp hc)⟩
  · rw [List.length_append]; exact hl
  · intro b u nb e
    have br : b ≠ r := fun z => by rw [z, nr] at e; cases e
    refine ⟨fun z => ?_, ?_⟩
    · rcases z with z | z
      · exact nb (.inl z)
      · rcases List.mem_append.mp z with z | z
        · exact nb (.inr z)
        · exact br (List.mem_singleton.mp z)
    · rw [upd_ne (fun z => nb (by rw [z]; exact own_ho)), upd_ne (fun z => nb (by rw [z]; exact own_ah)), upd_ne br]; exact e
/-- a handle less -/
theorem St.less {h : Int} (S : St C H F ar rws s) : Go C F ar rws H (upd H F.ah (.dK (rowD (dropH s.rows h) (dropA s.rows rws h)))) ar (dropA s.rows rws h) { s with rows := dropH s.rows h } := by
  obtain ⟨n1, n2, n3, n4, n5, n6, n7, n8, n9, n10, n11, n12, n13, n14, n15⟩ := S.ndo
  have nah := S.ndr F.ah (by simp [own7])
  have hs : ∀ b ∈ dropA s.rows rws h, b ∈ rws := fun b hb => dropA_sub.subset hb
  have nah2 : F.ah ∉ dropA s.rows rws h := fun z => nah.1 (hs _ z)
  refine ⟨⟨by rw [upd_ne n8]; exact S.bo, by rw [upd_ne n11]; exact S.aw, by rw [upd_ne n15.symm]; exact S.rmd, by rw [upd_ne n13]; exact S.tl, by rw [upd_ne n4]; exact S.ho, upd_same, rows_off nah2 (dropA_rows S.rw).1, by rw [upd_ne nah.2.symm]; exact S.ro, ?_, S.z1, ?_, S.z3, S.z4, S.z5⟩, ?_⟩
  · exact List.Sublist.nodup ((List.Sublist.append_left dropA_sub _).cons₂ _) S.nd
  · exact Nat.le_trans (List.length_filter_le _ _) S.z2
  · intro b u nb e
    refine ⟨fun z => ?_, ?_⟩
    · rcases z with z | z
      · exact nb (.inl z)
      · exact nb (.inr (hs _ z))
    · rw [upd_ne (fun z => nb (by rw [z]; exact own_ah))]; exact e
end
section
variable {P : Program} {w : World} {K : PySem.W.Frag} {mg : Str → Option Value} {base : Heap}
abbrev s_Heap__word_held : Stmt := inClass (top 68) 4
theorem sc_Heap__word_held : FnScope ["self", "handle"] ["self", "handle"] (defScope s_Heap__word_held) := ⟨rfl, rfl, rfl, by decide +kernel, rfl, by decide +kernel, by decide +kernel⟩
def sp_hword (C : Cs K) : Sp := fun vs H Q _ => ∃ F ar rws s h w, vs = [.ref F.ho, .int h] ∧ St C H F ar rws s ∧ look s.rows h = some w ∧ Q (.int w) H
theorem ok_hword (C : Cs K) {f : Addr} {fd : FuncData} (F : Fun K "word_held" "Heap.word_held" s_Heap__word_held f fd) (D_is_integer : Def P w K mg base CX0 "is_integer" ["thing"] 1 sp_is_integer) : FnOk P w K mg base CX0 2 f fd ["self", "handle"] (sp_hword C) := by
  refine F.ok sc_Heap__word_held (fun vs H Q E h => ?_) (fun cdv A outer s H vs Q E hr h => ?_)
  · obtain ⟨_, _, _, _, _, _, rfl, _⟩ := h; rfl
  obtain ⟨F, ar, rws, s, h, wd, rfl, S, hl, q⟩ := h
  refine ⟨_, (pss_cons (ps_if (PW.pt (pw_or (pt_not (pt_val (pe_call D_is_integer.ok (hr.mono (by omega)) rfl D_is_integer.g D_is_integer.k D_is_integer.b .nil pass0 (pa_cons (pv 1) pa_nil)))) (pw_or1 (pt_cmp (pc_dnotin (hu1 hr) (pv 1) (pe_fld (pv 0) rfl)))))) (pss_one ps_no) pss_nil)
    (pss_one (ps_ret (pe_ix ix_seq (pe_dget (hu1 hr) (pe_fld (pv 0) rfl) (pv 1) (fun _ _ => rfl)) pe_int (fun _ _ => rfl))))), ?_⟩
  obtain ⟨r, h1, h2, h3⟩ := row_some S.rw hl
  refine ⟨_, rfl, .int h, rfl, .int h, _, rfl, ?_⟩
  refine iteF ⟨_, rfl, (⟨_, rfl, _, _, _, _, _, rfl, St.ho S, Cs.hcl _, C.handles, rfl, ⟨F.ah, _, rfl, DGet.k (k := Sum.inl h) S.ah, _, rfl, ?_⟩⟩)⟩
  rw [h1]
  refine iteF (go_next ?_)
  refine (⟨_, rfl, _, _, _, _, _, rfl, St.ho S, Cs.hcl _, C.handles, rfl, ⟨_, rfl, F.ah, .ref r, rfl, (by have := DGet.k (k := Sum.inl h) S.ah; rw [h1] at this; exact this), ?_⟩⟩)
  exact .inl ⟨r, _, _, _, rfl, rfl, SqL.of h2, atI_nat (j := 0) rfl, q⟩
abbrev s_Heap__address_held : Stmt := inClass (top 68) 5
theorem sc_Heap__address_held : FnScope ["self", "handle", "word"] ["self", "handle"] (defScope s_Heap__address_held) := ⟨rfl, rfl, rfl, by decide +kernel, rfl, by decide +kernel, by decide +kernel⟩
def sp_haddr (C : Cs K) : Sp := fun vs H Q _ => ∃ F ar rws s h w, vs = [.ref F.ho, .int h] ∧ St C H F ar rws s ∧ look s.rows h = some w ∧ isT w = true ∧ Q (.int (w / 8)) H
theorem ok_haddr (T : Txt K mg base) (C : Cs K) {f : Addr} {fd : FuncData} (F : Fun K "address_held" "Heap.address_held" s_Heap__address_held f fd) (D_is_things : Def P w K mg base CX0 "is_things" ["word"] 1 sp_isthings) (Mh_word_held : MD P w K mg base CX0 C.H "word_held" ["self", "handle"] 2 (sp_hword C)) : FnOk P w K mg base CX0 3 f fd ["self", "handle"] (sp_haddr C) := by
  refine F.ok sc_Heap__address_held (fun vs H Q E h => ?_) (fun cdv A outer s H vs Q E hr h => ?_)
  · obtain ⟨_, _, _, _, _, _, rfl, _⟩ := h; rfl
  obtain ⟨F, ar, rws, s, h, wd, rfl, S, hl, ht, q⟩ := h
  refine ⟨_, (pss_cons (ps_set (i := 2) sc_Heap__address_held.nd rfl (Or.inl rfl) (pe_meth (pv 0) C.hcl Mh_word_held.m Mh_word_held.ok (hr.mono (by omega)) Mh_word_held.b .nil pass0 (pa_cons (pv 1) pa_nil)))
    (pss_cons (ps_if (pt_not (pt_val (pe_call D_is_things.ok (hr.mono (by omega)) rfl D_is_things.g D_is_things.k D_is_things.b .nil pass0 (pa_cons (pv 2) pa_nil)))) (pss_one ps_no) pss_nil)
    (pss_one (ps_ret (pe_op op_fdivW (pv 2) (pe_glob (v := .int 8) rfl T.mTAGS ⟨_, rfl⟩)))))), ?_⟩
  refine seq_set ⟨_, rfl, F.ho, F.hd, _, rfl, S.ho, rfl, _, rfl, F, ar, rws, s, h, wd, rfl, S, hl, ?_⟩
  refine ⟨_, rfl, wd, rfl, _, rfl, ?_⟩
  rw [ht]
  exact iteF (go_next ⟨_, rfl, _, _, rfl, rfl, ⟨by decide, by decide⟩, q⟩)
abbrev s_Heap__is_item : Stmt := inClass (top 68) 6
theorem sc_Heap__is_item : FnScope ["self", "thing"] ["self", "thing"] (defScope s_Heap__is_item) := ⟨rfl, rfl, rfl, by decide +kernel, rfl, by decide +kernel, by decide +kernel⟩
def sp_hisitem (C : Cs K) : Sp := fun vs H Q _ => ∃ F ar rws s p, ∃ it : Hm.It, vs = [.ref F.ho, .ref p] ∧ St C H F ar rws s ∧ H p = some (.tup (itV it)) ∧ Q (.bl (itemOk s it)) H
theorem ok_hisitem (T : Txt K mg base) (C : Cs K) {f : Addr} {fd : FuncData} (F : Fun K "is_item" "Heap.is_item" s_Heap__is_item f fd) (D_is_integer : Def P w K mg base CX0 "is_integer" ["thing"] 1 sp_is_integer) (D_is_things : Def P w K mg base CX0 "is_things" ["word"] 1 sp_isthings) (D_is_word : Def P w K mg base CX0 "is_word" ["thing"] 3 sp_is_word) : FnOk P w K mg base CX0 4 f fd ["self", "thing"] (sp_hisitem C) := by
  refine F.ok sc_Heap__is_item (fun vs H Q E h => ?_) (fun cdv A outer s H vs Q E hr h => ?_)
  · obtain ⟨_, _, _, _, _, _, rfl, _⟩ := h; rfl
  obtain ⟨F, ar, rws, s, p, it, rfl, S, hp, q⟩ := h
  refine ⟨_, (pss_cons (ps_if (PW.pt (pw_or (pt_not (pt_val (pe_callB call_isi rfl T.n_isinstance boot_isinstance (pa_cons (pv 1) (pa_cons (pe_bltn (v := .ty "tuple") rfl T.n_tuple boot_tuple rfl) pa_nil))))) (pw_or (pt_cmpR op_ne (pe_callB call_len_seq rfl T.n_len boot_len (pa_cons (pv 1) pa_nil)) pe_int (nomark _)) (pw_or1 (pt_not (pt_val (pe_callB call_isi rfl T.n_isinstance boot_isinstance (pa_cons (pe_ix ix_tup (pv 1) pe_int (fun _ _ => rfl)) (pa_cons (pe_bltn (v := .ty "str") rfl T.n_str boot_str rfl) pa_nil))))))))) (pss_one (ps_ret pe_bl)) pss_nil)
    (pss_cons (ps_if (pt_cmpR op_eq (pe_ix ix_tup (pv 1) pe_int (fun _ _ => rfl)) pe_str (nomark _)) (pss_one (ps_ret (pe_and (pe_call D_is_integer.ok (hr.mono (by omega)) rfl D_is_integer.g D_is_integer.k D_is_integer.b .nil pass0 (pa_cons (pe_ix ix_tup (pv 1) pe_int (fun _ _ => rfl)) pa_nil)) (pe_one (pe_cmp (pc_din (hu1 hr) (pe_ix ix_tup (pv 1) pe_int (fun _ _ => rfl)) (pe_fld (pv 0) rfl))))))) pss_nil)
    (pss_one (ps_ret (pe_and (pe_cmpR op_eq (pe_ix ix_tup (pv 1) pe_int (fun _ _ => rfl)) pe_str (nomark _)) (pe_and (pe_call D_is_word.ok (hr.mono (by omega)) rfl D_is_word.g D_is_word.k D_is_word.b .nil pass0 (pa_cons (pe_ix ix_tup (pv 1) pe_int (fun _ _ => rfl)) pa_nil)) (pe_one (pe_not (pe_call D_is_things.ok (hr.mono (by omega)) rfl D_is_things.g D_is_things.k D_is_things.b .nil pass0 (pa_cons (pe_ix ix_tup (pv 1) pe_int (fun _ _ => rfl)) pa_nil)))))))))), ?_⟩
  have ty : TyX K H (.ref p) (.type "tuple") := .base (.tup hp)
  refine ⟨_, rfl, .ref p, .ty "tuple", .type "tuple", .type "tuple", true, rfl, .ty "tuple", ty, kit_ty (by decide +kernel), _, rfl, ?_⟩
  refine iteF ⟨_, rfl, p, _, rfl, .inr (SqT.of hp), ?_⟩
  cases it with
  | held h =>
    refine ⟨rfl, _, rfl, ?_⟩
    refine iteF ⟨_, rfl, p, _, _, _, rfl, rfl, SqT.of hp, atI_nat (j := 0) rfl, _, .ty "str", .type "str", .type "str", true, rfl, .ty "str", .base (.str _), kit_ty (by decide +kernel), _, rfl, ?_⟩
    refine iteF (go_next ?_)
    refine ⟨_, rfl, p, _, _, _, rfl, rfl, SqT.of hp, atI_nat (j := 0) rfl, rfl, _, rfl, ?_⟩
    rw [decide_eq_true rfl]
    refine iteT ?_
    refine ⟨_, rfl, p, _, _, _, rfl, rfl, SqT.of hp, atI_nat (j := 1) rfl, _, rfl, .int h, _, rfl, iteT ⟨_, rfl, p, _, _, _, rfl, rfl, SqT.of hp, atI_nat (j := 1) rfl, (⟨_, rfl, _, _, _, _, _, rfl, St.ho S, Cs.hcl _, C.handles, rfl, ⟨F.ah, _, rfl, DGet.k (k := Sum.inl h) S.ah, ?_⟩⟩)⟩⟩
    rw [row_is S.rw]
    exact q
  | word n =>
    refine ⟨rfl, _, rfl, ?_⟩
    refine iteF ⟨_, rfl, p, _, _, _, rfl, rfl, SqT.of hp, atI_nat (j := 0) rfl, _, .ty "str", .type "str", .type "str", true, rfl, .ty "str", .base (.str _), kit_ty (by decide +kernel), _, rfl, ?_⟩
    refine iteF (go_next ?_)
    refine ⟨_, rfl, p, _, _, _, rfl, rfl, SqT.of hp, atI_nat (j := 0) rfl, rfl, _, rfl, ?_⟩
    rw [show decide (V.str (Str.ofString "word") = V.str (Str.ofString "held")) = false from by decide +kernel]
    refine iteF (go_next ?_)
    refine ⟨_, rfl, p, _, _, _, rfl, rfl, SqT.of hp, atI_nat (j := 0) rfl, rfl, _, rfl, ?_⟩
    rw [decide_eq_true rfl]
    refine iteT ⟨_, rfl, p, _, _, _, rfl, rfl, SqT.of hp, atI_nat (j := 1) rfl, _, rfl, .int n, _, rfl, ?_⟩
    have q : Q (.bl (isW (.int n) && !isT n)) H := q
    cases hw : isW (.int n) with
    | false =>
      rw [hw, Bool.false_and] at q
      exact iteF q
    | true =>
      rw [hw, Bool.true_and] at q
      exact iteT ⟨_, rfl, p, _, _, _, rfl, rfl, SqT.of hp, atI_nat (j := 1) rfl, n, rfl, _, rfl, q⟩
abbrev s_Heap__word_of_item : Stmt := inClass (top 68) 7
theorem sc_Heap__word_of_item : FnScope ["self", "item"] ["self", "item"] (defScope s_Heap__word_of_item) := ⟨rfl, rfl, rfl, by decide +kernel, rfl, by decide +kernel, by decide +kernel⟩
def sp_hworth (C : Cs K) : Sp := fun vs H Q _ => ∃ F ar rws s p, ∃ it : Hm.It, ∃ n, vs = [.ref F.ho, .ref p] ∧ St C H F ar rws s ∧ H p = some (.tup (itV it)) ∧ worth s it = some n ∧ Q (.int n) H
theorem ok_hworth (T : Txt K mg base) (C : Cs K) {f : Addr} {fd : FuncData} (F : Fun K "word_of_item" "Heap.word_of_item" s_Heap__word_of_item f fd) : FnOk P w K mg base CX0 1 f fd ["self", "item"] (sp_hworth C) := by
  refine F.ok sc_Heap__word_of_item (fun vs H Q E h => ?_) (fun cdv A outer s H vs Q E hr h => ?_)
  · obtain ⟨_, _, _, _, _, _, _, rfl, _⟩ := h; rfl
  obtain ⟨F, ar, rws, s, p, it, n, rfl, S, hp, hw, q⟩ := h
  refine ⟨_, (pss_one (ps_ret (pe_ifExp (pt_cmpR op_eq (pe_ix ix_tup (pv 1) pe_int (fun _ _ => rfl)) pe_str (nomark _)) (pe_ix ix_seq (pe_dget (hu1 hr) (pe_fld (pv 0) rfl) (pe_ix ix_tup (pv 1) pe_int (fun _ _ => rfl)) (fun _ _ => rfl)) pe_int (fun _ _ => rfl)) (pe_ix ix_tup (pv 1) pe_int (fun _ _ => rfl))))), ?_⟩
  cases it with
  | held h =>
    obtain ⟨r, h1, h2, h3⟩ := row_some S.rw (show look s.rows h = some n from hw)
    refine ⟨_, rfl, p, _, _, _, rfl, rfl, SqT.of hp, atI_nat (j := 0) rfl, rfl, _, rfl, ?_⟩
    rw [decide_eq_true rfl]
    refine iteT ((⟨_, rfl, _, _, _, _, _, rfl, St.ho S, Cs.hcl _, C.handles, rfl, ⟨_, rfl, p, _, _, _, rfl, rfl, SqT.of hp, atI_nat (j := 1) rfl, F.ah, .ref r, rfl, (by have := DGet.k (k := Sum.inl h) S.ah; rw [h1] at this; exact this), ?_⟩⟩))
    exact .inl ⟨r, _, _, _, rfl, rfl, SqL.of h2, atI_nat (j := 0) rfl, q⟩
  | word m =>
    cases hw
    refine ⟨_, rfl, p, _, _, _, rfl, rfl, SqT.of hp, atI_nat (j := 0) rfl, rfl, _, rfl, ?_⟩
    rw [show decide (V.str (Str.ofString "word") = V.str (Str.ofString "held")) = false from by decide +kernel]
    exact iteF ⟨_, rfl, p, _, _, _, rfl, rfl, SqT.of hp, atI_nat (j := 1) rfl, q⟩
abbrev s_Heap__address_with_place : Stmt := inClass (top 68) 8
theorem sc_Heap__address_with_place : FnScope ["self", "handle", "place", "at"] ["self", "handle", "place"] (defScope s_Heap__address_with_place) := ⟨rfl, rfl, rfl, by decide +kernel, rfl, by decide +kernel, by decide +kernel⟩
def sp_haddrp (C : Cs K) : Sp := fun vs H Q _ => ∃ F ar rws s h w p hd, vs = [.ref F.ho, .int h, .int p] ∧ St C H F ar rws s ∧ look s.rows h = some w ∧ isT w = true ∧ gI s.words (w / 8) = some hd ∧ 0 ≤ p ∧ p < hd / 8 ∧ Q (.int (w / 8)) H
theorem ok_haddrp (T : Txt K mg base) (C : Cs K) {f : Addr} {fd : FuncData} (F : Fun K "address_with_place" "Heap.address_with_place" s_Heap__address_with_place f fd) (D_is_integer : Def P w K mg base CX0 "is_integer" ["thing"] 1 sp_is_integer) (Mh_address_held : MD P w K mg base CX0 C.H "address_held" ["self", "handle"] 3 (sp_haddr C)) (Mb_size_at : MD P w K mg base CX0 C.B "size_at" ["self", "at"] 1 (sp_bsizeat C)) : FnOk P w K mg base CX0 4 f fd ["self", "handle", "place"] (sp_haddrp C) := by
  refine F.ok sc_Heap__address_with_place (fun vs H Q E h => ?_) (fun cdv A outer s H vs Q E hr h => ?_)
  · obtain ⟨_, _, _, _, _, _, _, _, rfl, _⟩ := h; rfl
  obtain ⟨F, ar, rws, s, h, wd, p, hd, rfl, S, hl, ht, hh, h0, h1, q⟩ := h
  refine ⟨_, (pss_cons (ps_set (i := 3) sc_Heap__address_with_place.nd rfl (Or.inl rfl) (pe_meth (pv 0) C.hcl Mh_address_held.m Mh_address_held.ok (hr.mono (by omega)) Mh_address_held.b .nil pass0 (pa_cons (pv 1) pa_nil)))
    (pss_cons (ps_if (PW.pt (pw_or (pt_not (pt_val (pe_call D_is_integer.ok (hr.mono (by omega)) rfl D_is_integer.g D_is_integer.k D_is_integer.b .nil pass0 (pa_cons (pv 2) pa_nil)))) (pw_or1 (pt_not (pt_chain op_le op_lt pe_int (pv 2) (pe_meth (pe_fld (pv 0) rfl) C.bcl Mb_size_at.m Mb_size_at.ok (hr.mono (by omega)) Mb_size_at.b .nil pass0 (pa_cons (pv 3) pa_nil))))))) (pss_one ps_no) pss_nil)
    (pss_one (ps_ret (pv 3))))), ?_⟩
  refine seq_set ⟨_, rfl, F.ho, F.hd, _, rfl, S.ho, rfl, _, rfl, F, ar, rws, s, h, wd, rfl, S, hl, ht, ?_⟩
  refine ⟨_, rfl, .int p, rfl, .int p, _, rfl, ?_⟩
  refine iteF ⟨_, rfl, _, _, rfl, rfl, _, rfl, ?_⟩
  rw [decide_eq_true h0]
  refine iteT ((⟨_, rfl, _, _, _, _, _, rfl, St.ho S, Cs.hcl _, C.store, rfl, ⟨F.bo, F.bd, _, rfl, S.bo, rfl, _, rfl, F, ar, rws, s, _, hd, rfl, S, hh, _, _, rfl, rfl, _, rfl, ?_⟩⟩))
  rw [decide_eq_true h1]
  exact iteF (go_next ⟨_, rfl, q⟩)
abbrev s_Heap__give_handle : Stmt := inClass (top 68) 3
theorem sc_Heap__give_handle : FnScope ["self", "word", "handle"] ["self", "word"] (defScope s_Heap__give_handle) := ⟨rfl, rfl, rfl, by decide +kernel, rfl, by decide +kernel, by decide +kernel⟩
def sp_hgive (C : Cs K) : Sp := fun vs H Q _ => ∃ F ar rws s w n s', vs = [.ref F.ho, .int w] ∧ St C H F ar rws s ∧ give s w = some (n, s') ∧ ∀ H' rws', Go C F ar rws H H' ar rws' s' → Q (.int n) H'
theorem ok_hgive (T : Txt K mg base) (C : Cs K) {f : Addr} {fd : FuncData} (F : Fun K "give_handle" "Heap.give_handle" s_Heap__give_handle f fd) : FnOk P w K mg base CX0 1 f fd ["self", "word"] (sp_hgive C) := by
  refine F.ok sc_Heap__give_handle (fun vs H Q E h => ?_) (fun cdv A outer s H vs Q E hr h => ?_)
  · obtain ⟨_, _, _, _, _, _, _, rfl, _⟩ := h; rfl
  obtain ⟨F, ar, rws, s, wd, n, s', rfl, S, hm, q⟩ := h
  refine ⟨_, (pss_cons (ps_set (i := 2) sc_Heap__give_handle.nd rfl (Or.inl rfl) (pe_fld (pv 0) rfl))
    (pss_cons (ps_dput (hu1 hr) (pe_fld (pv 0) rfl) (pv 2) (pe_lst (pa_cons (pv 1) pa_nil)) rfl)
    (pss_cons (ps_fldaug (pv 0) pe_int in_add)
    (pss_one (ps_ret (pv 2)))))), ?_⟩
  unfold give at hm
  split at hm
  · cases hm
  rename_i hc
  injection hm with hm
  injection hm with hm1 hm2
  subst hm1
  subst hm2
  have hz := line_eq
  refine seq_set ((⟨_, rfl, _, _, _, _, _, rfl, St.ho S, Cs.hcl _, C.next, rfl, ?_⟩))
  refine ⟨_, rfl, (by show 1 ≤ sizeLine; rw [hz]; decide), fun r nr => ?_⟩
  have hno : (look s.rows s.next).isSome = false := by
    cases e : (look s.rows s.next).isSome with
    | false => rfl
    | true => exact (hc (.inl e)).elim
  have hl : s.rows.length < 100000 := Nat.lt_of_not_le fun z => hc (.inr z)
  have hlen := rows_len S.rw
  have eput : putK (rowD s.rows rws) (.inl s.next : Key) (.ref r) = rowD (s.rows ++ [(s.next, wd)]) (rws ++ [r]) := by
    rw [rowD_app hlen]
    unfold putK
    rw [valV_any, row_is S.rw, hno, if_neg Bool.false_ne_true]
  have G := S.give (wd := wd) nr hl
  have S1 := S.same (same_new nr (.lst [.int wd]))
  refine (⟨_, rfl, _, _, _, _, _, rfl, St.ho S1, Cs.hcl _, C.handles, rfl, ⟨_, rfl, F.ah, _, rfl, DPut.k (k := Sum.inl s.next) S1.ah (by
    have : (rowD s.rows rws).length = s.rows.length := by
      have := congrArg List.length (rowD_snd hlen)
      rw [List.length_map, List.length_map] at this
      omega
    omega), ?_⟩⟩)
  rw [eput]
  have n4 := S.ndo.2.2.2.1
  have ho2 : (upd (upd H r (.lst [.int wd])) F.ah (.dK (rowD (s.rows ++ [(s.next, wd)]) (rws ++ [r])))) F.ho = some (.ins C.H F.hd (hdF F s)) := by rw [upd_ne n4]; exact S1.ho
  refine ⟨_, rfl, _, _, _, _, _, rfl, ho2, C.hcl, C.next, rfl, ?_⟩
  exact ⟨_, _, rfl, rfl, _, _, ho2, (by show 3 < 1000; omega), _, rfl, q _ _ G⟩
abbrev s_Heap__drop : Stmt := inClass (top 68) 11
theorem sc_Heap__drop : FnScope ["self", "handle"] ["self", "handle"] (defScope s_Heap__drop) := ⟨rfl, rfl, rfl, by decide +kernel, rfl, by decide +kernel, by decide +kernel⟩
def sp_hdrop (C : Cs K) : Sp := fun vs H Q _ => ∃ F ar rws s h s', vs = [.ref F.ho, .int h] ∧ St C H F ar rws s ∧ drop s h = some s' ∧ ∀ H' rws', Go C F ar rws H H' ar rws' s' → Q .non H'
theorem ok_hdrop (C : Cs K) {f : Addr} {fd : FuncData} (F : Fun K "drop" "Heap.drop" s_Heap__drop f fd) (Mh_word_held : MD P w K mg base CX0 C.H "word_held" ["self", "handle"] 2 (sp_hword C)) : FnOk P w K mg base CX0 3 f fd ["self", "handle"] (sp_hdrop C) := by
  refine F.ok sc_Heap__drop (fun vs H Q E h => ?_) (fun cdv A outer s H vs Q E hr h => ?_)
  · obtain ⟨_, _, _, _, _, _, rfl, _⟩ := h; rfl
  obtain ⟨F, ar, rws, s, h, s', rfl, S, hm, q⟩ := h
  refine ⟨_, (pss_cons (ps_expr (pe_meth (pv 0) C.hcl Mh_word_held.m Mh_word_held.ok (hr.mono (by omega)) Mh_word_held.b .nil pass0 (pa_cons (pv 1) pa_nil)))
    (pss_one (ps_ddel (pe_fld (pv 0) rfl) (pv 1)))), ?_⟩
  unfold drop at hm
  cases e : look s.rows h with
  | none => rw [e] at hm; cases hm
  | some wd =>
  rw [e] at hm
  cases hm
  obtain ⟨r, h1, h2, h3⟩ := row_some S.rw e
  refine ⟨_, rfl, F.ho, F.hd, _, rfl, S.ho, rfl, _, rfl, F, ar, rws, s, h, wd, rfl, S, e, ?_⟩
  refine (⟨_, rfl, _, _, _, _, _, rfl, St.ho S, Cs.hcl _, C.handles, rfl, ⟨_, rfl, F.ah, _, Sum.inl h, rfl, S.ah, rfl, (by rw [h1]; rfl), ?_⟩⟩)
  rw [(dropA_rows S.rw).2]
  exact q _ _ S.less
end
end Wk
set_option maxRecDepth 100000
set_option maxHeartbeats 4000000
namespace Wk
open PySem L2 TL PyProof.Rows Hm
open SX (S S_len)
theorem SortIs.eq {x y : String} {k j : Nat} (h : SortIs x k) (g : SortIs y j) : decide (V.str (SX.S (codes x)) = V.str (Str.ofString y)) = decide (k = j) := by
  unfold SortIs sortL at h g
  rcases k with _ | _ | _ | _ | _ | _ | k
  all_goals first | (simp at h; done) | skip
  all_goals rcases j with _ | _ | _ | _ | _ | _ | j
  all_goals first | (simp at g; done) | skip
  all_goals (cases h; cases g; decide +kernel)
theorem SortIs.inLC {x : String} {k : Nat} (h : SortIs x k) : inV (V.str (SX.S (codes x))) [V.str (Str.ofString "list"), V.str (Str.ofString "cell")] = (k == 1 || k == 4) := by
  unfold SortIs sortL at h
  rcases k with _ | _ | _ | _ | _ | _ | k
  all_goals first | (simp at h; done) | skip
  all_goals (cases h; decide +kernel)
theorem SortIs.inS {x : String} {k : Nat} (h : SortIs x k) : inV (V.str (SX.S (codes x))) (sortL.map fun x => V.str (Str.ofString x)) = true := by
  unfold SortIs sortL at h
  rcases k with _ | _ | _ | _ | _ | _ | k
  all_goals first | (simp at h; done) | skip
  all_goals (cases h; decide +kernel)
theorem eqI {a b : Int} : decide (V.int a = V.int b) = (a == b) := by
  by_cases e : a = b
  · rw [e]; simp
  · rw [decide_eq_false (fun z => e (V.int.inj z))]
    exact (beq_eq_false_iff_ne.mpr e).symm
section
variable {P : Program} {w : World} {K : PySem.W.Frag} {mg : Str → Option Value} {base : Heap}
abbrev s_is_sign : Stmt := top 39
theorem sc_is_sign : FnScope ["number"] ["number"] (defScope s_is_sign) := ⟨rfl, rfl, rfl, by decide +kernel, rfl, by decide +kernel, by decide +kernel⟩
def sp_issign : Sp := fun vs H Q _ => ∃ n, vs = [.int n] ∧ Q (.bl (decide (32 ≤ n) && decide (n ≤ 126) && n != 37)) H
theorem ok_issign (T : Txt K mg base) (T5 : Txt5 K w mg) {f : Addr} {fd : FuncData} (F : Fun K "is_sign" "is_sign" s_is_sign f fd) : FnOk P w K mg base CX0 1 f fd ["number"] sp_issign := by
  refine F.ok sc_is_sign (fun vs H Q E h => ?_) (fun cdv A outer s H vs Q E hr h => ?_)
  · obtain ⟨_, rfl, _⟩ := h; rfl
  obtain ⟨n, rfl, q⟩ := h
  refine ⟨_, (pss_one (ps_ret (pe_and (pe_chain op_le op_le (pe_glob (v := .int 32) rfl T5.mFIRST_SIGN ⟨_, rfl⟩) (pv 0) (pe_glob (v := .int 126) rfl T5.mLAST_SIGN ⟨_, rfl⟩)) (pe_one (pe_cmpR op_ne (pv 0) (pe_glob (v := .int 37) rfl T5.mBARRED_SIGN ⟨_, rfl⟩) (nomark _)))))), ?_⟩
  refine ⟨_, rfl, _, _, rfl, rfl, _, rfl, ?_⟩
  by_cases h1 : 32 ≤ n
  · rw [decide_eq_true h1] at q ⊢
    refine iteT ⟨_, _, rfl, rfl, _, rfl, ?_⟩
    by_cases h2 : n ≤ 126
    · rw [decide_eq_true h2] at q ⊢
      refine iteT ⟨_, rfl, rfl, ?_⟩
      show Q (.bl (!decide (V.int n = V.int 37))) H
      rw [neI]
      rw [Bool.true_and, Bool.true_and] at q
      exact q
    · rw [decide_eq_false h2] at q ⊢
      exact iteF q
  · rw [decide_eq_false h1] at q ⊢
    exact iteF ⟨_, rfl, iteF q⟩
abbrev s_is_signs : Stmt := top 38
theorem sc_is_signs : FnScope ["word"] ["word"] (defScope s_is_signs) := ⟨rfl, rfl, rfl, by decide +kernel, rfl, by decide +kernel, by decide +kernel⟩
def sp_issigns : Sp := fun vs H Q _ => ∃ n, vs = [.int n] ∧ Q (.bl (isSigns n)) H
theorem ok_issigns (T : Txt K mg base) {f : Addr} {fd : FuncData} (F : Fun K "is_signs" "is_signs" s_is_signs f fd) (D_is_sign : Def P w K mg base CX0 "is_sign" ["number"] 1 sp_issign) : FnOk P w K mg base CX0 2 f fd ["word"] sp_issigns := by
  refine F.ok sc_is_signs (fun vs H Q E h => ?_) (fun cdv A outer s H vs Q E hr h => ?_)
  · obtain ⟨_, rfl, _⟩ := h; rfl
  obtain ⟨n, rfl, q⟩ := h
  refine ⟨_, (pss_one (ps_ret (pe_and (pe_cmpR op_eq (pe_op op_andM (pv 0) (pe_op op_sub (pe_glob (v := .int 8) rfl T.mTAGS ⟨_, rfl⟩) pe_int)) (pe_glob (v := .int 1) rfl T.mINTEGER_TAG ⟨_, rfl⟩) (nomark _)) (pe_one (pe_call D_is_sign.ok (hr.mono (by omega)) rfl D_is_sign.g D_is_sign.k D_is_sign.b .nil pass0 (pa_cons (pe_op op_fdivW (pv 0) (pe_glob (v := .int 8) rfl T.mTAGS ⟨_, rfl⟩)) pa_nil)))))), ?_⟩
  refine ⟨_, rfl, _, _, rfl, rfl, n, 3, rfl, rfl, rfl, _, rfl, ?_⟩
  rw [show (2 : Int) ^ 3 = 8 from by decide, eqI]
  unfold isSigns at q
  cases h1 : (n % 8 == 1) with
  | false =>
    rw [h1, Bool.false_and] at q
    exact iteF q
  | true =>
    rw [h1, Bool.true_and] at q
    exact iteT ⟨_, rfl, _, _, rfl, rfl, ⟨by decide, by decide⟩, _, rfl, q⟩
abbrev s_may_be_many : Stmt := top 36
theorem sc_may_be_many : FnScope ["sort", "many"] ["sort", "many"] (defScope s_may_be_many) := ⟨rfl, rfl, rfl, by decide +kernel, rfl, by decide +kernel, by decide +kernel⟩
def sp_maymany : Sp := fun vs H Q _ => ∃ x k m, vs = [.str (S (codes x)), .int ((m : Nat) : Int)] ∧ SortIs x k ∧ Q (.bl (mayMany k m)) H
theorem ok_maymany (T : Txt K mg base) (T5 : Txt5 K w mg) {f : Addr} {fd : FuncData} (F : Fun K "may_be_many" "may_be_many" s_may_be_many f fd) : FnOk P w K mg base CX0 1 f fd ["sort", "many"] sp_maymany := by
  refine F.ok sc_may_be_many (fun vs H Q E h => ?_) (fun cdv A outer s H vs Q E hr h => ?_)
  · obtain ⟨_, _, _, rfl, _⟩ := h; rfl
  obtain ⟨x, k, m, rfl, hx, q⟩ := h
  refine ⟨_, (pss_cons (ps_if (PW.pt (pw_or (pt_cmpR op_eq (pv 0) pe_str (nomark _)) (pw_or1 (pt_cmpR op_eq (pv 0) pe_str (nomark _))))) (pss_one (ps_ret (pe_cmpR op_eq (pv 1) pe_int (nomark _)))) pss_nil)
    (pss_one (ps_ret (pe_and (pe_cmpR op_le (pv 1) (pe_glob (v := .int 60000) rfl T5.mMOST_WORDS ⟨_, rfl⟩) (nomark _)) (pe_one (pe_or (pe_cmpR op_gt (pv 1) pe_int (nomark _)) (pe_or (pe_cmpR op_eq (pv 0) pe_str (nomark _)) (pe_one (pe_cmpR op_eq (pv 0) pe_str (nomark _)))))))))), ?_⟩
  unfold mayMany at q
  refine ⟨_, rfl, rfl, _, rfl, ?_⟩
  rw [hx.eq (show SortIs "cell" 4 from rfl)]
  have hgo : k = 4 ∨ k = 5 → Q (.bl (decide (V.int (m : Int) = V.int 1))) H := fun z => by
    rw [if_pos z] at q
    rw [eqI]
    have : ((m : Int) == 1) = (m == 1) := by
      by_cases e : m = 1
      · rw [e]; rfl
      · rw [beq_eq_false_iff_ne.mpr e, beq_eq_false_iff_ne.mpr (fun z => e (by omega))]
    rw [this]; exact q
  by_cases h4 : k = 4
  · rw [decide_eq_true h4]
    exact iteT ⟨_, rfl, rfl, hgo (.inl h4)⟩
  rw [decide_eq_false h4]
  refine iteF ⟨_, rfl, rfl, _, rfl, ?_⟩
  rw [hx.eq (show SortIs "tie" 5 from rfl)]
  by_cases h5 : k = 5
  · rw [decide_eq_true h5]
    exact iteT ⟨_, rfl, rfl, hgo (.inr h5)⟩
  rw [decide_eq_false h5]
  refine iteF (go_next ⟨_, rfl, _, _, rfl, rfl, _, rfl, ?_⟩)
  rw [if_neg (fun z => z.elim h4 h5)] at q
  have e1 : decide ((m : Int) ≤ 60000) = decide (m ≤ 60000) := by
    by_cases e : m ≤ 60000
    · rw [decide_eq_true e, decide_eq_true (by omega)]
    · rw [decide_eq_false e, decide_eq_false (by omega)]
  have e2 : decide (0 < (m : Int)) = decide (0 < m) := by
    by_cases e : 0 < m
    · rw [decide_eq_true e, decide_eq_true (by omega)]
    · rw [decide_eq_false e, decide_eq_false (by omega)]
  rw [e1]
  cases b1 : decide (m ≤ 60000) with
  | false =>
    rw [b1, Bool.false_and] at q
    exact iteF q
  | true =>
  rw [b1, Bool.true_and] at q
  refine iteT ⟨_, rfl, _, _, rfl, rfl, _, rfl, ?_⟩
  rw [e2]
  cases b2 : decide (0 < m) with
  | true =>
    rw [b2, Bool.true_or, Bool.true_or] at q
    exact iteT q
  | false =>
  rw [b2, Bool.false_or] at q
  refine iteF ⟨_, rfl, rfl, _, rfl, ?_⟩
  rw [hx.eq (show SortIs "text" 0 from rfl)]
  have e3 : decide (k = 0) = (k == 0) := rfl
  rw [e3]
  cases b3 : (k == 0) with
  | true =>
    rw [b3, Bool.true_or] at q
    exact iteT q
  | false =>
  rw [b3, Bool.false_or] at q
  refine iteF ⟨_, rfl, rfl, ?_⟩
  show Q (.bl (decide (V.str (SX.S (codes x)) = V.str (Str.ofString "list")))) H
  rw [hx.eq (show SortIs "list" 1 from rfl)]
  exact q
abbrev s_may_stand : Stmt := top 37
theorem sc_may_stand : FnScope ["sort", "place", "word"] ["sort", "place", "word"] (defScope s_may_stand) := ⟨rfl, rfl, rfl, by decide +kernel, rfl, by decide +kernel, by decide +kernel⟩
def sp_maystand : Sp := fun vs H Q _ => ∃ x k p v, vs = [.str (S (codes x)), .int ((p : Nat) : Int), .int v] ∧ SortIs x k ∧ ∀ H', Same H H' → Q (.bl (mayStand k p v)) H'
theorem ok_maystand (T : Txt K mg base) (T5 : Txt5 K w mg) {f : Addr} {fd : FuncData} (F : Fun K "may_stand" "may_stand" s_may_stand f fd) (D_is_signs : Def P w K mg base CX0 "is_signs" ["word"] 2 sp_issigns) (D_is_things : Def P w K mg base CX0 "is_things" ["word"] 1 sp_isthings) : FnOk P w K mg base CX0 3 f fd ["sort", "place", "word"] sp_maystand := by
  refine F.ok sc_may_stand (fun vs H Q E h => ?_) (fun cdv A outer s H vs Q E hr h => ?_)
  · obtain ⟨_, _, _, _, rfl, _⟩ := h; rfl
  obtain ⟨x, k, p, v, rfl, hx, q⟩ := h
  refine ⟨_, (pss_cons (ps_if (pt_cmpR op_eq (pv 0) pe_str (nomark _)) (pss_one (ps_ret (pe_call D_is_signs.ok (hr.mono (by omega)) rfl D_is_signs.g D_is_signs.k D_is_signs.b .nil pass0 (pa_cons (pv 2) pa_nil)))) pss_nil)
    (pss_cons (ps_if (pt_cmpR op_eq (pv 0) pe_str (nomark _)) (pss_one (ps_ret (pe_or (pe_call D_is_things.ok (hr.mono (by omega)) rfl D_is_things.g D_is_things.k D_is_things.b .nil pass0 (pa_cons (pv 2) pa_nil)) (pe_one (pe_cmpR op_eq (pv 2) (pe_glob (v := .int 3) rfl T5.mNIL_WORD ⟨_, rfl⟩) (nomark _)))))) pss_nil)
    (pss_one (ps_ret (pe_or (pe_cmpR op_gt (pv 1) pe_int (nomark _)) (pe_or (pe_cmpR op_in_seq (pv 0) (pe_tup (pa_cons pe_str (pa_cons pe_str pa_nil))) rfl) (pe_one (pe_cmpR op_eq (pe_op op_andM (pv 2) (pe_op op_sub (pe_glob (v := .int 8) rfl T.mTAGS ⟨_, rfl⟩) pe_int)) (pe_glob (v := .int 1) rfl T.mINTEGER_TAG ⟨_, rfl⟩) (nomark _))))))))), ?_⟩
  unfold mayStand at q
  refine ⟨_, rfl, rfl, _, rfl, ?_⟩
  rw [hx.eq (show SortIs "text" 0 from rfl)]
  by_cases h0 : k = 0
  · rw [if_pos h0] at q
    rw [decide_eq_true h0]
    exact iteT ⟨_, rfl, v, rfl, q _ (Same.refl H)⟩
  rw [if_neg h0] at q
  rw [decide_eq_false h0]
  refine iteF (go_next ⟨_, rfl, rfl, _, rfl, ?_⟩)
  rw [hx.eq (show SortIs "tie" 5 from rfl)]
  by_cases h5 : k = 5
  · rw [if_pos h5] at q
    rw [decide_eq_true h5]
    refine iteT ⟨_, rfl, v, rfl, _, rfl, ?_⟩
    have q := q H (Same.refl H)
    cases ht : isT v with
    | true =>
      rw [ht, Bool.true_or] at q
      exact iteT q
    | false =>
      rw [ht, Bool.false_or] at q
      refine iteF ⟨_, rfl, rfl, ?_⟩
      show Q (.bl (decide (V.int v = V.int 3))) H
      rw [eqI]; exact q
  rw [if_neg h5] at q
  rw [decide_eq_false h5]
  refine iteF (go_next ⟨_, rfl, _, _, rfl, rfl, _, rfl, ?_⟩)
  have e2 : decide (0 < (p : Int)) = decide (0 < p) := by
    by_cases e : 0 < p
    · rw [decide_eq_true e, decide_eq_true (by omega)]
    · rw [decide_eq_false e, decide_eq_false (by omega)]
  have hz := line_eq
  rw [e2]
  cases b1 : decide (0 < p) with
  | true =>
    have q := q H (Same.refl H)
    rw [b1, Bool.true_or, Bool.true_or] at q
    exact iteT q
  | false =>
  refine iteF ⟨_, rfl, (by show 2 ≤ sizeLine; rw [hz]; decide), fun t nt => ?_⟩
  have q := q _ (same_new nt (.tup [.str (Str.ofString "list"), .str (Str.ofString "cell")]))
  have ht : (upd H t (.tup [V.str (Str.ofString "list"), .str (Str.ofString "cell")])) t = some (.tup [.str (Str.ofString "list"), .str (Str.ofString "cell")]) := upd_same
  generalize upd H t (.tup [V.str (Str.ofString "list"), .str (Str.ofString "cell")]) = H1 at q ht ⊢
  rw [b1, Bool.false_or] at q
  refine ⟨t, _, rfl, .inr (SqT.of ht), rfl, rfl, _, rfl, ?_⟩
  rw [if_neg Bool.false_ne_true, hx.inLC]
  cases b2 : (k == 1 || k == 4) with
  | true =>
    rw [b2, Bool.true_or] at q
    exact iteT q
  | false =>
  rw [b2, Bool.false_or] at q
  refine iteF ⟨_, rfl, _, _, rfl, rfl, v, 3, rfl, rfl, rfl, ?_⟩
  show Q (.bl (decide (V.int (v % 2 ^ 3) = V.int 1))) H1
  rw [show (2 : Int) ^ 3 = 8 from by decide, eqI]
  exact q
/-- [.. for k, x in enumerate(xs)] -/
theorem lc_enum {K : PySem.W.Frag} {a : Addr} {xs : List V} {g : TG} {tt : TT} {te : TE} {vs : List Nat} {σ : L2.St} {H1 : Hp} {D : Addr} {Qd : Hp → Prop} (Pv : Nat → Hp → Prop) (h0 : Pv 0 (upd H1 D (.lst []))) (hl : ∀ i H, i ≤ xs.length → Pv i H → SqL K H a xs)
    (hs : ∀ i x H T, xs[i]? = some x → Pv i H → H T = none → g (.ref T) (wipe σ vs) (upd H T (.tup [.int (i : Nat), x])) fun σ2 H2 => wipe σ2 vs = wipe σ vs ∧ tt σ2 H2 fun b H3 =>
      if b = true then te σ2 H3 fun y H4 => ∃ acc, H4 D = some (.lst acc) ∧ acc.length < sizeLine ∧ Pv (i + 1) (upd H4 D (.lst (acc ++ [y]))) else Pv (i + 1) H3) (hd : ∀ H, Pv xs.length H → Qd H) :
    ∃ W : Nat → Nat → Hp → Prop, (∃ m, W 0 m (upd H1 D (.lst []))) ∧ ∀ i m H, W i m H →
      ((Ite K a).stop i H ∧ Qd H) ∨ ((Ite K a).go i H ∧ ∃ Nx : Hp → Prop, (∀ H', Nx H' → ∃ m', m' < m ∧ W (i + 1) m' H') ∧ ∀ x H', (Ite K a).yld i H x H' → g x (wipe σ vs) H' fun σ2 H2 => wipe σ2 vs = wipe σ vs ∧ tt σ2 H2 fun b H3 =>
        if b = true then te σ2 H3 fun y H4 => ∃ acc, H4 D = some (.lst acc) ∧ acc.length < sizeLine ∧ Nx (upd H4 D (.lst (acc ++ [y]))) else Nx H3) := by
  refine ⟨fun i m H => m = xs.length - i ∧ i ≤ xs.length ∧ Pv i H, ⟨xs.length, by simp, Nat.zero_le _, h0⟩, ?_⟩
  rintro i m H ⟨rfl, hi, p⟩
  have q := hl i H hi p
  by_cases hlt : i < xs.length
  · refine .inr ⟨⟨xs, xs[i], q, by simp [hlt]⟩, Pv (i + 1), fun H' p' => ⟨xs.length - (i + 1), by omega, rfl, hlt, p'⟩, fun x H' y => ?_⟩
    obtain ⟨T, v, rfl, hT, rfl, hx⟩ := y
    exact hs i v H T (hx xs q) p hT
  · have e : i = xs.length := by omega
    subst e
    exact .inl ⟨⟨xs, q, Nat.le_refl _⟩, hd H p⟩
abbrev s_may_be : Stmt := top 35
theorem sc_may_be : FnScope ["sort", "found", "place", "word"] ["sort", "found"] (defScope s_may_be) := ⟨rfl, rfl, rfl, by decide +kernel, rfl, by decide +kernel, by decide +kernel⟩
def sp_maybe : Sp := fun vs H Q _ => ∃ x k pl ws, vs = [.str (S (codes x)), .ref pl] ∧ SortIs x k ∧ H pl = some (.lst (ws.map V.int)) ∧ ws.length ≤ 4000000 ∧ ∀ H', Same H H' → Q (.bl (Hm.mayBe k ws)) H'
theorem ok_maybe (T : Txt K mg base) {f : Addr} {fd : FuncData} (F : Fun K "may_be" "may_be" s_may_be f fd) (D_may_be_many : Def P w K mg base CX0 "may_be_many" ["sort", "many"] 1 sp_maymany) (D_may_stand : Def P w K mg base CX0 "may_stand" ["sort", "place", "word"] 3 sp_maystand) : FnOk P w K mg base CX0 4 f fd ["sort", "found"] sp_maybe := by
  refine F.ok sc_may_be (fun vs H Q E h => ?_) (fun cdv A outer s H vs Q E hr h => ?_)
  · obtain ⟨_, _, _, _, rfl, _⟩ := h; rfl
  obtain ⟨x, k, pl, ws, rfl, hx, hpl, hl, q⟩ := h
  refine ⟨_, (pss_cons (ps_if (pt_not (pt_val (pe_call D_may_be_many.ok (hr.mono (by omega)) rfl D_may_be_many.g D_may_be_many.k D_may_be_many.b .nil pass0 (pa_cons (pv 0) (pa_cons (pe_callB call_len_seq rfl T.n_len boot_len (pa_cons (pv 1) pa_nil)) pa_nil))))) (pss_one (ps_ret pe_bl)) pss_nil)
    (pss_one (ps_ret (pe_callB (cr_all rfl) rfl T.n_all boot_all (pa_cons (pe_lc (own := [("place", 2), ("word", 3)]) (g := gTup K 2 (gCons (gName 2) (gCons (gName 3) gNil))) (tt := tYes) rfl sc_may_be.nd (pi_enum rfl T.n_enumerate (pa_cons (pv 1) pa_nil)) (blkOk_by (N := ["sort", "found", "place", "word"]) (sc := defScope s_may_be) (by decide +kernel)) (fun _ _ _ _ _ => (pg_tup rfl (pgs_cons (pg_name (i := 2) sc_may_be.nd rfl (Or.inl rfl)) (pgs_cons (pg_name (i := 3) sc_may_be.nd rfl (Or.inl rfl)) pgs_nil)))) (fun _ _ _ _ _ => pts_nil) (fun _ _ _ _ _ => (pe_call D_may_stand.ok (hr.mono (by omega)) rfl D_may_stand.g D_may_stand.k D_may_stand.b .nil pass0 (pa_cons (pv 0) (pa_cons (pv 2) (pa_cons (pv 3) pa_nil)))))) pa_nil))))), ?_⟩
  have hz := line_eq
  unfold Hm.mayBe at q
  refine ⟨_, rfl, _, rfl, pl, _, rfl, .inl (SqL.of hpl), x, k, (ws.map V.int).length, rfl, hx, _, rfl, ?_⟩
  rw [List.length_map]
  cases hm : mayMany k ws.length with
  | false =>
    have q := q H (Same.refl H)
    rw [hm, Bool.false_and] at q
    exact iteT q
  | true =>
  refine iteF (go_next ?_)
  rw [hm] at q
  refine ⟨_, rfl, pl, _, rfl, SqL.of hpl, fun D hD => ?_⟩
  refine lc_enum (xs := ws.map V.int) (fun i H' => Same H H' ∧ ∃ bs : List Bool, H' D = some (.lst (bs.map V.bl)) ∧ bs.length ≤ i ∧ i ≤ ws.length ∧ mayAll k 0 ws = (bs.all id && mayAll k i (ws.drop i))) ⟨same_new hD _, [], upd_same, Nat.le_refl _, Nat.zero_le _, by rw [List.drop_zero]; rfl⟩ (fun i H' _ h => SqL.of (h.1 _ _ hpl)) ?_ ?_
  · rintro i v H' TT hv ⟨g, bs, hd, hi, hi2, he⟩ hT
    obtain ⟨wd, ew, rfl, ed⟩ := ints_at hv
    have hlt : i < ws.length := (List.getElem?_eq_some_iff.mp ew).1
    rw [ed, mayAll] at he
    have g2 : Same H (upd H' TT (.tup [.int (i : Nat), .int wd])) := same_to g hT _
    have hd2 : (upd H' TT (.tup [.int (i : Nat), .int wd])) D = some (.lst (bs.map V.bl)) := by rw [upd_ne (ne_of_none hd hT)]; exact hd
    have hTT : (upd H' TT (.tup [.int (i : Nat), .int wd])) TT = some (.tup [.int (i : Nat), .int wd]) := upd_same
    generalize upd H' TT (.tup [.int (i : Nat), .int wd]) = H2 at g2 hd2 hTT ⊢
    refine ⟨TT, _, rfl, SqT.of hTT, rfl, _, _, rfl, _, _, rfl, rfl, ?_⟩
    refine ⟨rfl, ?_⟩
    unfold tYes
    dsimp only
    rw [if_pos rfl]
    refine ⟨_, rfl, _, rfl, _, rfl, x, k, i, wd, rfl, hx, fun H3 g3 => ?_⟩
    refine ⟨_, g3 _ _ hd2, (by rw [List.length_map]; omega), ?_⟩
    refine ⟨same_mut (g2.trans g3) hD _, bs ++ [mayStand k i wd], ?_, by rw [List.length_append]; exact Nat.succ_le_succ hi, hlt, ?_⟩
    · rw [upd_same, List.map_append]; rfl
    · rw [he, List.all_append, Bool.and_assoc]; simp
  · rintro H' ⟨g, bs, hd, hi, hi2, he⟩
    rw [List.length_map, List.drop_length, mayAll, Bool.and_true] at he
    refine ⟨D, bs, rfl, SqL.of hd, ?_⟩
    rw [he, Bool.true_and] at q
    exact q _ g
abbrev s_is_many_steps : Stmt := top 49
theorem sc_is_many_steps : FnScope ["thing"] ["thing"] (defScope s_is_many_steps) := ⟨rfl, rfl, rfl, by decide +kernel, rfl, by decide +kernel, by decide +kernel⟩
def sp_ismany : Sp := fun vs H Q _ => ∃ n, vs = [.int n] ∧ 0 ≤ n ∧ n ≤ 1000000000 ∧ Q (.bl true) H
theorem ok_ismany (T : Txt K mg base) (T5 : Txt5 K w mg) {f : Addr} {fd : FuncData} (F : Fun K "is_many_steps" "is_many_steps" s_is_many_steps f fd) (D_is_integer : Def P w K mg base CX0 "is_integer" ["thing"] 1 sp_is_integer) : FnOk P w K mg base CX0 2 f fd ["thing"] sp_ismany := by
  refine F.ok sc_is_many_steps (fun vs H Q E h => ?_) (fun cdv A outer s H vs Q E hr h => ?_)
  · obtain ⟨_, rfl, _⟩ := h; rfl
  obtain ⟨n, rfl, h1, h2, q⟩ := h
  refine ⟨_, (pss_one (ps_ret (pe_and (pe_call D_is_integer.ok (hr.mono (by omega)) rfl D_is_integer.g D_is_integer.k D_is_integer.b .nil pass0 (pa_cons (pv 0) pa_nil)) (pe_one (pe_chain op_le op_le pe_int (pv 0) (pe_glob (v := .int 1000000000) rfl T5.mMOST_STEPS ⟨_, rfl⟩)))))), ?_⟩
  refine ⟨_, rfl, .int n, rfl, .int n, _, rfl, iteT ⟨_, rfl, _, _, rfl, rfl, _, rfl, ?_⟩⟩
  rw [decide_eq_true h1]
  refine iteT ⟨_, _, rfl, rfl, ?_⟩
  show Q (.bl (decide (n ≤ 1000000000))) H
  rw [decide_eq_true h2]
  exact q
end
end Wk
set_option maxRecDepth 100000
set_option maxHeartbeats 4000000
namespace Wk
open PySem L2 TL PyProof.Rows Hm
open SX (S S_len)
/-- [.. for k, v in d.items()], the dict locked -/
theorem lc_items {d : Addr} {o : Obj} {kvs : List (Key × V)} {g : TG} {tt : TT} {te : TE} {vs : List Nat} {σ : L2.St} {H1 : Hp} {D : Addr} {Qd : Hp → Prop} (Pv : Nat → Hp → Prop) (h0 : Pv 0 (upd H1 D (.lst []))) (hl : ∀ i H, i ≤ kvs.length → Pv i H → H d = some (.frz o (.dK kvs)))
    (hs : ∀ i k v H T, kvs[i]? = some (k, v) → Pv i H → H T = none → g (.ref T) (wipe σ vs) (upd H T (.tup [kV k, v])) fun σ2 H2 => wipe σ2 vs = wipe σ vs ∧ tt σ2 H2 fun b H3 =>
      if b = true then te σ2 H3 fun y H4 => ∃ acc, H4 D = some (.lst acc) ∧ acc.length < sizeLine ∧ Pv (i + 1) (upd H4 D (.lst (acc ++ [y]))) else Pv (i + 1) H3) (hd : ∀ H, Pv kvs.length H → Qd H) :
    ∃ W : Nat → Nat → Hp → Prop, (∃ m, W 0 m (upd H1 D (.lst []))) ∧ ∀ i m H, W i m H →
      ((Iti d o kvs).stop i H ∧ Qd H) ∨ ((Iti d o kvs).go i H ∧ ∃ Nx : Hp → Prop, (∀ H', Nx H' → ∃ m', m' < m ∧ W (i + 1) m' H') ∧ ∀ x H', (Iti d o kvs).yld i H x H' → g x (wipe σ vs) H' fun σ2 H2 => wipe σ2 vs = wipe σ vs ∧ tt σ2 H2 fun b H3 =>
        if b = true then te σ2 H3 fun y H4 => ∃ acc, H4 D = some (.lst acc) ∧ acc.length < sizeLine ∧ Nx (upd H4 D (.lst (acc ++ [y]))) else Nx H3) := by
  refine ⟨fun i m H => m = kvs.length - i ∧ i ≤ kvs.length ∧ Pv i H, ⟨kvs.length, by simp, Nat.zero_le _, h0⟩, ?_⟩
  rintro i m H ⟨rfl, hi, p⟩
  have q := hl i H hi p
  by_cases hlt : i < kvs.length
  · refine .inr ⟨⟨q, hlt⟩, Pv (i + 1), fun H' p' => ⟨kvs.length - (i + 1), by omega, rfl, hlt, p'⟩, fun x H' y => ?_⟩
    obtain ⟨T, k, v, hk, rfl, hT, rfl⟩ := y
    exact hs i k v H T hk p hT
  · have e : i = kvs.length := by omega
    subst e
    exact .inl ⟨⟨q, Nat.le_refl _⟩, hd H p⟩
section
variable {X : Cx} {K : PySem.W.Frag}
theorem ix_tupB (h : X.K = K) : IxR X (rIxT K) := h ▸ ix_tup
theorem ix_listB (h : X.K = K) : IxR X (rIxL K) := h ▸ ix_list
theorem pe_fldB {e : Expr} {f : Str} {ta : TE} {pos : Pos} (h : X.K = K) (ha : PE X e ta) (hb : attributeBase e f X.env (eval e X.env) = eval e X.env) : PE X (.Attribute e f pos) (tFld K ta f) := h ▸ pe_fld ha hb
end
def PairsAt (H : Hp) : List Addr → List (Int × Int) → Prop
  | [], [] => True
  | t :: ts, q :: qs => H t = some (.tup [.int q.1, .int q.2]) ∧ PairsAt H ts qs
  | _, _ => False
theorem PairsAt.len {H : Hp} : ∀ {ts : List Addr} {qs : List (Int × Int)}, PairsAt H ts qs → ts.length = qs.length
  | [], [], _ => rfl
  | _ :: _, _ :: _, h => congrArg Nat.succ (PairsAt.len h.2)
  | [], _ :: _, h => h.elim
  | _ :: _, [], h => h.elim
theorem PairsAt.keep {H H' : Hp} : ∀ {ts : List Addr} {qs : List (Int × Int)}, (∀ t ∈ ts, ∀ xs, H t = some (.tup xs) → H' t = some (.tup xs)) → PairsAt H ts qs → PairsAt H' ts qs
  | [], [], _, _ => trivial
  | t :: ts, q :: qs, g, h => ⟨g t List.mem_cons_self _ h.1, PairsAt.keep (fun t ht => g t (List.mem_cons_of_mem _ ht)) h.2⟩
  | [], _ :: _, _, h => h.elim
  | _ :: _, [], _, h => h.elim
theorem PairsAt.app {H : Hp} {t : Addr} {q : Int × Int} (ht : H t = some (.tup [.int q.1, .int q.2])) : ∀ {ts : List Addr} {qs : List (Int × Int)}, PairsAt H ts qs → PairsAt H (ts ++ [t]) (qs ++ [q])
  | [], [], _ => ⟨ht, trivial⟩
  | _ :: _, _ :: _, h => ⟨h.1, PairsAt.app ht h.2⟩
  | [], _ :: _, h => h.elim
  | _ :: _, [], h => h.elim
theorem PairsAt.at {H : Hp} : ∀ {ts : List Addr} {qs : List (Int × Int)} {i : Nat} {t : Addr}, PairsAt H ts qs → ts[i]? = some t → ∃ q, qs[i]? = some q ∧ H t = some (.tup [.int q.1, .int q.2])
  | _ :: _, q :: _, 0, _, h, e => by cases e; exact ⟨q, rfl, h.1⟩
  | _ :: _, _ :: _, i + 1, _, h, e => PairsAt.at (i := i) h.2 e
  | [], [], _, _, _, e => by simp at e
  | [], _ :: _, _, _, h, _ => h.elim
  | _ :: _, [], _, _, h, _ => h.elim
theorem rowD_at : ∀ {rs : List Addr} {qs : List (Int × Int)} {i : Nat} {k : Key} {v : V}, (rowD qs rs)[i]? = some (k, v) → ∃ q r, qs[i]? = some q ∧ rs[i]? = some r ∧ k = .inl q.1 ∧ v = .ref r
  | r :: rs, q :: qs, 0, k, v, e => by cases e; exact ⟨q, r, rfl, rfl, rfl, rfl⟩
  | r :: rs, q :: qs, i + 1, k, v, e => rowD_at (rs := rs) (qs := qs) (i := i) e
  | [], [], i, k, v, e => by simp [rowD] at e
  | [], _ :: _, i, k, v, e => by simp [rowD] at e
  | _ :: _, [], i, k, v, e => by simp [rowD] at e
theorem rowD_len {rs : List Addr} {qs : List (Int × Int)} (h : rs.length = qs.length) : (rowD qs rs).length = qs.length := by
  have := congrArg List.length (rowD_snd h)
  rw [List.length_map, List.length_map] at this
  omega
theorem take_app {α : Type} {l : List α} {i : Nat} {x : α} (h : l[i]? = some x) : l.take (i + 1) = l.take i ++ [x] := take_next h
section
variable {P : Program} {w : World} {K : PySem.W.Frag} {mg : Str → Option Value} {base : Heap}
abbrev s_Heap__root_pairs : Stmt := inClass (top 68) 2
theorem sc_Heap__root_pairs : FnScope ["self", "handle", "row"] ["self"] (defScope s_Heap__root_pairs) := ⟨rfl, rfl, rfl, by decide +kernel, rfl, by decide +kernel, by decide +kernel⟩
def sp_hpairs (C : Cs K) : Sp := fun vs H Q _ => ∃ F ar rws s, vs = [.ref F.ho] ∧ St C H F ar rws s ∧ ∀ H' p ts, Same H H' → H p = none → H' p = some (.tup (ts.map V.ref)) → PairsAt H' ts s.rows → Q (.ref p) H'
theorem ok_hpairs (T : Txt K mg base) (C : Cs K) {f : Addr} {fd : FuncData} (F : Fun K "root_pairs" "Heap.root_pairs" s_Heap__root_pairs f fd) : FnOk P w K mg base CX0 1 f fd ["self"] (sp_hpairs C) := by
  refine F.ok sc_Heap__root_pairs (fun vs H Q E h => ?_) (fun cdv A outer s H vs Q E hr h => ?_)
  · obtain ⟨_, _, _, _, rfl, _⟩ := h; rfl
  obtain ⟨F, ar, rws, s, rfl, S, q⟩ := h
  refine ⟨_, (pss_one (ps_ret (pe_tupleOf rfl T.n_tuple (pe_lock (pe_lc (own := [("handle", 1), ("row", 2)]) (g := gTup K 2 (gCons (gName 1) (gCons (gName 2) gNil))) (tt := tYes) rfl sc_Heap__root_pairs.nd (pi_items (pe_fld (pv 0) rfl)) (blkOk_by (N := ["self", "handle", "row"]) (sc := defScope s_Heap__root_pairs) (by decide +kernel)) (fun _ _ _ _ _ => (pg_tup rfl (pgs_cons (pg_name (i := 1) sc_Heap__root_pairs.nd rfl (Or.inl rfl)) (pgs_cons (pg_name (i := 2) sc_Heap__root_pairs.nd rfl (Or.inl rfl)) pgs_nil)))) (fun _ _ _ _ _ => pts_nil) (fun _ _ _ _ _ => (pe_tup (pa_cons (pv 1) (pa_cons (pe_ix (ix_listB (K := K) rfl) (pv 2) pe_int (fun _ _ => rfl)) pa_nil))))))))), ?_⟩
  have hz := line_eq
  have hlen := rows_len S.rw
  have hno := S.ndo
  refine ⟨F.ah, _, S.ah, trivial, fun od => ?_⟩
  have hl1 : (upd H F.ah (.frz od (.dK (rowD s.rows rws)))) F.ah = some (.frz od (.dK (rowD s.rows rws))) := upd_same
  have hk1 : ∀ b, b ≠ F.ah → (upd H F.ah (.frz od (.dK (rowD s.rows rws)))) b = H b := fun b n => upd_ne n
  have hr1 : Rows (upd H F.ah (.frz od (.dK (rowD s.rows rws)))) rws s.rows := rows_off (S.ndr F.ah (by simp [own7])).1 S.rw
  generalize upd H F.ah (.frz od (.dK (rowD s.rows rws))) = H1 at hl1 hk1 hr1 ⊢
  have ho1 : H1 F.ho = some (.ins C.H F.hd (hdF F s)) := by rw [hk1 _ hno.2.2.2.1]; exact S.ho
  refine ⟨_, rfl, _, _, _, _, _, rfl, ho1, C.hcl, C.handles, rfl, F.ah, od, _, rfl, hl1, fun D hD => ?_⟩
  have nDa : D ≠ F.ah := fun z => by rw [z, hl1] at hD; cases hD
  have hDH : H D = none := by rw [← hk1 D nDa]; exact hD
  refine lc_items (d := F.ah) (o := od) (kvs := rowD s.rows rws) (fun i H' => Same H1 H' ∧ ∃ ts : List Addr, H' D = some (.lst (ts.map V.ref)) ∧ PairsAt H' ts (s.rows.take i) ∧ (∀ t ∈ ts, H1 t = none ∧ t ≠ D)) ⟨same_new hD _, [], upd_same, trivial, fun t ht => by cases ht⟩ (fun i H' _ h => h.1 _ _ hl1) ?_ ?_
  · rintro i k v H' TT hkv ⟨g, ts, hd, hp, hn⟩ hT
    obtain ⟨qq, r, hq, hrr, rfl, rfl⟩ := rowD_at hkv
    obtain ⟨r2, e2, e3⟩ := rows_at hr1 hq
    cases hrr.symm.trans e2
    have hi : i < s.rows.length := (List.getElem?_eq_some_iff.mp hq).1
    have g2 : Same H1 (upd H' TT (.tup [kV (.inl qq.1), .ref r])) := same_to g hT _
    have hd2 : (upd H' TT (.tup [kV (.inl qq.1), .ref r])) D = some (.lst (ts.map V.ref)) := by rw [upd_ne (ne_of_none hd hT)]; exact hd
    have hTT : (upd H' TT (.tup [kV (.inl qq.1), .ref r])) TT = some (.tup [.int qq.1, .ref r]) := upd_same
    have hp2 : PairsAt (upd H' TT (.tup [kV (.inl qq.1), .ref r])) ts (s.rows.take i) := hp.keep fun t _ xs e => by rw [upd_ne (ne_of_none e hT)]; exact e
    generalize upd H' TT (.tup [kV (.inl qq.1), .ref r]) = H2 at g2 hd2 hTT hp2 ⊢
    refine ⟨TT, _, rfl, SqT.of hTT, rfl, _, _, rfl, _, _, rfl, rfl, ?_⟩
    refine ⟨rfl, ?_⟩
    unfold tYes
    dsimp only
    rw [if_pos rfl]
    refine ⟨_, rfl, _, rfl, r, _, _, _, rfl, rfl, SqL.of (g2 _ _ e3), atI_nat (j := 0) rfl, (by show 2 ≤ sizeLine; rw [hz]; decide), fun t nt => ?_⟩
    have ntD : D ≠ t := ne_of_none hd2 nt
    have nt1 : H1 t = none := by
      cases e : H1 t with
      | none => rfl
      | some u => rw [g2 _ _ e] at nt; cases nt
    refine ⟨_, by rw [upd_ne ntD]; exact hd2, (by
      have := hp2.len
      rw [List.length_map, this, List.length_take]
      have := S.z2
      omega), ?_⟩
    refine ⟨same_mut (same_to g2 nt _) hD _, ts ++ [t], ?_, ?_, ?_⟩
    · rw [upd_same, List.map_append]; rfl
    · rw [take_app hq]
      refine PairsAt.app ?_ ?_
      · rw [upd_ne ntD.symm, upd_same]
      · refine hp2.keep fun t2 ht2 xs e => ?_
        rw [upd_ne (hn t2 ht2).2, upd_ne (ne_of_none e nt)]; exact e
    · intro t2 ht2
      rcases List.mem_append.mp ht2 with z | z
      · exact hn t2 z
      · rw [List.mem_singleton.mp z]; exact ⟨nt1, ntD.symm⟩
  · rintro H' ⟨g, ts, hd, hp, hn⟩
    rw [rowD_len hlen, List.take_length] at hp
    have hl2 : H' F.ah = some (.frz od (.dK (rowD s.rows rws))) := g _ _ hl1
    refine ⟨hl2, .inl ⟨D, _, rfl, SqL.of (by rw [upd_ne nDa]; exact hd), fun p np => ?_⟩⟩
    have npa : p ≠ F.ah := fun z => by rw [z, upd_same] at np; cases np
    have gH : Same H (upd H' F.ah (.dK (rowD s.rows rws))) := fun b u e => by
      by_cases eb : b = F.ah
      · subst eb
        rw [upd_same, ← S.ah]; exact e
      · rw [upd_ne eb]
        exact g _ _ (by rw [hk1 _ eb]; exact e)
    have npH : H p = none := by
      cases e : H p with
      | none => rfl
      | some u => rw [gH _ _ e] at np; cases np
    refine q _ p ts (same_to gH np _) npH upd_same (hp.keep fun t ht xs e => ?_)
    have nta : t ≠ F.ah := fun z => by rw [z, hl2] at e; cases e
    have e2 : (upd H' F.ah (.dK (rowD s.rows rws))) t = some (.tup xs) := by rw [upd_ne nta]; exact e
    rw [upd_ne (ne_of_none e2 np)]; exact e2
end
end Wk
set_option maxRecDepth 100000
set_option maxHeartbeats 4000000
namespace Wk
open PySem L2 TL PyProof.Rows Hm
open SX (S S_len)
theorem St.noTup {K : PySem.W.Frag} {C : Cs K} {F : Fx} {ar : Addr} {rws : List Addr} {H : Hp} {s : Bd} (S : St C H F ar rws s) {a : Addr} {xs : List V} (h : H a = some (.tup xs)) : ¬ Own F ar rws a := fun z => by
  rcases z with z | z
  · simp only [own7, List.mem_cons, List.not_mem_nil, or_false] at z
    rcases z with rfl | rfl | rfl | rfl | rfl | rfl
    · rw [S.ho] at h; cases h
    · rw [S.bo] at h; cases h
    · rw [S.aw] at h; cases h
    · rw [S.tl] at h; cases h
    · rw [S.ah] at h; cases h
    · rw [S.rmd] at h; cases h
  · obtain ⟨v, e⟩ := rows_mem S.rw a z
    rw [e] at h; cases h
section
variable {P : Program} {w : World} {K : PySem.W.Frag} {mg : Str → Option Value} {base : Heap}
abbrev s_Heap__come_to_from_handles : Stmt := inClass (top 68) 27
theorem sc_Heap__come_to_from_handles : FnScope ["self", "is_tie_followed", "_", "word"] ["self", "is_tie_followed"] (defScope s_Heap__come_to_from_handles) := ⟨rfl, rfl, rfl, by decide +kernel, rfl, by decide +kernel, by decide +kernel⟩
def sp_hcome (C : Cs K) : Sp := fun vs H Q _ => ∃ F ar rws s bs found, vs = [.ref F.ho, .bl true] ∧ St C H F ar rws s ∧ Hm.addrs s (s.rows.map Prod.snd) = some bs ∧ comeGo true s 1000000 bs.reverse [] = some found ∧ ∀ H' p, Same H H' → H p = none → H' p = some (.dK (fndD found)) → Q (.ref p) H'
theorem ok_hcome (C : Cs K) {f : Addr} {fd : FuncData} (F : Fun K "come_to_from_handles" "Heap.come_to_from_handles" s_Heap__come_to_from_handles f fd) (Mh_root_pairs : MD P w K mg base CX0 C.H "root_pairs" ["self"] 1 (sp_hpairs C)) (D_come_to : Def P w K mg base CX0 "come_to" ["store", "begins", "is_tie_followed"] 3 (sp_cometo C)) : FnOk P w K mg base CX0 4 f fd ["self", "is_tie_followed"] (sp_hcome C) := by
  refine F.ok sc_Heap__come_to_from_handles (fun vs H Q E h => ?_) (fun cdv A outer s H vs Q E hr h => ?_)
  · obtain ⟨_, _, _, _, _, _, rfl, _⟩ := h; rfl
  obtain ⟨F, ar, rws, s, bs, found, rfl, S, hb, hf, q⟩ := h
  refine ⟨_, (pss_one (ps_ret (pe_call D_come_to.ok (hr.mono (by omega)) rfl D_come_to.g D_come_to.k D_come_to.b .nil pass0 (pa_cons (pe_fld (pv 0) rfl) (pa_cons (pe_lc (own := [("_", 2), ("word", 3)]) (g := gTup K 2 (gCons (gName 2) (gCons (gName 3) gNil))) (tt := tYes) rfl sc_Heap__come_to_from_handles.nd (pi_tup (pe_meth0 (pv 0) C.hcl Mh_root_pairs.m Mh_root_pairs.ok (hr.mono (by omega)) Mh_root_pairs.b .nil pass0)) (blkOk_by (N := ["self", "is_tie_followed", "_", "word"]) (sc := defScope s_Heap__come_to_from_handles) (by decide +kernel)) (fun _ _ _ _ _ => (pg_tup rfl (pgs_cons (pg_name (i := 2) sc_Heap__come_to_from_handles.nd rfl (Or.inl rfl)) (pgs_cons (pg_name (i := 3) sc_Heap__come_to_from_handles.nd rfl (Or.inl rfl)) pgs_nil)))) (fun _ _ _ _ _ => pts_nil) (fun _ _ _ _ _ => (pv 3))) (pa_cons (pv 1) pa_nil)))))), ?_⟩
  have hz := line_eq
  refine (⟨_, rfl, _, _, _, _, _, rfl, St.ho S, Cs.hcl _, C.store, rfl, ?_⟩)
  refine ⟨_, rfl, F.ho, F.hd, _, rfl, S.ho, rfl, F, ar, rws, s, rfl, S, fun H1 p ts g1 np hp hpa => ?_⟩
  refine ⟨p, rfl, ⟨_, SqT.of hp⟩, fun D hD => ?_⟩
  have hlen := hpa.len
  refine lc_tup (xs := ts.map V.ref) (fun i H' => Same H1 H' ∧ i ≤ ts.length ∧ H' D = some (.lst (((s.rows.take i).map Prod.snd).map V.int))) ⟨same_new hD _, Nat.zero_le _, upd_same⟩ (fun i H' _ h => SqT.of (h.1 _ _ hp)) ?_ ?_
  · rintro i v H' hv ⟨g, hi, hd⟩
    rw [List.getElem?_map] at hv
    cases et : ts[i]? with
    | none => rw [et] at hv; cases hv
    | some t =>
    rw [et] at hv
    cases hv
    have hlt : i < ts.length := (List.getElem?_eq_some_iff.mp et).1
    obtain ⟨qq, eq1, eq2⟩ := hpa.at et
    refine ⟨t, _, rfl, SqT.of (g _ _ eq2), rfl, _, _, rfl, _, _, rfl, rfl, ?_⟩
    refine ⟨rfl, ?_⟩
    unfold tYes
    dsimp only
    rw [if_pos rfl]
    refine ⟨_, rfl, _, hd, (by rw [List.length_map, List.length_map, List.length_take]; have := S.z2; omega), same_mut g hD _, hlt, ?_⟩
    rw [upd_same, take_app eq1, List.map_append, List.map_append]; rfl
  · rintro H' ⟨g, hi, hd⟩
    rw [List.length_map, hlen, List.take_length] at hd
    refine ⟨_, rfl, F, ar, rws, s, D, s.rows.map Prod.snd, true, bs, found, rfl, S.same (g1.trans g), hd, (by rw [List.length_map]; have := S.z2; omega), hb, hf, fun H2 p2 g2 np2 hp2 => ?_⟩
    refine q H2 p2 ((g1.trans g).trans g2) ?_ hp2
    cases e : H p2 with
    | none => rfl
    | some u => rw [(g1.trans g) _ _ e] at np2; cases np2
abbrev s_Heap__filled : Stmt := inClass (top 68) 30
theorem sc_Heap__filled : FnScope ["self"] ["self"] (defScope s_Heap__filled) := ⟨rfl, rfl, rfl, by decide +kernel, rfl, by decide +kernel, by decide +kernel⟩
def sp_hfilled (C : Cs K) : Sp := fun vs H Q _ => ∃ F ar rws s n, vs = [.ref F.ho] ∧ St C H F ar rws s ∧ filled s = some n ∧ ∀ H', Same H H' → Q (.int n) H'
theorem comeGo_len {tie : Bool} {s : Bd} : ∀ {f : Nat} {st : List Int} {fd found : List (Int × Int)}, fd.length ≤ 1000000 → comeGo tie s f st fd = some found → found.length ≤ 1000000
  | 0, _, _, _, _, h => by cases h
  | f + 1, [], fd, found, hl, h => by rw [comeGo] at h; cases h; exact hl
  | f + 1, a :: r, fd, found, hl, h => by
    rw [comeGo] at h
    split at h
    · cases h
    · split at h
      · exact comeGo_len hl h
      · split at h
        · cases h
        · split at h
          · rename_i hc
            have h2 : ∀ z : Int × Int, (fd ++ [z]).length ≤ 1000000 := fun z => by rw [List.length_append]; show fd.length + 1 ≤ _; omega
            split at h
            · split at h
              · cases h
              · split at h
                · cases h
                · split at h
                  · exact comeGo_len (h2 _) h
                  · cases h
            · exact comeGo_len (h2 _) h
          · cases h
theorem ok_hfilled (C : Cs K) {f : Addr} {fd : FuncData} (F : Fun K "filled" "Heap.filled" s_Heap__filled f fd) (Mh_come_to_from_handles : MD P w K mg base CX0 C.H "come_to_from_handles" ["self", "is_tie_followed"] 4 (sp_hcome C)) (D_room_of : Def P w K mg base CX0 "room_of" ["store", "found"] 2 (sp_roomof C)) : FnOk P w K mg base CX0 5 f fd ["self"] (sp_hfilled C) := by
  refine F.ok sc_Heap__filled (fun vs H Q E h => ?_) (fun cdv A outer s H vs Q E hr h => ?_)
  · obtain ⟨_, _, _, _, _, rfl, _⟩ := h; rfl
  obtain ⟨F, ar, rws, s, n, rfl, S, hm, q⟩ := h
  refine ⟨_, (pss_one (ps_ret (pe_call D_room_of.ok (hr.mono (by omega)) rfl D_room_of.g D_room_of.k D_room_of.b .nil pass0 (pa_cons (pe_fld (pv 0) rfl) (pa_cons (pe_meth (pv 0) C.hcl Mh_come_to_from_handles.m Mh_come_to_from_handles.ok (hr.mono (by omega)) Mh_come_to_from_handles.b .nil pass0 (pa_cons pe_bl pa_nil)) pa_nil))))), ?_⟩
  unfold filled at hm
  split at hm
  · cases hm
  rename_i bs hb
  split at hm
  · cases hm
  rename_i found hf
  refine (⟨_, rfl, _, _, _, _, _, rfl, St.ho S, Cs.hcl _, C.store, rfl, ⟨_, rfl, F.ho, F.hd, _, rfl, S.ho, rfl, F, ar, rws, s, bs, found, rfl, S, hb, hf, fun H1 p g1 np hp => ?_⟩⟩)
  exact ⟨F, ar, rws, s, p, found, n, rfl, S.same g1, hp, comeGo_len (by decide) hf, hm, fun H2 g2 => q _ (g1.trans g2)⟩
abbrev s_Heap__gather : Stmt := inClass (top 68) 21
theorem sc_Heap__gather : FnScope ["self"] ["self"] (defScope s_Heap__gather) := ⟨rfl, rfl, rfl, by decide +kernel, rfl, by decide +kernel, by decide +kernel⟩
theorem ok_hgather (C : Cs K) {f : Addr} {fd : FuncData} (F : Fun K "gather" "Heap.gather" s_Heap__gather f fd) (Mb_gather : MD P w K mg base CX0 C.B "gather" ["self"] 3 (sp_bgather C)) : FnOk P w K mg base CX0 4 f fd ["self"] (fun vs H Q _ => ∃ F ar rws s n s', vs = [.ref F.ho] ∧ St C H F ar rws s ∧ gather s = some (n, s') ∧ ∀ H' ar', Go C F ar rws H H' ar' rws s' → Q (.int n) H') := by
  refine F.ok sc_Heap__gather (fun vs H Q E h => ?_) (fun cdv A outer s H vs Q E hr h => ?_)
  · obtain ⟨_, _, _, _, _, _, rfl, _⟩ := h; rfl
  obtain ⟨F, ar, rws, s, n, s', rfl, S, hm, q⟩ := h
  refine ⟨_, (pss_one (ps_ret (pe_meth0 (pe_fld (pv 0) rfl) C.bcl Mb_gather.m Mb_gather.ok (hr.mono (by omega)) Mb_gather.b .nil pass0))), ?_⟩
  exact (⟨_, rfl, _, _, _, _, _, rfl, St.ho S, Cs.hcl _, C.store, rfl, ⟨F.bo, F.bd, _, rfl, S.bo, rfl, F, ar, rws, s, n, s', rfl, S, hm, q⟩⟩)
abbrev s_Heap__turn : Stmt := inClass (top 68) 22
theorem sc_Heap__turn : FnScope ["self"] ["self"] (defScope s_Heap__turn) := ⟨rfl, rfl, rfl, by decide +kernel, rfl, by decide +kernel, by decide +kernel⟩
theorem ok_hturn (C : Cs K) {f : Addr} {fd : FuncData} (F : Fun K "turn" "Heap.turn" s_Heap__turn f fd) (Mb_turn : MD P w K mg base CX0 C.B "turn" ["self"] 4 (sp_bturn C)) : FnOk P w K mg base CX0 5 f fd ["self"] (fun vs H Q _ => ∃ F ar rws s n s', vs = [.ref F.ho] ∧ St C H F ar rws s ∧ turn s = some (n, s') ∧ ∀ H' ar', Go C F ar rws H H' ar' rws s' → Q (.int n) H') := by
  refine F.ok sc_Heap__turn (fun vs H Q E h => ?_) (fun cdv A outer s H vs Q E hr h => ?_)
  · obtain ⟨_, _, _, _, _, _, rfl, _⟩ := h; rfl
  obtain ⟨F, ar, rws, s, n, s', rfl, S, hm, q⟩ := h
  refine ⟨_, (pss_one (ps_ret (pe_meth0 (pe_fld (pv 0) rfl) C.bcl Mb_turn.m Mb_turn.ok (hr.mono (by omega)) Mb_turn.b .nil pass0))), ?_⟩
  exact (⟨_, rfl, _, _, _, _, _, rfl, St.ho S, Cs.hcl _, C.store, rfl, ⟨F.bo, F.bd, _, rfl, S.bo, rfl, F, ar, rws, s, n, s', rfl, S, hm, q⟩⟩)
abbrev s_Heap__whole : Stmt := inClass (top 68) 24
theorem sc_Heap__whole : FnScope ["self"] ["self"] (defScope s_Heap__whole) := ⟨rfl, rfl, rfl, by decide +kernel, rfl, by decide +kernel, by decide +kernel⟩
theorem ok_hwhole (C : Cs K) {f : Addr} {fd : FuncData} (F : Fun K "whole" "Heap.whole" s_Heap__whole f fd) (Mb_whole : MD P w K mg base CX0 C.B "whole" ["self"] 6 (sp_bwhole C)) : FnOk P w K mg base CX0 7 f fd ["self"] (fun vs H Q _ => ∃ F ar rws s n s', vs = [.ref F.ho] ∧ St C H F ar rws s ∧ whole s = some (n, s') ∧ ∀ H' ar', Go C F ar rws H H' ar' rws s' → Q (.int n) H') := by
  refine F.ok sc_Heap__whole (fun vs H Q E h => ?_) (fun cdv A outer s H vs Q E hr h => ?_)
  · obtain ⟨_, _, _, _, _, _, rfl, _⟩ := h; rfl
  obtain ⟨F, ar, rws, s, n, s', rfl, S, hm, q⟩ := h
  refine ⟨_, (pss_one (ps_ret (pe_meth0 (pe_fld (pv 0) rfl) C.bcl Mb_whole.m Mb_whole.ok (hr.mono (by omega)) Mb_whole.b .nil pass0))), ?_⟩
  exact (⟨_, rfl, _, _, _, _, _, rfl, St.ho S, Cs.hcl _, C.store, rfl, ⟨F.bo, F.bd, _, rfl, S.bo, rfl, F, ar, rws, s, n, s', rfl, S, hm, q⟩⟩)
abbrev s_Heap__steps : Stmt := inClass (top 68) 23
theorem sc_Heap__steps : FnScope ["self", "many"] ["self", "many"] (defScope s_Heap__steps) := ⟨rfl, rfl, rfl, by decide +kernel, rfl, by decide +kernel, by decide +kernel⟩
theorem ok_hsteps (C : Cs K) {f : Addr} {fd : FuncData} (F : Fun K "steps" "Heap.steps" s_Heap__steps f fd) (D_is_many_steps : Def P w K mg base CX0 "is_many_steps" ["thing"] 2 sp_ismany) (Mb_steps : MD P w K mg base CX0 C.B "steps" ["self", "many"] 4 (sp_bsteps C)) : FnOk P w K mg base CX0 5 f fd ["self", "many"] (fun vs H Q _ => ∃ F ar rws s many n s', vs = [.ref F.ho, .int many] ∧ St C H F ar rws s ∧ 0 ≤ many ∧ many ≤ 1000000000 ∧ steps s many = some (n, s') ∧ ∀ H', Go C F ar rws H H' ar rws s' → Q (.int n) H') := by
  refine F.ok sc_Heap__steps (fun vs H Q E h => ?_) (fun cdv A outer s H vs Q E hr h => ?_)
  · obtain ⟨_, _, _, _, _, _, _, rfl, _⟩ := h; rfl
  obtain ⟨F, ar, rws, s, many, n, s', rfl, S, h1, h2, hm, q⟩ := h
  refine ⟨_, (pss_cons (ps_if (pt_not (pt_val (pe_call D_is_many_steps.ok (hr.mono (by omega)) rfl D_is_many_steps.g D_is_many_steps.k D_is_many_steps.b .nil pass0 (pa_cons (pv 1) pa_nil)))) (pss_one ps_no) pss_nil)
    (pss_one (ps_ret (pe_meth (pe_fld (pv 0) rfl) C.bcl Mb_steps.m Mb_steps.ok (hr.mono (by omega)) Mb_steps.b .nil pass0 (pa_cons (pv 1) pa_nil))))), ?_⟩
  refine ⟨_, rfl, many, rfl, h1, h2, _, rfl, ?_⟩
  refine iteF (go_next ?_)
  exact (⟨_, rfl, _, _, _, _, _, rfl, St.ho S, Cs.hcl _, C.store, rfl, ⟨F.bo, F.bd, _, rfl, S.bo, rfl, _, rfl, F, ar, rws, s, many, n, s', rfl, S, hm, q⟩⟩)
abbrev s_Heap__write : Stmt := inClass (top 68) 17
theorem sc_Heap__write : FnScope ["self", "handle", "place", "item", "at"] ["self", "handle", "place", "item"] (defScope s_Heap__write) := ⟨rfl, rfl, rfl, by decide +kernel, rfl, by decide +kernel, by decide +kernel⟩
def sp_hwrite (C : Cs K) : Sp := fun vs H Q _ => ∃ F ar rws s h, ∃ (p : Nat) (ip : Addr) (it : Hm.It), ∃ s', vs = [.ref F.ho, .int h, .int (p : Int), .ref ip] ∧ St C H F ar rws s ∧ H ip = some (.tup (itV it)) ∧ write s h p it = some s' ∧ ∀ H', Go C F ar rws H H' ar rws s' → Q .non H'
theorem ok_hwrite (C : Cs K) {f : Addr} {fd : FuncData} (F : Fun K "write" "Heap.write" s_Heap__write f fd) (Mh_address_with_place : MD P w K mg base CX0 C.H "address_with_place" ["self", "handle", "place"] 4 (sp_haddrp C)) (Mh_is_item : MD P w K mg base CX0 C.H "is_item" ["self", "thing"] 4 (sp_hisitem C)) (Mh_word_of_item : MD P w K mg base CX0 C.H "word_of_item" ["self", "item"] 1 (sp_hworth C)) (Mb_sort_at : MD P w K mg base CX0 C.B "sort_at" ["self", "at"] 1 (sp_bsortat C)) (D_may_stand : Def P w K mg base CX0 "may_stand" ["sort", "place", "word"] 3 sp_maystand) (Mb_write : MD P w K mg base CX0 C.B "write" ["self", "at", "place", "word"] 3 (sp_bwrite C)) : FnOk P w K mg base CX0 5 f fd ["self", "handle", "place", "item"] (sp_hwrite C) := by
  refine F.ok sc_Heap__write (fun vs H Q E h => ?_) (fun cdv A outer s H vs Q E hr h => ?_)
  · obtain ⟨_, _, _, _, _, _, _, _, _, rfl, _⟩ := h; rfl
  obtain ⟨F, ar, rws, s, h, p, ip, it, s', rfl, S, hip, hm, q⟩ := h
  refine ⟨_, (pss_cons (ps_set (i := 4) sc_Heap__write.nd rfl (Or.inl rfl) (pe_meth (pv 0) C.hcl Mh_address_with_place.m Mh_address_with_place.ok (hr.mono (by omega)) Mh_address_with_place.b .nil pass0 (pa_cons (pv 1) (pa_cons (pv 2) pa_nil))))
    (pss_cons (ps_if (PW.pt (pw_or (pt_not (pt_val (pe_meth (pv 0) C.hcl Mh_is_item.m Mh_is_item.ok (hr.mono (by omega)) Mh_is_item.b .nil pass0 (pa_cons (pv 3) pa_nil)))) (pw_or1 (pt_not (pt_val (pe_call D_may_stand.ok (hr.mono (by omega)) rfl D_may_stand.g D_may_stand.k D_may_stand.b .nil pass0 (pa_cons (pe_meth (pe_fld (pv 0) rfl) C.bcl Mb_sort_at.m Mb_sort_at.ok (hr.mono (by omega)) Mb_sort_at.b .nil pass0 (pa_cons (pv 4) pa_nil)) (pa_cons (pv 2) (pa_cons (pe_meth (pv 0) C.hcl Mh_word_of_item.m Mh_word_of_item.ok (hr.mono (by omega)) Mh_word_of_item.b .nil pass0 (pa_cons (pv 3) pa_nil)) pa_nil))))))))) (pss_one ps_no) pss_nil)
    (pss_one (ps_expr (pe_meth (pe_fld (pv 0) rfl) C.bcl Mb_write.m Mb_write.ok (hr.mono (by omega)) Mb_write.b .nil pass0 (pa_cons (pv 4) (pa_cons (pv 2) (pa_cons (pe_meth (pv 0) C.hcl Mh_word_of_item.m Mh_word_of_item.ok (hr.mono (by omega)) Mh_word_of_item.b .nil pass0 (pa_cons (pv 3) pa_nil)) pa_nil)))))))), ?_⟩
  unfold write at hm
  split at hm
  · cases hm
  rename_i wd hl
  split at hm
  rotate_left
  · cases hm
  rename_i ht
  split at hm
  · cases hm
  rename_i hd hh
  split at hm
  rotate_left
  · cases hm
  rename_i hc
  split at hm
  · cases hm
  rename_i v hv
  split at hm
  rotate_left
  · cases hm
  rename_i hms
  obtain ⟨hc1, hc2, hc3⟩ := hc
  obtain ⟨k, x, ek, hx⟩ := sort_of hc2
  refine seq_set ⟨_, rfl, F.ho, F.hd, _, rfl, S.ho, rfl, _, rfl, _, rfl, F, ar, rws, s, h, wd, p, hd, rfl, S, hl, ht, hh, Int.natCast_nonneg p, hc1, ?_⟩
  refine ⟨_, rfl, F.ho, F.hd, _, rfl, S.ho, rfl, _, rfl, F, ar, rws, s, ip, it, rfl, S, hip, _, rfl, ?_⟩
  rw [hc3]
  refine iteF ((⟨_, rfl, _, _, _, _, _, rfl, St.ho S, Cs.hcl _, C.store, rfl, ⟨F.bo, F.bd, _, rfl, S.bo, rfl, _, rfl, F, ar, rws, s, _, hd, k, x, rfl, S, hh, ek, hx, ?_⟩⟩))
  refine ⟨_, rfl, _, rfl, F.ho, F.hd, _, rfl, S.ho, rfl, _, rfl, F, ar, rws, s, ip, it, v, rfl, S, hip, hv, x, k, p, v, rfl, hx, fun H1 g1 => ⟨_, rfl, ?_⟩⟩
  have S1 := S.same g1
  rw [show k = (hd % 8).toNat from by rw [ek]; rfl, hms]
  refine iteF (go_next ((⟨_, rfl, _, _, _, _, _, rfl, St.ho S1, Cs.hcl _, C.store, rfl, ⟨F.bo, F.bd, _, rfl, S1.bo, rfl, _, rfl, _, rfl, _, rfl, F.ho, F.hd, _, rfl, S1.ho, rfl, _, rfl, F, ar, rws, s, ip, it, v, rfl, S1, g1 _ _ hip, hv, F, ar, rws, s, _, _, v, s', rfl, S1, hm, fun H2 g2 => ?_⟩⟩)))
  exact q _ ⟨g2.st, fun b u n e => g2.ch b u n (g1 _ _ e)⟩
end
end Wk
set_option maxRecDepth 100000
set_option maxHeartbeats 4000000
namespace Wk
open PySem L2 TL PyProof.Rows Hm
open SX (S S_len)
def ItsAt (H : Hp) : List Addr → List Hm.It → Prop
  | [], [] => True
  | a :: as, i :: is => H a = some (.tup (itV i)) ∧ ItsAt H as is
  | _, _ => False
theorem ItsAt.len {H : Hp} : ∀ {as : List Addr} {is : List Hm.It}, ItsAt H as is → as.length = is.length
  | [], [], _ => rfl
  | _ :: _, _ :: _, h => congrArg Nat.succ (ItsAt.len h.2)
  | [], _ :: _, h => h.elim
  | _ :: _, [], h => h.elim
theorem ItsAt.keep {H H' : Hp} (g : ∀ a xs, H a = some (.tup xs) → H' a = some (.tup xs)) : ∀ {as : List Addr} {is : List Hm.It}, ItsAt H as is → ItsAt H' as is
  | [], [], _ => trivial
  | a :: as, i :: is, h => ⟨g a _ h.1, ItsAt.keep g h.2⟩
  | [], _ :: _, h => h.elim
  | _ :: _, [], h => h.elim
theorem ItsAt.at {H : Hp} : ∀ {as : List Addr} {is : List Hm.It} {i : Nat} {a : Addr}, ItsAt H as is → as[i]? = some a → ∃ it, is[i]? = some it ∧ H a = some (.tup (itV it))
  | _ :: _, q :: _, 0, _, h, e => by cases e; exact ⟨q, rfl, h.1⟩
  | _ :: _, _ :: _, i + 1, _, h, e => ItsAt.at (i := i) h.2 e
  | [], [], _, _, _, e => by simp at e
  | [], _ :: _, _, _, h, _ => h.elim
  | _ :: _, [], _, _, h, _ => h.elim
theorem worths_at {s : Bd} : ∀ {its : List Hm.It} {ws : List Int}, worths s its = some ws → ws.length = its.length ∧ ∀ (i : Nat) (it : Hm.It), its[i]? = some it → ∃ v : Int, worth s it = some v ∧ ws[i]? = some v
  | [], ws, h => by cases h; exact ⟨rfl, fun i it e => by simp at e⟩
  | i :: r, ws, h => by
    rw [worths] at h
    split at h
    · rename_i a b e1 e2
      cases h
      obtain ⟨h1, h2⟩ := worths_at e2
      refine ⟨by rw [List.length_cons, List.length_cons, h1], fun j it e => ?_⟩
      cases j with
      | zero => cases e; exact ⟨a, e1, rfl⟩
      | succ j => exact h2 j it e
    · cases h
section
variable {K : PySem.W.Frag} {C : Cs K} {F : Fx} {ar : Addr} {rws : List Addr} {H : Hp} {s : Bd}
/-- [self.word_of_item(item) for item in items] -/
theorem worths_lc {v1 v2 v3 : Option V} {pi D : Addr} {ias : List Addr} {its : List Hm.It} {ws : List Int} {Qd : Hp → Prop} (S : St C H F ar rws s) (hpi : H pi = some (.tup (ias.map V.ref))) (hi : ItsAt H ias its) (hw : worths s its = some ws) (hl : its.length ≤ 60000) (hD : H D = none)
    (q : ∀ H', Same H H' → H' D = some (.lst (ws.map V.int)) → Qd H') :
    ∃ W : Nat → Nat → Hp → Prop, (∃ m, W 0 m (upd H D (.lst []))) ∧ ∀ i m H1, W i m H1 →
      ((Itt K pi).stop i H1 ∧ Qd H1) ∨ ((Itt K pi).go i H1 ∧ ∃ Nx : Hp → Prop, (∀ H', Nx H' → ∃ m', m' < m ∧ W (i + 1) m' H') ∧ ∀ x H', (Itt K pi).yld i H1 x H' → gName 3 x (wipe [some (.ref F.ho), v1, v2, v3] [3]) H' fun σ2 H2 => wipe σ2 [3] = wipe [some (.ref F.ho), v1, v2, v3] [3] ∧ tYes σ2 H2 fun b H3 =>
        if b = true then tMeth C.H "word_of_item" (sp_hworth C) [] E0 (tVar 0) (tCons (tVar 3) tNil) σ2 H3 fun y H4 => ∃ acc, H4 D = some (.lst acc) ∧ acc.length < sizeLine ∧ Nx (upd H4 D (.lst (acc ++ [y]))) else Nx H3) := by
  have hz := line_eq
  have hlen := hi.len
  obtain ⟨hwl, hwa⟩ := worths_at hw
  refine lc_tup (xs := ias.map V.ref) (fun i H' => Same H H' ∧ i ≤ ias.length ∧ H' D = some (.lst ((ws.take i).map V.int))) ⟨same_new hD _, Nat.zero_le _, upd_same⟩ (fun i H' _ h => SqT.of (h.1 _ _ hpi)) ?_ ?_
  · rintro i v H' hv ⟨g, hi', hd⟩
    rw [List.getElem?_map] at hv
    cases et : ias[i]? with
    | none => rw [et] at hv; cases hv
    | some a =>
    rw [et] at hv
    cases hv
    have hlt : i < ias.length := (List.getElem?_eq_some_iff.mp et).1
    obtain ⟨it, e1, e2⟩ := hi.at et
    obtain ⟨n, e3, e4⟩ := hwa i it e1
    have S' := S.same g
    refine ⟨rfl, ?_⟩
    unfold tYes
    dsimp only
    rw [if_pos rfl]
    refine ⟨_, rfl, F.ho, F.hd, _, rfl, S'.ho, rfl, _, rfl, F, ar, rws, s, a, it, n, rfl, S', g _ _ e2, e3, ?_⟩
    refine ⟨_, hd, (by rw [List.length_map, List.length_take]; omega), same_mut g hD _, hlt, ?_⟩
    rw [upd_same, take_app e4, List.map_append]; rfl
  · rintro H' ⟨g, hi', hd⟩
    rw [List.length_map, hlen, ← hwl, List.take_length] at hd
    exact q _ g hd
end
section
variable {P : Program} {w : World} {K : PySem.W.Frag} {mg : Str → Option Value} {base : Heap}
abbrev s_Heap__make : Stmt := inClass (top 68) 9
theorem sc_Heap__make : FnScope ["self", "sort", "items", "item"] ["self", "sort", "items"] (defScope s_Heap__make) := ⟨rfl, rfl, rfl, by decide +kernel, rfl, by decide +kernel, by decide +kernel⟩
end
end Wk
set_option maxRecDepth 100000
set_option maxHeartbeats 4000000
namespace Wk
open PySem L2 TL PyProof.Rows Hm
open SX (S S_len)
/-- a class that is called -/
structure MkD (P : Program) (w : World) (K : PySem.W.Frag) (mg : Str → Option Value) (base : Heap) (CX : CXT) (x : Str) (C : Addr) (ps : List Str) (k : Nat) (sp : Sp) where
  g : mg x = some (.ref C)
  fI : Addr
  fd : FuncData
  made : Mk K C fI
  ok : FnOk P w K mg base CX k fI fd ps sp
  b : Binds K fd ps []
/-- the classes by their names, and Layout -/
structure Cs2 (K : PySem.W.Frag) (mg : Str → Option Value) (C : Cs K) where
  gR : mg "Room" = some (.ref C.R)
  ha : PySem.W.findIn K (.ref C.R) "__class__" = some (some (.builtin "object.__class__"))
  hn : PySem.W.specialIn K (.builtin "object.__class__") "__get__" = some (some (.builtin "getset_descriptor.__get__"))
  ht : PySem.W.takesIn K (.builtin "object.__class__") = some true
  hm : PySem.W.mroIn K C.R (.type "object") = some true
/-- all but x stands as it did -/
def OnX (x : Addr) (H H' : Hp) : Prop := ∀ b, b ≠ x → H' b = H b
theorem OnX.refl {x : Addr} {H : Hp} : OnX x H H := fun _ _ => rfl
theorem OnX.upd {x : Addr} {H H' : Hp} (g : OnX x H H') (o : HO) : OnX x H (upd H' x o) := fun b n => by rw [upd_ne n]; exact g b n
section
variable {P : Program} {w : World} {K : PySem.W.Frag} {mg : Str → Option Value} {base : Heap}
abbrev s_Laid____init__ : Stmt := inClass (top 40) 0
theorem sc_Laid____init__ : FnScope ["self", "words"] ["self", "words"] (defScope s_Laid____init__) := ⟨rfl, rfl, rfl, by decide +kernel, rfl, by decide +kernel, by decide +kernel⟩
def sp_linit (C : Cs K) : Sp := fun vs H Q _ => ∃ x v dx, vs = [.ref x, v] ∧ H x = some (.ins C.B dx []) ∧ Q .non (upd H x (.ins C.B dx [("words", v)]))
theorem ok_linit (C : Cs K) {f : Addr} {fd : FuncData} (F : Fun K "__init__" "Laid.__init__" s_Laid____init__ f fd) : FnOk P w K mg base CX0 1 f fd ["self", "words"] (sp_linit C) := by
  refine F.ok sc_Laid____init__ (fun vs H Q E h => ?_) (fun cdv A outer s H vs Q E hr h => ?_)
  · obtain ⟨_, _, _, rfl, _⟩ := h; rfl
  obtain ⟨x, v, dx, rfl, hx, q⟩ := h
  refine ⟨_, (pss_one (ps_fld (pv 0) (pv 1) rfl)), ?_⟩
  exact ⟨_, rfl, _, rfl, x, C.B, dx, _, rfl, hx, C.bcl, C.words, (by show 0 < 1000; omega), q⟩
/-- Laid's own __init__ -/
structure LaidI (P : Program) (w : World) (K : PySem.W.Frag) (mg : Str → Option Value) (base : Heap) (C : Cs K) where
  C : Addr
  g : mg "Laid" = some (.ref C)
  f : Addr
  fd : FuncData
  u : UFn K C "__init__" f
  ok : FnOk P w K mg base CX0 1 f fd ["self", "words"] (sp_linit ‹Cs K›)
  b : Binds K fd ["self", "words"] []
abbrev s_Room____init__ : Stmt := inClass (top 55) 0
theorem sc_Room____init__ : FnScope ["self", "young", "old", "pace"] ["self", "young", "old", "pace"] (defScope s_Room____init__) := ⟨rfl, rfl, rfl, by decide +kernel, rfl, by decide +kernel, by decide +kernel⟩
def sp_rinit (C : Cs K) : Sp := fun vs H Q _ => ∃ x dx, ∃ y o p : Int, vs = [.ref x, .int y, .int o, .int p] ∧ H x = some (.ins C.R dx []) ∧ 8 ≤ y ∧ y ≤ 100000 ∧ y ≤ o ∧ o ≤ 1000000 ∧ 0 ≤ p ∧ p ≤ 1000 ∧ ∀ H', H' x = some (.ins C.R dx (roomF (.int y) (.int o) (.int p))) → OnX x H H' → Q .non H'
theorem ok_rinit (T : Txt K mg base) (C : Cs K) {f : Addr} {fd : FuncData} (F : Fun K "__init__" "Room.__init__" s_Room____init__ f fd) (D_is_integer : Def P w K mg base CX0 "is_integer" ["thing"] 1 sp_is_integer) : FnOk P w K mg base CX0 2 f fd ["self", "young", "old", "pace"] (sp_rinit C) := by
  refine F.ok sc_Room____init__ (fun vs H Q E h => ?_) (fun cdv A outer s H vs Q E hr h => ?_)
  · obtain ⟨_, _, _, _, _, rfl, _⟩ := h; rfl
  obtain ⟨x, dx, y, o, p, rfl, hx, a1, a2, a3, a4, a5, a6, q⟩ := h
  refine ⟨_, (pss_cons (ps_if (PW.pt (pw_or (pt_not (pt_val (pe_call D_is_integer.ok (hr.mono (by omega)) rfl D_is_integer.g D_is_integer.k D_is_integer.b .nil pass0 (pa_cons (pv 1) pa_nil)))) (pw_or1 (pt_not (pt_chain op_le op_le (pe_glob (v := .int 8) rfl T.mLEAST_YOUNG ⟨_, rfl⟩) (pv 1) (pe_glob (v := .int 100000) rfl T.mMOST_YOUNG ⟨_, rfl⟩)))))) (pss_one ps_no) pss_nil)
    (pss_cons (ps_if (PW.pt (pw_or (pt_not (pt_val (pe_call D_is_integer.ok (hr.mono (by omega)) rfl D_is_integer.g D_is_integer.k D_is_integer.b .nil pass0 (pa_cons (pv 2) pa_nil)))) (pw_or1 (pt_not (pt_chain op_le op_le (pv 1) (pv 2) (pe_glob (v := .int 1000000) rfl T.mMOST_OLD ⟨_, rfl⟩)))))) (pss_one ps_no) pss_nil)
    (pss_cons (ps_if (PW.pt (pw_or (pt_not (pt_val (pe_call D_is_integer.ok (hr.mono (by omega)) rfl D_is_integer.g D_is_integer.k D_is_integer.b .nil pass0 (pa_cons (pv 3) pa_nil)))) (pw_or1 (pt_not (pt_chain op_le op_le pe_int (pv 3) (pe_glob (v := .int 1000) rfl T.mMOST_PACE ⟨_, rfl⟩)))))) (pss_one ps_no) pss_nil)
    (pss_cons (ps_fld (pv 0) (pv 1) rfl)
    (pss_cons (ps_fld (pv 0) (pv 2) rfl)
    (pss_one (ps_fld (pv 0) (pv 3) rfl))))))), ?_⟩
  refine ⟨_, rfl, .int y, rfl, .int y, _, rfl, iteF ⟨_, rfl, _, _, rfl, rfl, _, rfl, ?_⟩⟩
  rw [decide_eq_true a1]
  refine iteT ⟨_, _, rfl, rfl, _, rfl, ?_⟩
  rw [decide_eq_true a2]
  refine iteF (go_next ?_)
  refine ⟨_, rfl, .int o, rfl, .int o, _, rfl, iteF ⟨_, rfl, _, rfl, _, _, rfl, rfl, _, rfl, ?_⟩⟩
  rw [decide_eq_true a3]
  refine iteT ⟨_, _, rfl, rfl, _, rfl, ?_⟩
  rw [decide_eq_true a4]
  refine iteF (go_next ?_)
  refine ⟨_, rfl, .int p, rfl, .int p, _, rfl, iteF ⟨_, rfl, _, _, rfl, rfl, _, rfl, ?_⟩⟩
  rw [decide_eq_true a5]
  refine iteT ⟨_, _, rfl, rfl, _, rfl, ?_⟩
  rw [decide_eq_true a6]
  refine iteF (go_next ?_)
  refine ⟨_, rfl, _, rfl, x, C.R, dx, _, rfl, hx, C.rcl, C.young, (by show 0 < 1000; omega), ?_⟩
  refine ⟨_, rfl, _, rfl, x, C.R, dx, _, rfl, upd_same, C.rcl, C.old, (by show 1 < 1000; omega), ?_⟩
  refine ⟨_, rfl, _, rfl, x, C.R, dx, _, rfl, upd_same, C.rcl, C.pace, (by show 2 < 1000; omega), ?_⟩
  exact q _ upd_same (((OnX.refl.upd _).upd _).upd _)
abbrev s_check_room : Stmt := top 56
theorem sc_check_room : FnScope ["thing"] ["thing"] (defScope s_check_room) := ⟨rfl, rfl, rfl, by decide +kernel, rfl, by decide +kernel, by decide +kernel⟩
def sp_croom (C : Cs K) : Sp := fun vs H Q _ => ∃ r rd fs, vs = [.ref r] ∧ H r = some (.ins C.R rd fs) ∧ Q .non H
theorem ok_croom (T : Txt K mg base) (C : Cs K) (C2 : Cs2 K mg C) {f : Addr} {fd : FuncData} (F : Fun K "check_room" "check_room" s_check_room f fd) : FnOk P w K mg base CX0 1 f fd ["thing"] (sp_croom C) := by
  refine F.ok sc_check_room (fun vs H Q E h => ?_) (fun cdv A outer s H vs Q E hr h => ?_)
  · obtain ⟨_, _, _, rfl, _⟩ := h; rfl
  obtain ⟨r, rd, fs, rfl, h, q⟩ := h
  refine ⟨_, (pss_one (ps_if (PW.pt (pw_and (pt_cmpR op_notN (pv 0) pe_non (nomark _)) (pw_and1 (pt_not (pt_val (pe_callB call_isi rfl T.n_isinstance boot_isinstance (pa_cons (pv 0) (pa_cons (pe_glob (v := .ref C.R) rfl C2.gR rfl) pa_nil)))))))) (pss_one ps_no) pss_nil)), ?_⟩
  have k1 : PySem.W.kitOne K (.ref C.R) (.ref C.R) = some true := if_pos (by simp)
  refine ⟨_, rfl, rfl, _, rfl, ?_⟩
  rw [show decide (V.ref r = V.non) = false from decide_eq_false (fun z => by cases z)]
  refine iteT ⟨_, rfl, _, .ref C.R, .ref C.R, .ref C.R, true, rfl, .own _, .base (.ins h C.rcl C2.ha C2.hn C2.ht C2.hm), k1, _, rfl, ?_⟩
  exact iteF q
abbrev s_Bound____init__ : Stmt := inClass (top 62) 0
theorem sc_Bound____init__ : FnScope ["self", "room", "owner"] ["self", "room", "owner"] (defScope s_Bound____init__) := ⟨rfl, rfl, rfl, by decide +kernel, rfl, by decide +kernel, by decide +kernel⟩
def sp_binit (C : Cs K) : Sp := fun vs H Q _ => ∃ bo bd ro rd ho, ∃ y o p : Nat, vs = [.ref bo, .ref ro, .ref ho] ∧ H bo = some (.ins C.B bd []) ∧ H ro = some (.ins C.R rd (roomF (.int y) (.int o) (.int p))) ∧ y + 2 * o ≤ 3000000 ∧
  ∀ H' aw ar tl hd ah rd2, aw ≠ ar → aw ≠ tl → ar ≠ tl → H aw = none → H ar = none → H tl = none → H' aw = some (.lst ((start y o p).words.map V.int)) → H' ar = some (.dK []) → H' tl = some (.lst [.int 0, .int 0, .int 0, .int 0, .int 0]) → H' bo = some (.ins C.B bd (bdF ⟨ho, hd, bo, bd, aw, ro, rd2, tl, ah⟩ ar (start y o p))) → (∀ b u, b ≠ bo → H b = some u → H' b = some u) → Q .non H'
theorem ok_binit (T : Txt K mg base) (C : Cs K) (LI : LaidI P w K mg base C) {f : Addr} {fd : FuncData} (F : Fun K "__init__" "Bound.__init__" s_Bound____init__ f fd) : FnOk P w K mg base CX0 2 f fd ["self", "room", "owner"] (sp_binit C) := by
  refine F.ok sc_Bound____init__ (fun vs H Q E h => ?_) (fun cdv A outer s H vs Q E hr h => ?_)
  · obtain ⟨_, _, _, _, _, _, _, _, rfl, _⟩ := h; rfl
  obtain ⟨bo, bd, ro, rd, ho, y, o, p, rfl, hb, hro, hsz, q⟩ := h
  refine ⟨_, (pss_cons (ps_expr (pe_ucall (pe_glob (v := .ref LI.C) rfl LI.g rfl) LI.u LI.ok (hr.mono (by omega)) LI.b pass0 (pa_cons (pv 0) (pa_cons (pe_op op_rep (pe_lst (pa_cons pe_int pa_nil)) (pe_op op_add (pe_fld (pv 1) rfl) (pe_op op_mul pe_int (pe_fld (pv 1) rfl)))) pa_nil))))
    (pss_cons (ps_fld (pv 0) (pv 1) rfl)
    (pss_cons (ps_fld (pv 0) (pv 2) rfl)
    (pss_cons (ps_fld (pv 0) pe_int rfl)
    (pss_cons (ps_fld (pv 0) (pe_fld (pv 1) rfl) rfl)
    (pss_cons (ps_fld (pv 0) (pe_fld (pv 1) rfl) rfl)
    (pss_cons (ps_fld (pv 0) pe_int rfl)
    (pss_cons (ps_fld (pv 0) pe_int rfl)
    (pss_cons (ps_fld (pv 0) pe_int rfl)
    (pss_cons (ps_fld (pv 0) pe_dnewK rfl)
    (pss_cons (ps_fld (pv 0) pe_int rfl)
    (pss_one (ps_fld (pv 0) (pe_lst (pa_cons pe_int (pa_cons pe_int (pa_cons pe_int (pa_cons pe_int (pa_cons pe_int pa_nil)))))) rfl))))))))))))), ?_⟩
  have hz := line_eq
  refine ⟨rfl, _, rfl, (by show 1 ≤ sizeLine; rw [hz]; decide), fun p0 np0 => ?_⟩
  have nb0 : bo ≠ p0 := ne_of_none hb np0
  have nr0 : ro ≠ p0 := ne_of_none hro np0
  have hbr : bo ≠ ro := fun z => by
    rw [z, hro] at hb
    injection hb with hb
    injection hb with h1 h2 h3
    cases h3
  have k0 : ∀ b u, b ≠ bo → H b = some u → (upd H p0 (.lst [.int 0])) b = some u := fun b u _ e => by rw [upd_ne (ne_of_none e np0)]; exact e
  have hb0 : (upd H p0 (.lst [.int 0])) bo = some (.ins C.B bd []) := by rw [upd_ne nb0]; exact hb
  have hp0 : (upd H p0 (.lst [.int 0])) p0 = some (.lst [.int 0]) := upd_same
  have hn0 : ∀ b, (upd H p0 (.lst [.int 0])) b = none → H b = none := fun b e => by
    cases e2 : H b with
    | none => rfl
    | some u => rw [upd_ne (ne_of_none e2 np0), e2] at e; cases e
  have hro0 := k0 ro _ (Ne.symm hbr) hro
  generalize upd H p0 (.lst [.int 0]) = G0 at k0 hb0 hp0 hn0 hro0 ⊢
  refine ⟨_, rfl, _, _, _, _, _, rfl, hro0, C.rcl, C.young, rfl, _, rfl, _, _, _, _, _, rfl, hro0, C.rcl, C.old, rfl, _, _, rfl, rfl, .inl ⟨by decide, by decide⟩, _, _, rfl, rfl, p0, _, _, rfl, rfl, hp0, (by omega), (by omega), (by show 1 * ((y : Int) + 2 * (o : Int)).toNat ≤ _; omega), fun aw naw => ?_⟩
  have ew : (List.replicate ((y : Int) + 2 * (o : Int)).toNat [V.int 0]).flatten = (start y o p).words.map V.int := by
    show _ = (List.replicate (y + 2 * o) (0 : Int)).map V.int
    rw [show ((y : Int) + 2 * (o : Int)).toNat = y + 2 * o from by omega, List.map_replicate]
    generalize y + 2 * o = n
    induction n with
    | zero => rfl
    | succ n ih => rw [List.replicate_succ, List.flatten_cons, ih, List.replicate_succ]; rfl
  rw [ew]
  have nHaw : H aw = none := hn0 aw naw
  have nba : bo ≠ aw := ne_of_none hb0 naw
  have k1 : ∀ b u, b ≠ bo → H b = some u → (upd G0 aw (.lst ((start y o p).words.map V.int))) b = some u := fun b u n e => by rw [upd_ne (ne_of_none (k0 b u n e) naw)]; exact k0 b u n e
  have hb1 : (upd G0 aw (.lst ((start y o p).words.map V.int))) bo = some (.ins C.B bd []) := by rw [upd_ne nba]; exact hb0
  have ha1 : (upd G0 aw (.lst ((start y o p).words.map V.int))) aw = some (.lst ((start y o p).words.map V.int)) := upd_same
  have hn1 : ∀ b, (upd G0 aw (.lst ((start y o p).words.map V.int))) b = none → H b = none := fun b e => by
    refine hn0 b ?_
    cases e2 : G0 b with
    | none => rfl
    | some u => rw [upd_ne (ne_of_none e2 naw), e2] at e; cases e
  generalize upd G0 aw (.lst ((start y o p).words.map V.int)) = G1 at k1 hb1 ha1 hn1 ⊢
  refine ⟨bo, _, bd, rfl, hb1, ?_⟩
  have k2 : ∀ b u, b ≠ bo → H b = some u → (upd G1 bo (.ins C.B bd [("words", .ref aw)])) b = some u := fun b u n e => by rw [upd_ne n]; exact k1 b u n e
  have hb2 : (upd G1 bo (.ins C.B bd [("words", .ref aw)])) bo = some (.ins C.B bd [("words", .ref aw)]) := upd_same
  have ha2 : (upd G1 bo (.ins C.B bd [("words", .ref aw)])) aw = some (.lst ((start y o p).words.map V.int)) := by rw [upd_ne nba.symm]; exact ha1
  have hn2 : ∀ b, (upd G1 bo (.ins C.B bd [("words", .ref aw)])) b = none → H b = none := fun b e => by
    by_cases z : b = bo
    · rw [z, upd_same] at e; cases e
    · rw [upd_ne z] at e; exact hn1 b e
  dsimp only
  show tSeq _ _ _ _ (upd G1 bo (.ins C.B bd [("words", .ref aw)]))
  generalize upd G1 bo (.ins C.B bd [("words", .ref aw)]) = G2 at k2 hb2 hn2 ha2 ⊢
  refine ⟨_, rfl, _, rfl, bo, C.B, bd, _, rfl, hb2, C.bcl, C.room, (by show 1 < 1000; omega), ?_⟩
  have k3 : ∀ b u, b ≠ bo → H b = some u → (upd G2 bo (.ins C.B bd [("words", .ref aw), ("room", .ref ro)])) b = some u := fun b u n e => by rw [upd_ne n]; exact k2 b u n e
  have hb3 : (upd G2 bo (.ins C.B bd [("words", .ref aw), ("room", .ref ro)])) bo = some (.ins C.B bd [("words", .ref aw), ("room", .ref ro)]) := upd_same
  have ha3 : (upd G2 bo (.ins C.B bd [("words", .ref aw), ("room", .ref ro)])) aw = some (.lst ((start y o p).words.map V.int)) := by rw [upd_ne nba.symm]; exact ha2
  have hn3 : ∀ b, (upd G2 bo (.ins C.B bd [("words", .ref aw), ("room", .ref ro)])) b = none → H b = none := fun b e => by
    by_cases z : b = bo
    · rw [z, upd_same] at e; cases e
    · rw [upd_ne z] at e; exact hn2 b e
  dsimp only
  show tSeq _ _ _ _ (upd G2 bo (.ins C.B bd [("words", .ref aw), ("room", .ref ro)]))
  generalize upd G2 bo (.ins C.B bd [("words", .ref aw), ("room", .ref ro)]) = G3 at k3 hb3 hn3 ha3 ⊢
  refine ⟨_, rfl, _, rfl, bo, C.B, bd, _, rfl, hb3, C.bcl, C.owner, (by show 2 < 1000; omega), ?_⟩
  have k4 : ∀ b u, b ≠ bo → H b = some u → (upd G3 bo (.ins C.B bd [("words", .ref aw), ("room", .ref ro), ("owner", .ref ho)])) b = some u := fun b u n e => by rw [upd_ne n]; exact k3 b u n e
  have hb4 : (upd G3 bo (.ins C.B bd [("words", .ref aw), ("room", .ref ro), ("owner", .ref ho)])) bo = some (.ins C.B bd [("words", .ref aw), ("room", .ref ro), ("owner", .ref ho)]) := upd_same
  have ha4 : (upd G3 bo (.ins C.B bd [("words", .ref aw), ("room", .ref ro), ("owner", .ref ho)])) aw = some (.lst ((start y o p).words.map V.int)) := by rw [upd_ne nba.symm]; exact ha3
  have hn4 : ∀ b, (upd G3 bo (.ins C.B bd [("words", .ref aw), ("room", .ref ro), ("owner", .ref ho)])) b = none → H b = none := fun b e => by
    by_cases z : b = bo
    · rw [z, upd_same] at e; cases e
    · rw [upd_ne z] at e; exact hn3 b e
  dsimp only
  show tSeq _ _ _ _ (upd G3 bo (.ins C.B bd [("words", .ref aw), ("room", .ref ro), ("owner", .ref ho)]))
  generalize upd G3 bo (.ins C.B bd [("words", .ref aw), ("room", .ref ro), ("owner", .ref ho)]) = G4 at k4 hb4 hn4 ha4 ⊢
  refine ⟨_, rfl, bo, C.B, bd, _, rfl, hb4, C.bcl, C.use, (by show 3 < 1000; omega), ?_⟩
  have k5 : ∀ b u, b ≠ bo → H b = some u → (upd G4 bo (.ins C.B bd [("words", .ref aw), ("room", .ref ro), ("owner", .ref ho), ("use", .int 0)])) b = some u := fun b u n e => by rw [upd_ne n]; exact k4 b u n e
  have hb5 : (upd G4 bo (.ins C.B bd [("words", .ref aw), ("room", .ref ro), ("owner", .ref ho), ("use", .int 0)])) bo = some (.ins C.B bd [("words", .ref aw), ("room", .ref ro), ("owner", .ref ho), ("use", .int 0)]) := upd_same
  have ha5 : (upd G4 bo (.ins C.B bd [("words", .ref aw), ("room", .ref ro), ("owner", .ref ho), ("use", .int 0)])) aw = some (.lst ((start y o p).words.map V.int)) := by rw [upd_ne nba.symm]; exact ha4
  have hn5 : ∀ b, (upd G4 bo (.ins C.B bd [("words", .ref aw), ("room", .ref ro), ("owner", .ref ho), ("use", .int 0)])) b = none → H b = none := fun b e => by
    by_cases z : b = bo
    · rw [z, upd_same] at e; cases e
    · rw [upd_ne z] at e; exact hn4 b e
  dsimp only
  show tSeq _ _ _ _ (upd G4 bo (.ins C.B bd [("words", .ref aw), ("room", .ref ro), ("owner", .ref ho), ("use", .int 0)]))
  generalize upd G4 bo (.ins C.B bd [("words", .ref aw), ("room", .ref ro), ("owner", .ref ho), ("use", .int 0)]) = G5 at k5 hb5 hn5 ha5 ⊢
  refine ⟨_, rfl, _, _, _, _, _, rfl, k5 ro _ (Ne.symm hbr) hro, C.rcl, C.young, rfl, _, rfl, bo, C.B, bd, _, rfl, hb5, C.bcl, C.free, (by show 4 < 1000; omega), ?_⟩
  have k6 : ∀ b u, b ≠ bo → H b = some u → (upd G5 bo (.ins C.B bd [("words", .ref aw), ("room", .ref ro), ("owner", .ref ho), ("use", .int 0), ("free", .int (y : Int))])) b = some u := fun b u n e => by rw [upd_ne n]; exact k5 b u n e
  have hb6 : (upd G5 bo (.ins C.B bd [("words", .ref aw), ("room", .ref ro), ("owner", .ref ho), ("use", .int 0), ("free", .int (y : Int))])) bo = some (.ins C.B bd [("words", .ref aw), ("room", .ref ro), ("owner", .ref ho), ("use", .int 0), ("free", .int (y : Int))]) := upd_same
  have ha6 : (upd G5 bo (.ins C.B bd [("words", .ref aw), ("room", .ref ro), ("owner", .ref ho), ("use", .int 0), ("free", .int (y : Int))])) aw = some (.lst ((start y o p).words.map V.int)) := by rw [upd_ne nba.symm]; exact ha5
  have hn6 : ∀ b, (upd G5 bo (.ins C.B bd [("words", .ref aw), ("room", .ref ro), ("owner", .ref ho), ("use", .int 0), ("free", .int (y : Int))])) b = none → H b = none := fun b e => by
    by_cases z : b = bo
    · rw [z, upd_same] at e; cases e
    · rw [upd_ne z] at e; exact hn5 b e
  dsimp only
  show tSeq _ _ _ _ (upd G5 bo (.ins C.B bd [("words", .ref aw), ("room", .ref ro), ("owner", .ref ho), ("use", .int 0), ("free", .int (y : Int))]))
  generalize upd G5 bo (.ins C.B bd [("words", .ref aw), ("room", .ref ro), ("owner", .ref ho), ("use", .int 0), ("free", .int (y : Int))]) = G6 at k6 hb6 hn6 ha6 ⊢
  refine ⟨_, rfl, _, _, _, _, _, rfl, k6 ro _ (Ne.symm hbr) hro, C.rcl, C.young, rfl, _, rfl, bo, C.B, bd, _, rfl, hb6, C.bcl, C.scan, (by show 5 < 1000; omega), ?_⟩
  have k7 : ∀ b u, b ≠ bo → H b = some u → (upd G6 bo (.ins C.B bd [("words", .ref aw), ("room", .ref ro), ("owner", .ref ho), ("use", .int 0), ("free", .int (y : Int)), ("scan", .int (y : Int))])) b = some u := fun b u n e => by rw [upd_ne n]; exact k6 b u n e
  have hb7 : (upd G6 bo (.ins C.B bd [("words", .ref aw), ("room", .ref ro), ("owner", .ref ho), ("use", .int 0), ("free", .int (y : Int)), ("scan", .int (y : Int))])) bo = some (.ins C.B bd [("words", .ref aw), ("room", .ref ro), ("owner", .ref ho), ("use", .int 0), ("free", .int (y : Int)), ("scan", .int (y : Int))]) := upd_same
  have ha7 : (upd G6 bo (.ins C.B bd [("words", .ref aw), ("room", .ref ro), ("owner", .ref ho), ("use", .int 0), ("free", .int (y : Int)), ("scan", .int (y : Int))])) aw = some (.lst ((start y o p).words.map V.int)) := by rw [upd_ne nba.symm]; exact ha6
  have hn7 : ∀ b, (upd G6 bo (.ins C.B bd [("words", .ref aw), ("room", .ref ro), ("owner", .ref ho), ("use", .int 0), ("free", .int (y : Int)), ("scan", .int (y : Int))])) b = none → H b = none := fun b e => by
    by_cases z : b = bo
    · rw [z, upd_same] at e; cases e
    · rw [upd_ne z] at e; exact hn6 b e
  dsimp only
  show tSeq _ _ _ _ (upd G6 bo (.ins C.B bd [("words", .ref aw), ("room", .ref ro), ("owner", .ref ho), ("use", .int 0), ("free", .int (y : Int)), ("scan", .int (y : Int))]))
  generalize upd G6 bo (.ins C.B bd [("words", .ref aw), ("room", .ref ro), ("owner", .ref ho), ("use", .int 0), ("free", .int (y : Int)), ("scan", .int (y : Int))]) = G7 at k7 hb7 hn7 ha7 ⊢
  refine ⟨_, rfl, bo, C.B, bd, _, rfl, hb7, C.bcl, C.top, (by show 6 < 1000; omega), ?_⟩
  have k8 : ∀ b u, b ≠ bo → H b = some u → (upd G7 bo (.ins C.B bd [("words", .ref aw), ("room", .ref ro), ("owner", .ref ho), ("use", .int 0), ("free", .int (y : Int)), ("scan", .int (y : Int)), ("top", .int 0)])) b = some u := fun b u n e => by rw [upd_ne n]; exact k7 b u n e
  have hb8 : (upd G7 bo (.ins C.B bd [("words", .ref aw), ("room", .ref ro), ("owner", .ref ho), ("use", .int 0), ("free", .int (y : Int)), ("scan", .int (y : Int)), ("top", .int 0)])) bo = some (.ins C.B bd [("words", .ref aw), ("room", .ref ro), ("owner", .ref ho), ("use", .int 0), ("free", .int (y : Int)), ("scan", .int (y : Int)), ("top", .int 0)]) := upd_same
  have ha8 : (upd G7 bo (.ins C.B bd [("words", .ref aw), ("room", .ref ro), ("owner", .ref ho), ("use", .int 0), ("free", .int (y : Int)), ("scan", .int (y : Int)), ("top", .int 0)])) aw = some (.lst ((start y o p).words.map V.int)) := by rw [upd_ne nba.symm]; exact ha7
  have hn8 : ∀ b, (upd G7 bo (.ins C.B bd [("words", .ref aw), ("room", .ref ro), ("owner", .ref ho), ("use", .int 0), ("free", .int (y : Int)), ("scan", .int (y : Int)), ("top", .int 0)])) b = none → H b = none := fun b e => by
    by_cases z : b = bo
    · rw [z, upd_same] at e; cases e
    · rw [upd_ne z] at e; exact hn7 b e
  dsimp only
  show tSeq _ _ _ _ (upd G7 bo (.ins C.B bd [("words", .ref aw), ("room", .ref ro), ("owner", .ref ho), ("use", .int 0), ("free", .int (y : Int)), ("scan", .int (y : Int)), ("top", .int 0)]))
  generalize upd G7 bo (.ins C.B bd [("words", .ref aw), ("room", .ref ro), ("owner", .ref ho), ("use", .int 0), ("free", .int (y : Int)), ("scan", .int (y : Int)), ("top", .int 0)]) = G8 at k8 hb8 hn8 ha8 ⊢
  refine ⟨_, rfl, bo, C.B, bd, _, rfl, hb8, C.bcl, C.left, (by show 7 < 1000; omega), ?_⟩
  have k9 : ∀ b u, b ≠ bo → H b = some u → (upd G8 bo (.ins C.B bd [("words", .ref aw), ("room", .ref ro), ("owner", .ref ho), ("use", .int 0), ("free", .int (y : Int)), ("scan", .int (y : Int)), ("top", .int 0), ("left", .int 0)])) b = some u := fun b u n e => by rw [upd_ne n]; exact k8 b u n e
  have hb9 : (upd G8 bo (.ins C.B bd [("words", .ref aw), ("room", .ref ro), ("owner", .ref ho), ("use", .int 0), ("free", .int (y : Int)), ("scan", .int (y : Int)), ("top", .int 0), ("left", .int 0)])) bo = some (.ins C.B bd [("words", .ref aw), ("room", .ref ro), ("owner", .ref ho), ("use", .int 0), ("free", .int (y : Int)), ("scan", .int (y : Int)), ("top", .int 0), ("left", .int 0)]) := upd_same
  have ha9 : (upd G8 bo (.ins C.B bd [("words", .ref aw), ("room", .ref ro), ("owner", .ref ho), ("use", .int 0), ("free", .int (y : Int)), ("scan", .int (y : Int)), ("top", .int 0), ("left", .int 0)])) aw = some (.lst ((start y o p).words.map V.int)) := by rw [upd_ne nba.symm]; exact ha8
  have hn9 : ∀ b, (upd G8 bo (.ins C.B bd [("words", .ref aw), ("room", .ref ro), ("owner", .ref ho), ("use", .int 0), ("free", .int (y : Int)), ("scan", .int (y : Int)), ("top", .int 0), ("left", .int 0)])) b = none → H b = none := fun b e => by
    by_cases z : b = bo
    · rw [z, upd_same] at e; cases e
    · rw [upd_ne z] at e; exact hn8 b e
  dsimp only
  show tSeq _ _ _ _ (upd G8 bo (.ins C.B bd [("words", .ref aw), ("room", .ref ro), ("owner", .ref ho), ("use", .int 0), ("free", .int (y : Int)), ("scan", .int (y : Int)), ("top", .int 0), ("left", .int 0)]))
  generalize upd G8 bo (.ins C.B bd [("words", .ref aw), ("room", .ref ro), ("owner", .ref ho), ("use", .int 0), ("free", .int (y : Int)), ("scan", .int (y : Int)), ("top", .int 0), ("left", .int 0)]) = G9 at k9 hb9 hn9 ha9 ⊢
  refine ⟨_, rfl, bo, C.B, bd, _, rfl, hb9, C.bcl, C.copied, (by show 8 < 1000; omega), ?_⟩
  have k10 : ∀ b u, b ≠ bo → H b = some u → (upd G9 bo (.ins C.B bd [("words", .ref aw), ("room", .ref ro), ("owner", .ref ho), ("use", .int 0), ("free", .int (y : Int)), ("scan", .int (y : Int)), ("top", .int 0), ("left", .int 0), ("copied", .int 0)])) b = some u := fun b u n e => by rw [upd_ne n]; exact k9 b u n e
  have hb10 : (upd G9 bo (.ins C.B bd [("words", .ref aw), ("room", .ref ro), ("owner", .ref ho), ("use", .int 0), ("free", .int (y : Int)), ("scan", .int (y : Int)), ("top", .int 0), ("left", .int 0), ("copied", .int 0)])) bo = some (.ins C.B bd [("words", .ref aw), ("room", .ref ro), ("owner", .ref ho), ("use", .int 0), ("free", .int (y : Int)), ("scan", .int (y : Int)), ("top", .int 0), ("left", .int 0), ("copied", .int 0)]) := upd_same
  have ha10 : (upd G9 bo (.ins C.B bd [("words", .ref aw), ("room", .ref ro), ("owner", .ref ho), ("use", .int 0), ("free", .int (y : Int)), ("scan", .int (y : Int)), ("top", .int 0), ("left", .int 0), ("copied", .int 0)])) aw = some (.lst ((start y o p).words.map V.int)) := by rw [upd_ne nba.symm]; exact ha9
  have hn10 : ∀ b, (upd G9 bo (.ins C.B bd [("words", .ref aw), ("room", .ref ro), ("owner", .ref ho), ("use", .int 0), ("free", .int (y : Int)), ("scan", .int (y : Int)), ("top", .int 0), ("left", .int 0), ("copied", .int 0)])) b = none → H b = none := fun b e => by
    by_cases z : b = bo
    · rw [z, upd_same] at e; cases e
    · rw [upd_ne z] at e; exact hn9 b e
  dsimp only
  show tSeq _ _ _ _ (upd G9 bo (.ins C.B bd [("words", .ref aw), ("room", .ref ro), ("owner", .ref ho), ("use", .int 0), ("free", .int (y : Int)), ("scan", .int (y : Int)), ("top", .int 0), ("left", .int 0), ("copied", .int 0)]))
  generalize upd G9 bo (.ins C.B bd [("words", .ref aw), ("room", .ref ro), ("owner", .ref ho), ("use", .int 0), ("free", .int (y : Int)), ("scan", .int (y : Int)), ("top", .int 0), ("left", .int 0), ("copied", .int 0)]) = G10 at k10 hb10 hn10 ha10 ⊢
  intro ar nar
  have nbr : bo ≠ ar := ne_of_none hb10 nar
  have naar : aw ≠ ar := ne_of_none ha10 nar
  have k11 : ∀ b u, b ≠ bo → H b = some u → (upd G10 ar (.dK [])) b = some u := fun b u n e => by rw [upd_ne (ne_of_none (k10 b u n e) nar)]; exact k10 b u n e
  have hb11 : (upd G10 ar (.dK [])) bo = some (.ins C.B bd [("words", .ref aw), ("room", .ref ro), ("owner", .ref ho), ("use", .int 0), ("free", .int (y : Int)), ("scan", .int (y : Int)), ("top", .int 0), ("left", .int 0), ("copied", .int 0)]) := by rw [upd_ne nbr]; exact hb10
  have ha11 : (upd G10 ar (.dK [])) aw = some (.lst ((start y o p).words.map V.int)) := by rw [upd_ne naar]; exact ha10
  have hr11 : (upd G10 ar (.dK [])) ar = some (.dK []) := upd_same
  have nH : H ar = none := hn10 ar nar
  have hn11 : ∀ b, (upd G10 ar (.dK [])) b = none → H b = none := fun b e => by
    refine hn10 b ?_
    cases e2 : G10 b with
    | none => rfl
    | some u => rw [upd_ne (ne_of_none e2 nar), e2] at e; cases e
  generalize upd G10 ar (.dK []) = G11 at k11 hb11 ha11 hr11 hn11 ⊢
  refine ⟨_, rfl, bo, C.B, bd, _, rfl, hb11, C.bcl, C.rem, (by show 9 < 1000; omega), ?_⟩
  have k12 : ∀ b u, b ≠ bo → H b = some u → (upd G11 bo (.ins C.B bd [("words", .ref aw), ("room", .ref ro), ("owner", .ref ho), ("use", .int 0), ("free", .int (y : Int)), ("scan", .int (y : Int)), ("top", .int 0), ("left", .int 0), ("copied", .int 0), ("remembered", .ref ar)])) b = some u := fun b u n e => by rw [upd_ne n]; exact k11 b u n e
  have hb12 : (upd G11 bo (.ins C.B bd [("words", .ref aw), ("room", .ref ro), ("owner", .ref ho), ("use", .int 0), ("free", .int (y : Int)), ("scan", .int (y : Int)), ("top", .int 0), ("left", .int 0), ("copied", .int 0), ("remembered", .ref ar)])) bo = some (.ins C.B bd [("words", .ref aw), ("room", .ref ro), ("owner", .ref ho), ("use", .int 0), ("free", .int (y : Int)), ("scan", .int (y : Int)), ("top", .int 0), ("left", .int 0), ("copied", .int 0), ("remembered", .ref ar)]) := upd_same
  have ha12 : (upd G11 bo (.ins C.B bd [("words", .ref aw), ("room", .ref ro), ("owner", .ref ho), ("use", .int 0), ("free", .int (y : Int)), ("scan", .int (y : Int)), ("top", .int 0), ("left", .int 0), ("copied", .int 0), ("remembered", .ref ar)])) aw = some (.lst ((start y o p).words.map V.int)) := by rw [upd_ne nba.symm]; exact ha11
  have hr12 : (upd G11 bo (.ins C.B bd [("words", .ref aw), ("room", .ref ro), ("owner", .ref ho), ("use", .int 0), ("free", .int (y : Int)), ("scan", .int (y : Int)), ("top", .int 0), ("left", .int 0), ("copied", .int 0), ("remembered", .ref ar)])) ar = some (.dK []) := by rw [upd_ne nbr.symm]; exact hr11
  have hn12 : ∀ b, (upd G11 bo (.ins C.B bd [("words", .ref aw), ("room", .ref ro), ("owner", .ref ho), ("use", .int 0), ("free", .int (y : Int)), ("scan", .int (y : Int)), ("top", .int 0), ("left", .int 0), ("copied", .int 0), ("remembered", .ref ar)])) b = none → H b = none := fun b e => by
    by_cases z : b = bo
    · rw [z, upd_same] at e; cases e
    · rw [upd_ne z] at e; exact hn11 b e
  dsimp only
  show tSeq _ _ _ _ (upd G11 bo (.ins C.B bd [("words", .ref aw), ("room", .ref ro), ("owner", .ref ho), ("use", .int 0), ("free", .int (y : Int)), ("scan", .int (y : Int)), ("top", .int 0), ("left", .int 0), ("copied", .int 0), ("remembered", .ref ar)]))
  generalize upd G11 bo (.ins C.B bd [("words", .ref aw), ("room", .ref ro), ("owner", .ref ho), ("use", .int 0), ("free", .int (y : Int)), ("scan", .int (y : Int)), ("top", .int 0), ("left", .int 0), ("copied", .int 0), ("remembered", .ref ar)]) = G12 at k12 hb12 hn12 ha12 hr12 ⊢
  refine ⟨_, rfl, bo, C.B, bd, _, rfl, hb12, C.bcl, C.last, (by show 10 < 1000; omega), ?_⟩
  have k13 : ∀ b u, b ≠ bo → H b = some u → (upd G12 bo (.ins C.B bd [("words", .ref aw), ("room", .ref ro), ("owner", .ref ho), ("use", .int 0), ("free", .int (y : Int)), ("scan", .int (y : Int)), ("top", .int 0), ("left", .int 0), ("copied", .int 0), ("remembered", .ref ar), ("last", .int 0)])) b = some u := fun b u n e => by rw [upd_ne n]; exact k12 b u n e
  have hb13 : (upd G12 bo (.ins C.B bd [("words", .ref aw), ("room", .ref ro), ("owner", .ref ho), ("use", .int 0), ("free", .int (y : Int)), ("scan", .int (y : Int)), ("top", .int 0), ("left", .int 0), ("copied", .int 0), ("remembered", .ref ar), ("last", .int 0)])) bo = some (.ins C.B bd [("words", .ref aw), ("room", .ref ro), ("owner", .ref ho), ("use", .int 0), ("free", .int (y : Int)), ("scan", .int (y : Int)), ("top", .int 0), ("left", .int 0), ("copied", .int 0), ("remembered", .ref ar), ("last", .int 0)]) := upd_same
  have ha13 : (upd G12 bo (.ins C.B bd [("words", .ref aw), ("room", .ref ro), ("owner", .ref ho), ("use", .int 0), ("free", .int (y : Int)), ("scan", .int (y : Int)), ("top", .int 0), ("left", .int 0), ("copied", .int 0), ("remembered", .ref ar), ("last", .int 0)])) aw = some (.lst ((start y o p).words.map V.int)) := by rw [upd_ne nba.symm]; exact ha12
  have hr13 : (upd G12 bo (.ins C.B bd [("words", .ref aw), ("room", .ref ro), ("owner", .ref ho), ("use", .int 0), ("free", .int (y : Int)), ("scan", .int (y : Int)), ("top", .int 0), ("left", .int 0), ("copied", .int 0), ("remembered", .ref ar), ("last", .int 0)])) ar = some (.dK []) := by rw [upd_ne nbr.symm]; exact hr12
  have hn13 : ∀ b, (upd G12 bo (.ins C.B bd [("words", .ref aw), ("room", .ref ro), ("owner", .ref ho), ("use", .int 0), ("free", .int (y : Int)), ("scan", .int (y : Int)), ("top", .int 0), ("left", .int 0), ("copied", .int 0), ("remembered", .ref ar), ("last", .int 0)])) b = none → H b = none := fun b e => by
    by_cases z : b = bo
    · rw [z, upd_same] at e; cases e
    · rw [upd_ne z] at e; exact hn12 b e
  dsimp only
  show sFld _ _ _ _ _ _ (upd G12 bo (.ins C.B bd [("words", .ref aw), ("room", .ref ro), ("owner", .ref ho), ("use", .int 0), ("free", .int (y : Int)), ("scan", .int (y : Int)), ("top", .int 0), ("left", .int 0), ("copied", .int 0), ("remembered", .ref ar), ("last", .int 0)]))
  generalize upd G12 bo (.ins C.B bd [("words", .ref aw), ("room", .ref ro), ("owner", .ref ho), ("use", .int 0), ("free", .int (y : Int)), ("scan", .int (y : Int)), ("top", .int 0), ("left", .int 0), ("copied", .int 0), ("remembered", .ref ar), ("last", .int 0)]) = G13 at k13 hb13 hn13 ha13 hr13 ⊢
  refine ⟨(by show 5 ≤ sizeLine; rw [hz]; decide), fun tl ntl => ?_⟩
  have nbt : bo ≠ tl := ne_of_none hb13 ntl
  refine ⟨_, rfl, bo, C.B, bd, _, rfl, (by rw [upd_ne nbt]; exact hb13), C.bcl, C.tally, (by show 11 < 1000; omega), ?_⟩
  refine q _ aw ar tl 0 0 0 naar (ne_of_none ha13 ntl) (ne_of_none hr13 ntl) nHaw nH (hn13 tl ntl) ?_ ?_ ?_ upd_same ?_
  · rw [upd_ne nba.symm, upd_ne (ne_of_none ha13 ntl)]; exact ha13
  · rw [upd_ne nbr.symm, upd_ne (ne_of_none hr13 ntl)]; exact hr13
  · rw [upd_ne nbt.symm, upd_same]
  · intro b u nb e
    rw [upd_ne nb, upd_ne (ne_of_none (k13 b u nb e) ntl)]; exact k13 b u nb e
end
end Wk
set_option maxRecDepth 100000
set_option maxHeartbeats 4000000
namespace Wk
open PySem L2 TL PyProof.Rows Hm
open SX (S S_len)
section
variable {P : Program} {w : World} {K : PySem.W.Frag} {mg : Str → Option Value} {base : Heap}
abbrev s_store_for : Stmt := top 66
theorem sc_store_for : FnScope ["room", "owner"] ["room", "owner"] (defScope s_store_for) := ⟨rfl, rfl, rfl, by decide +kernel, rfl, by decide +kernel, by decide +kernel⟩
def sp_storefor (C : Cs K) : Sp := fun vs H Q _ => ∃ ro rd ho, ∃ y o p : Nat, vs = [.ref ro, .ref ho] ∧ H ro = some (.ins C.R rd (roomF (.int y) (.int o) (.int p))) ∧ y + 2 * o ≤ 3000000 ∧
  ∀ H' bo bd aw ar tl hd ah rd2, [bo, aw, tl, ar].Nodup → (∀ b ∈ [bo, aw, tl, ar], H b = none) → H' aw = some (.lst ((start y o p).words.map V.int)) → H' ar = some (.dK []) → H' tl = some (.lst [.int 0, .int 0, .int 0, .int 0, .int 0]) → H' bo = some (.ins C.B bd (bdF ⟨ho, hd, bo, bd, aw, ro, rd2, tl, ah⟩ ar (start y o p))) → Same H H' → Q (.ref bo) H'
theorem ok_storefor (C : Cs K) {f : Addr} {fd : FuncData} (F : Fun K "store_for" "store_for" s_store_for f fd) (BM : MkD P w K mg base CX0 "Bound" C.B ["self", "room", "owner"] 2 (sp_binit C)) : FnOk P w K mg base CX0 4 f fd ["room", "owner"] (sp_storefor C) := by
  refine F.ok sc_store_for (fun vs H Q E h => ?_) (fun cdv A outer s H vs Q E hr h => ?_)
  · obtain ⟨_, _, _, _, _, _, rfl, _⟩ := h; rfl
  obtain ⟨ro, rd, ho, y, o, p, rfl, hro, hsz, q⟩ := h
  refine ⟨_, (pss_one (ps_ret (pe_ifExp (pt_cmpR op_isN (pv 0) pe_non (nomark _)) pe_no (pe_make BM.made BM.ok (hr.mono (by omega)) rfl BM.g BM.b .nil pass0 (pa_cons (pv 0) (pa_cons (pv 1) pa_nil)))))), ?_⟩
  refine ⟨_, rfl, rfl, _, rfl, ?_⟩
  rw [show decide (V.ref ro = V.non) = false from decide_eq_false (fun z => by cases z)]
  refine iteF ⟨_, rfl, _, rfl, fun bo bd nbo nbd nne => ?_⟩
  have nr1 : ro ≠ bo := ne_of_none hro nbo
  have nr2 : ro ≠ bd := ne_of_none hro nbd
  have keep : ∀ b u, H b = some u → (upd (upd H bd (.own bo)) bo (.ins C.B bd [])) b = some u := fun b u e => by rw [upd_ne (ne_of_none e nbo), upd_ne (ne_of_none e nbd)]; exact e
  have kn : ∀ b, (upd (upd H bd (.own bo)) bo (.ins C.B bd [])) b = none → H b = none ∧ b ≠ bo := fun b e => by
    by_cases z : b = bo
    · rw [z, upd_same] at e; cases e
    · rw [upd_ne z] at e
      by_cases z2 : b = bd
      · rw [z2, upd_same] at e; cases e
      · rw [upd_ne z2] at e; exact ⟨e, z⟩
  refine ⟨bo, bd, ro, rd, ho, y, o, p, rfl, upd_same, keep _ _ hro, hsz, fun H' aw ar tl hd ah rd2 n1 n2 n3 ha har ht h1 h2 h3 h4 hk => ⟨rfl, ?_⟩⟩
  obtain ⟨ha, ha'⟩ := kn _ ha
  obtain ⟨har, har'⟩ := kn _ har
  obtain ⟨ht, ht'⟩ := kn _ ht
  refine q H' bo bd aw ar tl hd ah rd2 ?_ ?_ h1 h2 h3 h4 ?_
  · simp only [List.nodup_cons, List.mem_cons, List.not_mem_nil, or_false, not_or, not_false_eq_true, List.nodup_nil, and_true]
    exact ⟨⟨ha'.symm, ht'.symm, har'.symm⟩, ⟨n2, n1⟩, n3.symm⟩
  · intro b hb
    simp only [List.mem_cons, List.not_mem_nil, or_false] at hb
    rcases hb with rfl | rfl | rfl | rfl
    · exact nbo
    · exact ha
    · exact ht
    · exact har
  · intro b u e
    exact hk b u (ne_of_none e nbo) (keep b u e)
abbrev s_Heap____init__ : Stmt := inClass (top 68) 0
theorem sc_Heap____init__ : FnScope ["self", "room"] ["self", "room"] (defScope s_Heap____init__) := ⟨rfl, rfl, rfl, by decide +kernel, rfl, by decide +kernel, by decide +kernel⟩
def sp_hinit (C : Cs K) : Sp := fun vs H Q _ => ∃ x dx ro rd, ∃ y o p : Nat, vs = [.ref x, .ref ro] ∧ H x = some (.ins C.H dx []) ∧ H ro = some (.ins C.R rd (roomF (.int y) (.int o) (.int p))) ∧ y ≤ 100000 ∧ o ≤ 1000000 ∧ y + 2 * o ≤ 3000000 ∧ ∀ H' F ar, F.ho = x → F.ro = ro → St C H' F ar [] (start y o p) → (∀ b u, b ≠ x → H b = some u → ¬ Own F ar [] b ∧ H' b = some u) → Q .non H'
theorem ok_hinit (C : Cs K) {f : Addr} {fd : FuncData} (F : Fun K "__init__" "Heap.__init__" s_Heap____init__ f fd) (D_check_room : Def P w K mg base CX0 "check_room" ["thing"] 1 (sp_croom C)) (D_store_for : Def P w K mg base CX0 "store_for" ["room", "owner"] 4 (sp_storefor C)) : FnOk P w K mg base CX0 5 f fd ["self", "room"] (sp_hinit C) := by
  refine F.ok sc_Heap____init__ (fun vs H Q E h => ?_) (fun cdv A outer s H vs Q E hr h => ?_)
  · obtain ⟨_, _, _, _, _, _, _, rfl, _⟩ := h; rfl
  obtain ⟨x, dx, ro, rd, y, o, p, rfl, hx, hro, hy, ho, hsz, q⟩ := h
  refine ⟨_, (pss_cons (ps_expr (pe_call D_check_room.ok (hr.mono (by omega)) rfl D_check_room.g D_check_room.k D_check_room.b .nil pass0 (pa_cons (pv 1) pa_nil)))
    (pss_cons (ps_fld (pv 0) pe_dnewK rfl)
    (pss_cons (ps_fld (pv 0) pe_int rfl)
    (pss_one (ps_fld (pv 0) (pe_call D_store_for.ok (hr.mono (by omega)) rfl D_store_for.g D_store_for.k D_store_for.b .nil pass0 (pa_cons (pv 1) (pa_cons (pv 0) pa_nil))) rfl))))), ?_⟩
  have hxr : x ≠ ro := fun z => by
    rw [z, hro] at hx
    injection hx with hx
    injection hx with h1 h2 h3
    cases h3
  refine ⟨_, rfl, ro, rd, _, rfl, hro, ?_⟩
  dsimp only
  intro ah nah
  have nxa : x ≠ ah := ne_of_none hx nah
  have nra : ro ≠ ah := ne_of_none hro nah
  have hx1 : (upd H ah (.dK [])) x = some (.ins C.H dx []) := by rw [upd_ne nxa]; exact hx
  have hr1 : (upd H ah (.dK [])) ro = some (.ins C.R rd (roomF (.int y) (.int o) (.int p))) := by rw [upd_ne nra]; exact hro
  have ha1 : (upd H ah (.dK [])) ah = some (.dK []) := upd_same
  have k1 : Same H (upd H ah (.dK [])) := same_new nah _
  generalize upd H ah (.dK []) = H1 at hx1 hr1 ha1 k1 ⊢
  refine ⟨_, rfl, x, C.H, dx, _, rfl, hx1, C.hcl, C.handles, (by show 0 < 1000; omega), ?_⟩
  have hx2 : (upd H1 x (.ins C.H dx [("handles", .ref ah)])) x = some (.ins C.H dx [("handles", .ref ah)]) := upd_same
  have k2 : ∀ b u, b ≠ x → H1 b = some u → (upd H1 x (.ins C.H dx [("handles", .ref ah)])) b = some u := fun b u n e => by rw [upd_ne n]; exact e
  dsimp only
  show tSeq _ _ _ _ (upd H1 x (.ins C.H dx [("handles", .ref ah)]))
  generalize upd H1 x (.ins C.H dx [("handles", .ref ah)]) = H2 at hx2 k2 ⊢
  refine ⟨_, rfl, x, C.H, dx, _, rfl, hx2, C.hcl, C.next, (by show 1 < 1000; omega), ?_⟩
  have hx3 : (upd H2 x (.ins C.H dx [("handles", .ref ah), ("next_handle", .int 0)])) x = some (.ins C.H dx [("handles", .ref ah), ("next_handle", .int 0)]) := upd_same
  have k3 : ∀ b u, b ≠ x → H1 b = some u → (upd H2 x (.ins C.H dx [("handles", .ref ah), ("next_handle", .int 0)])) b = some u := fun b u n e => by rw [upd_ne n]; exact k2 b u n e
  dsimp only
  show sFld _ _ _ _ _ _ (upd H2 x (.ins C.H dx [("handles", .ref ah), ("next_handle", .int 0)]))
  generalize upd H2 x (.ins C.H dx [("handles", .ref ah), ("next_handle", .int 0)]) = H3 at hx3 k3 ⊢
  refine ⟨_, rfl, _, rfl, ro, rd, x, y, o, p, rfl, k3 _ _ hxr.symm hr1, hsz, fun H4 bo bd aw ar tl hd0 ah0 rd2 nd nn ha har ht hb g4 => ?_⟩
  have hx4 := g4 _ _ hx3
  have ha4 := g4 _ _ (k3 _ _ nxa.symm ha1)
  have hr4 := g4 _ _ (k3 _ _ hxr.symm hr1)
  have nxs : ∀ b ∈ [bo, aw, tl, ar], x ≠ b ∧ ah ≠ b ∧ ro ≠ b := fun b hb' => ⟨ne_of_none hx3 (nn b hb'), ne_of_none (k3 _ _ nxa.symm ha1) (nn b hb'), ne_of_none (k3 _ _ hxr.symm hr1) (nn b hb')⟩
  refine ⟨_, rfl, x, C.H, dx, _, rfl, hx4, C.hcl, C.store, (by show 2 < 1000; omega), ?_⟩
  have kx : ∀ {b u}, b ≠ x → H4 b = some u → (upd H4 x (.ins C.H dx [("handles", .ref ah), ("next_handle", .int 0), ("store", .ref bo)])) b = some u := fun n e => by rw [upd_ne n]; exact e
  obtain ⟨b1, b2, b3⟩ := nxs bo (by simp)
  obtain ⟨c1, c2, c3⟩ := nxs aw (by simp)
  obtain ⟨d1, d2, d3⟩ := nxs tl (by simp)
  obtain ⟨e1, e2, e3⟩ := nxs ar (by simp)
  simp only [List.nodup_cons, List.mem_cons, List.not_mem_nil, or_false, not_or, not_false_eq_true, List.nodup_nil, and_true] at nd
  obtain ⟨⟨m1, m2, m3⟩, ⟨m4, m5⟩, m6⟩ := nd
  refine q _ ⟨x, dx, bo, bd, aw, ro, rd, tl, ah⟩ ar rfl rfl ⟨kx b1.symm hb, kx c1.symm ha, kx e1.symm har, kx d1.symm ht, upd_same, kx nxa.symm ha4, trivial, kx hxr.symm hr4, ?_, ?_, Nat.zero_le _, Nat.zero_le _, ?_, rfl⟩ ?_
  · simp only [own7, List.append_nil, List.nodup_cons, List.mem_cons, List.not_mem_nil, or_false, not_or, not_false_eq_true, List.nodup_nil, and_true]
    exact ⟨⟨hxr.symm, b3, c3, d3, nra, e3⟩, ⟨b1, c1, d1, nxa, e1⟩, ⟨m1, m2, b2.symm, m3⟩, ⟨m4, c2.symm, m5⟩, ⟨d2.symm, m6⟩, e2⟩
  · show (List.replicate (y + 2 * o) (0 : Int)).length ≤ 3000000
    rw [List.length_replicate]; exact hsz
  · refine ⟨?_, ?_, ?_, ?_⟩
    · show (0 : Int) ≤ (y : Int); omega
    · show (y : Int) ≤ 100000; omega
    · show (0 : Int) ≤ (o : Int); omega
    · show (o : Int) ≤ 1000000; omega
  · intro b u nb e
    have h1 := k1 _ _ e
    have h3 := k3 b u nb h1
    refine ⟨fun z => ?_, kx nb (g4 _ _ h3)⟩
    rcases z with z | z
    · simp only [own7, List.mem_cons, List.not_mem_nil, or_false] at z
      rcases z with rfl | rfl | rfl | rfl | rfl | rfl
      · exact nb rfl
      · rw [nn _ (by simp)] at h3; cases h3
      · rw [nn _ (by simp)] at h3; cases h3
      · rw [nn _ (by simp)] at h3; cases h3
      · rw [e] at nah; cases nah
      · rw [nn _ (by simp)] at h3; cases h3
    · cases z
end
end Wk
set_option maxRecDepth 100000
set_option maxHeartbeats 2000000
/-! Words of a room as a memory: what is read behind what is written. -/
namespace Gc
open Hm
def rd (ws : List Int) (i : Int) : Int := ws.getD i.toNat 0
theorem gI_rd {ws : List Int} {i : Int} (h0 : 0 ≤ i) (h1 : i < ws.length) : gI ws i = some (rd ws i) := by
  have h2 : i.toNat < ws.length := by omega
  simp [gI, rd, h0, List.getElem?_eq_getElem h2, List.getD, h2]
theorem rd_set {ws : List Int} {i j v : Int} (h0 : 0 ≤ i) (h1 : i < ws.length) (hj : 0 ≤ j) : rd (ws.set i.toNat v) j = if j = i then v else rd ws j := by
  have h2 : i.toNat < ws.length := by omega
  unfold rd
  by_cases h : j = i
  · subst h; simp [List.getD, h2]
  · have : i.toNat ≠ j.toNat := by omega
    simp [List.getD, h, this]
theorem sI_rd {ws : List Int} {i : Int} (v : Int) (h0 : 0 ≤ i) (h1 : i < ws.length) :
    ∃ w, sI ws i v = some w ∧ w.length = ws.length ∧ ∀ j, 0 ≤ j → rd w j = if j = i then v else rd ws j := by
  refine ⟨ws.set i.toNat v, by simp [sI, h0, h1], by simp, fun j hj => rd_set h0 h1 hj⟩
theorem gS_rd {ws : List Int} {a b : Int} (h0 : 0 ≤ a) (h1 : a ≤ b) (h2 : b ≤ ws.length) :
    ∃ y, gS ws a b = some y ∧ (y.length : Int) = b - a ∧ ∀ i, 0 ≤ i → i < b - a → rd y i = rd ws (a + i) := by
  refine ⟨(ws.drop a.toNat).take (b.toNat - a.toNat), by simp [gS, h0, h1, h2], ?_, fun i hi hb => ?_⟩
  · simp only [List.length_take, List.length_drop]; omega
  · unfold rd
    have e : (a + i).toNat = a.toNat + i.toNat := by omega
    have l : i.toNat < b.toNat - a.toNat := by omega
    simp [List.getD, e, List.getElem?_take, l]
theorem setS_rd {ws ys : List Int} {a b : Int} (h0 : 0 ≤ a) (h1 : a ≤ b) (h2 : b ≤ ws.length) (h3 : b - a = ys.length) :
    ∃ w, setS ws a b ys = some w ∧ w.length = ws.length ∧ ∀ j, 0 ≤ j → rd w j = if a ≤ j ∧ j < b then rd ys (j - a) else rd ws j := by
  refine ⟨ws.take a.toNat ++ ys ++ ws.drop b.toNat, by simp [setS, h0, h1, h2, h3], ?_, fun j hj => ?_⟩
  · simp only [List.length_append, List.length_take, List.length_drop]; omega
  · have la : (ws.take a.toNat).length = a.toNat := by simp only [List.length_take]; omega
    unfold rd
    simp only [List.getD]
    by_cases c1 : j < a
    · have : ¬ (a ≤ j ∧ j < b) := by omega
      rw [if_neg this, List.append_assoc, List.getElem?_append_left (by omega), List.getElem?_take, if_pos (by omega)]
    · by_cases c2 : j < b
      · rw [if_pos ⟨by omega, c2⟩, List.getElem?_append_left (by rw [List.length_append]; omega), List.getElem?_append_right (by omega)]
        congr 2; omega
      · have : ¬ (a ≤ j ∧ j < b) := by omega
        rw [if_neg this, List.getElem?_append_right (by rw [List.length_append]; omega), List.getElem?_drop]
        congr 2; rw [List.length_append]; omega
/-- a thing that is copied to where it is free -/
theorem moved_new {s : Bd} {a k : Int} (ha : 0 ≤ a) (hk : 0 ≤ k) (hl : a + k + 2 ≤ s.words.length) (hh : 0 ≤ rd s.words a) (hs : rd s.words a / 8 = k)
    (hf : 0 ≤ s.free) (hfl : s.free + k + 2 ≤ s.words.length) (hd : a + k + 2 ≤ s.free ∨ s.free + k + 2 ≤ a) :
    ∃ w, moved s a = some (s.free, { s with words := w, free := s.free + k + 2 }) ∧ w.length = s.words.length ∧
      ∀ j, 0 ≤ j → rd w j = if j = a then -1 - s.free else if s.free ≤ j ∧ j < s.free + k + 2 then rd s.words (a + (j - s.free)) else rd s.words j := by
  obtain ⟨y, e1, l1, r1⟩ := gS_rd (ws := s.words) (a := a) (b := a + (k + 2)) ha (by omega) (by omega)
  obtain ⟨w1, e2, l2, r2⟩ := setS_rd (ws := s.words) (ys := y) (a := s.free) (b := s.free + (k + 2)) hf (by omega) (by omega) (by omega)
  obtain ⟨w2, e3, l3, r3⟩ := sI_rd (ws := w1) (i := a) (-1 - s.free) ha (by omega)
  refine ⟨w2, ?_, by omega, fun j hj => ?_⟩
  · unfold moved
    rw [gI_rd ha (by omega)]
    simp only [if_neg (show ¬ rd s.words a < 0 by omega), hs, e1, e2, e3]
    rw [Int.add_assoc]
  · rw [r3 j hj]
    by_cases c : j = a
    · simp [c]
    · rw [if_neg c, if_neg c, r2 j hj]
      by_cases d : s.free ≤ j ∧ j < s.free + k + 2
      · rw [if_pos d, if_pos (by omega), r1 _ (by omega) (by omega)]
      · rw [if_neg d, if_neg (by omega)]
/-- one that was copied already -/
theorem moved_old {s : Bd} {a b : Int} (ha : 0 ≤ a) (hl : a < s.words.length) (hb : 0 ≤ b) (hh : rd s.words a = -1 - b) :
    moved s a = some (b, s) := by
  unfold moved
  rw [gI_rd ha hl, hh]
  simp only [if_pos (show -1 - b < 0 by omega)]
  congr 2; omega
end Gc
set_option maxRecDepth 100000
set_option maxHeartbeats 2000000
/-! A room's words and the graph that they mean; a thing is copied. -/
namespace Gc
open Hm
inductive Wo
  | word (n : Int)
  | thing (n : Int)
deriving DecidableEq
abbrev Gr := Int → Int × List Wo
def sumBy (g : Int × Int → Int) : List (Int × Int) → Int
  | [] => 0
  | p :: r => g p + sumBy g r
theorem sum_app (g) (a b : List (Int × Int)) : sumBy g (a ++ b) = sumBy g a + sumBy g b := by
  induction a with
  | nil => simp [sumBy]
  | cons p r ih => simp only [List.cons_append, sumBy, ih]; omega
theorem sum_same {g g' : Int × Int → Int} : ∀ {l : List (Int × Int)}, (∀ p ∈ l, g' p = g p) → sumBy g' l = sumBy g l
  | [], _ => rfl
  | p :: r, h => by rw [sumBy, sumBy, h p (by simp), sum_same fun q hq => h q (by simp [hq])]
theorem sum_upd {g g' : Int × Int → Int} {x : Int × Int} : ∀ {l : List (Int × Int)}, l.Nodup → x ∈ l → (∀ p ∈ l, p ≠ x → g' p = g p) → sumBy g' l = sumBy g l - g x + g' x
  | [], _, h, _ => by simp at h
  | p :: r, hn, hx, h => by
    rw [List.nodup_cons] at hn
    rw [sumBy, sumBy]
    by_cases c : p = x
    · subst c
      rw [sum_same (l := r) (g := g) (g' := g') fun q hq => h q (by simp [hq]) (by rintro rfl; exact hn.1 hq)]; omega
    · rw [h p (by simp) c, sum_upd hn.2 (by rcases List.mem_cons.1 hx with e | e; exact absurd e.symm c; exact e) fun q hq => h q (by simp [hq])]; omega
theorem sum_nonneg {g : Int × Int → Int} : ∀ {l : List (Int × Int)}, (∀ p ∈ l, 0 ≤ g p) → 0 ≤ sumBy g l
  | [], _ => Int.le_refl 0
  | p :: r, h => by have := sum_nonneg (l := r) fun q hq => h q (by simp [hq]); have := h p (by simp); rw [sumBy]; omega
theorem sum_mem {g : Int × Int → Int} {x} : ∀ {l : List (Int × Int)}, (∀ p ∈ l, 0 ≤ g p) → x ∈ l → g x ≤ sumBy g l
  | p :: r, h, hx => by
    have a := sum_nonneg (l := r) fun q hq => h q (by simp [hq])
    rcases List.mem_cons.1 hx with e | e
    · subst e; rw [sumBy]; omega
    · have := sum_mem (l := r) (fun q hq => h q (by simp [hq])) e; have := h p (by simp); rw [sumBy]; omega
def Val (vs : List (Int × Int)) (a : Int) : Prop := ∃ k, (a, k) ∈ vs
def Wor (ws : List Int) (vs : List (Int × Int)) (w : Int) (x : Wo) : Prop :=
  if isT w = true then Val vs (w / 8) ∧ x = .thing (rd ws (w / 8 + 1)) else x = .word w
def Thg (G : Gr) (ws : List Int) (vs : List (Int × Int)) (p : Int × Int) : Prop :=
  (G (rd ws (p.1 + 1))).1 = rd ws p.1 % 8 ∧ ((G (rd ws (p.1 + 1))).2.length : Int) = p.2 ∧
    ∀ i : Nat, (i : Int) < p.2 → Wor ws vs (rd ws (p.1 + 2 + i)) ((G (rd ws (p.1 + 1))).2.getD i (.word 0))
def lim (s : Bd) : Int := beginOf s s.use + s.old
def Dj (p q : Int × Int) : Prop := p.1 + p.2 + 2 ≤ q.1 ∨ q.1 + q.2 + 2 ≤ p.1
structure Co (G : Gr) (vs : List (Int × Int)) (s : Bd) : Prop where
  nd : vs.Nodup
  dj : ∀ p ∈ vs, ∀ q ∈ vs, p = q ∨ Dj p q
  bd : ∀ p ∈ vs, 0 ≤ p.1 ∧ 0 ≤ p.2 ∧ p.1 + p.2 + 2 ≤ s.words.length
  fr : ∀ p ∈ vs, p.1 + p.2 + 2 ≤ s.free ∨ lim s ≤ p.1
  hd : ∀ p ∈ vs, (0 ≤ rd s.words p.1 ∧ rd s.words p.1 / 8 = p.2 ∧ rd s.words p.1 % 8 ≤ 5) ∨
    (∃ b, rd s.words p.1 = -1 - b ∧ (b, p.2) ∈ vs ∧ 0 ≤ rd s.words b ∧ beginOf s s.use ≤ b ∧ b < s.free ∧ rd s.words (b + 1) = rd s.words (p.1 + 1))
  nu : ∀ p ∈ vs, beginOf s s.use ≤ p.1 → p.1 < lim s → 0 ≤ rd s.words p.1
  th : ∀ p ∈ vs, 0 ≤ rd s.words p.1 → Thg G s.words vs p
  un : ∀ p ∈ vs, ∀ q ∈ vs, 0 ≤ rd s.words p.1 → 0 ≤ rd s.words q.1 → rd s.words (p.1 + 1) = rd s.words (q.1 + 1) → p = q
  b0 : 0 ≤ beginOf s s.use ∧ beginOf s s.use ≤ s.free ∧ s.free ≤ lim s ∧ lim s ≤ s.words.length ∧ s.words.length ≤ 3000000
/-- one behind another from a to b -/
def Lay : Int → Int → List (Int × Int) → Prop
  | a, b, [] => a = b
  | a, b, p :: r => p.1 = a ∧ 0 ≤ p.2 ∧ Lay (a + p.2 + 2) b r
theorem lay_app : ∀ {a b c l m}, Lay a b l → Lay b c m → Lay a c (l ++ m)
  | a, b, c, [], m, h, h2 => by cases h; exact h2
  | a, b, c, p :: r, m, h, h2 => ⟨h.1, h.2.1, lay_app h.2.2 h2⟩
theorem lay_le : ∀ {a b l}, Lay a b l → a ≤ b
  | a, b, [], h => Int.le_of_eq h
  | a, b, p :: r, h => by have := lay_le h.2.2; have := h.2.1; omega
theorem lay_sum : ∀ {a b l}, Lay a b l → sumBy (fun p => p.2 + 2) l = b - a
  | a, b, [], h => by cases h; simp [sumBy]
  | a, b, p :: r, h => by rw [sumBy, lay_sum h.2.2]; omega
theorem lay_mem : ∀ {a b l p}, Lay a b l → p ∈ l → a ≤ p.1 ∧ 0 ≤ p.2 ∧ p.1 + p.2 + 2 ≤ b
  | a, b, q :: r, p, h, hp => by
    rcases List.mem_cons.1 hp with e | e
    · subst e; have := lay_le h.2.2; have := h.1; have := h.2.1; omega
    · have := lay_mem h.2.2 e; have := h.2.1; omega
/-- what stays when things are copied: positions in X may be led elsewhere -/
structure Mv (F : Int → Bool) (K : Int → Prop) (X : Int → Prop) (vs new : List (Int × Int)) (s s' : Bd) : Prop where
  eq : s' = { s with words := s'.words, free := s'.free, rows := s'.rows }
  len : s'.words.length = s.words.length
  le : s.free ≤ s'.free
  lay : Lay s.free s'.free new
  num : ∀ p ∈ vs, rd s'.words (p.1 + 1) = rd s.words (p.1 + 1)
  hdn : ∀ p ∈ vs, F p.1 = false → rd s'.words p.1 = rd s.words p.1
  hdf : ∀ p ∈ vs, 0 ≤ rd s'.words p.1 → rd s'.words p.1 = rd s.words p.1
  slt : ∀ p ∈ vs, ∀ i, 0 ≤ i → i < p.2 → ¬ X (p.1 + 2 + i) → rd s'.words (p.1 + 2 + i) = rd s.words (p.1 + 2 + i)
  led : ∀ p ∈ vs, ∀ i, 0 ≤ i → i < p.2 → rd s'.words (p.1 + 2 + i) = rd s.words (p.1 + 2 + i) ∨
    (isT (rd s.words (p.1 + 2 + i)) = true ∧ F (rd s.words (p.1 + 2 + i) / 8) = true ∧ isT (rd s'.words (p.1 + 2 + i)) = true ∧
      beginOf s s.use ≤ rd s'.words (p.1 + 2 + i) / 8 ∧ rd s'.words (p.1 + 2 + i) / 8 < s'.free)
  nw : ∀ p ∈ new, ∀ i, 0 ≤ i → i < p.2 → isT (rd s'.words (p.1 + 2 + i)) = true → K (rd s'.words (p.1 + 2 + i) / 8)
theorem isT_iff {w : Int} : isT w = true ↔ w % 8 = 0 := by simp [isT]
theorem wor_ext {ws ws' : List Int} {vs vs' : List (Int × Int)} {w : Int} {x : Wo} (h : Wor ws vs w x) (hs : ∀ p ∈ vs, p ∈ vs')
    (hn : ∀ p ∈ vs, rd ws' (p.1 + 1) = rd ws (p.1 + 1)) : Wor ws' vs' w x := by
  unfold Wor at h ⊢
  by_cases c : isT w = true
  · rw [if_pos c] at h ⊢
    obtain ⟨⟨k, hk⟩, e⟩ := h
    exact ⟨⟨k, hs _ hk⟩, by have := hn _ hk; simp only at this; rw [this]; exact e⟩
  · rw [if_neg c] at h ⊢; exact h
/-- a thing of another place is copied -/
theorem Co.move {G : Gr} {vs : List (Int × Int)} {s : Bd} (C : Co G vs s) {a k : Int} (hp : (a, k) ∈ vs) (hn : ¬ (beginOf s s.use ≤ a ∧ a < lim s))
    (h0 : 0 ≤ rd s.words a) (hl : s.free + k + 2 ≤ lim s) :
    ∃ w, moved s a = some (s.free, { s with words := w, free := s.free + k + 2 }) ∧
      Co G (vs ++ [(s.free, k)]) { s with words := w, free := s.free + k + 2 } ∧ w.length = s.words.length ∧
      (∀ p ∈ vs, p.1 ≠ a → rd w p.1 = rd s.words p.1) ∧ rd w a = -1 - s.free ∧
      (∀ p ∈ vs, rd w (p.1 + 1) = rd s.words (p.1 + 1)) ∧
      (∀ p ∈ vs, ∀ i, 0 ≤ i → i < p.2 → rd w (p.1 + 2 + i) = rd s.words (p.1 + 2 + i)) ∧
      rd w (s.free + 1) = rd s.words (a + 1) ∧ rd w s.free = rd s.words a ∧
      ∀ i, 0 ≤ i → i < k → rd w (s.free + 2 + i) = rd s.words (a + 2 + i) := by
  obtain ⟨ba, bk, bl⟩ := C.bd _ hp
  obtain ⟨z0, z1, z2, z3, z4⟩ := C.b0
  have fa := C.fr _ hp
  simp only at ba bk bl fa
  have hk : rd s.words a / 8 = k := by
    rcases C.hd _ hp with h | ⟨b, h, hb, -, c, -⟩
    · exact h.2.1
    · simp only at h; omega
  have h5 : rd s.words a % 8 ≤ 5 := by
    rcases C.hd _ hp with h | ⟨b, h, hb, -, c, -⟩
    · exact h.2.2
    · simp only at h; omega
  obtain ⟨w, e, l, r⟩ := moved_new (s := s) ba bk (by omega) h0 hk (by omega) (by omega) (by omega)
  have cell : ∀ p ∈ vs, ∀ j, p.1 ≤ j → j < p.1 + p.2 + 2 → j ≠ a → rd w j = rd s.words j := by
    intro p hq j h1 h2 h3
    have b := C.bd _ hq; have f := C.fr _ hq
    rw [r j (by omega), if_neg h3, if_neg (by omega)]
  have other : ∀ p ∈ vs, ∀ j, p.1 < j → j < p.1 + p.2 + 2 → j ≠ a := by
    rintro p hq j h1 h2 rfl
    rcases C.dj _ hq _ hp with h | h
    · subst h; simp at h1
    · unfold Dj at h; simp only at h; omega
  have hd1 : ∀ p ∈ vs, p.1 ≠ a → rd w p.1 = rd s.words p.1 := fun p hq h => cell p hq _ (by omega) (by have := C.bd _ hq; omega) h
  have wa : rd w a = -1 - s.free := by rw [r a ba, if_pos rfl]
  have num : ∀ p ∈ vs, rd w (p.1 + 1) = rd s.words (p.1 + 1) := fun p hq =>
    cell p hq _ (by omega) (by have := C.bd _ hq; omega) (other p hq _ (by omega) (by have := C.bd _ hq; omega))
  have slt : ∀ p ∈ vs, ∀ i, 0 ≤ i → i < p.2 → rd w (p.1 + 2 + i) = rd s.words (p.1 + 2 + i) := fun p hq i h1 h2 =>
    cell p hq _ (by omega) (by omega) (other p hq _ (by omega) (by omega))
  have nn : rd w (s.free + 1) = rd s.words (a + 1) := by
    rw [r _ (by omega), if_neg (by omega), if_pos (by omega)]; congr 1; omega
  have nh : rd w s.free = rd s.words a := by
    rw [r _ (by omega), if_neg (by omega), if_pos (by omega)]; congr 1; omega
  have ns : ∀ i, 0 ≤ i → i < k → rd w (s.free + 2 + i) = rd s.words (a + 2 + i) := by
    intro i h1 h2
    rw [r _ (by omega), if_neg (by omega), if_pos (by omega)]; congr 1; omega
  have same : ∀ p ∈ vs, p.1 = a → p = (a, k) := by
    intro p hq h
    rcases C.dj _ hq _ hp with h' | h'
    · exact h'
    · have := C.bd _ hq; unfold Dj at h'; simp only at h'; omega
  have nxt : ∀ p ∈ vs, p.1 ≠ s.free := by
    intro p hq h
    have := C.bd _ hq; have := C.fr _ hq; omega
  have old0 : ∀ p ∈ vs, 0 ≤ rd w p.1 → p.1 ≠ a ∧ 0 ≤ rd s.words p.1 := by
    intro p hq h
    by_cases c : p.1 = a
    · rw [c, wa] at h; omega
    · exact ⟨c, by rw [← hd1 p hq c]; exact h⟩
  have tg : ∀ p ∈ vs, 0 ≤ rd s.words p.1 → ∀ q : Int × Int, rd w (q.1 + 1) = rd s.words (p.1 + 1) → rd w q.1 = rd s.words p.1 → q.2 = p.2 →
      (∀ i, 0 ≤ i → i < p.2 → rd w (q.1 + 2 + i) = rd s.words (p.1 + 2 + i)) → Thg G w (vs ++ [(s.free, k)]) q := by
    intro p hq h q e1 e2 e3 e4
    obtain ⟨t1, t2, t3⟩ := C.th p hq h
    refine ⟨by rw [e1, e2]; exact t1, by rw [e1, e3]; exact t2, fun i hi => ?_⟩
    rw [e1, e4 i (by omega) (by omega)]
    exact wor_ext (t3 i (by omega)) (fun p hp => List.mem_append_left _ hp) num
  refine ⟨w, e, ⟨?_, ?_, ?_, ?_, ?_, ?_, ?_, ?_, ?_⟩, l, hd1, wa, num, slt, nn, nh, ns⟩
  · rw [List.nodup_append]
    refine ⟨C.nd, by simp, ?_⟩
    rintro p hq q hq2 rfl
    rw [List.mem_singleton] at hq2; subst hq2
    exact nxt _ hq rfl
  · intro p hq q hq2
    rcases List.mem_append.1 hq with h1 | h1 <;> rcases List.mem_append.1 hq2 with h2 | h2
    · exact C.dj p h1 q h2
    · rw [List.mem_singleton] at h2; subst h2
      have := C.bd p h1; have := C.fr p h1
      right; unfold Dj; simp only; omega
    · rw [List.mem_singleton] at h1; subst h1
      have := C.bd q h2; have := C.fr q h2
      right; unfold Dj; simp only; omega
    · rw [List.mem_singleton] at h1 h2; subst h1; subst h2; left; rfl
  · intro p hq
    rcases List.mem_append.1 hq with h1 | h1
    · have := C.bd p h1; simp only [l]; exact this
    · rw [List.mem_singleton] at h1; subst h1; simp only [l]; omega
  · intro p hq
    rcases List.mem_append.1 hq with h1 | h1
    · have := C.fr p h1
      rcases this with h | h
      · left; simp only; omega
      · right; exact h
    · rw [List.mem_singleton] at h1; subst h1; left; simp
  · intro p hq
    rcases List.mem_append.1 hq with h1 | h1
    · by_cases c : p.1 = a
      · have := same p h1 c; subst this
        right
        exact ⟨s.free, wa, by simp, by simp only [nh]; exact h0, z1, by simp only; omega, by simp only [nn, num (a, k) hp]⟩
      · rcases C.hd p h1 with h | ⟨b, g1, g2, g3, g4, g5, g6⟩
        · left; simp only [hd1 p h1 c]; exact h
        · right
          have ca : b ≠ a := by rintro rfl; exact hn ⟨g4, by omega⟩
          exact ⟨b, by simp only [hd1 p h1 c]; exact g1, List.mem_append_left _ g2, by have := hd1 _ g2 ca; simp only at this ⊢; rw [this]; exact g3, g4, by simp only; omega, by
            have := num _ g2; simp only at this ⊢; rw [this, num p h1]; exact g6⟩
    · rw [List.mem_singleton] at h1; subst h1
      left; simp only [nh]; exact ⟨h0, hk, h5⟩
  · intro p hq h1 h2
    rcases List.mem_append.1 hq with h | h
    · have c : p.1 ≠ a := by rintro rfl; exact hn ⟨h1, h2⟩
      simp only [hd1 p h c]; exact C.nu p h h1 h2
    · rw [List.mem_singleton] at h; subst h; simp only [nh]; exact h0
  · intro p hq h1
    rcases List.mem_append.1 hq with h | h
    · obtain ⟨c, d⟩ := old0 p h h1
      exact tg p h d p (num p h) (hd1 p h c) rfl (slt p h)
    · rw [List.mem_singleton] at h; subst h
      exact tg (a, k) hp h0 _ nn nh rfl ns
  · intro p hq q hq2 h1 h2 h3
    rcases List.mem_append.1 hq with g1 | g1 <;> rcases List.mem_append.1 hq2 with g2 | g2
    · simp only [num p g1, num q g2] at h3
      exact C.un p g1 q g2 (old0 p g1 h1).2 (old0 q g2 h2).2 h3
    · rw [List.mem_singleton] at g2; subst g2
      simp only [nn, num p g1] at h3
      have := C.un p g1 (a, k) hp (old0 p g1 h1).2 h0 h3
      subst this; exact absurd rfl (old0 _ g1 h1).1
    · rw [List.mem_singleton] at g1; subst g1
      simp only [nn, num q g2] at h3
      have := C.un q g2 (a, k) hp (old0 q g2 h2).2 h0 h3.symm
      subst this; exact absurd rfl (old0 _ g2 h2).1
    · rw [List.mem_singleton] at g1 g2; subst g1; subst g2; rfl
  · refine ⟨z0, ?_, hl, by simp only [l]; exact z3, by simp only [l]; exact z4⟩
    show beginOf s s.use ≤ _
    simp only; omega
end Gc
set_option maxRecDepth 100000
set_option maxHeartbeats 2000000
/-! A phase: things of one part (F) are copied into the half in use; a word that leads there is led on. -/
namespace Gc
open Hm
def unc (F : Int → Bool) (ws : List Int) (vs : List (Int × Int)) : Int := sumBy (fun p => if F p.1 = true ∧ 0 ≤ rd ws p.1 then p.2 + 2 else 0) vs
structure Ph (G : Gr) (F : Int → Bool) (K : Int → Prop) (rest : Int) (vs : List (Int × Int)) (s : Bd) : Prop where
  co : Co G vs s
  sp : s.free - beginOf s s.use + unc F s.words vs + rest ≤ s.old
  r0 : 0 ≤ rest
  nf : ∀ a, beginOf s s.use ≤ a → a < lim s → F a = false
  cl : ∀ q ∈ vs, F q.1 = true → 0 ≤ rd s.words q.1 → ∀ i, 0 ≤ i → i < q.2 → isT (rd s.words (q.1 + 2 + i)) = true → K (rd s.words (q.1 + 2 + i) / 8)
theorem Mv.refl {F K X vs} {s : Bd} : Mv F K X vs [] s s :=
  ⟨rfl, rfl, Int.le_refl _, rfl, fun _ _ => rfl, fun _ _ _ => rfl, fun _ _ _ => rfl, fun _ _ _ _ _ _ => rfl, fun _ _ _ _ _ => .inl rfl, fun _ h => by simp at h⟩
theorem Mv.trans {F K X Y vs n1 n2} {s s1 s2 : Bd} (A : Mv F K X vs n1 s s1) (B : Mv F K Y (vs ++ n1) n2 s1 s2)
    (hnf : ∀ a, beginOf s s.use ≤ a → a < lim s → F a = false) (hl : s2.free ≤ lim s) (hY : ∀ p ∈ n1, ∀ i, 0 ≤ i → i < p.2 → ¬ Y (p.1 + 2 + i)) :
    Mv F K (fun x => X x ∨ Y x) vs (n1 ++ n2) s s2 := by
  have bb : beginOf s1 s1.use = beginOf s s.use := by rw [A.eq]; rfl
  have L : ∀ {p}, p ∈ vs → p ∈ vs ++ n1 := fun h => List.mem_append_left _ h
  refine ⟨by rw [B.eq, A.eq], by rw [B.len, A.len], by have := A.le; have := B.le; omega, lay_app A.lay B.lay, fun p h => by rw [B.num p (L h), A.num p h],
    fun p h f => by rw [B.hdn p (L h) f, A.hdn p h f], fun p h f => ?_, fun p h i h1 h2 hx => ?_, fun p h i h1 h2 => ?_, fun p h i h1 h2 ht => ?_⟩
  · have := B.hdf p (L h) f
    rw [this]; exact A.hdf p h (by rw [← this]; exact f)
  · rw [B.slt p (L h) i h1 h2 (fun c => hx (.inr c)), A.slt p h i h1 h2 (fun c => hx (.inl c))]
  · rcases B.led p (L h) i h1 h2 with b | ⟨b1, b2, b3, b4, b5⟩
    · rcases A.led p h i h1 h2 with a | ⟨a1, a2, a3, a4, a5⟩
      · left; rw [b, a]
      · right; rw [b]; exact ⟨a1, a2, a3, a4, by have := B.le; omega⟩
    · rcases A.led p h i h1 h2 with a | ⟨a1, a2, a3, a4, a5⟩
      · right; rw [a] at b1 b2; exact ⟨b1, b2, b3, by rw [← bb]; exact b4, b5⟩
      · rw [hnf _ a4 (by have := B.le; omega)] at b2; exact absurd b2 (by simp)
  · rcases List.mem_append.1 h with h | h
    · have e := B.slt p (List.mem_append_right _ h) i h1 h2 (hY p h i h1 h2)
      rw [e] at ht ⊢; exact A.nw p h i h1 h2 ht
    · exact B.nw p h i h1 h2 ht
theorem Mv.weak {F K X Y vs n} {s s1 : Bd} (A : Mv F K X vs n s s1) (h : ∀ x, X x → Y x) : Mv F K Y vs n s s1 :=
  { A with slt := fun p hp i h1 h2 hx => A.slt p hp i h1 h2 fun c => hx (h _ c) }
theorem Ph.moved {G F K rest vs} {s : Bd} (P : Ph G F K rest vs s) {a k : Int} (hp : (a, k) ∈ vs) (hF : F a = true) :
    ∃ b s' new, Hm.moved s a = some (b, s') ∧ Ph G F K rest (vs ++ new) s' ∧ Mv F K (fun _ => False) vs new s s' ∧ Val (vs ++ new) b ∧
      beginOf s s.use ≤ b ∧ b < s'.free ∧ rd s'.words (b + 1) = rd s.words (a + 1) ∧ (∀ p ∈ new, rd s'.words (p.1 + 1) = rd s.words (a + 1)) ∧ s'.rows = s.rows := by
  have C := P.co
  obtain ⟨z0, z1, z2, z3, z4⟩ := C.b0
  obtain ⟨ba, bk, bl⟩ := C.bd _ hp
  simp only at ba bk bl
  rcases C.hd _ hp with h | ⟨b, g1, g2, g3, g4, g5, g6⟩
  · have hn : ¬ (beginOf s s.use ≤ a ∧ a < lim s) := by rintro ⟨h1, h2⟩; rw [P.nf a h1 h2] at hF; exact absurd hF (by simp)
    have hu : k + 2 ≤ unc F s.words vs := by
      have := sum_mem (l := vs) (g := fun p => if F p.1 = true ∧ 0 ≤ rd s.words p.1 then p.2 + 2 else 0) (x := (a, k)) ?_ hp
      · simp only [hF, h.1, and_self, if_true] at this; exact this
      · intro p hq; have := C.bd p hq; split <;> omega
    have hl : s.free + k + 2 ≤ lim s := by have := P.sp; have := P.r0; unfold lim; omega
    obtain ⟨w, e, C', l, hd1, wa, num, slt, nn, nh, ns⟩ := C.move hp hn h.1 hl
    have us : unc F w (vs ++ [(s.free, k)]) = unc F s.words vs - (k + 2) := by
      unfold unc
      rw [sum_app, sum_upd (l := vs) (x := (a, k)) (g := fun p => if F p.1 = true ∧ 0 ≤ rd s.words p.1 then p.2 + 2 else 0) C.nd hp]
      · simp only [sumBy, hF, h.1, wa, P.nf s.free z1 (by omega), and_self, if_true]
        rw [if_neg (by simp; omega)]; simp; try omega
      · intro p hq hne
        have c : p.1 ≠ a := by
          intro c
          rcases C.dj _ hq _ hp with h' | h'
          · exact hne h'
          · have := C.bd _ hq; unfold Dj at h'; simp only at h'; omega
        simp only [hd1 p hq c]
    refine ⟨s.free, _, [(s.free, k)], e, ⟨C', ?_, P.r0, P.nf, ?_⟩, ⟨rfl, l, by simp only; omega, ⟨rfl, bk, rfl⟩, num, ?_, ?_, fun p hq i h1 h2 _ => slt p hq i h1 h2, fun p hq i h1 h2 => .inl (slt p hq i h1 h2), ?_⟩,
      ⟨k, by simp⟩, z1, by simp only; omega, nn, ?_, rfl⟩
    · have := P.sp
      simp only [us]; show s.free + k + 2 - beginOf s s.use + _ + rest ≤ s.old; omega
    · intro q hq hF' h0 i h1 h2 ht
      rcases List.mem_append.1 hq with g | g
      · have c : q.1 ≠ a := by intro c; simp only [c, wa] at h0; omega
        simp only [slt q g i h1 h2] at ht ⊢
        exact P.cl q g hF' (by have := hd1 q g c; simp only at h0; omega) i h1 h2 ht
      · rw [List.mem_singleton] at g; subst g
        rw [P.nf s.free z1 (by omega)] at hF'; exact absurd hF' (by simp)
    · intro p hq hf
      have c : p.1 ≠ a := by rintro rfl; rw [hF] at hf; exact absurd hf (by simp)
      exact hd1 p hq c
    · intro p hq h0
      have c : p.1 ≠ a := by intro c; simp only [c, wa] at h0; omega
      exact hd1 p hq c
    · intro p hq i h1 h2 ht
      rw [List.mem_singleton] at hq; subst hq
      simp only [ns i h1 h2] at ht ⊢
      exact P.cl (a, k) hp hF h.1 i h1 h2 ht
    · intro p hq
      rw [List.mem_singleton] at hq; subst hq; exact nn
  · refine ⟨b, s, [], moved_old ba (by omega) (by omega) g1, by simpa using P, Mv.refl, ⟨k, by simpa using g2⟩, g4, g5, g6, by simp, rfl⟩
def updG (G : Gr) (n : Int) (i : Nat) (x : Wo) : Gr := fun m => if m = n then ((G n).1, (G n).2.set i x) else G m
theorem updG_same {G : Gr} {n : Int} {i : Nat} {x : Wo} (h : (G n).2.getD i (.word 0) = x) : updG G n i x = G := by
  funext m
  unfold updG
  by_cases c : m = n
  · subst c
    rw [if_pos rfl]
    have : (G m).2.set i x = (G m).2 := by
      apply List.ext_getElem (by simp)
      intro j h1 h2
      rw [List.getElem_set]
      split
      · rename_i e; subst e; subst h; simp [List.getD, h2]
      · rfl
    rw [this]
  · rw [if_neg c]
/-- a word of a thing is written -/
theorem Co.put {G : Gr} {vs : List (Int × Int)} {s : Bd} (C : Co G vs s) {q : Int × Int} (hq : q ∈ vs) (h0 : 0 ≤ rd s.words q.1) {i : Nat} (hi : (i : Int) < q.2)
    {v : Int} {x : Wo} (hv : Wor s.words vs v x) :
    ∃ w, sI s.words (q.1 + 2 + i) v = some w ∧ Co (updG G (rd s.words (q.1 + 1)) i x) vs { s with words := w } ∧ w.length = s.words.length ∧
      (∀ p ∈ vs, rd w p.1 = rd s.words p.1) ∧ (∀ p ∈ vs, rd w (p.1 + 1) = rd s.words (p.1 + 1)) ∧
      (∀ p ∈ vs, ∀ j, 0 ≤ j → j < p.2 → p.1 + 2 + j ≠ q.1 + 2 + i → rd w (p.1 + 2 + j) = rd s.words (p.1 + 2 + j)) ∧ rd w (q.1 + 2 + i) = v := by
  obtain ⟨bq, bk, bl⟩ := C.bd _ hq
  obtain ⟨w, e, l, r⟩ := sI_rd (ws := s.words) (i := q.1 + 2 + i) v (by omega) (by omega)
  have apart : ∀ p ∈ vs, p ≠ q → ∀ j, p.1 ≤ j → j < p.1 + p.2 + 2 → rd w j = rd s.words j := by
    intro p hp hne j h1 h2
    have b := C.bd _ hp
    rw [r j (by omega), if_neg]
    rcases C.dj _ hp _ hq with h | h
    · exact absurd h hne
    · unfold Dj at h; omega
  have hdw : ∀ p ∈ vs, rd w p.1 = rd s.words p.1 := by
    intro p hp
    by_cases c : p = q
    · subst c; rw [r _ (by omega), if_neg (by omega)]
    · exact apart p hp c _ (by omega) (by have := C.bd _ hp; omega)
  have num : ∀ p ∈ vs, rd w (p.1 + 1) = rd s.words (p.1 + 1) := by
    intro p hp
    by_cases c : p = q
    · subst c; rw [r _ (by omega), if_neg (by omega)]
    · exact apart p hp c _ (by omega) (by have := C.bd _ hp; omega)
  have slt : ∀ p ∈ vs, ∀ j, 0 ≤ j → j < p.2 → p.1 + 2 + j ≠ q.1 + 2 + i → rd w (p.1 + 2 + j) = rd s.words (p.1 + 2 + j) := by
    intro p hp j h1 h2 h3
    rw [r _ (by have := C.bd _ hp; omega), if_neg h3]
  have at' : rd w (q.1 + 2 + i) = v := by rw [r _ (by omega), if_pos rfl]
  refine ⟨w, e, ⟨C.nd, C.dj, ?_, C.fr, ?_, ?_, ?_, ?_, ?_⟩, l, hdw, num, slt, at'⟩
  · intro p hp; simp only [l]; exact C.bd p hp
  · intro p hp
    simp only [hdw p hp, num p hp]
    rcases C.hd p hp with h | ⟨b, g1, g2, g3, g4, g5, g6⟩
    · exact .inl h
    · have a := hdw _ g2; have c := num _ g2
      simp only at a c
      exact .inr ⟨b, g1, g2, by rw [a]; exact g3, g4, g5, by rw [c]; exact g6⟩
  · intro p hp h1 h2; simp only [hdw p hp]; exact C.nu p hp h1 h2
  · intro p hp h1
    simp only [hdw p hp] at h1
    obtain ⟨t1, t2, t3⟩ := C.th p hp h1
    show Thg _ w vs p
    unfold Thg
    rw [num p hp, hdw p hp]
    by_cases c : rd s.words (p.1 + 1) = rd s.words (q.1 + 1)
    · have := C.un p hp q hq h1 h0 c
      subst this
      have e : updG G (rd s.words (p.1 + 1)) i x (rd s.words (p.1 + 1)) = ((G (rd s.words (p.1 + 1))).1, (G (rd s.words (p.1 + 1))).2.set i x) := by simp [updG]
      rw [e]
      refine ⟨t1, by simpa using t2, fun j hj => ?_⟩
      by_cases d : j = i
      · subst d
        have hl : j < (G (rd s.words (p.1 + 1))).2.length := by omega
        rw [at']
        have : ((G (rd s.words (p.1 + 1))).2.set j x).getD j (.word 0) = x := by simp [List.getD, hl]
        rw [this]; exact wor_ext hv (fun _ h => h) num
      · rw [slt p hp j (by omega) hj (by omega)]
        have : ((G (rd s.words (p.1 + 1))).2.set i x).getD j (.word 0) = (G (rd s.words (p.1 + 1))).2.getD j (.word 0) := by
          simp [List.getD, List.getElem?_set_ne (fun h => d h.symm)]
        rw [this]; exact wor_ext (t3 j hj) (fun _ h => h) num
    · have e : updG G (rd s.words (q.1 + 1)) i x (rd s.words (p.1 + 1)) = G (rd s.words (p.1 + 1)) := by simp [updG, c]
      rw [e]
      refine ⟨t1, t2, fun j hj => ?_⟩
      rw [slt p hp j (by omega) hj]
      · exact wor_ext (t3 j hj) (fun _ h => h) num
      · intro d
        have b := C.bd _ hp
        rcases C.dj _ hp _ hq with h | h
        · subst h; exact c rfl
        · unfold Dj at h; omega
  · intro p hp p2 hp2 h1 h2 h3
    simp only [hdw p hp, hdw p2 hp2, num p hp, num p2 hp2] at h1 h2 h3
    exact C.un p hp p2 hp2 h1 h2 h3
  · obtain ⟨z0, z1, z2, z3, z4⟩ := C.b0
    exact ⟨z0, z1, z2, by simp only [l]; exact z3, by simp only [l]; exact z4⟩
end Gc
set_option maxRecDepth 100000
set_option maxHeartbeats 2000000
/-! Words are led on. -/
namespace Gc
open Hm
theorem Co.apart {G vs} {s : Bd} (C : Co G vs s) {p q : Int × Int} (hp : p ∈ vs) (hq : q ∈ vs) {j i : Int} (h1 : 0 ≤ j) (h2 : j < p.2) (h3 : 0 ≤ i) (h4 : i < q.2)
    (h : p.1 + 2 + j = q.1 + 2 + i) : p = q := by
  rcases C.dj _ hp _ hq with e | e
  · exact e
  · unfold Dj at e; omega
theorem Ph.put {G F K rest vs} {s : Bd} (P : Ph G F K rest vs s) {q : Int × Int} (hq : q ∈ vs) (u1 : beginOf s s.use ≤ q.1) (u2 : q.1 < lim s) {i : Nat} (hi : (i : Int) < q.2)
    {v : Int} (hv : Wor s.words vs v ((G (rd s.words (q.1 + 1))).2.getD i (.word 0))) :
    ∃ w, sI s.words (q.1 + 2 + i) v = some w ∧ Ph G F K rest vs { s with words := w } ∧ w.length = s.words.length ∧
      (∀ p ∈ vs, rd w p.1 = rd s.words p.1) ∧ (∀ p ∈ vs, rd w (p.1 + 1) = rd s.words (p.1 + 1)) ∧
      (∀ p ∈ vs, ∀ j, 0 ≤ j → j < p.2 → p.1 + 2 + j ≠ q.1 + 2 + i → rd w (p.1 + 2 + j) = rd s.words (p.1 + 2 + j)) ∧ rd w (q.1 + 2 + i) = v := by
  obtain ⟨w, e, C', l, hd, num, slt, at'⟩ := P.co.put hq (P.co.nu q hq u1 u2) hi hv
  rw [updG_same rfl] at C'
  refine ⟨w, e, ⟨C', ?_, P.r0, P.nf, ?_⟩, l, hd, num, slt, at'⟩
  · have : unc F w vs = unc F s.words vs := sum_same fun p hp => by simp only [hd p hp]
    simp only [this]; exact P.sp
  · intro p hp hf h0 j h1 h2 ht
    have ne : p.1 + 2 + j ≠ q.1 + 2 + i := by
      intro h
      have := P.co.apart hp hq h1 h2 (by omega) hi h
      subst this
      rw [P.nf _ u1 u2] at hf; exact absurd hf (by simp)
    simp only [slt p hp j h1 h2 ne] at ht ⊢
    exact P.cl p hp hf (by simpa only [hd p hp] using h0) j h1 h2 ht
theorem within_isT {lo up w} (h : within lo up w = true) : isT w = true := by
  unfold within at h; simp only [Bool.and_eq_true] at h; exact h.1
theorem Ph.leadAt {G F K rest vs} {s : Bd} (P : Ph G F K rest vs s) {lo up : Int} {q : Int × Int} (hq : q ∈ vs) (u1 : beginOf s s.use ≤ q.1) (u2 : q.1 < lim s)
    {i : Nat} (hi : (i : Int) < q.2) (hw : isT (rd s.words (q.1 + 2 + i)) = true → within lo up (rd s.words (q.1 + 2 + i)) = F (rd s.words (q.1 + 2 + i) / 8))
    {R : Int → Prop} (hR : ∀ m, (G (rd s.words (q.1 + 1))).2.getD i (.word 0) = .thing m → R m) :
    ∃ s' new, Hm.leadAt lo up (q.1 + 2 + i) s = some s' ∧ Ph G F K rest (vs ++ new) s' ∧ Mv F K (fun x => x = q.1 + 2 + i) vs new s s' ∧
      (isT (rd s'.words (q.1 + 2 + i)) = true → F (rd s'.words (q.1 + 2 + i) / 8) = false) ∧ (∀ p ∈ new, R (rd s'.words (p.1 + 1))) ∧ s'.rows = s.rows := by
  have C := P.co
  obtain ⟨bq, bk, bl⟩ := C.bd _ hq
  have h0 := C.nu q hq u1 u2
  unfold Hm.leadAt
  rw [gI_rd (by omega) (by omega)]
  dsimp only
  by_cases c : within lo up (rd s.words (q.1 + 2 + i)) = true
  · have ht := within_isT c
    have hF : F (rd s.words (q.1 + 2 + i) / 8) = true := by rw [← hw ht]; exact c
    have W := (C.th q hq h0).2.2 i hi
    unfold Wor at W
    rw [if_pos ht] at W
    obtain ⟨⟨k, hk⟩, ex⟩ := W
    obtain ⟨b, s1, new, e, P1, M1, Vb, b1, b2, nb, nn, rr⟩ := P.moved hk hF
    have bb : beginOf s1 s1.use = beginOf s s.use := by rw [M1.eq]; rfl
    have ll : lim s1 = lim s := by rw [M1.eq]; rfl
    have hq' : q ∈ vs ++ new := List.mem_append_left _ hq
    have t8 : isT (b * 8 + 0) = true := by rw [isT_iff]; omega
    have d8 : (b * 8 + 0) / 8 = b := by omega
    obtain ⟨w, e2, P2, l2, hd2, num2, slt2, at2⟩ := P1.put (q := q) (i := i) (v := b * 8 + 0) hq' (by rw [bb]; exact u1) (by rw [ll]; exact u2) hi (by
      rw [M1.num q hq, ex]; unfold Wor; rw [if_pos t8, d8, nb]; exact ⟨Vb, rfl⟩)
    rw [if_pos c, e]
    dsimp only
    rw [e2]
    refine ⟨{ s1 with words := w }, new, rfl, P2, ?_, ?_, ?_, rr⟩
    · have M2 : Mv F K (fun x => x = q.1 + 2 + i) (vs ++ new) [] s1 { s1 with words := w } := by
        refine ⟨rfl, l2, Int.le_refl _, rfl, num2, fun p hp _ => hd2 p hp, fun p hp _ => hd2 p hp, fun p hp j h1 h2 hx => slt2 p hp j h1 h2 hx, fun p hp j h1 h2 => ?_, fun p hp => by simp at hp⟩
        by_cases d : p.1 + 2 + j = q.1 + 2 + i
        · right
          have o := M1.slt q hq i (by omega) hi (fun h => h)
          simp only [d, o, at2, t8, d8]
          exact ⟨ht, hF, trivial, by rw [bb]; exact b1, b2⟩
        · left; exact slt2 p hp j h1 h2 d
      have := (Mv.trans M1 M2 P.nf (by
        have := P2.co.b0.2.2.1
        have e : lim { s1 with words := w } = lim s := ll
        rw [e] at this; exact this) (fun p hp j h1 h2 hx => by
          have o := lay_mem M1.lay hp
          have f := C.fr q hq
          omega)).weak (Y := fun x => x = q.1 + 2 + i) (fun x h => h.elim False.elim id)
      simpa using this
    · intro _
      simp only [at2, d8]
      exact P.nf _ b1 (by have := P1.co.b0; rw [ll] at this; omega)
    · intro p hp
      have o := num2 p (List.mem_append_right _ hp)
      simp only [o, nn p hp]
      exact hR _ ex
  · rw [if_neg c]
    refine ⟨s, [], rfl, by simpa using P, Mv.refl, fun ht => ?_, by simp, rfl⟩
    rw [← hw ht]; simpa using c
/-- a word of a thing in use -/
def Slot (G : Gr) (vs : List (Int × Int)) (R : Int → Prop) (s : Bd) (x : Int) : Prop :=
  ∃ q ∈ vs, beginOf s s.use ≤ q.1 ∧ q.1 < lim s ∧ ∃ i : Nat, (i : Int) < q.2 ∧ x = q.1 + 2 + i ∧ ∀ m, (G (rd s.words (q.1 + 1))).2.getD i (.word 0) = .thing m → R m
theorem Ph.leadOn {G F K rest} {lo up : Int} {R : Int → Prop} : ∀ (ps : List Int) (vs : List (Int × Int)) (s : Bd), Ph G F K rest vs s → (∀ x ∈ ps, Slot G vs R s x) → ps.Nodup →
    (∀ x ∈ ps, isT (rd s.words x) = true → within lo up (rd s.words x) = F (rd s.words x / 8)) →
    ∃ s' new, Hm.leadOn lo up ps s = some s' ∧ Ph G F K rest (vs ++ new) s' ∧ Mv F K (fun x => x ∈ ps) vs new s s' ∧
      (∀ x ∈ ps, isT (rd s'.words x) = true → F (rd s'.words x / 8) = false) ∧ (∀ p ∈ new, R (rd s'.words (p.1 + 1))) ∧ s'.rows = s.rows
  | [], vs, s, P, _, _, _ => ⟨s, [], rfl, by simpa using P, Mv.refl, by simp, by simp, rfl⟩
  | x :: ps, vs, s, P, hs, hn, hw => by
    rw [List.nodup_cons] at hn
    obtain ⟨q, hq, u1, u2, i, hi, rfl, hR⟩ := hs x (by simp)
    obtain ⟨s1, n1, e1, P1, M1, d1, r1, rr1⟩ := P.leadAt (lo := lo) (up := up) hq u1 u2 hi (hw _ (by simp)) hR
    have bb : beginOf s1 s1.use = beginOf s s.use := by rw [M1.eq]; rfl
    have ll : lim s1 = lim s := by rw [M1.eq]; rfl
    have sl : ∀ y ∈ ps, rd s1.words y = rd s.words y := by
      intro y hy
      obtain ⟨p, hp, v1, v2, j, hj, rfl, -⟩ := hs y (by simp [hy])
      exact M1.slt p hp j (by omega) hj (by intro h; rw [h] at hy; exact hn.1 hy)
    obtain ⟨s2, n2, e2, P2, M2, d2, r2, rr2⟩ := Ph.leadOn (lo := lo) (up := up) (R := R) ps (vs ++ n1) s1 P1 (fun y hy => by
      obtain ⟨p, hp, v1, v2, j, hj, rfl, hR'⟩ := hs y (by simp [hy])
      exact ⟨p, List.mem_append_left _ hp, by rw [bb]; exact v1, by rw [ll]; exact v2, j, hj, rfl, by rw [M1.num p hp]; exact hR'⟩) hn.2
      (fun y hy => by rw [sl y hy]; exact hw y (by simp [hy]))
    refine ⟨s2, n1 ++ n2, by unfold Hm.leadOn; rw [e1]; exact e2, by rw [← List.append_assoc]; exact P2, ?_, ?_, ?_, by rw [rr2, rr1]⟩
    · refine (Mv.trans M1 M2 P.nf ?_ ?_).weak fun y h => ?_
      · have := P2.co.b0.2.2.1
        have e : lim s2 = lim s := by rw [M2.eq]; exact ll
        rw [e] at this; exact this
      · intro p hp j h1 h2 hx
        obtain ⟨p', hp', v1, v2, j', hj, e, -⟩ := hs _ (List.mem_cons_of_mem _ hx)
        have o := lay_mem M1.lay hp
        have f := P.co.fr p' hp'
        omega
      · rcases h with h | h
        · rw [h]; simp
        · exact List.mem_cons_of_mem _ h
    · intro y hy
      rcases List.mem_cons.1 hy with h | h
      · subst h
        have := M2.slt q (List.mem_append_left _ hq) i (by omega) hi hn.1
        rw [this]; exact d1
      · exact d2 y h
    · intro p hp
      rcases List.mem_append.1 hp with h | h
      · rw [M2.num p (List.mem_append_right _ h)]; exact r1 p h
      · exact r2 p h
theorem mem_upTo : ∀ {n a x}, x ∈ upTo n a ↔ a ≤ x ∧ x < a + (n : Int)
  | 0, a, x => by simp [upTo]
  | n + 1, a, x => by simp only [upTo, List.mem_cons, mem_upTo]; omega
theorem nodup_upTo : ∀ {n a}, (upTo n a).Nodup
  | 0, a => by simp [upTo]
  | n + 1, a => by
    rw [upTo, List.nodup_cons]
    exact ⟨fun h => by have := mem_upTo.1 h; omega, nodup_upTo⟩
/-- all words of a thing in use are led on -/
theorem Ph.leadR {G F K rest vs} {s : Bd} (P : Ph G F K rest vs s) {lo up : Int} {q : Int × Int} (hq : q ∈ vs) (u1 : beginOf s s.use ≤ q.1) (u2 : q.1 < lim s)
    (hw : ∀ i, 0 ≤ i → i < q.2 → isT (rd s.words (q.1 + 2 + i)) = true → within lo up (rd s.words (q.1 + 2 + i)) = F (rd s.words (q.1 + 2 + i) / 8))
    {R : Int → Prop} (hR : ∀ (i : Nat) m, (i : Int) < q.2 → (G (rd s.words (q.1 + 1))).2.getD i (.word 0) = .thing m → R m) :
    ∃ s' new, Hm.leadR lo up (q.1 + 2) (q.1 + 2 + q.2) s = some s' ∧ Ph G F K rest (vs ++ new) s' ∧ Mv F K (fun x => q.1 + 2 ≤ x ∧ x < q.1 + 2 + q.2) vs new s s' ∧
      (∀ i, 0 ≤ i → i < q.2 → isT (rd s'.words (q.1 + 2 + i)) = true → F (rd s'.words (q.1 + 2 + i) / 8) = false) ∧ (∀ p ∈ new, R (rd s'.words (p.1 + 1))) ∧ s'.rows = s.rows := by
  obtain ⟨bq, bk, bl⟩ := P.co.bd _ hq
  have z := P.co.b0
  have mm : ∀ x, x ∈ range (q.1 + 2) (q.1 + 2 + q.2) ↔ q.1 + 2 ≤ x ∧ x < q.1 + 2 + q.2 := by
    intro x; unfold range; rw [mem_upTo]; constructor <;> rintro ⟨h1, h2⟩ <;> constructor <;> omega
  obtain ⟨s', new, e, P', M, d, r, rr⟩ := Ph.leadOn (lo := lo) (up := up) (R := R) (range (q.1 + 2) (q.1 + 2 + q.2)) vs s P (fun x hx => by
    have := (mm x).1 hx
    exact ⟨q, hq, u1, u2, (x - q.1 - 2).toNat, by omega, by omega, fun m hm => hR _ m (by omega) hm⟩) nodup_upTo (fun x hx ht => by
    have := (mm x).1 hx
    have e : x = q.1 + 2 + (x - q.1 - 2) := by omega
    rw [e] at ht ⊢; exact hw _ (by omega) (by omega) ht)
  refine ⟨s', new, by unfold Hm.leadR; rw [if_pos ⟨by omega, by omega, by omega⟩]; exact e, P', M.weak fun x h => (mm x).1 h, fun i h1 h2 ht => d _ ((mm _).2 ⟨by omega, by omega⟩) ht, r, rr⟩
end Gc
set_option maxRecDepth 100000
set_option maxHeartbeats 2000000
/-! What is held is led on; all that was copied is looked at (the nursery is emptied). -/
namespace Gc
open Hm
def Rt (ws : List Int) (vs : List (Int × Int)) (rows : List (Int × Int)) (hs : List (Int × Wo)) : Prop :=
  rows.length = hs.length ∧ ∀ (k : Nat) (h w : Int), rows[k]? = some (h, w) → ∃ x, hs[k]? = some (h, x) ∧ Wor ws vs w x
theorem rt_ext {ws ws' : List Int} {vs vs' rows hs} (h : Rt ws vs rows hs) (hs' : ∀ p ∈ vs, p ∈ vs') (hn : ∀ p ∈ vs, rd ws' (p.1 + 1) = rd ws (p.1 + 1)) : Rt ws' vs' rows hs :=
  ⟨h.1, fun k a w e => by obtain ⟨x, e1, e2⟩ := h.2 k a w e; exact ⟨x, e1, wor_ext e2 hs' hn⟩⟩
theorem Ph.rows {G F K rest vs} {s : Bd} (P : Ph G F K rest vs s) (r : List (Int × Int)) : Ph G F K rest vs { s with rows := r } :=
  ⟨⟨P.co.nd, P.co.dj, P.co.bd, P.co.fr, P.co.hd, P.co.nu, P.co.th, P.co.un, P.co.b0⟩, P.sp, P.r0, P.nf, P.cl⟩
theorem Mv.bg {F K X vs n} {s s' : Bd} (M : Mv F K X vs n s s') : beginOf s' s'.use = beginOf s s.use := by rw [M.eq]; rfl
theorem Mv.lm {F K X vs n} {s s' : Bd} (M : Mv F K X vs n s s') : lim s' = lim s := by rw [M.eq]; rfl
theorem Mv.rowsR {F K X vs n} {s s' : Bd} (M : Mv F K X vs n s s') (r : List (Int × Int)) : Mv F K X vs n s { s' with rows := r } :=
  ⟨by rw [M.eq], M.len, M.le, M.lay, M.num, M.hdn, M.hdf, M.slt, M.led, M.nw⟩
theorem Ph.leadRows {G F K rest} {lo up : Int} {R : Int → Prop} {hs : List (Int × Wo)} : ∀ (f k : Nat) (vs : List (Int × Int)) (s : Bd), Ph G F K rest vs s → Rt s.words vs s.rows hs →
    k + f = s.rows.length → (∀ j h w, k ≤ j → s.rows[j]? = some (h, w) → isT w = true → within lo up w = F (w / 8)) → (∀ (j : Nat) h m, hs[j]? = some (h, .thing m) → R m) →
    ∃ s' new, Hm.leadRows lo up f k s = some s' ∧ Ph G F K rest (vs ++ new) s' ∧ Mv F K (fun _ => False) vs new s s' ∧ Rt s'.words (vs ++ new) s'.rows hs ∧
      (∀ j h w, k ≤ j → s'.rows[j]? = some (h, w) → isT w = true → F (w / 8) = false) ∧ (∀ j, j < k → s'.rows[j]? = s.rows[j]?) ∧ (∀ p ∈ new, R (rd s'.words (p.1 + 1))) ∧
      (∀ j h w : Int, ∀ j : Nat, s'.rows[j]? = some (h, w) → s.rows[j]? = some (h, w) ∨ (isT w = true ∧ beginOf s s.use ≤ w / 8 ∧ w / 8 < s'.free))
  | 0, k, vs, s, P, T, hk, _, _ => ⟨s, [], rfl, by simpa using P, Mv.refl, by simpa using T, fun j h w hj e => by
      have := (List.getElem?_eq_some_iff.1 e).1; omega, fun _ _ => rfl, by simp, fun _ _ _ _ e => .inl e⟩
  | f + 1, k, vs, s, P, T, hk, hw, hR => by
    have hl : k < s.rows.length := by omega
    obtain ⟨⟨h, w⟩, e⟩ : ∃ r, s.rows[k]? = some r := ⟨_, List.getElem?_eq_getElem hl⟩
    unfold Hm.leadRows
    rw [e]
    dsimp only
    obtain ⟨x, ex, W⟩ := T.2 k h w e
    by_cases c : within lo up w = true
    · have ht := within_isT c
      have hF : F (w / 8) = true := by rw [← hw k h w (Nat.le_refl _) e ht]; exact c
      unfold Wor at W
      rw [if_pos ht] at W
      obtain ⟨⟨kk, hkk⟩, exx⟩ := W
      obtain ⟨b, s1, n1, e1, P1, M1, Vb, b1, b2, nb, nn, rr⟩ := P.moved hkk hF
      rw [if_pos c, e1]
      dsimp only
      have t8 : isT (b * 8 + 0) = true := by rw [isT_iff]; omega
      have d8 : (b * 8 + 0) / 8 = b := by omega
      have T1 : Rt s1.words (vs ++ n1) (s1.rows.set k (h, b * 8 + 0)) hs := by
        have T0 := rt_ext (ws' := s1.words) (vs' := vs ++ n1) T (fun p hp => List.mem_append_left _ hp) M1.num
        rw [rr]
        refine ⟨by simpa using T0.1, fun j h' w' ej => ?_⟩
        by_cases d : j = k
        · subst d
          rw [List.getElem?_set_self hl] at ej
          cases ej
          refine ⟨x, ex, ?_⟩
          unfold Wor; rw [if_pos t8, d8, nb]; exact ⟨Vb, exx⟩
        · rw [List.getElem?_set_ne (fun h => d h.symm)] at ej
          exact T0.2 j h' w' ej
      have bb := M1.bg; have ll := M1.lm
      obtain ⟨s2, n2, e2, P2, M2, T2, d2, o2, r2, w2⟩ := Ph.leadRows (lo := lo) (up := up) (R := R) f (k + 1) (vs ++ n1) { s1 with rows := s1.rows.set k (h, b * 8 + 0) }
        (P1.rows _) T1 (by simp only [List.length_set, rr]; omega) (fun j h' w' hj ej => by
          simp only [rr] at ej
          rw [List.getElem?_set_ne (by omega)] at ej
          exact hw j h' w' (by omega) ej) hR
      have l2 : s2.free ≤ lim s := by
        have := P2.co.b0.2.2.1
        have e : lim s2 = lim s := by rw [M2.lm]; exact ll
        rw [e] at this; exact this
      refine ⟨s2, n1 ++ n2, e2, by rw [← List.append_assoc]; exact P2, ?_, by rw [← List.append_assoc]; exact T2, ?_, ?_, ?_, ?_⟩
      · exact (Mv.trans (M1.rowsR _) M2 P.nf l2 (fun _ _ _ _ _ h => h)).weak (fun x h => h.elim id id)
      · intro j h' w' hj ej ht'
        by_cases d : j = k
        · subst d
          rw [o2 _ (by omega)] at ej
          simp only [rr] at ej
          rw [List.getElem?_set_self hl] at ej
          cases ej
          rw [d8]; exact P.nf _ b1 (by have := M2.le; simp only at this; omega)
        · exact d2 j h' w' (by omega) ej ht'
      · intro j hj
        rw [o2 j (by omega)]; simp only [rr]; rw [List.getElem?_set_ne (by omega)]
      · intro p hp
        rcases List.mem_append.1 hp with g | g
        · rw [M2.num p (List.mem_append_right _ g)]
          simp only
          rw [nn p g]
          subst exx; exact hR _ _ _ ex
        · exact r2 p g
      · intro _ h' w' j ej
        rcases w2 0 h' w' j ej with g | ⟨g1, g2, g3⟩
        · simp only [rr] at g
          by_cases d : j = k
          · subst d
            rw [List.getElem?_set_self hl] at g
            cases g
            right; rw [d8]; exact ⟨t8, b1, by have := M2.le; simp only at this; omega⟩
          · rw [List.getElem?_set_ne (fun h => d h.symm)] at g; exact .inl g
        · right; refine ⟨g1, ?_, g3⟩; rw [← bb]; exact g2
    · rw [if_neg c]
      obtain ⟨s2, n2, e2, P2, M2, T2, d2, o2, r2, w2⟩ := Ph.leadRows (lo := lo) (up := up) (R := R) f (k + 1) vs s P T (by omega) (fun j h' w' hj ej => hw j h' w' (by omega) ej) hR
      refine ⟨s2, n2, e2, P2, M2, T2, ?_, fun j hj => o2 j (by omega), r2, w2⟩
      intro j h' w' hj ej ht'
      by_cases d : j = k
      · subst d
        rw [o2 _ (by omega), e] at ej
        cases ej
        rw [← hw _ h w (Nat.le_refl _) e ht']; simpa using c
      · exact d2 j h' w' (by omega) ej ht'
/-- as trans, where what is in use may be led to -/
theorem Mv.trans' {F K X Y vs n1 n2} {s s1 s2 : Bd} (A : Mv F K X vs n1 s s1) (B : Mv F K Y (vs ++ n1) n2 s1 s2)
    (hnf : ∀ a, beginOf s s.use ≤ a → a < lim s → F a = false) (hl : s2.free ≤ lim s) (hK : ∀ a, beginOf s s.use ≤ a → a < lim s → K a) :
    Mv F K (fun _ => True) vs (n1 ++ n2) s s2 := by
  have L : ∀ {p}, p ∈ vs → p ∈ vs ++ n1 := fun h => List.mem_append_left _ h
  refine ⟨by rw [B.eq, A.eq], by rw [B.len, A.len], by have := A.le; have := B.le; omega, lay_app A.lay B.lay, fun p h => by rw [B.num p (L h), A.num p h],
    fun p h f => by rw [B.hdn p (L h) f, A.hdn p h f], fun p h f => ?_, fun p h i h1 h2 hx => absurd trivial hx, fun p h i h1 h2 => ?_, fun p h i h1 h2 ht => ?_⟩
  · have := B.hdf p (L h) f
    rw [this]; exact A.hdf p h (by rw [← this]; exact f)
  · rcases B.led p (L h) i h1 h2 with b | ⟨b1, b2, b3, b4, b5⟩
    · rcases A.led p h i h1 h2 with a | ⟨a1, a2, a3, a4, a5⟩
      · left; rw [b, a]
      · right; rw [b]; exact ⟨a1, a2, a3, a4, by have := B.le; omega⟩
    · rcases A.led p h i h1 h2 with a | ⟨a1, a2, a3, a4, a5⟩
      · right; rw [a] at b1 b2; exact ⟨b1, b2, b3, by rw [← A.bg]; exact b4, b5⟩
      · rw [hnf _ a4 (by have := B.le; omega)] at b2; exact absurd b2 (by simp)
  · rcases List.mem_append.1 h with h | h
    · rcases B.led p (List.mem_append_right _ h) i h1 h2 with b | ⟨b1, b2, b3, b4, b5⟩
      · rw [b] at ht ⊢; exact A.nw p h i h1 h2 ht
      · exact hK _ (by rw [← A.bg]; exact b4) (by omega)
    · exact B.nw p h i h1 h2 ht
end Gc
set_option maxRecDepth 100000
set_option maxHeartbeats 2000000
/-! Things that were copied are looked at, one behind another. -/
namespace Gc
open Hm
/-- texts lead nowhere -/
def WG (G : Gr) : Prop := ∀ n (i : Nat) m, (G n).1 = 0 → (G n).2.getD i (.word 0) ≠ .thing m
theorem Ph.head {G F K rest vs} {s : Bd} (P : Ph G F K rest vs s) {p : Int × Int} (hp : p ∈ vs) (u1 : beginOf s s.use ≤ p.1) (u2 : p.1 < lim s) :
    0 ≤ rd s.words p.1 ∧ rd s.words p.1 / 8 = p.2 ∧ rd s.words p.1 % 8 ≤ 5 := by
  have h0 := P.co.nu p hp u1 u2
  rcases P.co.hd p hp with h | ⟨b, g1, g2, g3, g4, g5, g6⟩
  · exact h
  · have := P.co.bd _ g2; simp only at this; omega
theorem Co.slotV {G vs} {s : Bd} (C : Co G vs s) {p : Int × Int} (hp : p ∈ vs) (h0 : 0 ≤ rd s.words p.1) {i : Int} (h1 : 0 ≤ i) (h2 : i < p.2)
    (ht : isT (rd s.words (p.1 + 2 + i)) = true) : Val vs (rd s.words (p.1 + 2 + i) / 8) ∧
      (G (rd s.words (p.1 + 1))).2.getD i.toNat (.word 0) = .thing (rd s.words (rd s.words (p.1 + 2 + i) / 8 + 1)) := by
  have W := (C.th p hp h0).2.2 i.toNat (by omega)
  rw [show ((i.toNat : Nat) : Int) = i by omega] at W
  unfold Wor at W
  rw [if_pos ht] at W
  exact W
theorem Ph.look {G F K rest vs} {s : Bd} (P : Ph G F K rest vs s) (wg : WG G) {lo up : Int} {p : Int × Int} (hp : p ∈ vs) (u1 : beginOf s s.use ≤ p.1) (u2 : p.1 < lim s)
    (hw : ∀ i, 0 ≤ i → i < p.2 → isT (rd s.words (p.1 + 2 + i)) = true → within lo up (rd s.words (p.1 + 2 + i)) = F (rd s.words (p.1 + 2 + i) / 8))
    {R : Int → Prop} (hR : ∀ (i : Nat) m, (i : Int) < p.2 → (G (rd s.words (p.1 + 1))).2.getD i (.word 0) = .thing m → R m) :
    ∃ s' new, (if rd s.words p.1 % 8 != 0 then Hm.leadR lo up (p.1 + 2) (p.1 + 2 + rd s.words p.1 / 8) s else some s) = some s' ∧ Ph G F K rest (vs ++ new) s' ∧
      Mv F K (fun x => p.1 + 2 ≤ x ∧ x < p.1 + 2 + p.2) vs new s s' ∧
      (∀ i, 0 ≤ i → i < p.2 → isT (rd s'.words (p.1 + 2 + i)) = true → F (rd s'.words (p.1 + 2 + i) / 8) = false) ∧ (∀ p ∈ new, R (rd s'.words (p.1 + 1))) ∧ s'.rows = s.rows := by
  obtain ⟨h0, h1, h2⟩ := P.head hp u1 u2
  by_cases c : rd s.words p.1 % 8 = 0
  · refine ⟨s, [], by simp [c], by simpa using P, Mv.refl, fun i h3 h4 ht => ?_, by simp, rfl⟩
    obtain ⟨-, e⟩ := P.co.slotV hp h0 h3 h4 ht
    exact absurd e (wg _ _ _ (by rw [(P.co.th p hp h0).1, c]))
  · obtain ⟨s', new, e, rest⟩ := P.leadR (lo := lo) (up := up) hp u1 u2 hw hR
    refine ⟨s', new, ?_, rest⟩
    rw [if_pos (by simpa using c), h1]; exact e
theorem Ph.gatherGo {G K rest} {y : Int} (wg : WG G) {R : Int → Prop} : ∀ (f : Nat) (vs l : List (Int × Int)) (s : Bd) (a many : Int), Ph G (fun a => decide (a < y)) K rest vs s → s.young = y →
    Lay a s.free l → (∀ p ∈ l, p ∈ vs) → beginOf s s.use ≤ a → lim s - a < f → (∀ a, beginOf s s.use ≤ a → a < lim s → K a) →
    (∀ p ∈ vs, beginOf s s.use ≤ p.1 → p.1 < lim s → ∀ i, 0 ≤ i → i < p.2 → isT (rd s.words (p.1 + 2 + i)) = true → rd s.words (p.1 + 2 + i) / 8 < y → a ≤ p.1) → (∀ p ∈ vs, R (rd s.words (p.1 + 1))) →
    ∃ m' s' new, Hm.gatherGo f a many s = some (m', s') ∧ Ph G (fun a => decide (a < y)) K rest (vs ++ new) s' ∧ Mv (fun a => decide (a < y)) K (fun _ => True) vs new s s' ∧
      (∀ p ∈ vs ++ new, beginOf s s.use ≤ p.1 → p.1 < lim s → ∀ i, 0 ≤ i → i < p.2 → isT (rd s'.words (p.1 + 2 + i)) = true → y ≤ rd s'.words (p.1 + 2 + i) / 8) ∧ (∀ p ∈ new, R (rd s'.words (p.1 + 1))) ∧ s'.rows = s.rows
  | 0, vs, l, s, a, many, P, _, hL, _, _, hf, _, _, _ => by have := lay_le hL; have := P.co.b0; omega
  | f + 1, vs, l, s, a, many, P, hy, hL, hl, ha, hf, hK, hp, hRv => by
    unfold Hm.gatherGo
    by_cases c : a < s.free
    · rw [if_pos c]
      cases l with
      | nil => have : a = s.free := hL; omega
      | cons p r =>
        obtain ⟨rfl, k0, hL2⟩ := hL
        have hpv := hl p (by simp)
        have z := P.co.b0
        have u2 : p.1 < lim s := by omega
        obtain ⟨h0, h1, h2⟩ := P.head hpv ha u2
        have bd := P.co.bd p hpv
        obtain ⟨s1, n1, e1, P1, M1, d1, r1, rr⟩ := P.look wg (lo := 0) (up := s.young) hpv ha u2 (fun i i0 i1 ht => by
          obtain ⟨⟨k, hk⟩, -⟩ := P.co.slotV hpv h0 i0 i1 ht
          have b := P.co.bd _ hk
          simp only at b
          unfold within; rw [ht]; simp only [Bool.true_and, hy]
          have : decide ((0 : Int) ≤ rd s.words (p.1 + 2 + i) / 8) = true := by simpa using b.1
          rw [this]; simp) (R := R) (fun i m him e => by
          have W := (P.co.th p hpv h0).2.2 i him
          unfold Wor at W
          rw [e] at W
          split at W
          · obtain ⟨⟨k, hk⟩, e2⟩ := W
            have := hRv _ hk
            cases e2; exact this
          · cases W)
        rw [gI_rd bd.1 (by omega)]
        dsimp only
        rw [e1]
        dsimp only
        have hh : rd s1.words p.1 = rd s.words p.1 := M1.hdn p hpv (P.nf _ ha u2)
        have ee : endOf s1 p.1 = some (p.1 + p.2 + 2) := by
          unfold endOf; rw [gI_rd bd.1 (by rw [M1.len]; omega), hh]; simp only [h1]; congr 1; omega
        rw [ee]
        dsimp only
        have bb := M1.bg; have ll := M1.lm
        obtain ⟨m', s2, n2, e2, P2, M2, d2, r2, rr2⟩ := Ph.gatherGo (y := y) wg (R := R) f (vs ++ n1) (r ++ n1) s1 (p.1 + p.2 + 2) (many + 1) P1 (by rw [M1.eq]; exact hy) (lay_app hL2 M1.lay)
          (fun q hq => by
            rcases List.mem_append.1 hq with g | g
            · exact List.mem_append_left _ (hl q (by simp [g]))
            · exact List.mem_append_right _ g) (by rw [bb]; omega) (by rw [ll]; omega) (by rw [bb, ll]; exact hK) (by
          intro q hq v1 v2 i i0 i1 ht hlt
          rw [bb] at v1; rw [ll] at v2
          rcases List.mem_append.1 hq with g | g
          · have nep : q ≠ p := by
              rintro rfl
              have := d1 i i0 i1 ht
              simp at this; omega
            rcases M1.led q g i i0 i1 with e | ⟨-, -, -, e4, e5⟩
            · rw [e] at ht hlt
              have := hp q g v1 v2 i i0 i1 ht hlt
              have bq := P.co.bd q g
              rcases P.co.dj q g p hpv with h | h
              · exact absurd h nep
              · unfold Dj at h; omega
            · have := P.nf _ e4 (by have := P1.co.b0; rw [ll] at this; omega)
              simp at this; omega
          · have := lay_mem M1.lay g
            have := lay_le hL2
            omega) (fun q hq => by
          rcases List.mem_append.1 hq with g | g
          · rw [M1.num q g]; exact hRv q g
          · exact r1 q g)
        refine ⟨m', s2, n1 ++ n2, e2, by rw [← List.append_assoc]; exact P2, ?_, ?_, ?_, by rw [rr2, rr]⟩
        · exact Mv.trans' M1 M2 P.nf (by have := P2.co.b0.2.2.1; rw [M2.lm, ll] at this; exact this) hK
        · rw [← List.append_assoc, ← bb, ← ll]; exact d2
        · intro q hq
          rcases List.mem_append.1 hq with g | g
          · rw [M2.num q (List.mem_append_right _ g)]; exact r1 q g
          · exact r2 q g
    · rw [if_neg c]
      refine ⟨many, s, [], rfl, by simpa using P, Mv.refl, ?_, by simp, rfl⟩
      intro p hq v1 v2 i i0 i1 ht
      rw [List.append_nil] at hq
      by_cases d : rd s.words (p.1 + 2 + i) / 8 < y
      · have := hp p hq v1 v2 i i0 i1 ht d
        have := P.co.fr p hq
        have := P.co.bd p hq
        omega
      · omega
end Gc
set_option maxRecDepth 100000
set_option maxHeartbeats 2000000
/-! What holds of a room between its deeds. -/
namespace Gc
open Hm
theorem sum_le {g g' : Int × Int → Int} : ∀ {l : List (Int × Int)}, (∀ p ∈ l, g p ≤ g' p) → sumBy g l ≤ sumBy g' l
  | [], _ => Int.le_refl _
  | p :: r, h => by rw [sumBy, sumBy]; have := h p (by simp); have := sum_le (l := r) fun q hq => h q (by simp [hq]); omega
theorem sum_filter {g : Int × Int → Int} {k : Int × Int → Bool} : ∀ {l : List (Int × Int)}, (∀ p ∈ l, 0 ≤ g p) → sumBy g (l.filter k) ≤ sumBy g l
  | [], _ => Int.le_refl _
  | p :: r, h => by
    have a := h p (by simp); have b := sum_filter (g := g) (k := k) (l := r) fun q hq => h q (by simp [hq])
    rw [List.filter_cons]; split
    · rw [sumBy, sumBy]; omega
    · rw [sumBy]; omega
theorem sum_zero {g : Int × Int → Int} {l : List (Int × Int)} (h : ∀ p ∈ l, g p = 0) : sumBy g l = 0 := by
  induction l with
  | nil => rfl
  | cons p r ih => rw [sumBy, h p (by simp), ih fun q hq => h q (by simp [hq])]; rfl
def ot (s : Bd) : Int := beginOf s (1 - s.use)
theorem halves {s : Bd} (h : s.use = 0 ∨ s.use = 1) : (beginOf s s.use = s.young ∧ ot s = s.young + s.old) ∨ (beginOf s s.use = s.young + s.old ∧ ot s = s.young) := by
  rcases h with h | h
  · left; constructor
    · unfold beginOf; rw [h]; omega
    · unfold ot beginOf; rw [h]; omega
  · right; constructor
    · unfold beginOf; rw [h]; omega
    · unfold ot beginOf; rw [h]; omega
theorem Co.cong {G vs} {s s' : Bd} (C : Co G vs s) (h1 : s'.words = s.words) (h2 : s'.free = s.free) (h3 : s'.young = s.young) (h4 : s'.old = s.old) (h5 : s'.use = s.use) : Co G vs s' := by
  cases s; cases s'; simp only at h1 h2 h3 h4 h5; subst h1 h2 h3 h4 h5
  exact ⟨C.nd, C.dj, C.bd, C.fr, C.hd, C.nu, C.th, C.un, C.b0⟩
theorem Co.filt {G vs} {s : Bd} (C : Co G vs s) (k : Int × Int → Bool) (hu : ∀ q ∈ vs, beginOf s s.use ≤ q.1 → q.1 < lim s → k q = true)
    (ht : ∀ q ∈ vs, k q = true → 0 ≤ rd s.words q.1 → ∀ i, 0 ≤ i → i < q.2 → isT (rd s.words (q.1 + 2 + i)) = true → ∀ m, (rd s.words (q.1 + 2 + i) / 8, m) ∈ vs → k (rd s.words (q.1 + 2 + i) / 8, m) = true) :
    Co G (vs.filter k) s := by
  have L : ∀ {p}, p ∈ vs.filter k → p ∈ vs := fun h => (List.mem_filter.1 h).1
  refine ⟨C.nd.filter k, fun p hp q hq => C.dj p (L hp) q (L hq), fun p hp => C.bd p (L hp), fun p hp => C.fr p (L hp), fun p hp => ?_, fun p hp => C.nu p (L hp), fun p hp h0 => ?_,
    fun p hp q hq => C.un p (L hp) q (L hq), C.b0⟩
  · rcases C.hd p (L hp) with h | ⟨b, g1, g2, g3, g4, g5, g6⟩
    · exact .inl h
    · exact .inr ⟨b, g1, List.mem_filter.2 ⟨g2, hu _ g2 g4 (by have := C.b0; simp only; omega)⟩, g3, g4, g5, g6⟩
  · obtain ⟨t1, t2, t3⟩ := C.th p (L hp) h0
    refine ⟨t1, t2, fun i hi => ?_⟩
    have W := t3 i hi
    unfold Wor at W ⊢
    by_cases c : isT (rd s.words (p.1 + 2 + i)) = true
    · rw [if_pos c] at W ⊢
      obtain ⟨⟨m, hm⟩, e⟩ := W
      exact ⟨⟨m, List.mem_filter.2 ⟨hm, ht p (L hp) (List.mem_filter.1 hp).2 h0 i (by omega) hi c m hm⟩⟩, e⟩
    · rw [if_neg c] at W ⊢; exact W
theorem rt_filt {ws vs rows hs} {k : Int × Int → Bool} (T : Rt ws vs rows hs) (h : ∀ (j : Nat) a w, rows[j]? = some (a, w) → isT w = true → ∀ m, (w / 8, m) ∈ vs → k (w / 8, m) = true) :
    Rt ws (vs.filter k) rows hs := by
  refine ⟨T.1, fun j a w e => ?_⟩
  obtain ⟨x, ex, W⟩ := T.2 j a w e
  refine ⟨x, ex, ?_⟩
  unfold Wor at W ⊢
  by_cases c : isT w = true
  · rw [if_pos c] at W ⊢
    obtain ⟨⟨m, hm⟩, e'⟩ := W
    exact ⟨⟨m, List.mem_filter.2 ⟨hm, h j a w e c m hm⟩⟩, e'⟩
  · rw [if_neg c] at W ⊢; exact W
structure InvM (G : Gr) (hs : List (Int × Wo)) (vs : List (Int × Int)) (s : Bd) : Prop where
  co : Co G vs s
  wg : WG G
  rt : Rt s.words vs s.rows hs
  sh : (s.use = 0 ∨ s.use = 1) ∧ 0 ≤ s.young ∧ 0 ≤ s.old ∧ (s.words.length : Int) = s.young + 2 * s.old
  tp : 0 ≤ s.top ∧ s.top ≤ s.young
  rg : ∀ p ∈ vs, p.1 + p.2 + 2 ≤ s.top ∨ (beginOf s s.use ≤ p.1 ∧ p.1 + p.2 + 2 ≤ s.free) ∨ (ot s ≤ p.1 ∧ p.1 + p.2 + 2 ≤ ot s + s.left)
  ny : ∀ p ∈ vs, p.1 < s.young → 0 ≤ rd s.words p.1
  pn : ∀ p ∈ vs, p.1 < s.young → ∀ i, 0 ≤ i → i < p.2 → isT (rd s.words (p.1 + 2 + i)) = true →
    rd s.words (p.1 + 2 + i) / 8 < s.young ∨ (beginOf s s.use ≤ rd s.words (p.1 + 2 + i) / 8 ∧ rd s.words (p.1 + 2 + i) / 8 < lim s)
  pu : ∀ p ∈ vs, beginOf s s.use ≤ p.1 → p.1 < lim s → ∀ i, 0 ≤ i → i < p.2 → isT (rd s.words (p.1 + 2 + i)) = true →
    (rd s.words (p.1 + 2 + i) / 8 < s.young ∧ p.1 + 2 + i ∈ s.rem) ∨ (beginOf s s.use ≤ rd s.words (p.1 + 2 + i) / 8 ∧ rd s.words (p.1 + 2 + i) / 8 < lim s) ∨
    (ot s ≤ rd s.words (p.1 + 2 + i) / 8 ∧ rd s.words (p.1 + 2 + i) / 8 < ot s + s.old ∧ s.scan ≤ p.1 ∧ 0 < s.left)
  pl : ∀ p ∈ vs, ot s ≤ p.1 → p.1 < ot s + s.old → 0 ≤ rd s.words p.1 → ∀ i, 0 ≤ i → i < p.2 → isT (rd s.words (p.1 + 2 + i)) = true →
    ot s ≤ rd s.words (p.1 + 2 + i) / 8 ∧ rd s.words (p.1 + 2 + i) / 8 < ot s + s.old
  ro : ∀ (k : Nat) h w, s.rows[k]? = some (h, w) → isT w = true → w / 8 < s.young ∨ (beginOf s s.use ≤ w / 8 ∧ w / 8 < lim s)
  rn : s.rem.Nodup
  rs : ∀ x ∈ s.rem, ∃ q ∈ vs, beginOf s s.use ≤ q.1 ∧ q.1 < lim s ∧ ∃ i : Nat, (i : Int) < q.2 ∧ x = q.1 + 2 + i
  ly : beginOf s s.use ≤ s.scan ∧ ∃ l, Lay s.scan s.free l ∧ ∀ p ∈ l, p ∈ vs
  lf : 0 ≤ s.left ∧ s.left ≤ s.old ∧ 0 ≤ s.copied ∧ (s.left = 0 → s.scan = s.free ∧ s.copied = 0)
  cp : sumBy (fun p => if ot s ≤ p.1 ∧ p.1 < ot s + s.old ∧ 0 ≤ rd s.words p.1 then p.2 + 2 else 0) vs ≤ s.left - s.copied
  su : sumBy (fun p => if beginOf s s.use ≤ p.1 ∧ p.1 < lim s then p.2 + 2 else 0) vs ≤ s.free - beginOf s s.use
  sn : sumBy (fun p => if p.1 < s.young then p.2 + 2 else 0) vs ≤ s.top
  fl : filledW s ≤ s.old
  nb : ∀ p ∈ vs, 1 ≤ rd s.words (p.1 + 1) ∧ rd s.words (p.1 + 1) ≤ s.last
structure Inv (G : Gr) (hs : List (Int × Wo)) (vs : List (Int × Int)) (s : Bd) : Prop extends InvM G hs vs s where
  sf : 0 < s.left → s.scan < s.free
theorem InvM.uncopied {G hs vs} {s : Bd} (I : InvM G hs vs s) : 0 ≤ s.left - s.copied := by
  refine Int.le_trans (sum_nonneg fun p hp => ?_) I.cp
  have := I.co.bd p hp; split <;> omega
/-- what deeds of the collector leave -/
structure Keep (s s' : Bd) : Prop where
  y : s'.young = s.young
  o : s'.old = s.old
  pc : s'.pace = s.pace
  la : s'.last = s.last
  nx : s'.next = s.next
  ln : s'.words.length = s.words.length
theorem Keep.trans {a b c : Bd} (A : Keep a b) (B : Keep b c) : Keep a c :=
  ⟨B.y.trans A.y, B.o.trans A.o, B.pc.trans A.pc, B.la.trans A.la, B.nx.trans A.nx, B.ln.trans A.ln⟩
theorem Keep.rfl' {a : Bd} : Keep a a := ⟨rfl, rfl, rfl, rfl, rfl, rfl⟩
end Gc
set_option maxRecDepth 100000
set_option maxHeartbeats 2000000
/-! The nursery is emptied. -/
namespace Gc
open Hm
theorem wor_num {ws vs w m} (h : Wor ws vs w (.thing m)) : ∃ k, (w / 8, k) ∈ vs ∧ m = rd ws (w / 8 + 1) := by
  unfold Wor at h
  split at h
  · obtain ⟨⟨k, hk⟩, e⟩ := h; cases e; exact ⟨k, hk, rfl⟩
  · cases h
theorem filledW_eq (s : Bd) : filledW s = s.free - beginOf s s.use + s.top + s.left - s.copied := rfl
theorem Inv.gather {G hs vs} {s : Bd} (I : Inv G hs vs s) : ∃ n s' vs', Hm.gather s = some (n, s') ∧ Inv G hs vs' s' ∧ Keep s s' ∧ s'.top = 0 ∧ s'.rem = [] ∧ s'.use = s.use ∧
    s'.left = s.left ∧ s'.copied = s.copied ∧ filledW s' ≤ filledW s ∧ ∀ p ∈ vs', s.young ≤ p.1 := by
  have C := I.co
  obtain ⟨z0, z1, z2, z3, z4⟩ := C.b0
  obtain ⟨su, sy, so, sl⟩ := I.sh
  have hv := halves su
  have ll : lim s = beginOf s s.use + s.old := rfl
  have yb : s.young ≤ beginOf s s.use := by omega
  -- the phase
  let F : Int → Bool := fun a => decide (a < s.young)
  let K : Int → Prop := fun a => a < s.young ∨ (beginOf s s.use ≤ a ∧ a < lim s)
  let R : Int → Prop := fun n => 1 ≤ n ∧ n ≤ s.last
  let s0 : Bd := { s with tally := bump s.tally 0 1 }
  have U : unc F s.words vs ≤ s.top := Int.le_trans (sum_le fun p hp => by
    have := C.bd p hp
    simp only [F, decide_eq_true_eq]
    split <;> split <;> omega) I.sn
  have U0 : 0 ≤ unc F s.words vs := sum_nonneg fun p hp => by
    have := C.bd p hp
    split <;> omega
  have uc := I.uncopied
  have fl := I.fl
  have fe := filledW_eq s
  have P0 : Ph G F K (s.old - (s.free - beginOf s s.use) - unc F s.words vs) vs s0 := by
    refine ⟨C.cong rfl rfl rfl rfl rfl, ?_, by omega, ?_, ?_⟩
    · show s.free - beginOf s s.use + unc F s.words vs + _ ≤ s.old; omega
    · intro a h1 h2
      have h1' : beginOf s s.use ≤ a := h1
      simp only [F, decide_eq_false_iff_not]; omega
    · intro q hq hf h0 i i0 i1 ht
      simp only [F, decide_eq_true_eq] at hf
      exact I.pn q hq hf i i0 i1 ht
  have hin : ∀ {p : Int × Int}, p ∈ vs → within 0 s.young (p.1 * 8) = F p.1 := by
    intro p hp
    have := C.bd p hp
    unfold within
    have e1 : isT (p.1 * 8) = true := by rw [isT_iff]; omega
    have e2 : p.1 * 8 / 8 = p.1 := by omega
    have e3 : decide ((0 : Int) ≤ p.1) = true := by simpa using this.1
    rw [e1, e2, e3]; simp [F]
  have hin2 : ∀ {w : Int}, Val vs (w / 8) → isT w = true → within 0 s.young w = F (w / 8) := by
    rintro w ⟨k, hk⟩ ht
    have e := hin hk
    have e2 : w / 8 * 8 = w := by rw [isT_iff] at ht; omega
    simp only [e2] at e; exact e
  -- what is held
  obtain ⟨s1, n1, e1, P1, M1, T1, d1, -, r1, w1⟩ := Ph.leadRows (lo := 0) (up := s.young) (R := R) (hs := hs) s.rows.length 0 vs s0 P0 I.rt (by simp [s0])
    (fun j h w _ e ht => by
      obtain ⟨x, ex, W⟩ := I.rt.2 j h w e
      unfold Wor at W; rw [if_pos ht] at W
      exact hin2 W.1 ht)
    (fun j h m e => by
      have hl : j < s.rows.length := by rw [I.rt.1]; exact (List.getElem?_eq_some_iff.1 e).1
      obtain ⟨⟨h', w⟩, e'⟩ : ∃ r, s.rows[j]? = some r := ⟨_, List.getElem?_eq_getElem hl⟩
      obtain ⟨x, ex, W⟩ := I.rt.2 j h' w e'
      rw [e] at ex; cases ex
      obtain ⟨k, hk, em⟩ := wor_num W
      have := I.nb _ hk
      rw [em]; exact this)
  have bb1 : beginOf s1 s1.use = beginOf s s.use := M1.bg
  have ll1 : lim s1 = lim s := M1.lm
  -- what is remembered
  have rem1 : s1.rem = s.rem := by rw [M1.eq]
  have sl1 : ∀ p ∈ vs, ∀ i, 0 ≤ i → i < p.2 → rd s1.words (p.1 + 2 + i) = rd s.words (p.1 + 2 + i) := fun p hp i i0 i1 => M1.slt p hp i i0 i1 (fun h => h)
  obtain ⟨s2, n2, e2, P2, M2, d2, r2, rr2⟩ := Ph.leadOn (lo := 0) (up := s.young) (R := R) s1.rem (vs ++ n1) s1 P1
    (fun x hx => by
      rw [rem1] at hx
      obtain ⟨q, hq, u1, u2, i, hi, rfl⟩ := I.rs x hx
      refine ⟨q, List.mem_append_left _ hq, by rw [bb1]; exact u1, by rw [ll1]; exact u2, i, hi, rfl, fun m hm => ?_⟩
      rw [M1.num q hq] at hm
      have W := (C.th q hq (C.nu q hq u1 u2)).2.2 i hi
      have hm' : (G (rd s.words (q.1 + 1))).2.getD i (.word 0) = .thing m := hm
      rw [hm'] at W
      obtain ⟨k, hk, em⟩ := wor_num W
      have := I.nb _ hk
      rw [em]; exact this)
    (by rw [rem1]; exact I.rn)
    (fun x hx ht => by
      rw [rem1] at hx
      obtain ⟨q, hq, u1, u2, i, hi, rfl⟩ := I.rs x hx
      rw [sl1 q hq i (by omega) hi] at ht ⊢
      exact hin2 (C.slotV hq (C.nu q hq u1 u2) (by omega) hi ht).1 ht)
  have bb2 : beginOf s2 s2.use = beginOf s s.use := M2.bg.trans bb1
  have ll2 : lim s2 = lim s := M2.lm.trans ll1
  have y2 : s2.young = s.young := by rw [M2.eq, M1.eq]
  have hK : ∀ a, beginOf s s.use ≤ a → a < lim s → K a := fun a h1 h2 => .inr ⟨h1, h2⟩
  have f2 : s2.free ≤ lim s := by have := P2.co.b0.2.2.1; rw [ll2] at this; exact this
  have M12 : Mv F K (fun _ => True) vs (n1 ++ n2) s0 s2 := Mv.trans' M1 M2 P0.nf f2 hK
  -- all that was copied
  obtain ⟨many, s3, n3, e3, P3, M3, d3, r3, rr3⟩ := Ph.gatherGo (y := s.young) I.wg (R := R) (s.words.length + 1) (vs ++ n1 ++ n2) (n1 ++ n2) s2 s.free 0 P2 y2 M12.lay
    (fun p hp => by rw [List.append_assoc]; exact List.mem_append_right _ hp) (by rw [bb2]; exact z1) (by rw [ll2]; omega) (by rw [bb2, ll2]; exact hK)
    (by
      intro p hp u1 u2 i i0 i1 ht hlt
      rw [bb2] at u1; rw [ll2] at u2
      rw [List.append_assoc] at hp
      rcases List.mem_append.1 hp with g | g
      · exfalso
        rcases M12.led p g i i0 i1 with e | ⟨-, -, -, g4, g5⟩
        · have e' : rd s2.words (p.1 + 2 + i) = rd s.words (p.1 + 2 + i) := e
          have ht' := ht; have hlt' := hlt
          rw [e'] at ht' hlt'
          rcases I.pu p g u1 u2 i i0 i1 ht' with ⟨-, h⟩ | h | h
          · have := d2 _ (by rw [rem1]; exact h) ht
            simp only [F, decide_eq_false_iff_not] at this; omega
          · omega
          · omega
        · have g4' : beginOf s s.use ≤ rd s2.words (p.1 + 2 + i) / 8 := g4
          omega
      · exact (lay_mem M12.lay g).1)
    (fun p hp => by
      rw [List.append_assoc] at hp
      rcases List.mem_append.1 hp with g | g
      · rw [M12.num p g]; exact I.nb p g
      · rcases List.mem_append.1 g with g | g
        · rw [M2.num p (List.mem_append_right _ g)]; exact r1 p g
        · exact r2 p g)
  have bb3 : beginOf s3 s3.use = beginOf s s.use := M3.bg.trans bb2
  have ll3 : lim s3 = lim s := M3.lm.trans ll2
  have f3 : s3.free ≤ lim s := by have := P3.co.b0.2.2.1; rw [ll3] at this; exact this
  rw [List.append_assoc vs n1 n2] at M3 P3 d3
  have M : Mv F K (fun _ => True) vs (n1 ++ n2 ++ n3) s0 s3 := Mv.trans' M12 M3 P0.nf f3 hK
  rw [List.append_assoc] at P3 d3
  have nums : ∀ p ∈ vs ++ (n1 ++ n2 ++ n3), 1 ≤ rd s3.words (p.1 + 1) ∧ rd s3.words (p.1 + 1) ≤ s.last := by
    intro p hp
    rcases List.mem_append.1 hp with g | g
    · rw [M.num p g]; exact I.nb p g
    · rcases List.mem_append.1 g with g | g
      · rw [M3.num p (List.mem_append_right _ g)]
        rcases List.mem_append.1 g with g | g
        · rw [M2.num p (List.mem_append_right _ g)]; exact r1 p g
        · exact r2 p g
      · exact r3 p g
  have T3 : Rt s3.words (vs ++ (n1 ++ n2 ++ n3)) s3.rows hs := by
    rw [rr3, rr2]
    refine rt_ext T1 (fun p hp => ?_) fun p hp => by rw [M3.num p (by rw [← List.append_assoc]; exact List.mem_append_left _ hp), M2.num p hp]
    rcases List.mem_append.1 hp with g | g
    · exact List.mem_append_left _ g
    · exact List.mem_append_right _ (List.mem_append_left _ (List.mem_append_left _ g))
  generalize n1 ++ n2 ++ n3 = new at M P3 d3 nums T3
  have fi3 : ∀ {a : Int}, F a = false → s.young ≤ a := fun h => by simp only [F, decide_eq_false_iff_not] at h; omega
  have lm := @lay_mem s.free s3.free new
  have w3 : s3 = { s0 with words := s3.words, free := s3.free, rows := s3.rows } := M.eq
  have y3 : s3.young = s.young := by rw [w3]
  have o3 : s3.old = s.old := by rw [w3]
  have sc3 : s3.scan = s.scan := by rw [w3]
  have lf3 : s3.left = s.left := by rw [w3]
  have cp3 : s3.copied = s.copied := by rw [w3]
  have la3 : s3.last = s.last := by rw [w3]
  have us3 : s3.use = s.use := by rw [w3]
  have ot3 : ot s3 = ot s := by unfold ot beginOf; rw [us3, y3, o3]
  obtain ⟨lf1, lf2, lf4, lf5⟩ := I.lf
  have lf6 := I.sf
  let kp : Int × Int → Bool := fun p => decide (s.young ≤ p.1)
  have kpT : ∀ {p : Int × Int}, kp p = true ↔ s.young ≤ p.1 := by intro p; simp [kp]
  -- where words lead to, behind it
  have lead : ∀ q ∈ vs ++ new, s.young ≤ q.1 → 0 ≤ rd s3.words q.1 → ∀ i, 0 ≤ i → i < q.2 → isT (rd s3.words (q.1 + 2 + i)) = true → s.young ≤ rd s3.words (q.1 + 2 + i) / 8 := by
    intro q hq hy h0 i i0 i1 ht
    by_cases u : beginOf s s.use ≤ q.1 ∧ q.1 < lim s
    · exact d3 q hq (by rw [bb2]; exact u.1) (by rw [ll2]; exact u.2) i i0 i1 ht
    · rcases List.mem_append.1 hq with g | g
      · have bq := C.bd q g
        rcases M.led q g i i0 i1 with e | ⟨-, -, -, g4, g5⟩
        · have e' : rd s3.words (q.1 + 2 + i) = rd s.words (q.1 + 2 + i) := e
          rw [e'] at ht ⊢
          have rg := I.rg q g
          have hq0 : rd s3.words q.1 = rd s.words q.1 := M.hdf q g h0
          rw [hq0] at h0
          have := I.pl q g (by omega) (by omega) h0 i i0 i1 ht
          omega
        · have g4' : beginOf s s.use ≤ rd s3.words (q.1 + 2 + i) / 8 := g4
          omega
      · have := lm M.lay g; omega
  refine ⟨many, emptyNur s3, (vs ++ new).filter kp, ?_, ?_, ?_, rfl, rfl, us3, lf3, cp3, ?_, fun p hp => kpT.1 (List.mem_filter.1 hp).2⟩
  · unfold Hm.gather
    have e1' : Hm.leadRoots 0 s.young s0 = some s1 := e1
    show (match Hm.leadRoots 0 s.young s0 with | none => none | some s1 => _) = _
    rw [e1']; dsimp only
    rw [e2]; dsimp only
    rw [e3]
  · have Lf : ∀ {p}, p ∈ (vs ++ new).filter kp → p ∈ vs ++ new ∧ s.young ≤ p.1 := fun h => ⟨(List.mem_filter.1 h).1, kpT.1 (List.mem_filter.1 h).2⟩
    have Cf : Co G ((vs ++ new).filter kp) s3 := P3.co.filt kp (fun q hq h1 h2 => kpT.2 (by rw [bb3] at h1; omega))
      (fun q hq hk h0 i i0 i1 ht m hm => kpT.2 (lead q hq (kpT.1 hk) h0 i i0 i1 ht))
    have inuse : ∀ p ∈ new, beginOf s s.use ≤ p.1 ∧ p.1 < lim s ∧ p.1 + p.2 + 2 ≤ s3.free := fun p hp => by
      have := lm M.lay hp
      have g : s0.free = s.free := rfl
      omega
    have sumnew : sumBy (fun p => p.2 + 2) new = s3.free - s.free := lay_sum M.lay
    have newk : ∀ p ∈ new, 0 ≤ p.2 := fun p hp => (lm M.lay hp).2.1
    have flE : filledW (emptyNur s3) = s3.free - beginOf s s.use + s.left - s.copied := by
      show s3.free - beginOf s3 s3.use + 0 + s3.left - s3.copied = _
      rw [bb3, lf3, cp3]; omega
    have sp3 := P3.sp
    rw [bb3, o3] at sp3
    have u3 : 0 ≤ unc (fun a => decide (a < s.young)) s3.words (vs ++ new) := sum_nonneg fun p hp => by
      have := P3.co.bd p hp
      split <;> omega
    refine ⟨⟨Cf.cong rfl rfl rfl rfl rfl, I.wg, ?_, ?_, ?_, ?_, ?_, ?_, ?_, ?_, ?_, List.nodup_nil, ?_, ?_, ?_, ?_, ?_, ?_, ?_, ?_⟩, ?_⟩
    · refine rt_filt T3 fun j a w e ht m hm => kpT.2 ?_
      have e' : s1.rows[j]? = some (a, w) := by rw [← rr2, ← rr3]; exact e
      exact fi3 (d1 j a w (Nat.zero_le _) e' ht)
    · show (s3.use = 0 ∨ s3.use = 1) ∧ 0 ≤ s3.young ∧ 0 ≤ s3.old ∧ (s3.words.length : Int) = s3.young + 2 * s3.old
      rw [us3, y3, o3, M.len]; exact ⟨su, sy, so, sl⟩
    · show (0 : Int) ≤ 0 ∧ 0 ≤ s3.young
      rw [y3]; exact ⟨Int.le_refl _, sy⟩
    · intro p hp
      show p.1 + p.2 + 2 ≤ 0 ∨ (beginOf s3 s3.use ≤ p.1 ∧ p.1 + p.2 + 2 ≤ s3.free) ∨ (ot s3 ≤ p.1 ∧ p.1 + p.2 + 2 ≤ ot s3 + s3.left)
      rw [bb3, ot3, lf3]
      obtain ⟨hp, hy⟩ := Lf hp
      right
      rcases List.mem_append.1 hp with g | g
      · have := I.rg p g; have := C.bd p g; have := M.le
        have g : s0.free = s.free := rfl
        have := I.tp
        omega
      · have := inuse p g; left; omega
    · intro p hp hy
      have hy' : p.1 < s3.young := hy
      have := (Lf hp).2; omega
    · intro p hp hy
      have hy' : p.1 < s3.young := hy
      have := (Lf hp).2; omega
    · intro p hp u1 u2 i i0 i1 ht
      have u1' : beginOf s3 s3.use ≤ p.1 := u1
      have u2' : p.1 < lim s3 := u2
      have ht' : isT (rd s3.words (p.1 + 2 + i)) = true := ht
      rw [bb3] at u1'; rw [ll3] at u2'
      obtain ⟨hp, hy⟩ := Lf hp
      have ty := d3 p hp (by rw [bb2]; exact u1') (by rw [ll2]; exact u2') i i0 i1 ht'
      right
      show (beginOf s3 s3.use ≤ rd s3.words (p.1 + 2 + i) / 8 ∧ rd s3.words (p.1 + 2 + i) / 8 < lim s3) ∨
        (ot s3 ≤ rd s3.words (p.1 + 2 + i) / 8 ∧ rd s3.words (p.1 + 2 + i) / 8 < ot s3 + s3.old ∧ (if s3.left = 0 then s3.free else s3.scan) ≤ p.1 ∧ 0 < s3.left)
      rw [bb3, ll3, ot3, lf3, o3, sc3]
      rcases List.mem_append.1 hp with g | g
      · rcases M.led p g i i0 i1 with e | ⟨-, -, -, g4, g5⟩
        · have e' : rd s3.words (p.1 + 2 + i) = rd s.words (p.1 + 2 + i) := e
          rw [e'] at ht' ty ⊢
          rcases I.pu p g u1' u2' i i0 i1 ht' with h | h | ⟨h1, h2, h3, h4⟩
          · omega
          · exact .inl h
          · right; rw [if_neg (by omega)]; exact ⟨h1, h2, h3, h4⟩
        · exact .inl ⟨g4, by omega⟩
      · rcases M.nw p g i i0 i1 ht' with h | h
        · omega
        · exact .inl h
    · intro p hp u1 u2 h0 i i0 i1 ht
      have u1' : ot s3 ≤ p.1 := u1
      have u2' : p.1 < ot s3 + s3.old := u2
      have h0' : 0 ≤ rd s3.words p.1 := h0
      have ht' : isT (rd s3.words (p.1 + 2 + i)) = true := ht
      rw [ot3] at u1' u2'; rw [o3] at u2'
      show ot s3 ≤ rd s3.words (p.1 + 2 + i) / 8 ∧ rd s3.words (p.1 + 2 + i) / 8 < ot s3 + s3.old
      rw [ot3, o3]
      obtain ⟨hp, hy⟩ := Lf hp
      rcases List.mem_append.1 hp with g | g
      · have hh : rd s3.words p.1 = rd s.words p.1 := M.hdf p g h0'
        rw [hh] at h0'
        rcases M.led p g i i0 i1 with e | ⟨g1, g2, -, g4, g5⟩
        · have e' : rd s3.words (p.1 + 2 + i) = rd s.words (p.1 + 2 + i) := e
          rw [e'] at ht' ⊢
          exact I.pl p g u1' u2' h0' i i0 i1 ht'
        · have := I.pl p g u1' u2' h0' i i0 i1 g1
          simp only [F, decide_eq_true_eq] at g2
          have g2' : rd s.words (p.1 + 2 + i) / 8 < s.young := g2
          omega
      · have := inuse p g; omega
    · intro k h w e ht
      have e' : s1.rows[k]? = some (h, w) := by rw [← rr2, ← rr3]; exact e
      have ty := fi3 (d1 k h w (Nat.zero_le _) e' ht)
      right
      show beginOf s3 s3.use ≤ w / 8 ∧ w / 8 < lim s3
      rw [bb3, ll3]
      rcases w1 0 h w k e' with g | ⟨-, g2, g3⟩
      · rcases I.ro k h w g ht with h | h
        · omega
        · exact h
      · have := P1.co.b0.2.2.1
        rw [ll1] at this
        exact ⟨g2, by omega⟩
    · intro x hx; cases hx
    · show beginOf s3 s3.use ≤ (if s3.left = 0 then s3.free else s3.scan) ∧ ∃ l, Lay (if s3.left = 0 then s3.free else s3.scan) s3.free l ∧ _
      rw [bb3, lf3, sc3]
      by_cases c : s.left = 0
      · rw [if_pos c]
        refine ⟨?_, [], rfl, fun p hp => by cases hp⟩
        have := M.le; have g : s0.free = s.free := rfl; omega
      · rw [if_neg c]
        obtain ⟨g1, l, g2, g3⟩ := I.ly
        refine ⟨g1, l ++ new, lay_app g2 M.lay, fun p hp => List.mem_filter.2 ⟨?_, kpT.2 ?_⟩⟩
        · rcases List.mem_append.1 hp with g | g
          · exact List.mem_append_left _ (g3 p g)
          · exact List.mem_append_right _ g
        · rcases List.mem_append.1 hp with g | g
          · have := lay_mem g2 g; omega
          · have := inuse p g; omega
    · show 0 ≤ s3.left ∧ s3.left ≤ s3.old ∧ 0 ≤ s3.copied ∧ (s3.left = 0 → (if s3.left = 0 then s3.free else s3.scan) = s3.free ∧ s3.copied = 0)
      rw [lf3, o3, cp3, sc3]
      exact ⟨lf1, lf2, lf4, fun h => ⟨by rw [if_pos h], (lf5 h).2⟩⟩
    · show sumBy (fun p => if ot s3 ≤ p.1 ∧ p.1 < ot s3 + s3.old ∧ 0 ≤ rd s3.words p.1 then p.2 + 2 else 0) _ ≤ s3.left - s3.copied
      rw [ot3, o3, lf3, cp3]
      refine Int.le_trans (sum_filter fun p hp => by have := P3.co.bd p hp; split <;> omega) ?_
      rw [sum_app, sum_zero (l := new) fun p hp => by have := inuse p hp; rw [if_neg]; omega]
      rw [sum_same (l := vs) (g := fun p => if ot s ≤ p.1 ∧ p.1 < ot s + s.old ∧ 0 ≤ rd s.words p.1 then p.2 + 2 else 0)]
      · have := I.cp; omega
      · intro p hp
        by_cases c : ot s ≤ p.1
        · have : rd s3.words p.1 = rd s.words p.1 := M.hdn p hp (by simp only [F, decide_eq_false_iff_not]; omega)
          rw [this]
        · rw [if_neg (by omega), if_neg (by omega)]
    · show sumBy (fun p => if beginOf s3 s3.use ≤ p.1 ∧ p.1 < lim s3 then p.2 + 2 else 0) _ ≤ s3.free - beginOf s3 s3.use
      rw [bb3, ll3]
      refine Int.le_trans (sum_filter fun p hp => by have := P3.co.bd p hp; split <;> omega) ?_
      rw [sum_app]
      have h1 := I.su
      have h2 : sumBy (fun p : Int × Int => if beginOf s s.use ≤ p.1 ∧ p.1 < lim s then p.2 + 2 else 0) new = s3.free - s.free := by
        rw [← sumnew]; exact sum_same fun p hp => by have := inuse p hp; rw [if_pos ⟨this.1, this.2.1⟩]
      omega
    · show sumBy (fun p => if p.1 < s3.young then p.2 + 2 else 0) _ ≤ 0
      rw [sum_zero fun p hp => by have := (Lf hp).2; rw [if_neg]; omega]; exact Int.le_refl _
    · rw [flE]; show _ ≤ s3.old; rw [o3]; omega
    · intro p hp
      show 1 ≤ rd s3.words (p.1 + 1) ∧ rd s3.words (p.1 + 1) ≤ s3.last
      rw [la3]; exact nums p (Lf hp).1
    · show 0 < s3.left → (if s3.left = 0 then s3.free else s3.scan) < s3.free
      rw [lf3, sc3]
      intro h
      rw [if_neg (by omega)]
      have := lf6 h; have := M.le; have g : s0.free = s.free := rfl; omega
  · refine ⟨y3, o3, ?_, la3, ?_, M.len⟩
    · show s3.pace = s.pace; rw [w3]
    · show s3.next = s.next; rw [w3]
  · have sp3 := P3.sp
    rw [bb3, o3] at sp3
    have u3 : 0 ≤ unc (fun a => decide (a < s.young)) s3.words (vs ++ new) := sum_nonneg fun p hp => by
      have := P3.co.bd p hp
      split <;> omega
    show s3.free - beginOf s3 s3.use + 0 + s3.left - s3.copied ≤ filledW s
    rw [bb3, lf3, cp3]; omega
end Gc
set_option maxRecDepth 100000
set_option maxHeartbeats 2000000
/-! The end of a turn, and its begin. -/
namespace Gc
open Hm
/-- what lies in the nursery and in the half in use stays there -/
def Sur (vs : List (Int × Int)) (s : Bd) (vs' : List (Int × Int)) (s' : Bd) : Prop :=
  ∀ p ∈ vs, (p.1 < s.young ∨ (beginOf s s.use ≤ p.1 ∧ p.1 < lim s)) → p ∈ vs' ∧ rd s'.words (p.1 + 1) = rd s.words (p.1 + 1)
/-- a turn is ended when all was looked at -/
theorem InvM.fin {G hs vs} {s : Bd} (I : InvM G hs vs s) : ∃ vs', Inv G hs vs' (endIf s) ∧ Keep s (endIf s) ∧ (endIf s).top = s.top ∧ (endIf s).rem = s.rem ∧ (endIf s).use = s.use ∧
    (endIf s).scan = s.scan ∧ (endIf s).free = s.free ∧ filledW (endIf s) ≤ filledW s ∧ ((∀ p ∈ vs, s.young ≤ p.1) → ∀ p ∈ vs', s.young ≤ p.1) ∧ Sur vs s vs' (endIf s) := by
  have C := I.co
  obtain ⟨z0, z1, z2, z3, z4⟩ := C.b0
  obtain ⟨su, sy, so, sl⟩ := I.sh
  have hv := halves su
  have ll : lim s = beginOf s s.use + s.old := rfl
  have uc := I.uncopied
  have fl := I.fl
  have fe := filledW_eq s
  obtain ⟨lf1, lf2, lf4, lf5⟩ := I.lf
  unfold endIf
  by_cases c : s.scan = s.free
  · rw [if_pos c]
    let kp : Int × Int → Bool := fun p => decide (p.1 < s.young ∨ (beginOf s s.use ≤ p.1 ∧ p.1 < lim s))
    have kpT : ∀ {p : Int × Int}, kp p = true ↔ (p.1 < s.young ∨ (beginOf s s.use ≤ p.1 ∧ p.1 < lim s)) := by intro p; simp [kp]
    have Lf : ∀ {p}, p ∈ vs.filter kp → p ∈ vs ∧ (p.1 < s.young ∨ (beginOf s s.use ≤ p.1 ∧ p.1 < lim s)) := fun h => ⟨(List.mem_filter.1 h).1, kpT.1 (List.mem_filter.1 h).2⟩
    have pu' : ∀ p ∈ vs, beginOf s s.use ≤ p.1 → p.1 < lim s → ∀ i, 0 ≤ i → i < p.2 → isT (rd s.words (p.1 + 2 + i)) = true →
        (rd s.words (p.1 + 2 + i) / 8 < s.young ∧ p.1 + 2 + i ∈ s.rem) ∨ (beginOf s s.use ≤ rd s.words (p.1 + 2 + i) / 8 ∧ rd s.words (p.1 + 2 + i) / 8 < lim s) := by
      intro p hp u1 u2 i i0 i1 ht
      rcases I.pu p hp u1 u2 i i0 i1 ht with h | h | ⟨h1, h2, h3, h4⟩
      · exact .inl h
      · exact .inr h
      · have := C.fr p hp; have := C.bd p hp; omega
    refine ⟨vs.filter kp, ⟨⟨?_, I.wg, ?_, I.sh, I.tp, ?_, ?_, ?_, ?_, ?_, I.ro, I.rn, ?_, ?_, ?_, ?_, ?_, ?_, ?_, ?_⟩, ?_⟩, ⟨rfl, rfl, rfl, rfl, rfl, rfl⟩, rfl, rfl, rfl, rfl, rfl, ?_, fun h p hp => h p (Lf hp).1, fun p hp h => ⟨List.mem_filter.2 ⟨hp, kpT.2 h⟩, rfl⟩⟩
    · refine (C.filt kp (fun q hq h1 h2 => kpT.2 (.inr ⟨h1, h2⟩)) fun q hq hk h0 i i0 i1 ht m hm => kpT.2 ?_).cong rfl rfl rfl rfl rfl
      rcases kpT.1 hk with h | ⟨h1, h2⟩
      · exact I.pn q hq h i i0 i1 ht
      · rcases pu' q hq h1 h2 i i0 i1 ht with h | h
        · exact .inl h.1
        · exact .inr h
    · exact rt_filt I.rt fun j a w e ht m hm => kpT.2 (I.ro j a w e ht)
    · intro p hp
      obtain ⟨hp, h⟩ := Lf hp
      show p.1 + p.2 + 2 ≤ s.top ∨ (beginOf s s.use ≤ p.1 ∧ p.1 + p.2 + 2 ≤ s.free) ∨ (ot s ≤ p.1 ∧ p.1 + p.2 + 2 ≤ ot s + 0)
      have := I.rg p hp; have := C.bd p hp; have := I.tp
      omega
    · intro p hp h; exact I.ny p (Lf hp).1 h
    · intro p hp h i i0 i1 ht; exact I.pn p (Lf hp).1 h i i0 i1 ht
    · intro p hp u1 u2 i i0 i1 ht
      rcases pu' p (Lf hp).1 u1 u2 i i0 i1 ht with h | h
      · exact .inl h
      · exact .inr (.inl h)
    · intro p hp u1 u2 h0 i i0 i1 ht; exact I.pl p (Lf hp).1 u1 u2 h0 i i0 i1 ht
    · intro x hx
      obtain ⟨q, hq, u1, u2, r⟩ := I.rs x hx
      exact ⟨q, List.mem_filter.2 ⟨hq, kpT.2 (.inr ⟨u1, u2⟩)⟩, u1, u2, r⟩
    · exact ⟨I.ly.1, [], c, fun p hp => by cases hp⟩
    · exact ⟨Int.le_refl _, so, Int.le_refl _, fun _ => ⟨c, rfl⟩⟩
    · show sumBy (fun p => if ot s ≤ p.1 ∧ p.1 < ot s + s.old ∧ 0 ≤ rd s.words p.1 then p.2 + 2 else 0) _ ≤ 0 - 0
      rw [sum_zero fun p hp => by have := (Lf hp).2; rw [if_neg]; omega]; omega
    · exact Int.le_trans (sum_filter fun p hp => by have := C.bd p hp; split <;> omega) I.su
    · exact Int.le_trans (sum_filter fun p hp => by have := C.bd p hp; split <;> omega) I.sn
    · show s.free - beginOf s s.use + s.top + 0 - 0 ≤ s.old; omega
    · intro p hp; exact I.nb p (Lf hp).1
    · intro h; exact absurd h (by simp)
    · show s.free - beginOf s s.use + s.top + 0 - 0 ≤ filledW s; omega
  · rw [if_neg c]
    refine ⟨vs, ⟨I, fun h => ?_⟩, Keep.rfl', rfl, rfl, rfl, rfl, rfl, Int.le_refl _, fun h => h, fun p hp _ => ⟨hp, rfl⟩⟩
    obtain ⟨g1, l, g2, g3⟩ := I.ly
    have := lay_le g2; omega
end Gc
set_option maxRecDepth 100000
set_option maxHeartbeats 2000000
/-! A turn is begun. -/
namespace Gc
open Hm
theorem within_eq {lo up w : Int} (ht : isT w = true) : within lo up w = decide (lo ≤ w / 8 ∧ w / 8 < up) := by
  unfold within; rw [ht, Bool.true_and, Bool.decide_and]
theorem Inv.turn {G hs vs} {s : Bd} (I : Inv G hs vs s) : ∃ n s' vs', Hm.turn s = some (n, s') ∧ (n = 0 ∨ n = 1) ∧ Inv G hs vs' s' ∧ Keep s s' ∧ filledW s' ≤ filledW s := by
  unfold Hm.turn
  by_cases c : s.left > 0
  · rw [if_pos c]; exact ⟨0, s, vs, rfl, .inl rfl, I, Keep.rfl', Int.le_refl _⟩
  · rw [if_neg c]
    obtain ⟨n, s1, v1, e1, J, K1, t1, m1, u1, l1, c1, f1, y1⟩ := I.gather
    have l0 : s1.left = 0 := by have := I.lf.1; omega
    rw [e1]
    dsimp only
    have C := J.co
    obtain ⟨z0, z1, z2, z3, z4⟩ := C.b0
    obtain ⟨su, sy, so, sl⟩ := J.sh
    have hv := halves su
    have ll : lim s1 = beginOf s1 s1.use + s1.old := rfl
    have jl := J.lf
    have c0 : s1.copied = 0 := (jl.2.2.2 l0).2
    let s2 : Bd := changeH { s1 with tally := bump s1.tally 1 1, left := s1.free - beginOf s1 s1.use }
    have b2 : beginOf s2 s2.use = ot s1 := rfl
    have o2 : ot s2 = beginOf s1 s1.use := by
      show s1.young + (1 - (1 - s1.use)) * s1.old = s1.young + s1.use * s1.old
      congr 2; omega
    have ll2 : lim s2 = ot s1 + s1.old := rfl
    have w2 : s2.words = s1.words := rfl
    have f2 : s2.free = ot s1 := rfl
    have all : ∀ p ∈ v1, beginOf s1 s1.use ≤ p.1 ∧ p.1 + p.2 + 2 ≤ s1.free ∧ 0 ≤ p.2 := by
      intro p hp
      have := J.rg p hp; have := C.bd p hp; have := y1 p hp; have := K1.y; omega
    have slots : ∀ p ∈ v1, ∀ i, 0 ≤ i → i < p.2 → isT (rd s1.words (p.1 + 2 + i)) = true →
        beginOf s1 s1.use ≤ rd s1.words (p.1 + 2 + i) / 8 ∧ rd s1.words (p.1 + 2 + i) / 8 < lim s1 := by
      intro p hp i i0 i1 ht
      have a := all p hp
      rcases J.pu p hp a.1 (by omega) i i0 i1 ht with ⟨-, h⟩ | h | ⟨-, -, -, h⟩
      · rw [m1] at h; cases h
      · exact h
      · omega
    have pos : ∀ p ∈ v1, 0 ≤ rd s1.words p.1 := fun p hp => C.nu p hp (all p hp).1 (by have := all p hp; omega)
    let F : Int → Bool := fun a => decide (beginOf s1 s1.use ≤ a ∧ a < lim s1)
    let K : Int → Prop := fun a => beginOf s1 s1.use ≤ a ∧ a < lim s1
    let R : Int → Prop := fun n => 1 ≤ n ∧ n ≤ s1.last
    have U : unc F s1.words v1 ≤ s1.free - beginOf s1 s1.use := Int.le_trans (sum_le fun p hp => by
      have := C.bd p hp
      simp only [F, decide_eq_true_eq]
      split <;> split <;> omega) J.su
    have U0 : 0 ≤ unc F s1.words v1 := sum_nonneg fun p hp => by
      have := C.bd p hp
      split <;> omega
    have C2 : Co G v1 s2 := by
      refine ⟨C.nd, C.dj, C.bd, ?_, ?_, ?_, C.th, C.un, ?_⟩
      · intro p hp; have := all p hp; show p.1 + p.2 + 2 ≤ ot s1 ∨ ot s1 + s1.old ≤ p.1; omega
      · intro p hp
        rcases C.hd p hp with h | ⟨b, h, hb, g3, -, -, -⟩
        · exact .inl h
        · have := pos p hp; have := C.bd _ hb; simp only at this; omega
      · intro p hp _ _; exact pos p hp
      · show 0 ≤ ot s1 ∧ ot s1 ≤ ot s1 ∧ ot s1 ≤ ot s1 + s1.old ∧ ot s1 + s1.old ≤ s1.words.length ∧ _
        exact ⟨by omega, by omega, by omega, by omega, z4⟩
    have P2 : Ph G F K (s1.old - unc F s1.words v1) v1 s2 := by
      refine ⟨C2, ?_, by omega, ?_, ?_⟩
      · show ot s1 - ot s1 + unc F s1.words v1 + _ ≤ s1.old; omega
      · intro a h1 h2
        rw [b2] at h1; rw [ll2] at h2
        simp only [F, decide_eq_false_iff_not]; omega
      · intro q hq hf h0 i i0 i1 ht
        exact slots q hq i i0 i1 ht
    have T2 : Rt s2.words v1 s2.rows hs := J.rt
    obtain ⟨s3, n1, e3, P3, M, T3, d3, -, r3, w3⟩ := Ph.leadRows (lo := beginOf s1 s1.use) (up := beginOf s1 s1.use + s1.old) (R := R) (hs := hs) s1.rows.length 0 v1 s2 P2 T2
      (by show 0 + _ = s1.rows.length; omega) (fun j h w _ e ht => within_eq ht)
      (fun j h m e => by
        have hl : j < s1.rows.length := by rw [J.rt.1]; exact (List.getElem?_eq_some_iff.1 e).1
        obtain ⟨⟨h', w⟩, e'⟩ : ∃ r, s1.rows[j]? = some r := ⟨_, List.getElem?_eq_getElem hl⟩
        obtain ⟨x, ex, W⟩ := J.rt.2 j h' w e'
        rw [e] at ex; cases ex
        obtain ⟨k, hk, em⟩ := wor_num W
        have := J.nb _ hk
        rw [em]; exact this)
    have e3' : Hm.leadRoots (beginOf s1 s1.use) (beginOf s1 s1.use + s1.old) s2 = some s3 := e3
    show ∃ n s' vs', (match Hm.leadRoots (beginOf s1 s1.use) (beginOf s1 s1.use + s1.old) s2 with | none => none | some s2 => _) = some (n, s') ∧ _
    rw [e3']
    dsimp only
    have bb3 : beginOf s3 s3.use = ot s1 := M.bg.trans b2
    have ll3 : lim s3 = ot s1 + s1.old := M.lm.trans ll2
    have q3 : s3 = { s2 with words := s3.words, free := s3.free, rows := s3.rows } := M.eq
    have y3 : s3.young = s1.young := by rw [q3]; rfl
    have o3 : s3.old = s1.old := by rw [q3]; rfl
    have sc3 : s3.scan = ot s1 := by rw [q3]; rfl
    have lf3 : s3.left = s1.free - beginOf s1 s1.use := by rw [q3]; rfl
    have la3 : s3.last = s1.last := by rw [q3]; rfl
    have us3 : s3.use = 1 - s1.use := by rw [q3]; rfl
    have rm3 : s3.rem = [] := by rw [q3]; exact m1
    have tp3 : s3.top = 0 := by rw [q3]; exact t1
    have ot3 : ot s3 = beginOf s1 s1.use := by
      rw [← o2]; unfold ot beginOf; rw [us3, y3, o3]; rfl
    have lay : Lay (ot s1) s3.free n1 := M.lay
    have lm := @lay_mem (ot s1) s3.free n1
    have f3 : s3.free ≤ ot s1 + s1.old := by have := P3.co.b0.2.2.1; rw [ll3] at this; exact this
    have sp3 := P3.sp
    rw [bb3, o3] at sp3
    have u3 : 0 ≤ unc (fun a => decide (beginOf s1 s1.use ≤ a ∧ a < lim s1)) s3.words (v1 ++ n1) := sum_nonneg fun p hp => by
      have := P3.co.bd p hp
      split <;> omega
    have sp3' : s3.free - ot s1 + unc (fun a => decide (beginOf s1 s1.use ≤ a ∧ a < lim s1)) s3.words (v1 ++ n1) ≤ unc F s1.words v1 := by
      have : s3.free - ot s1 + unc (fun a => decide (beginOf s1 s1.use ≤ a ∧ a < lim s1)) s3.words (v1 ++ n1) + (s1.old - unc F s1.words v1) ≤ s1.old := sp3
      omega
    have le3 : ot s1 ≤ s3.free := M.le
    have new : ∀ p ∈ n1, ot s1 ≤ p.1 ∧ p.1 + p.2 + 2 ≤ s3.free ∧ 0 ≤ p.2 := fun p hp => by have := lm lay hp; omega
    have IM : InvM G hs (v1 ++ n1) { s3 with copied := s3.free - beginOf s1 (1 - s1.use) } := by
      refine ⟨P3.co.cong rfl rfl rfl rfl rfl, J.wg, T3, ?_, ?_, ?_, ?_, ?_, ?_, ?_, ?_, ?_, ?_, ?_, ?_, ?_, ?_, ?_, ?_, ?_⟩
      · show (s3.use = 0 ∨ s3.use = 1) ∧ 0 ≤ s3.young ∧ 0 ≤ s3.old ∧ (s3.words.length : Int) = s3.young + 2 * s3.old
        rw [us3, y3, o3, M.len]; exact ⟨by omega, sy, so, sl⟩
      · show 0 ≤ s3.top ∧ s3.top ≤ s3.young
        rw [tp3, y3]; exact ⟨Int.le_refl _, sy⟩
      · intro p hp
        show p.1 + p.2 + 2 ≤ s3.top ∨ (beginOf s3 s3.use ≤ p.1 ∧ p.1 + p.2 + 2 ≤ s3.free) ∨ (ot s3 ≤ p.1 ∧ p.1 + p.2 + 2 ≤ ot s3 + s3.left)
        rw [bb3, ot3, lf3]
        rcases List.mem_append.1 hp with g | g
        · have := all p g; omega
        · have := new p g; omega
      · intro p hp h
        have h' : p.1 < s3.young := h
        rcases List.mem_append.1 hp with g | g
        · have := all p g; omega
        · have := new p g; omega
      · intro p hp h
        have h' : p.1 < s3.young := h
        rcases List.mem_append.1 hp with g | g
        · have := all p g; omega
        · have := new p g; omega
      · intro p hp v1' v2' i i0 i1 ht
        have a1 : beginOf s3 s3.use ≤ p.1 := v1'
        have a2 : p.1 < lim s3 := v2'
        rw [bb3] at a1; rw [ll3] at a2
        right; right
        show ot s3 ≤ rd s3.words (p.1 + 2 + i) / 8 ∧ rd s3.words (p.1 + 2 + i) / 8 < ot s3 + s3.old ∧ s3.scan ≤ p.1 ∧ 0 < s3.left
        rw [ot3, o3, sc3, lf3]
        rcases List.mem_append.1 hp with g | g
        · have := all p g; omega
        · have := new p g
          have k := M.nw p g i i0 i1 ht
          exact ⟨k.1, k.2, by omega, by omega⟩
      · intro p hp v1' v2' h0 i i0 i1 ht
        have a1 : ot s3 ≤ p.1 := v1'
        have a2 : p.1 < ot s3 + s3.old := v2'
        rw [ot3] at a1 a2; rw [o3] at a2
        show ot s3 ≤ rd s3.words (p.1 + 2 + i) / 8 ∧ rd s3.words (p.1 + 2 + i) / 8 < ot s3 + s3.old
        rw [ot3, o3]
        rcases List.mem_append.1 hp with g | g
        · have e : rd s3.words (p.1 + 2 + i) = rd s1.words (p.1 + 2 + i) := M.slt p g i i0 i1 (fun h => h)
          have ht' : isT (rd s3.words (p.1 + 2 + i)) = true := ht
          rw [e] at ht' ⊢
          exact slots p g i i0 i1 ht'
        · have := new p g; omega
      · intro k h w e ht
        show w / 8 < s3.young ∨ (beginOf s3 s3.use ≤ w / 8 ∧ w / 8 < lim s3)
        rw [y3, bb3, ll3]
        have nf := d3 k h w (Nat.zero_le _) e ht
        simp only [F, decide_eq_false_iff_not] at nf
        rcases w3 0 h w k e with g | ⟨-, g2, g3⟩
        · rcases J.ro k h w g ht with h | h
          · exact .inl h
          · exact absurd h nf
        · have g2' : ot s1 ≤ w / 8 := g2
          exact .inr ⟨g2', by omega⟩
      · show s3.rem.Nodup; rw [rm3]; exact List.nodup_nil
      · intro x hx
        have hx' : x ∈ s3.rem := hx
        rw [rm3] at hx'; cases hx'
      · show beginOf s3 s3.use ≤ s3.scan ∧ ∃ l, Lay s3.scan s3.free l ∧ _
        rw [bb3, sc3]
        exact ⟨Int.le_refl _, n1, lay, fun p hp => List.mem_append_right _ hp⟩
      · show 0 ≤ s3.left ∧ s3.left ≤ s3.old ∧ 0 ≤ s3.free - ot s1 ∧ (s3.left = 0 → s3.scan = s3.free ∧ s3.free - ot s1 = 0)
        rw [lf3, o3, sc3]
        exact ⟨by omega, by omega, by omega, fun h => ⟨by omega, by omega⟩⟩
      · show sumBy (fun p => if ot s3 ≤ p.1 ∧ p.1 < ot s3 + s3.old ∧ 0 ≤ rd s3.words p.1 then p.2 + 2 else 0) _ ≤ s3.left - (s3.free - ot s1)
        rw [ot3, o3, lf3]
        have : sumBy (fun p => if beginOf s1 s1.use ≤ p.1 ∧ p.1 < beginOf s1 s1.use + s1.old ∧ 0 ≤ rd s3.words p.1 then p.2 + 2 else 0) (v1 ++ n1) =
            unc (fun a => decide (beginOf s1 s1.use ≤ a ∧ a < lim s1)) s3.words (v1 ++ n1) := by
          unfold unc
          refine sum_same fun p hp => ?_
          simp only [decide_eq_true_eq, ll]
          split <;> split <;> omega
        rw [this]; omega
      · show sumBy (fun p => if beginOf s3 s3.use ≤ p.1 ∧ p.1 < lim s3 then p.2 + 2 else 0) _ ≤ s3.free - beginOf s3 s3.use
        rw [bb3, ll3, sum_app, sum_zero (l := v1) fun p hp => by have := all p hp; rw [if_neg]; omega]
        have := lay_sum lay
        have h2 : sumBy (fun p : Int × Int => if ot s1 ≤ p.1 ∧ p.1 < ot s1 + s1.old then p.2 + 2 else 0) n1 = s3.free - ot s1 := by
          rw [← this]; exact sum_same fun p hp => by have := new p hp; rw [if_pos ⟨by omega, by omega⟩]
        omega
      · show sumBy (fun p => if p.1 < s3.young then p.2 + 2 else 0) _ ≤ s3.top
        rw [tp3, sum_zero fun p hp => ?_]; exact Int.le_refl _
        rw [y3, if_neg]
        rcases List.mem_append.1 hp with g | g
        · have := all p g; omega
        · have := new p g; omega
      · show s3.free - beginOf s3 s3.use + s3.top + s3.left - (s3.free - ot s1) ≤ s3.old
        rw [bb3, tp3, lf3, o3]; omega
      · intro p hp
        show 1 ≤ rd s3.words (p.1 + 1) ∧ rd s3.words (p.1 + 1) ≤ s3.last
        rw [la3]
        rcases List.mem_append.1 hp with g | g
        · rw [M.num p g]; exact J.nb p g
        · exact r3 p g
    obtain ⟨v', I', K', -, -, -, -, -, f', -, -⟩ := IM.fin
    refine ⟨1, _, v', rfl, .inr rfl, I', ?_, Int.le_trans f' ?_⟩
    · refine K1.trans (Keep.trans (b := { s3 with copied := s3.free - beginOf s1 (1 - s1.use) }) ⟨y3, o3, ?_, la3, ?_, M.len⟩ K')
      · show s3.pace = s1.pace; rw [q3]; rfl
      · show s3.next = s1.next; rw [q3]; rfl
    · refine Int.le_trans ?_ f1
      show s3.free - beginOf s3 s3.use + s3.top + s3.left - (s3.free - ot s1) ≤ s1.free - beginOf s1 s1.use + s1.top + s1.left - s1.copied
      rw [bb3, tp3, lf3]; omega
end Gc
set_option maxRecDepth 100000
set_option maxHeartbeats 2000000
/-! The steps of a turn. -/
namespace Gc
open Hm
def lookAt (s : Bd) (h : Int) : Option Bd :=
  if h % 8 != 0 then leadLeft (s.scan + 2) (s.scan + 2 + h / 8) { s with scan := s.scan + 2 + h / 8 } else some { s with scan := s.scan + 2 + h / 8 }
theorem Inv.step1 {G hs vs} {s : Bd} (I : Inv G hs vs s) (hl : 0 < s.left) : ∃ h s1 v1, gI s.words s.scan = some h ∧ lookAt s h = some s1 ∧ InvM G hs v1 s1 ∧ Keep s s1 ∧
    filledW s1 ≤ filledW s ∧ s1.top = s.top ∧ s1.rem = s.rem ∧ s1.use = s.use ∧ s.scan + 2 ≤ s1.scan ∧ Sur vs s v1 s1 := by
  have C := I.co
  obtain ⟨z0, z1, z2, z3, z4⟩ := C.b0
  obtain ⟨su, sy, so, sl⟩ := I.sh
  have hv := halves su
  have ll : lim s = beginOf s s.use + s.old := rfl
  have fl := I.fl
  have fe := filledW_eq s
  have tp := I.tp
  obtain ⟨lf1, lf2, lf4, lf5⟩ := I.lf
  obtain ⟨ly1, l, ly2, ly3⟩ := I.ly
  have sf := I.sf hl
  cases l with
  | nil => have : s.scan = s.free := ly2; omega
  | cons p r =>
    obtain ⟨hp1, k0, lay2⟩ := ly2
    have hp := ly3 p (by simp)
    have lr := lay_le lay2
    have b1 : beginOf s s.use ≤ p.1 := by omega
    have b2 : p.1 < lim s := by omega
    have bp := C.bd p hp
    let sS : Bd := { s with scan := s.scan + 2 + p.2 }
    let F : Int → Bool := fun a => decide (ot s ≤ a ∧ a < ot s + s.old)
    let K : Int → Prop := fun a => ot s ≤ a ∧ a < ot s + s.old
    let R : Int → Prop := fun n => 1 ≤ n ∧ n ≤ s.last
    have Ueq : sumBy (fun p => if ot s ≤ p.1 ∧ p.1 < ot s + s.old ∧ 0 ≤ rd s.words p.1 then p.2 + 2 else 0) vs = unc F s.words vs := sum_same fun p hp => by
      simp only [F, decide_eq_true_eq]
      split <;> split <;> omega
    have U := I.cp
    rw [Ueq] at U
    have P : Ph G F K (s.old - (s.free - beginOf s s.use) - unc F s.words vs) vs sS := by
      refine ⟨C.cong rfl rfl rfl rfl rfl, ?_, by omega, ?_, ?_⟩
      · show s.free - beginOf s s.use + unc F s.words vs + _ ≤ s.old; omega
      · intro a h1 h2
        have h1' : beginOf s s.use ≤ a := h1
        have h2' : a < lim s := h2
        simp only [F, decide_eq_false_iff_not]; omega
      · intro q hq hf h0 i i0 i1 ht
        simp only [F, decide_eq_true_eq] at hf
        exact I.pl q hq hf.1 hf.2 h0 i i0 i1 ht
    obtain ⟨h0, h1, h2⟩ := P.head hp b1 b2
    have h0' : 0 ≤ rd s.words p.1 := h0
    have h1' : rd s.words p.1 / 8 = p.2 := h1
    obtain ⟨s1, new, e1, P1, M, d1, r1, rr⟩ := P.look I.wg (lo := ot s) (up := ot s + s.old) hp b1 b2 (fun i i0 i1 ht => within_eq ht) (R := R) (fun i m him e => by
      have W := (C.th p hp h0).2.2 i him
      have e' : (G (rd s.words (p.1 + 1))).2.getD i (.word 0) = .thing m := e
      rw [e'] at W
      obtain ⟨k, hk, em⟩ := wor_num W
      have := I.nb _ hk
      rw [em]; exact this)
    have gi : gI s.words s.scan = some (rd s.words p.1) := by rw [← hp1]; exact gI_rd bp.1 (by omega)
    have bb1 : beginOf s1 s1.use = beginOf s s.use := M.bg
    have ll1 : lim s1 = lim s := M.lm
    have q1 : s1 = { sS with words := s1.words, free := s1.free, rows := s1.rows } := M.eq
    have y1 : s1.young = s.young := by rw [q1]
    have o1 : s1.old = s.old := by rw [q1]
    have sc1 : s1.scan = s.scan + 2 + p.2 := by rw [q1]
    have lf1' : s1.left = s.left := by rw [q1]
    have cp1 : s1.copied = s.copied := by rw [q1]
    have la1 : s1.last = s.last := by rw [q1]
    have us1 : s1.use = s.use := by rw [q1]
    have rm1 : s1.rem = s.rem := by rw [q1]
    have tp1 : s1.top = s.top := by rw [q1]
    have ot1 : ot s1 = ot s := by unfold ot beginOf; rw [us1, y1, o1]
    have lay : Lay s.free s1.free new := M.lay
    have le1 : s.free ≤ s1.free := M.le
    have f1 : s1.free ≤ lim s := by have := P1.co.b0.2.2.1; rw [ll1] at this; exact this
    have nw : ∀ q ∈ new, s.free ≤ q.1 ∧ q.1 + q.2 + 2 ≤ s1.free ∧ 0 ≤ q.2 := fun q hq => by have := lay_mem lay hq; omega
    have nf : ∀ a, beginOf s s.use ≤ a → a < lim s → F a = false := P.nf
    have sp1 := P1.sp
    rw [bb1, o1] at sp1
    have sp1' : s1.free - s.free + unc (fun a => decide (ot s ≤ a ∧ a < ot s + s.old)) s1.words (vs ++ new) ≤ unc F s.words vs := by
      have : s1.free - beginOf s s.use + unc (fun a => decide (ot s ≤ a ∧ a < ot s + s.old)) s1.words (vs ++ new) + (s.old - (s.free - beginOf s s.use) - unc F s.words vs) ≤ s.old := sp1
      omega
    have u1 : 0 ≤ unc (fun a => decide (ot s ≤ a ∧ a < ot s + s.old)) s1.words (vs ++ new) := sum_nonneg fun q hq => by
      have := P1.co.bd q hq
      split <;> omega
    refine ⟨_, { s1 with copied := s1.copied + (s1.free - s.free) }, vs ++ new, gi, ?_, ?_, ?_, ?_, tp1, rm1, us1, ?_, fun q hq _ => ⟨List.mem_append_left _ hq, M.num q hq⟩⟩
    · unfold lookAt
      rw [h1', ← hp1]
      have e1' : (if rd s.words p.1 % 8 != 0 then Hm.leadR (ot s) (ot s + s.old) (p.1 + 2) (p.1 + 2 + rd s.words p.1 / 8) sS else some sS) = some s1 := e1
      rw [h1'] at e1'
      by_cases c : (rd s.words p.1 % 8 != 0) = true
      · rw [if_pos c] at e1' ⊢
        unfold leadLeft
        have e1'' : Hm.leadR (ot s) (ot s + s.old) (p.1 + 2) (p.1 + 2 + p.2) { s with scan := p.1 + 2 + p.2 } = some s1 := by rw [← e1']; simp only [sS, hp1]
        show (match Hm.leadR (ot s) (ot s + s.old) (p.1 + 2) (p.1 + 2 + p.2) { s with scan := p.1 + 2 + p.2 } with | none => none | some s1 => _) = _
        rw [e1'']
      · rw [if_neg c] at e1' ⊢
        cases e1'
        simp only [sS, hp1, Int.sub_self, Int.add_zero]
    · refine ⟨P1.co.cong rfl rfl rfl rfl rfl, I.wg, ?_, ?_, ?_, ?_, ?_, ?_, ?_, ?_, ?_, ?_, ?_, ?_, ?_, ?_, ?_, ?_, ?_, ?_⟩
      · show Rt s1.words (vs ++ new) s1.rows hs
        rw [rr]
        exact rt_ext I.rt (fun q hq => List.mem_append_left _ hq) M.num
      · show (s1.use = 0 ∨ s1.use = 1) ∧ 0 ≤ s1.young ∧ 0 ≤ s1.old ∧ (s1.words.length : Int) = s1.young + 2 * s1.old
        rw [us1, y1, o1, M.len]; exact ⟨su, sy, so, sl⟩
      · show 0 ≤ s1.top ∧ s1.top ≤ s1.young
        rw [tp1, y1]; exact tp
      · intro q hq
        show q.1 + q.2 + 2 ≤ s1.top ∨ (beginOf s1 s1.use ≤ q.1 ∧ q.1 + q.2 + 2 ≤ s1.free) ∨ (ot s1 ≤ q.1 ∧ q.1 + q.2 + 2 ≤ ot s1 + s1.left)
        rw [bb1, ot1, lf1', tp1]
        rcases List.mem_append.1 hq with g | g
        · have := I.rg q g; omega
        · have := nw q g; omega
      · intro q hq hy
        have hy' : q.1 < s1.young := hy
        show 0 ≤ rd s1.words q.1
        rw [y1] at hy'
        rcases List.mem_append.1 hq with g | g
        · have : rd s1.words q.1 = rd s.words q.1 := M.hdn q g (by simp only [F, decide_eq_false_iff_not]; omega)
          rw [this]; exact I.ny q g hy'
        · have := nw q g; omega
      · intro q hq hy i i0 i1 ht
        have hy' : q.1 < s1.young := hy
        have ht' : isT (rd s1.words (q.1 + 2 + i)) = true := ht
        show rd s1.words (q.1 + 2 + i) / 8 < s1.young ∨ (beginOf s1 s1.use ≤ rd s1.words (q.1 + 2 + i) / 8 ∧ rd s1.words (q.1 + 2 + i) / 8 < lim s1)
        rw [y1] at hy' ⊢; rw [bb1, ll1]
        rcases List.mem_append.1 hq with g | g
        · rcases M.led q g i i0 i1 with e | ⟨-, -, -, g4, g5⟩
          · have e' : rd s1.words (q.1 + 2 + i) = rd s.words (q.1 + 2 + i) := e
            rw [e'] at ht' ⊢
            exact I.pn q g hy' i i0 i1 ht'
          · exact .inr ⟨g4, by omega⟩
        · have := nw q g; omega
      · intro q hq v1 v2 i i0 i1 ht
        have v1' : beginOf s1 s1.use ≤ q.1 := v1
        have v2' : q.1 < lim s1 := v2
        have ht' : isT (rd s1.words (q.1 + 2 + i)) = true := ht
        rw [bb1] at v1'; rw [ll1] at v2'
        show (rd s1.words (q.1 + 2 + i) / 8 < s1.young ∧ q.1 + 2 + i ∈ s1.rem) ∨ (beginOf s1 s1.use ≤ rd s1.words (q.1 + 2 + i) / 8 ∧ rd s1.words (q.1 + 2 + i) / 8 < lim s1) ∨
          (ot s1 ≤ rd s1.words (q.1 + 2 + i) / 8 ∧ rd s1.words (q.1 + 2 + i) / 8 < ot s1 + s1.old ∧ s1.scan ≤ q.1 ∧ 0 < s1.left)
        rw [y1, rm1, bb1, ll1, ot1, o1, sc1, lf1']
        rcases List.mem_append.1 hq with g | g
        · rcases M.led q g i i0 i1 with e | ⟨-, -, -, g4, g5⟩
          · have e' : rd s1.words (q.1 + 2 + i) = rd s.words (q.1 + 2 + i) := e
            have ht2 := ht'
            rw [e'] at ht2
            rcases I.pu q g v1' v2' i i0 i1 ht2 with h | h | ⟨g1, g2, g3, g4⟩
            · rw [e']; exact .inl h
            · rw [e']; exact .inr (.inl h)
            · have nep : q ≠ p := by
                rintro rfl
                have := d1 i i0 i1 ht'
                simp only [F, decide_eq_false_iff_not] at this
                rw [e'] at this; exact this ⟨g1, g2⟩
              rw [e']
              have bq := C.bd q g
              rcases C.dj q g p hp with h | h
              · exact absurd h nep
              · unfold Dj at h
                exact .inr (.inr ⟨g1, g2, by omega, g4⟩)
          · exact .inr (.inl ⟨g4, by omega⟩)
        · have := nw q g
          have k := M.nw q g i i0 i1 ht'
          exact .inr (.inr ⟨k.1, k.2, by omega, hl⟩)
      · intro q hq v1 v2 hh i i0 i1 ht
        have v1' : ot s1 ≤ q.1 := v1
        have v2' : q.1 < ot s1 + s1.old := v2
        have hh' : 0 ≤ rd s1.words q.1 := hh
        have ht' : isT (rd s1.words (q.1 + 2 + i)) = true := ht
        rw [ot1] at v1' v2'; rw [o1] at v2'
        show ot s1 ≤ rd s1.words (q.1 + 2 + i) / 8 ∧ rd s1.words (q.1 + 2 + i) / 8 < ot s1 + s1.old
        rw [ot1, o1]
        rcases List.mem_append.1 hq with g | g
        · have e : rd s1.words q.1 = rd s.words q.1 := M.hdf q g hh'
          have e2 : rd s1.words (q.1 + 2 + i) = rd s.words (q.1 + 2 + i) := M.slt q g i i0 i1 (fun h => by
            have h' : p.1 + 2 ≤ q.1 + 2 + i ∧ q.1 + 2 + i < p.1 + 2 + p.2 := h
            have := C.apart g hp i0 i1 (i := q.1 + i - p.1) (by omega) (by omega) (by omega)
            subst this; omega)
          rw [e] at hh'; rw [e2] at ht' ⊢
          exact I.pl q g v1' v2' hh' i i0 i1 ht'
        · have := nw q g; omega
      · intro k h w e ht
        show w / 8 < s1.young ∨ (beginOf s1 s1.use ≤ w / 8 ∧ w / 8 < lim s1)
        rw [y1, bb1, ll1]
        have e' : s.rows[k]? = some (h, w) := by rw [← e]; show _ = s1.rows[k]?; rw [rr]
        exact I.ro k h w e' ht
      · show s1.rem.Nodup; rw [rm1]; exact I.rn
      · intro x hx
        have hx' : x ∈ s1.rem := hx
        rw [rm1] at hx'
        obtain ⟨q, hq, v1, v2, rest⟩ := I.rs x hx'
        refine ⟨q, List.mem_append_left _ hq, ?_, ?_, rest⟩
        · show beginOf s1 s1.use ≤ q.1; rw [bb1]; exact v1
        · show q.1 < lim s1; rw [ll1]; exact v2
      · show beginOf s1 s1.use ≤ s1.scan ∧ ∃ l, Lay s1.scan s1.free l ∧ _
        rw [bb1, sc1]
        have e : s.scan + 2 + p.2 = s.scan + p.2 + 2 := by omega
        rw [e]
        refine ⟨by omega, r ++ new, lay_app lay2 lay, fun q hq => ?_⟩
        rcases List.mem_append.1 hq with g | g
        · exact List.mem_append_left _ (ly3 q (by simp [g]))
        · exact List.mem_append_right _ g
      · show 0 ≤ s1.left ∧ s1.left ≤ s1.old ∧ 0 ≤ s1.copied + (s1.free - s.free) ∧ (s1.left = 0 → s1.scan = s1.free ∧ s1.copied + (s1.free - s.free) = 0)
        rw [lf1', o1, cp1]
        exact ⟨lf1, lf2, by omega, fun h => by omega⟩
      · show sumBy (fun p => if ot s1 ≤ p.1 ∧ p.1 < ot s1 + s1.old ∧ 0 ≤ rd s1.words p.1 then p.2 + 2 else 0) _ ≤ s1.left - (s1.copied + (s1.free - s.free))
        rw [ot1, o1, lf1', cp1]
        have : sumBy (fun p => if ot s ≤ p.1 ∧ p.1 < ot s + s.old ∧ 0 ≤ rd s1.words p.1 then p.2 + 2 else 0) (vs ++ new) =
            unc (fun a => decide (ot s ≤ a ∧ a < ot s + s.old)) s1.words (vs ++ new) := by
          unfold unc
          refine sum_same fun p hp => ?_
          simp only [decide_eq_true_eq]
          split <;> split <;> omega
        rw [this]; omega
      · show sumBy (fun p => if beginOf s1 s1.use ≤ p.1 ∧ p.1 < lim s1 then p.2 + 2 else 0) _ ≤ s1.free - beginOf s1 s1.use
        rw [bb1, ll1, sum_app]
        have a := lay_sum lay
        have b := I.su
        have h2 : sumBy (fun p : Int × Int => if beginOf s s.use ≤ p.1 ∧ p.1 < lim s then p.2 + 2 else 0) new = s1.free - s.free := by
          rw [← a]; exact sum_same fun q hq => by have := nw q hq; rw [if_pos ⟨by omega, by omega⟩]
        omega
      · show sumBy (fun p => if p.1 < s1.young then p.2 + 2 else 0) _ ≤ s1.top
        rw [tp1, y1, sum_app, sum_zero (l := new) fun q hq => by have := nw q hq; rw [if_neg]; omega]
        have := I.sn; omega
      · show s1.free - beginOf s1 s1.use + s1.top + s1.left - (s1.copied + (s1.free - s.free)) ≤ s1.old
        rw [bb1, tp1, lf1', o1, cp1]; omega
      · intro q hq
        show 1 ≤ rd s1.words (q.1 + 1) ∧ rd s1.words (q.1 + 1) ≤ s1.last
        rw [la1]
        rcases List.mem_append.1 hq with g | g
        · rw [M.num q g]; exact I.nb q g
        · exact r1 q g
    · refine ⟨y1, o1, ?_, la1, ?_, M.len⟩
      · show s1.pace = s.pace; rw [q1]
      · show s1.next = s.next; rw [q1]
    · show s1.free - beginOf s1 s1.use + s1.top + s1.left - (s1.copied + (s1.free - s.free)) ≤ filledW s
      rw [bb1, tp1, lf1', cp1]; omega
    · show s.scan + 2 ≤ s1.scan; rw [sc1]; omega
theorem Keep.lim {s s' : Bd} (h : Keep s s') (u : s'.use = s.use) : lim s' = Gc.lim s := by
  unfold Gc.lim beginOf; rw [u, h.y, h.o]
theorem Inv.stepsGo {G hs} : ∀ (f : Nat) (vs : List (Int × Int)) (s : Bd) (many looked : Int), Inv G hs vs s → lim s - s.scan < f →
    ∃ l' s' vs', Hm.stepsGo f many looked s = some (l', s') ∧ Inv G hs vs' s' ∧ Keep s s' ∧ filledW s' ≤ filledW s ∧ s'.top = s.top ∧ s'.rem = s.rem ∧ s'.use = s.use ∧
      (lim s - s.scan ≤ many - looked → s'.left = 0) ∧ Sur vs s vs' s'
  | 0, vs, s, many, looked, I, hf => by
    obtain ⟨-, l, h, -⟩ := I.ly
    have := lay_le h; have := I.co.b0; omega
  | f + 1, vs, s, many, looked, I, hf => by
    unfold Hm.stepsGo
    by_cases c : s.left > 0 ∧ looked < many
    · rw [if_pos c]
      obtain ⟨h, s1, v1, e1, e2, IM, K1, f1, t1, m1, u1, sc1, S1⟩ := I.step1 c.1
      obtain ⟨v2, I2, K2, t2, m2, u2, sc2, fr2, f2, -, S2⟩ := IM.fin
      have L : lim (endIf s1) = lim s := (K1.trans K2).lim (u2.trans u1)
      obtain ⟨l', s', v', e3, I3, K3, f3, t3, m3, u3, d3, S3⟩ := Inv.stepsGo f v2 (endIf s1) many (looked + 1) I2 (by rw [L, sc2]; omega)
      rw [e1]; dsimp only
      unfold lookAt at e2
      rw [e2]; dsimp only
      refine ⟨l', s', v', e3, I3, (K1.trans K2).trans K3, by omega, t3.trans (t2.trans t1), m3.trans (m2.trans m1), u3.trans (u2.trans u1), fun h => d3 ?_, ?_⟩
      · rw [L, sc2]; omega
      · have L1 : lim s1 = lim s := K1.lim u1
        have B1 : beginOf s1 s1.use = beginOf s s.use := by unfold beginOf; rw [u1, K1.y, K1.o]
        have B2 : beginOf (endIf s1) (endIf s1).use = beginOf s s.use := by unfold beginOf; rw [u2, u1, K2.y, K1.y, K2.o, K1.o]
        intro p hp h
        obtain ⟨g1, g2⟩ := S1 p hp h
        obtain ⟨g3, g4⟩ := S2 p g1 (by rw [K1.y, L1, B1]; exact h)
        obtain ⟨g5, g6⟩ := S3 p g3 (by rw [K2.y, K1.y, L, B2]; exact h)
        exact ⟨g5, by rw [g6, g4, g2]⟩
    · rw [if_neg c]
      refine ⟨looked, s, vs, rfl, I, Keep.rfl', Int.le_refl _, rfl, rfl, rfl, fun h => ?_, fun p hp _ => ⟨hp, rfl⟩⟩
      have := I.lf.1
      by_cases d : s.left > 0
      · exfalso
        have := I.sf d; have := I.co.b0; omega
      · omega
theorem Inv.tally {G hs vs} {s : Bd} (I : Inv G hs vs s) (t : List Int) : Inv G hs vs { s with tally := t } :=
  ⟨⟨I.co.cong rfl rfl rfl rfl rfl, I.wg, I.rt, I.sh, I.tp, I.rg, I.ny, I.pn, I.pu, I.pl, I.ro, I.rn, I.rs, I.ly, I.lf, I.cp, I.su, I.sn, I.fl, I.nb⟩, I.sf⟩
theorem Inv.steps {G hs vs} {s : Bd} (I : Inv G hs vs s) (many : Int) : ∃ l' s' vs', Hm.steps s many = some (l', s') ∧ Inv G hs vs' s' ∧ Keep s s' ∧ filledW s' ≤ filledW s ∧ s'.top = s.top ∧
    s'.rem = s.rem ∧ s'.use = s.use ∧ (s.words.length ≤ many → s'.left = 0) ∧ Sur vs s vs' s' := by
  have hb := I.co.b0; have hly := I.ly.1
  obtain ⟨l', s', v', e3, I3, K3, f3, t3, m3, u3, d3, S3⟩ := Inv.stepsGo (s.words.length + 1) vs s many 0 I (by omega)
  unfold Hm.steps
  rw [e3]; dsimp only
  exact ⟨l', _, v', rfl, I3.tally _, K3.trans ⟨rfl, rfl, rfl, rfl, rfl, rfl⟩, f3, t3, m3, u3, fun h => d3 (by omega), S3⟩
end Gc
set_option maxRecDepth 100000
set_option maxHeartbeats 2000000
/-! All that lives is copied. -/
namespace Gc
open Hm
/-- what is come to from what is held -/
inductive Liv (G : Gr) (hs : List (Int × Wo)) : Int → Prop
  | root {j : Nat} {h m : Int} (e : hs[j]? = some (h, .thing m)) : Liv G hs m
  | step {n m : Int} {i : Nat} (l : Liv G hs n) (e : (G n).2.getD i (.word 0) = .thing m) : Liv G hs m
theorem Mv.anyK {F K X vs n} {s s' : Bd} (M : Mv F K X vs n s s') : Mv F (fun _ => True) X vs n s s' :=
  { M with nw := fun _ _ _ _ _ _ => trivial }
theorem sum_add (g g' : Int × Int → Int) (l : List (Int × Int)) : sumBy (fun p => g p + g' p) l = sumBy g l + sumBy g' l := by
  induction l with
  | nil => rfl
  | cons p r ih => rw [sumBy, sumBy, sumBy, ih]; omega
theorem Ph.copyGo {G rest} {F : Int → Bool} (wg : WG G) {R : Int → Prop} (hR : ∀ n, R n → ∀ (i : Nat) m, (G n).2.getD i (.word 0) = .thing m → R m) (b e : Int) :
    ∀ (f : Nat) (vs l : List (Int × Int)) (s : Bd) (a : Int), Ph G F (fun t => F t = true) rest vs s →
    Lay a s.free l → (∀ p ∈ l, p ∈ vs) → beginOf s s.use ≤ a → lim s - a < f →
    (∀ p ∈ vs, beginOf s s.use ≤ p.1 → p.1 < lim s → a ≤ p.1 → ∀ i, 0 ≤ i → i < p.2 → isT (rd s.words (p.1 + 2 + i)) = true → F (rd s.words (p.1 + 2 + i) / 8) = true) →
    (∀ p ∈ vs, beginOf s s.use ≤ p.1 → p.1 < a → ∀ i, 0 ≤ i → i < p.2 → isT (rd s.words (p.1 + 2 + i)) = true → F (rd s.words (p.1 + 2 + i) / 8) = false) →
    (∀ p ∈ vs, b ≤ rd s.words (p.1 + 1) ∧ rd s.words (p.1 + 1) ≤ e) →
    (∀ p ∈ vs, beginOf s s.use ≤ p.1 → p.1 < lim s → R (rd s.words (p.1 + 1))) →
    ∃ s' new, Hm.copyGo f true a s = some s' ∧ Ph G F (fun t => F t = true) rest (vs ++ new) s' ∧ Mv F (fun _ => True) (fun _ => True) vs new s s' ∧
      (∀ p ∈ vs ++ new, beginOf s s.use ≤ p.1 → p.1 < lim s → ∀ i, 0 ≤ i → i < p.2 → isT (rd s'.words (p.1 + 2 + i)) = true → F (rd s'.words (p.1 + 2 + i) / 8) = false) ∧
      (∀ p ∈ vs ++ new, b ≤ rd s'.words (p.1 + 1) ∧ rd s'.words (p.1 + 1) ≤ e) ∧
      (∀ p ∈ vs ++ new, beginOf s s.use ≤ p.1 → p.1 < lim s → R (rd s'.words (p.1 + 1))) ∧ s'.rows = s.rows
  | 0, vs, l, s, a, P, hL, _, _, hf, _, _, _, _ => by have := lay_le hL; have := P.co.b0; omega
  | f + 1, vs, l, s, a, P, hL, hl, ha, hf, hp, hq, hn, hr => by
    unfold Hm.copyGo
    by_cases c : a < s.free
    · rw [if_pos c]
      cases l with
      | nil => have : a = s.free := hL; omega
      | cons p r =>
        obtain ⟨rfl, k0, hL2⟩ := hL
        have hpv := hl p (by simp)
        have z := P.co.b0
        have u2 : p.1 < lim s := by omega
        obtain ⟨h0, h1, h2⟩ := P.head hpv ha u2
        have bd := P.co.bd p hpv
        have numR : ∀ (i : Nat) m, (i : Int) < p.2 → (G (rd s.words (p.1 + 1))).2.getD i (.word 0) = .thing m → R m ∧ b ≤ m ∧ m ≤ e := by
          intro i m him e'
          refine ⟨hR _ (hr p hpv ha u2) i m e', ?_⟩
          have W := (P.co.th p hpv h0).2.2 i him
          rw [e'] at W
          obtain ⟨k, hk, em⟩ := wor_num W
          rw [em]; exact hn _ hk
        obtain ⟨s1, n1, e1, P1, M1, d1, r1, rr⟩ := P.look wg (lo := 0) (up := s.words.length) hpv ha u2 (fun i i0 i1 ht => by
          obtain ⟨⟨k, hk⟩, -⟩ := P.co.slotV hpv h0 i0 i1 ht
          have bt := P.co.bd _ hk
          simp only at bt
          rw [within_eq ht, hp p hpv ha u2 (Int.le_refl _) i i0 i1 ht]
          simp only [decide_eq_true_eq]; omega) numR
        rw [gI_rd bd.1 (by omega)]
        dsimp only
        have e1' : (if (rd s.words p.1 % 8 != 0 && (true || rd s.words p.1 % 8 != 5)) = true then Hm.leadR 0 s.words.length (p.1 + 2) (p.1 + 2 + rd s.words p.1 / 8) s else some s) = some s1 := by
          rw [← e1]; simp only [Bool.true_or, Bool.and_true]
        rw [e1']
        dsimp only
        have hh : rd s1.words p.1 = rd s.words p.1 := M1.hdn p hpv (P.nf _ ha u2)
        have ee : endOf s1 p.1 = some (p.1 + p.2 + 2) := by
          unfold endOf; rw [gI_rd bd.1 (by rw [M1.len]; omega), hh]; simp only [h1]; congr 1; omega
        rw [ee]
        dsimp only
        have bb := M1.bg; have ll := M1.lm
        have lr := lay_le hL2
        have nw1 : ∀ q ∈ n1, p.1 + p.2 + 2 ≤ q.1 := fun q hq => by have := lay_mem M1.lay hq; omega
        have slt : ∀ q ∈ vs, q ≠ p → ∀ i, 0 ≤ i → i < q.2 → rd s1.words (q.1 + 2 + i) = rd s.words (q.1 + 2 + i) := fun q g ne i i0 i1 => M1.slt q g i i0 i1 (fun h => by
          have h' : p.1 + 2 ≤ q.1 + 2 + i ∧ q.1 + 2 + i < p.1 + 2 + p.2 := h
          exact ne (P.co.apart g hpv i0 i1 (i := q.1 + i - p.1) (by omega) (by omega) (by omega)))
        obtain ⟨s2, n2, e2, P2, M2, d2, k2, r2, rr2⟩ := Ph.copyGo wg hR b e f (vs ++ n1) (r ++ n1) s1 (p.1 + p.2 + 2) P1 (lay_app hL2 M1.lay)
          (fun q hq => by
            rcases List.mem_append.1 hq with g | g
            · exact List.mem_append_left _ (hl q (by simp [g]))
            · exact List.mem_append_right _ g) (by rw [bb]; omega) (by rw [ll]; omega)
          (by
            intro q hq' v1 v2 v3 i i0 i1 ht
            rw [bb] at v1; rw [ll] at v2
            rcases List.mem_append.1 hq' with g | g
            · have ne : q ≠ p := by rintro rfl; omega
              rw [slt q g ne i i0 i1] at ht ⊢
              exact hp q g v1 v2 (by omega) i i0 i1 ht
            · exact M1.nw q g i i0 i1 ht)
          (by
            intro q hq' v1 v3 i i0 i1 ht
            rw [bb] at v1
            rcases List.mem_append.1 hq' with g | g
            · by_cases ne : q = p
              · subst ne; exact d1 i i0 i1 ht
              · rw [slt q g ne i i0 i1] at ht ⊢
                refine hq q g v1 ?_ i i0 i1 ht
                have bq := P.co.bd q g
                rcases P.co.dj q g p hpv with h | h
                · exact absurd h ne
                · unfold Dj at h; omega
            · have := nw1 q g; omega)
          (by
            intro q hq'
            rcases List.mem_append.1 hq' with g | g
            · rw [M1.num q g]; exact hn q g
            · exact (r1 q g).2)
          (by
            intro q hq' v1 v2
            rw [bb] at v1; rw [ll] at v2
            rcases List.mem_append.1 hq' with g | g
            · rw [M1.num q g]; exact hr q g v1 v2
            · exact (r1 q g).1)
        refine ⟨s2, n1 ++ n2, e2, by rw [← List.append_assoc]; exact P2, ?_, ?_, ?_, ?_, by rw [rr2, rr]⟩
        · exact Mv.trans' M1.anyK M2 P.nf (by have := P2.co.b0.2.2.1; rw [M2.lm, ll] at this; exact this) (fun _ _ _ => trivial)
        · rw [← List.append_assoc, ← bb, ← ll]; exact d2
        · rw [← List.append_assoc]; exact k2
        · rw [← List.append_assoc, ← bb, ← ll]; exact r2
    · rw [if_neg c]
      refine ⟨s, [], rfl, by simpa using P, Mv.refl, ?_, ?_, ?_, rfl⟩
      · intro p hp' v1 v2 i i0 i1 ht
        rw [List.append_nil] at hp'
        have := P.co.fr p hp'
        have := P.co.bd p hp'
        exact hq p hp' v1 (by omega) i i0 i1 ht
      · rw [List.append_nil]; exact hn
      · rw [List.append_nil]; exact hr
end Gc
set_option maxRecDepth 100000
set_option maxHeartbeats 2000000
/-! All that lives is copied, and that alone. -/
namespace Gc
open Hm
theorem Inv.copyAll {G hs vs} {s : Bd} (I : Inv G hs vs s) (l0 : s.left = 0) : ∃ s' vs', Hm.copyAll s true = some (ot s, s') ∧ Inv G hs vs' s' ∧ Keep s s' ∧ s'.left = 0 ∧ s'.top = 0 ∧ s'.rem = [] ∧
    filledW s' = sumBy (fun p => p.2 + 2) vs' ∧ (∀ p ∈ vs', Liv G hs (rd s'.words (p.1 + 1)) ∧ 0 ≤ rd s'.words p.1) ∧ beginOf s' s'.use = ot s ∧ filledW s' ≤ filledW s := by
  have C := I.co
  obtain ⟨z0, z1, z2, z3, z4⟩ := C.b0
  obtain ⟨su, sy, so, sl⟩ := I.sh
  have hv := halves su
  have ll : lim s = beginOf s s.use + s.old := rfl
  have fl := I.fl
  have fe := filledW_eq s
  have tp := I.tp
  have c0 : s.copied = 0 := (I.lf.2.2.2 l0).2
  let s2 : Bd := changeH s
  have b2 : beginOf s2 s2.use = ot s := rfl
  have ll2 : lim s2 = ot s + s.old := rfl
  have f2 : s2.free = ot s := rfl
  have where' : ∀ p ∈ vs, (p.1 < s.young ∧ p.1 + p.2 + 2 ≤ s.top) ∨ (beginOf s s.use ≤ p.1 ∧ p.1 + p.2 + 2 ≤ s.free) := by
    intro p hp
    have := I.rg p hp; have := C.bd p hp; omega
  have pos : ∀ p ∈ vs, 0 ≤ rd s.words p.1 := by
    intro p hp
    have := C.bd p hp
    rcases where' p hp with h | h
    · exact I.ny p hp h.1
    · exact C.nu p hp h.1 (by omega)
  let F : Int → Bool := fun a => decide (a < s.young ∨ (beginOf s s.use ≤ a ∧ a < lim s))
  have slots : ∀ p ∈ vs, ∀ i, 0 ≤ i → i < p.2 → isT (rd s.words (p.1 + 2 + i)) = true → F (rd s.words (p.1 + 2 + i) / 8) = true := by
    intro p hp i i0 i1 ht
    simp only [F, decide_eq_true_eq]
    have := C.bd p hp
    rcases where' p hp with h | h
    · exact I.pn p hp h.1 i i0 i1 ht
    · rcases I.pu p hp h.1 (by omega) i i0 i1 ht with g | g | ⟨-, -, -, g⟩
      · exact .inl g.1
      · exact .inr g
      · omega
  have U : unc F s.words vs ≤ s.top + (s.free - beginOf s s.use) := by
    refine Int.le_trans (sum_le (g' := fun p => (if p.1 < s.young then p.2 + 2 else 0) + (if beginOf s s.use ≤ p.1 ∧ p.1 < lim s then p.2 + 2 else 0)) fun p hp => ?_) ?_
    · have := C.bd p hp
      simp only [F, decide_eq_true_eq]
      split <;> split <;> split <;> omega
    · rw [sum_add]; have := I.sn; have := I.su; omega
  have U0 : 0 ≤ unc F s.words vs := sum_nonneg fun p hp => by
    have := C.bd p hp
    split <;> omega
  have C2 : Co G vs s2 := by
    refine ⟨C.nd, C.dj, C.bd, ?_, ?_, ?_, C.th, C.un, ?_⟩
    · intro p hp; have := where' p hp; have := C.bd p hp; show p.1 + p.2 + 2 ≤ ot s ∨ ot s + s.old ≤ p.1; omega
    · intro p hp
      rcases C.hd p hp with h | ⟨b, h, hb, g3, -, -, -⟩
      · exact .inl h
      · have := pos p hp; have := C.bd _ hb; simp only at this; omega
    · intro p hp _ _; exact pos p hp
    · show 0 ≤ ot s ∧ ot s ≤ ot s ∧ ot s ≤ ot s + s.old ∧ ot s + s.old ≤ s.words.length ∧ _
      exact ⟨by omega, by omega, by omega, by omega, z4⟩
  have P2 : Ph G F (fun t => F t = true) (s.old - unc F s.words vs) vs s2 := by
    refine ⟨C2, ?_, by omega, ?_, ?_⟩
    · show ot s - ot s + unc F s.words vs + _ ≤ s.old; omega
    · intro a h1 h2
      rw [b2] at h1; rw [ll2] at h2
      simp only [F, decide_eq_false_iff_not]; omega
    · intro q hq hf h0 i i0 i1 ht
      exact slots q hq i i0 i1 ht
  obtain ⟨s3, n1, e3, P3, M3, T3, d3, -, r3, w3⟩ := Ph.leadRows (lo := 0) (up := s.words.length) (R := fun n => Liv G hs n ∧ 1 ≤ n ∧ n ≤ s.last) (hs := hs) s.rows.length 0 vs s2 P2 I.rt
    (by show 0 + _ = s.rows.length; omega) (fun j h w _ e ht => by
      obtain ⟨x, ex, W⟩ := I.rt.2 j h w e
      unfold Wor at W; rw [if_pos ht] at W
      obtain ⟨⟨k, hk⟩, -⟩ := W
      have bk := C.bd _ hk
      have wk := where' _ hk
      simp only at bk wk
      rw [within_eq ht]
      simp only [F]
      have e1 : (0 ≤ w / 8 ∧ w / 8 < (s.words.length : Int)) := by omega
      have e2 : (w / 8 < s.young ∨ (beginOf s s.use ≤ w / 8 ∧ w / 8 < lim s)) := by omega
      rw [decide_eq_true e1, decide_eq_true e2])
    (fun j h m e => by
      have hl : j < s.rows.length := by rw [I.rt.1]; exact (List.getElem?_eq_some_iff.1 e).1
      obtain ⟨⟨h', w⟩, e'⟩ : ∃ r, s.rows[j]? = some r := ⟨_, List.getElem?_eq_getElem hl⟩
      obtain ⟨x, ex, W⟩ := I.rt.2 j h' w e'
      refine ⟨.root e, ?_⟩
      rw [e] at ex; cases ex
      obtain ⟨k, hk, em⟩ := wor_num W
      have := I.nb _ hk
      rw [em]; exact this)
  have bb3 : beginOf s3 s3.use = ot s := M3.bg.trans b2
  have ll3 : lim s3 = ot s + s.old := M3.lm.trans ll2
  have old0 : ∀ p ∈ vs, ¬ (ot s ≤ p.1 ∧ p.1 < ot s + s.old) := by
    intro p hp h
    have := where' p hp; have := C.bd p hp; omega
  have lay3 : Lay (ot s) s3.free n1 := M3.lay
  obtain ⟨s4, n2, e4, P4, M4, d4, k4, r4, rr4⟩ := Ph.copyGo I.wg (fun n (h : Liv G hs n) i m e => .step h e) 1 s.last (s.words.length + 1) (vs ++ n1) n1 s3 (ot s) P3 lay3
    (fun p hp => List.mem_append_right _ hp) (by rw [bb3]; exact Int.le_refl _) (by rw [ll3]; omega)
    (by
      intro p hp v1 v2 v3 i i0 i1 ht
      rw [bb3] at v1; rw [ll3] at v2
      rcases List.mem_append.1 hp with g | g
      · exact absurd ⟨v1, v2⟩ (old0 p g)
      · exact M3.nw p g i i0 i1 ht)
    (by
      intro p hp v1 v3 i i0 i1 ht
      rw [bb3] at v1
      omega)
    (by
      intro p hp
      rcases List.mem_append.1 hp with g | g
      · rw [M3.num p g]; exact I.nb p g
      · exact (r3 p g).2)
    (by
      intro p hp v1 v2
      rw [bb3] at v1; rw [ll3] at v2
      rcases List.mem_append.1 hp with g | g
      · exact absurd ⟨v1, v2⟩ (old0 p g)
      · exact (r3 p g).1)
  rw [bb3, ll3] at d4 r4
  have bb4 : beginOf s4 s4.use = ot s := M4.bg.trans bb3
  have ll4 : lim s4 = ot s + s.old := M4.lm.trans ll3
  have f4 : s4.free ≤ ot s + s.old := by have := P4.co.b0.2.2.1; rw [ll4] at this; exact this
  have M : Mv F (fun _ => True) (fun _ => True) vs (n1 ++ n2) s2 s4 := Mv.trans' M3.anyK M4 P2.nf (by rw [ll2]; exact f4) (fun _ _ _ => trivial)
  rw [List.append_assoc] at P4 d4 k4 r4
  have T4 : Rt s4.words (vs ++ (n1 ++ n2)) s4.rows hs := by
    rw [rr4]
    refine rt_ext T3 (fun p hp => ?_) M4.num
    rw [← List.append_assoc]; exact List.mem_append_left _ hp
  generalize n1 ++ n2 = new at M P4 d4 k4 r4 T4
  have q4 : s4 = { s2 with words := s4.words, free := s4.free, rows := s4.rows } := M.eq
  have y4 : s4.young = s.young := by rw [q4]; rfl
  have o4 : s4.old = s.old := by rw [q4]; rfl
  have lf4 : s4.left = 0 := by rw [q4]; exact l0
  have cp4 : s4.copied = 0 := by rw [q4]; exact c0
  have la4 : s4.last = s.last := by rw [q4]; rfl
  have us4 : s4.use = 1 - s.use := by rw [q4]; rfl
  have ot4 : ot s4 = beginOf s s.use := by
    unfold ot beginOf; rw [us4, y4, o4]; congr 2; omega
  have lay : Lay (ot s) s4.free new := M.lay
  have nw : ∀ p ∈ new, ot s ≤ p.1 ∧ p.1 + p.2 + 2 ≤ s4.free ∧ 0 ≤ p.2 := fun p hp => by have := lay_mem lay hp; omega
  let kp : Int × Int → Bool := fun p => decide (ot s ≤ p.1 ∧ p.1 < ot s + s.old)
  have kpT : ∀ {p : Int × Int}, kp p = true ↔ (ot s ≤ p.1 ∧ p.1 < ot s + s.old) := by intro p; simp [kp]
  have vsE : (vs ++ new).filter kp = new := by
    rw [List.filter_append, List.filter_eq_nil_iff.2 (fun p hp => by rw [kpT]; exact old0 p hp), List.nil_append, List.filter_eq_self]
    intro p hp
    have := nw p hp
    exact kpT.2 ⟨by omega, by omega⟩
  have toNew : ∀ p ∈ new, ∀ i, 0 ≤ i → i < p.2 → isT (rd s4.words (p.1 + 2 + i)) = true → ot s ≤ rd s4.words (p.1 + 2 + i) / 8 ∧ rd s4.words (p.1 + 2 + i) / 8 < ot s + s.old := by
    intro p hp i i0 i1 ht
    have a := nw p hp
    have hp' : p ∈ vs ++ new := List.mem_append_right _ hp
    have nf := d4 p hp' a.1 (by omega) i i0 i1 ht
    simp only [F, decide_eq_false_iff_not] at nf
    have h0 := P4.co.nu p hp' (by rw [bb4]; exact a.1) (by rw [ll4]; omega)
    obtain ⟨⟨k, hk⟩, -⟩ := P4.co.slotV hp' h0 i0 i1 ht
    rcases List.mem_append.1 hk with g | g
    · have w := where' _ g; have bk := C.bd _ g
      simp only at w bk
      omega
    · have w := nw _ g
      simp only at w
      omega
  have Cf : Co G new s4 := by
    rw [← vsE]
    refine P4.co.filt kp (fun q hq h1 h2 => kpT.2 (by rw [bb4] at h1; rw [ll4] at h2; exact ⟨h1, h2⟩)) fun q hq hk h0 i i0 i1 ht m hm => kpT.2 ?_
    rcases List.mem_append.1 hq with g | g
    · exact absurd (kpT.1 hk) (old0 q g)
    · exact toNew q g i i0 i1 ht
  have Tf : Rt s4.words new s4.rows hs := by
    rw [← vsE]
    refine rt_filt T4 fun j a w e ht m hm => kpT.2 ?_
    have e' : s3.rows[j]? = some (a, w) := by rw [← rr4]; exact e
    have nf := d3 j a w (Nat.zero_le _) e' ht
    simp only [F, decide_eq_false_iff_not] at nf
    rcases List.mem_append.1 hm with g | g
    · have w := where' _ g; have bk := C.bd _ g
      simp only at w bk
      omega
    · have w := nw _ g
      simp only at w
      simp only; omega
  have sumE : sumBy (fun p => p.2 + 2) new = s4.free - ot s := lay_sum lay
  have pos4 : ∀ p ∈ new, 0 ≤ rd s4.words p.1 := fun p hp => P4.co.nu p (List.mem_append_right _ hp) (by rw [bb4]; exact (nw p hp).1) (by have := nw p hp; rw [ll4]; omega)
  have sp4 := P4.sp
  rw [bb4, o4] at sp4
  have u4 : 0 ≤ unc (fun a => decide (a < s.young ∨ (beginOf s s.use ≤ a ∧ a < lim s))) s4.words (vs ++ new) := sum_nonneg fun p hp => by
    have := P4.co.bd p hp
    split <;> omega
  have sp4' : s4.free - ot s + unc (fun a => decide (a < s.young ∨ (beginOf s s.use ≤ a ∧ a < lim s))) s4.words (vs ++ new) ≤ unc F s.words vs := by
    have : s4.free - ot s + unc (fun a => decide (a < s.young ∨ (beginOf s s.use ≤ a ∧ a < lim s))) s4.words (vs ++ new) + (s.old - unc F s.words vs) ≤ s.old := sp4
    omega
  have flE : filledW (emptyNur s4) = s4.free - ot s := by
    show s4.free - beginOf s4 s4.use + 0 + s4.left - s4.copied = _
    rw [bb4, lf4, cp4]; omega
  refine ⟨emptyNur s4, new, ?_, ⟨⟨Cf.cong rfl rfl rfl rfl rfl, I.wg, Tf, ?_, ?_, ?_, ?_, ?_, ?_, ?_, ?_, List.nodup_nil, ?_, ?_, ?_, ?_, ?_, ?_, ?_, ?_⟩, ?_⟩, ?_, lf4, rfl, rfl, by rw [flE, sumE], ?_, bb4, by rw [flE]; omega⟩
  · unfold Hm.copyAll
    have e3' : Hm.leadRoots 0 s.words.length (changeH s) = some s3 := e3
    rw [e3']; dsimp only
    have e4' : Hm.copyGo (s.words.length + 1) true (beginOf s (1 - s.use)) s3 = some s4 := e4
    rw [e4']; rfl
  · show (s4.use = 0 ∨ s4.use = 1) ∧ 0 ≤ s4.young ∧ 0 ≤ s4.old ∧ (s4.words.length : Int) = s4.young + 2 * s4.old
    rw [us4, y4, o4, M.len]; exact ⟨by omega, sy, so, sl⟩
  · show (0 : Int) ≤ 0 ∧ 0 ≤ s4.young
    rw [y4]; exact ⟨Int.le_refl _, sy⟩
  · intro p hp
    show p.1 + p.2 + 2 ≤ 0 ∨ (beginOf s4 s4.use ≤ p.1 ∧ p.1 + p.2 + 2 ≤ s4.free) ∨ _
    rw [bb4]
    have := nw p hp; exact .inr (.inl ⟨by omega, by omega⟩)
  · intro p hp hy; exact pos4 p hp
  · intro p hp hy
    have hy' : p.1 < s4.young := hy
    have := nw p hp; omega
  · intro p hp v1 v2 i i0 i1 ht
    right; left
    show beginOf s4 s4.use ≤ rd s4.words (p.1 + 2 + i) / 8 ∧ rd s4.words (p.1 + 2 + i) / 8 < lim s4
    rw [bb4, ll4]; exact toNew p hp i i0 i1 ht
  · intro p hp v1 v2 h0
    have v1' : ot s4 ≤ p.1 := v1
    have v2' : p.1 < ot s4 + s4.old := v2
    rw [ot4] at v1' v2'; rw [o4] at v2'
    have := nw p hp; omega
  · intro k h w e ht
    right
    show beginOf s4 s4.use ≤ w / 8 ∧ w / 8 < lim s4
    rw [bb4, ll4]
    obtain ⟨x, ex, W⟩ := Tf.2 k h w e
    unfold Wor at W; rw [if_pos ht] at W
    obtain ⟨⟨m, hm⟩, -⟩ := W
    have a := nw _ hm
    simp only at a; omega
  · intro x hx; cases hx
  · show beginOf s4 s4.use ≤ (if s4.left = 0 then s4.free else s4.scan) ∧ ∃ l, Lay (if s4.left = 0 then s4.free else s4.scan) s4.free l ∧ _
    rw [bb4, if_pos lf4]
    exact ⟨M.le, [], rfl, fun p hp => by cases hp⟩
  · show 0 ≤ s4.left ∧ s4.left ≤ s4.old ∧ 0 ≤ s4.copied ∧ (s4.left = 0 → (if s4.left = 0 then s4.free else s4.scan) = s4.free ∧ s4.copied = 0)
    rw [lf4, o4, cp4]
    exact ⟨Int.le_refl _, so, Int.le_refl _, fun h => ⟨by rw [if_pos rfl], rfl⟩⟩
  · show sumBy (fun p => if ot s4 ≤ p.1 ∧ p.1 < ot s4 + s4.old ∧ 0 ≤ rd s4.words p.1 then p.2 + 2 else 0) _ ≤ s4.left - s4.copied
    rw [ot4, o4, lf4, cp4, sum_zero fun p hp => by have := nw p hp; rw [if_neg]; omega]; omega
  · show sumBy (fun p => if beginOf s4 s4.use ≤ p.1 ∧ p.1 < lim s4 then p.2 + 2 else 0) _ ≤ s4.free - beginOf s4 s4.use
    rw [bb4, ll4, ← sumE]
    rw [sum_same (g := fun p => p.2 + 2) fun p hp => by have := nw p hp; rw [if_pos ⟨by omega, by omega⟩]]; exact Int.le_refl _
  · show sumBy (fun p => if p.1 < s4.young then p.2 + 2 else 0) _ ≤ 0
    rw [y4, sum_zero fun p hp => by have := nw p hp; rw [if_neg]; omega]; exact Int.le_refl _
  · rw [flE]; show _ ≤ s4.old; rw [o4]; omega
  · intro p hp
    show 1 ≤ rd s4.words (p.1 + 1) ∧ rd s4.words (p.1 + 1) ≤ s4.last
    rw [la4]; exact k4 p (List.mem_append_right _ hp)
  · intro h
    have h' : 0 < s4.left := h
    omega
  · refine ⟨y4, o4, ?_, la4, ?_, M.len⟩
    · show s4.pace = s.pace; rw [q4]; rfl
    · show s4.next = s.next; rw [q4]; rfl
  · intro p hp
    have a := nw p hp
    exact ⟨r4 p (List.mem_append_right _ hp) a.1 (by omega), pos4 p hp⟩
theorem Inv.whole {G hs vs} {s : Bd} (I : Inv G hs vs s) : ∃ n s' vs', Hm.whole s = some (n, s') ∧ Inv G hs vs' s' ∧ Keep s s' ∧ s'.left = 0 ∧ s'.top = 0 ∧ s'.rem = [] ∧
    n = filledW s' ∧ filledW s' = sumBy (fun p => p.2 + 2) vs' ∧ (∀ p ∈ vs', Liv G hs (rd s'.words (p.1 + 1)) ∧ 0 ≤ rd s'.words p.1) ∧ filledW s' ≤ filledW s := by
  obtain ⟨l, s1, v1, e1, I1, K1, f1, t1, m1, u1, d1, -⟩ := I.steps s.words.length
  have l0 := d1 (Int.le_refl _)
  obtain ⟨s2, v2, e2, I2, K2, l2, t2, m2, f2, r2, b2, le2⟩ := (I1.tally (bump s1.tally 3 1)).copyAll l0
  have e2' : Hm.copyAll { s1 with tally := bump s1.tally 3 1 } true = some (ot s1, s2) := e2
  unfold Hm.whole
  rw [e1]; dsimp only
  rw [e2']
  refine ⟨_, s2, v2, rfl, I2, K1.trans (Keep.trans (b := { s1 with tally := bump s1.tally 3 1 }) ⟨rfl, rfl, rfl, rfl, rfl, rfl⟩ K2), l2, t2, m2, ?_, f2, r2, Int.le_trans le2 f1⟩
  have b2' : beginOf s2 s2.use = ot s1 := b2
  have c2 : s2.copied = 0 := (I2.lf.2.2.2 l2).2
  rw [filledW_eq, b2', l2, t2, c2]; omega
end Gc
set_option maxRecDepth 100000
set_option maxHeartbeats 2000000
/-! Room is reserved, or the heap is full. -/
namespace Gc
open Hm
/-- whether there is room, and what is left behind -/
def reserve2 (s : Bd) (many : Int) : Option (Bool × Bd) :=
  match (if filledW s + many > s.old then (Hm.steps s s.words.length).map Prod.snd else some s) with
  | none => none
  | some s1 => match (if filledW s1 + many > s1.old then (Hm.whole s1).map Prod.snd else some s1) with
    | none => none
    | some s2 => if filledW s2 + many > s2.old then some (false, s2) else
      if many ≤ s2.young ∧ s2.young < s2.top + many then (Hm.gather s2).map (fun r => (true, r.2)) else some (true, s2)
theorem reserve2_true {s s' : Bd} {many : Int} (h : reserve2 s many = some (true, s')) : Hm.reserve s many = some s' := by
  unfold reserve2 at h
  unfold Hm.reserve
  revert h
  cases (if filledW s + many > s.old then (Hm.steps s s.words.length).map Prod.snd else some s) with
  | none => intro h; cases h
  | some s1 =>
    dsimp only
    cases (if filledW s1 + many > s1.old then (Hm.whole s1).map Prod.snd else some s1) with
    | none => intro h; cases h
    | some s2 =>
      dsimp only
      by_cases c : filledW s2 + many > s2.old
      · rw [if_pos c, if_pos c]; intro h; cases h
      · rw [if_neg c, if_neg c]
        by_cases d : many ≤ s2.young ∧ s2.young < s2.top + many
        · rw [if_pos d, if_pos d]
          cases Hm.gather s2 with
          | none => intro h; cases h
          | some r => intro h; cases h; rfl
        · rw [if_neg d, if_neg d]; intro h; cases h; rfl
theorem Inv.reserve {G hs vs} {s : Bd} (I : Inv G hs vs s) (many : Int) : ∃ b s' vs', reserve2 s many = some (b, s') ∧ Inv G hs vs' s' ∧ Keep s s' ∧
    (b = true → filledW s' + many ≤ s.old ∧ (many ≤ s.young → s'.top + many ≤ s.young)) ∧
    (b = false → s.old < filledW s' + many ∧ filledW s' = sumBy (fun p => p.2 + 2) vs' ∧ ∀ p ∈ vs', Liv G hs (rd s'.words (p.1 + 1)) ∧ 0 ≤ rd s'.words p.1) := by
  unfold reserve2
  obtain ⟨s1, v1, e1, I1, K1⟩ : ∃ s1 v1, (if filledW s + many > s.old then (Hm.steps s s.words.length).map Prod.snd else some s) = some s1 ∧ Inv G hs v1 s1 ∧ Keep s s1 := by
    by_cases c : filledW s + many > s.old
    · obtain ⟨l, s1, v1, e, I1, K1, -⟩ := I.steps s.words.length
      exact ⟨s1, v1, by rw [if_pos c, e]; rfl, I1, K1⟩
    · exact ⟨s, vs, by rw [if_neg c], I, Keep.rfl'⟩
  rw [e1]
  dsimp only
  by_cases c : filledW s1 + many > s1.old
  · obtain ⟨n, s2, v2, e2, I2, K2, l2, t2, m2, -, f2, r2, -⟩ := I1.whole
    rw [if_pos c, e2]
    dsimp only [Option.map]
    have K := K1.trans K2
    by_cases d : filledW s2 + many > s2.old
    · rw [if_pos d]
      exact ⟨false, s2, v2, rfl, I2, K, (fun h => by cases h), fun _ => ⟨by rw [← K.o]; exact d, f2, r2⟩⟩
    · rw [if_neg d]
      by_cases e : many ≤ s2.young ∧ s2.young < s2.top + many
      · rw [t2] at e; omega
      · rw [if_neg e]
        exact ⟨true, s2, v2, rfl, I2, K, fun _ => ⟨by rw [← K.o]; omega, fun h => by rw [← K.y] at h ⊢; omega⟩, fun h => by cases h⟩
  · rw [if_neg c]
    dsimp only
    rw [if_neg c]
    by_cases e : many ≤ s1.young ∧ s1.young < s1.top + many
    · rw [if_pos e]
      obtain ⟨n, s2, v2, e2, I2, K2, t2, -, -, -, -, f2, -⟩ := I1.gather
      rw [e2]
      have K := K1.trans K2
      refine ⟨true, s2, v2, rfl, I2, K, fun _ => ⟨?_, fun h => by rw [t2]; omega⟩, fun h => by cases h⟩
      rw [← K1.o]; omega
    · rw [if_neg e]
      exact ⟨true, s1, v1, rfl, I1, K1, fun _ => ⟨by rw [← K1.o]; omega, fun h => by rw [← K1.y] at h ⊢; omega⟩, fun h => by cases h⟩
end Gc
set_option maxRecDepth 100000
set_option maxHeartbeats 2000000
/-! A new thing is laid. -/
namespace Gc
open Hm
def addG (G : Gr) (m : Int) (t : Int × List Wo) : Gr := fun n => if n = m then t else G n
theorem rd_cons0 (x : Int) (l : List Int) : rd (x :: l) 0 = x := by simp [rd]
theorem rd_cons {x : Int} {l : List Int} {i : Int} (h : 0 < i) : rd (x :: l) i = rd l (i - 1) := by
  unfold rd
  have e : i.toNat = (i - 1).toNat + 1 := by omega
  rw [e]; simp [List.getD]
theorem Co.add {G vs} {s : Bd} (C : Co G vs s) {a sort m f' : Int} {found : List Int} {xs : List Wo} (h5 : 0 ≤ sort ∧ sort ≤ 5) (hx : xs.length = found.length) (ha : 0 ≤ a)
    (hal : a + found.length + 2 ≤ s.words.length) (hd : ∀ p ∈ vs, Dj p (a, (found.length : Int))) (hfr : a + found.length + 2 ≤ f' ∨ lim s ≤ a) (hf1 : s.free ≤ f') (hf2 : f' ≤ lim s)
    (hm : ∀ p ∈ vs, rd s.words (p.1 + 1) < m) (hw : ∀ i : Nat, i < found.length → Wor s.words vs (found.getD i 0) (xs.getD i (.word 0))) :
    ∃ w, setS s.words a (a + ((found.length : Int) + 2)) (((found.length : Int) * 8 + sort) :: m :: found) = some w ∧ w.length = s.words.length ∧
      Co (addG G m (sort, xs)) (vs ++ [(a, (found.length : Int))]) { s with words := w, free := f' } ∧
      (∀ p ∈ vs, ∀ j, p.1 ≤ j → j < p.1 + p.2 + 2 → rd w j = rd s.words j) ∧ rd w a = (found.length : Int) * 8 + sort ∧ rd w (a + 1) = m ∧
      ∀ i : Int, 0 ≤ i → i < found.length → rd w (a + 2 + i) = found.getD i.toNat 0 := by
  obtain ⟨w, e, l, r⟩ := setS_rd (ws := s.words) (ys := ((found.length : Int) * 8 + sort) :: m :: found) (a := a) (b := a + ((found.length : Int) + 2)) ha (by omega) (by omega)
    (by simp only [List.length_cons]; omega)
  have cell : ∀ p ∈ vs, ∀ j, p.1 ≤ j → j < p.1 + p.2 + 2 → rd w j = rd s.words j := by
    intro p hp j h1 h2
    have b := C.bd p hp; have d := hd p hp
    unfold Dj at d; simp only at d
    rw [r j (by omega), if_neg (by omega)]
  have wa : rd w a = (found.length : Int) * 8 + sort := by
    rw [r a ha, if_pos (by omega), Int.sub_self, rd_cons0]
  have wn : rd w (a + 1) = m := by
    rw [r _ (by omega), if_pos (by omega), rd_cons (by omega), show a + 1 - a - 1 = 0 by omega, rd_cons0]
  have wi : ∀ i : Int, 0 ≤ i → i < found.length → rd w (a + 2 + i) = found.getD i.toNat 0 := by
    intro i i0 i1
    rw [r _ (by omega), if_pos (by omega), rd_cons (by omega), rd_cons (by omega), show a + 2 + i - a - 1 - 1 = i by omega]
    rfl
  have hdw : ∀ p ∈ vs, rd w p.1 = rd s.words p.1 := fun p hp => cell p hp _ (by omega) (by have := C.bd p hp; omega)
  have num : ∀ p ∈ vs, rd w (p.1 + 1) = rd s.words (p.1 + 1) := fun p hp => cell p hp _ (by omega) (by have := C.bd p hp; omega)
  have slt : ∀ p ∈ vs, ∀ i, 0 ≤ i → i < p.2 → rd w (p.1 + 2 + i) = rd s.words (p.1 + 2 + i) := fun p hp i h1 h2 => cell p hp _ (by omega) (by omega)
  have ne : ∀ p ∈ vs, p.1 ≠ a := by
    intro p hp h
    have b := C.bd p hp; have d := hd p hp
    unfold Dj at d; simp only at d; omega
  obtain ⟨z0, z1, z2, z3, z4⟩ := C.b0
  refine ⟨w, e, l, ⟨?_, ?_, ?_, ?_, ?_, ?_, ?_, ?_, ?_⟩, cell, wa, wn, wi⟩
  · rw [List.nodup_append]
    refine ⟨C.nd, by simp, ?_⟩
    rintro p hp q hq rfl
    rw [List.mem_singleton] at hq; subst hq
    exact ne _ hp rfl
  · intro p hp q hq
    rcases List.mem_append.1 hp with h1 | h1 <;> rcases List.mem_append.1 hq with h2 | h2
    · exact C.dj p h1 q h2
    · rw [List.mem_singleton] at h2; subst h2; exact .inr (hd p h1)
    · rw [List.mem_singleton] at h1; subst h1; exact .inr (hd q h2).symm
    · rw [List.mem_singleton] at h1 h2; subst h1; subst h2; exact .inl rfl
  · intro p hp
    simp only [l]
    rcases List.mem_append.1 hp with h1 | h1
    · exact C.bd p h1
    · rw [List.mem_singleton] at h1; subst h1; simp only; omega
  · intro p hp
    rcases List.mem_append.1 hp with h1 | h1
    · rcases C.fr p h1 with h | h
      · left; simp only; omega
      · exact .inr h
    · rw [List.mem_singleton] at h1; subst h1; exact hfr
  · intro p hp
    rcases List.mem_append.1 hp with h1 | h1
    · simp only [hdw p h1, num p h1]
      rcases C.hd p h1 with h | ⟨b, g1, g2, g3, g4, g5, g6⟩
      · exact .inl h
      · have x1 := hdw _ g2; have x2 := num _ g2
        simp only at x1 x2
        refine .inr ⟨b, g1, List.mem_append_left _ g2, by rw [x1]; exact g3, g4, by omega, by rw [x2]; exact g6⟩
    · rw [List.mem_singleton] at h1; subst h1
      left; simp only [wa]; omega
  · intro p hp v1 v2
    rcases List.mem_append.1 hp with h1 | h1
    · simp only [hdw p h1]; exact C.nu p h1 v1 v2
    · rw [List.mem_singleton] at h1; subst h1; simp only [wa]; omega
  · intro p hp h0
    show Thg _ w _ p
    rcases List.mem_append.1 hp with h1 | h1
    · simp only [hdw p h1] at h0
      obtain ⟨t1, t2, t3⟩ := C.th p h1 h0
      have gm : addG G m (sort, xs) (rd s.words (p.1 + 1)) = G (rd s.words (p.1 + 1)) := by
        unfold addG; rw [if_neg]; have := hm p h1; omega
      unfold Thg
      rw [num p h1, hdw p h1, gm]
      refine ⟨t1, t2, fun i hi => ?_⟩
      rw [slt p h1 i (by omega) hi]
      exact wor_ext (t3 i hi) (fun q hq => List.mem_append_left _ hq) num
    · rw [List.mem_singleton] at h1; subst h1
      have gm : addG G m (sort, xs) m = (sort, xs) := by unfold addG; rw [if_pos rfl]
      unfold Thg
      simp only [wn, wa, gm]
      refine ⟨by omega, by rw [hx], fun i hi => ?_⟩
      rw [wi i (by omega) (by omega), Int.toNat_natCast]
      exact wor_ext (hw i (by omega)) (fun q hq => List.mem_append_left _ hq) num
  · intro p hp q hq h1 h2 h3
    rcases List.mem_append.1 hp with g1 | g1 <;> rcases List.mem_append.1 hq with g2 | g2
    · simp only [hdw p g1, hdw q g2, num p g1, num q g2] at h1 h2 h3
      exact C.un p g1 q g2 h1 h2 h3
    · rw [List.mem_singleton] at g2; subst g2
      simp only [num p g1, wn] at h3
      have := hm p g1; omega
    · rw [List.mem_singleton] at g1; subst g1
      simp only [num q g2, wn] at h3
      have := hm q g2; omega
    · rw [List.mem_singleton] at g1 g2; subst g1; subst g2; rfl
  · exact ⟨z0, by show beginOf s s.use ≤ f'; omega, hf2, by simp only [l]; exact z3, by simp only [l]; exact z4⟩
/-- many different places of a room -/
theorem nodup_bound : ∀ (n : Nat) (l : List Int), l.Nodup → (∀ x ∈ l, 0 ≤ x ∧ x < n) → l.length ≤ n
  | 0, l, _, h => by
    cases l with
    | nil => simp
    | cons x r => have := h x (by simp); omega
  | n + 1, l, hn, h => by
    have := nodup_bound n (l.erase (n : Int)) (hn.erase _) (fun x hx => by
      have h1 := h x (List.mem_of_mem_erase hx)
      have h2 : x ≠ n := fun e => by rw [e] at hx; exact (List.Nodup.not_mem_erase hn) hx
      omega)
    rw [List.length_erase] at this
    split at this <;> omega
theorem Hm_rem {s : Bd} {p w : Int} (hc : s.rem.length < 1000000) (hn : s.rem.Nodup) : ∃ s', remember s p w = some s' ∧ s' = { s with rem := s'.rem } ∧ s'.rem.Nodup ∧
    s'.rem.length ≤ s.rem.length + 1 ∧ (∀ x ∈ s.rem, x ∈ s'.rem) ∧ (∀ x ∈ s'.rem, x ∈ s.rem ∨ x = p) ∧ (isT w = true → w / 8 < s.young → p ∈ s'.rem) := by
  unfold remember
  by_cases c : (isT w && decide (w / 8 < s.young)) = true
  · rw [if_pos c]
    by_cases d : s.rem.contains p = true
    · rw [if_pos d]
      exact ⟨s, rfl, rfl, hn, by omega, fun _ h => h, fun _ h => .inl h, fun _ _ => by simpa using d⟩
    · rw [if_neg d, if_pos hc]
      refine ⟨_, rfl, rfl, ?_, by simp, fun x h => by simp [h], fun x h => by simpa using h, fun _ _ => by simp⟩
      rw [List.nodup_append]
      refine ⟨hn, by simp, ?_⟩
      rintro x hx y hy rfl
      rw [List.mem_singleton] at hy; subst hy
      exact d (by simpa using hx)
  · rw [if_neg c]
    refine ⟨s, rfl, rfl, hn, by omega, fun _ h => h, fun _ h => .inl h, fun h1 h2 => ?_⟩
    exfalso; apply c; rw [h1]; simpa using h2
theorem Hm_rems (a : Int) : ∀ (k : Nat) (ws : List Int) (s : Bd), s.rem.length + ws.length < 1000000 → s.rem.Nodup → ∃ s', rememberAll a k ws s = some s' ∧ s' = { s with rem := s'.rem } ∧ s'.rem.Nodup ∧
    (∀ x ∈ s.rem, x ∈ s'.rem) ∧ (∀ x ∈ s'.rem, x ∈ s.rem ∨ (a + 2 + k ≤ x ∧ x < a + 2 + k + ws.length)) ∧
    (∀ i : Nat, i < ws.length → isT (ws.getD i 0) = true → ws.getD i 0 / 8 < s.young → a + 2 + k + i ∈ s'.rem)
  | k, [], s, _, hn => ⟨s, rfl, rfl, hn, fun _ h => h, fun _ h => .inl h, fun i h => by simp at h⟩
  | k, w :: ws, s, hc, hn => by
    simp only [List.length_cons] at hc
    obtain ⟨s1, e1, q1, n1, l1, a1, b1, c1⟩ := Hm_rem (s := s) (p := a + 2 + (k : Int)) (w := w) (by omega) hn
    obtain ⟨s2, e2, q2, n2, a2, b2, c2⟩ := Hm_rems a (k + 1) ws s1 (by omega) n1
    have y1 : s1.young = s.young := by rw [q1]
    refine ⟨s2, by unfold rememberAll; rw [e1]; exact e2, by rw [q2, q1], n2, fun x h => a2 x (a1 x h), fun x h => ?_, fun i h ht hy => ?_⟩
    · simp only [List.length_cons]
      rcases b2 x h with g | g
      · rcases b1 x g with g | g
        · exact .inl g
        · right; omega
      · right; omega
    · cases i with
      | zero => have := c1 (by simpa using ht) (by simpa using hy); have := a2 _ this; simpa using this
      | succ i =>
        have := c2 i (by simpa using h) (by simpa using ht) (by rw [y1]; simpa using hy)
        have e : a + 2 + ((k + 1 : Nat) : Int) + i = a + 2 + k + ((i + 1 : Nat) : Int) := by omega
        rw [← e]; exact this
end Gc
set_option maxRecDepth 100000
set_option maxHeartbeats 2000000
/-! A thing is placed. -/
namespace Gc
open Hm
theorem wg_add {G : Gr} (h : WG G) {m : Int} {sort : Int} {xs : List Wo} (ht : sort = 0 → ∀ x ∈ xs, ∀ n, x ≠ .thing n) : WG (addG G m (sort, xs)) := by
  intro n i k h0
  unfold addG at h0 ⊢
  by_cases c : n = m
  · rw [if_pos c] at h0 ⊢
    intro e
    simp only at e h0
    by_cases d : i < xs.length
    · have : xs.getD i (.word 0) = xs[i] := by simp [List.getD, d]
      rw [this] at e
      exact ht h0 _ (List.getElem_mem d) _ e
    · have : xs.getD i (.word 0) = .word 0 := by simp [List.getD, d]
      rw [this] at e; cases e
  · rw [if_neg c] at h0 ⊢; exact h n i k h0
theorem Inv.rem_len {G hs vs} {s : Bd} (I : Inv G hs vs s) : s.rem.length ≤ s.words.length :=
  nodup_bound _ _ I.rn fun x hx => by
    obtain ⟨q, hq, u1, u2, i, hi, rfl⟩ := I.rs x hx
    have := I.co.bd q hq
    omega
/-- behind a place -/
structure KeepP (s s' : Bd) : Prop where
  y : s'.young = s.young
  o : s'.old = s.old
  pc : s'.pace = s.pace
  la : s'.last = s.last + 1
  nx : s'.next = s.next
  ln : s'.words.length = s.words.length
theorem Inv.place1 {G hs vs} {s : Bd} (I : Inv G hs vs s) {sort : Nat} (h5 : sort ≤ 5) {found : List Int} {xs : List Wo} (hx : xs.length = found.length)
    (hw : ∀ i : Nat, i < found.length → Wor s.words vs (found.getD i 0) (xs.getD i (.word 0)))
    (hpt : ∀ i : Nat, i < found.length → isT (found.getD i 0) = true → found.getD i 0 / 8 < s.young ∨ (beginOf s s.use ≤ found.getD i 0 / 8 ∧ found.getD i 0 / 8 < lim s))
    (ht : sort = 0 → ∀ x ∈ xs, ∀ n, x ≠ .thing n) (hf : filledW s + (found.length + 2) ≤ s.old) (hn : (found.length : Int) + 2 ≤ s.young → s.top + (found.length + 2) ≤ s.young)
    (sm : s.words.length ≤ 400000) (l0 : 0 ≤ s.last) :
    ∃ w s2, setS s.words (placeAt s found) (placeAt s found + ((found.length : Int) + 2)) (((found.length : Int) * 8 + (sort : Int)) :: (s.last + 1) :: found) = some w ∧
      placed { s with last := s.last + 1, words := w } found = some s2 ∧ Inv (addG G (s.last + 1) (sort, xs)) hs (vs ++ [(placeAt s found, (found.length : Int))]) s2 ∧
      rd s2.words (placeAt s found + 1) = s.last + 1 ∧ KeepP s s2 ∧ s2.use = s.use ∧
      (placeAt s found < s.young ∨ (beginOf s s.use ≤ placeAt s found ∧ placeAt s found < lim s)) := by
  have C := I.co
  obtain ⟨z0, z1, z2, z3, z4⟩ := C.b0
  obtain ⟨su, sy, so, sl⟩ := I.sh
  have hv := halves su
  have ll : lim s = beginOf s s.use + s.old := rfl
  have fe := filledW_eq s
  have tp := I.tp
  have uc := I.uncopied
  obtain ⟨lf1, lf2, lf4, lf5⟩ := I.lf
  have sf := I.sf
  have wg' : WG (addG G (s.last + 1) ((sort : Int), xs)) := wg_add I.wg (fun h => ht (by omega))
  have hnum : ∀ p ∈ vs, rd s.words (p.1 + 1) < s.last + 1 := fun p hp => by have := I.nb p hp; omega
  by_cases c : (found.length : Int) + 2 ≤ s.young
  · have pa : placeAt s found = s.top := by unfold placeAt; rw [if_pos c]
    have hn' := hn c
    rw [pa]
    obtain ⟨w, e, l, C', cell, wa, wn, wi⟩ := C.add (a := s.top) (sort := (sort : Int)) (m := s.last + 1) (f' := s.free) (found := found) (xs := xs) (by omega) hx (by omega) (by omega)
      (fun p hp => by have := I.rg p hp; have := C.bd p hp; unfold Dj; simp only; omega) (.inl (by omega)) (Int.le_refl _) z2 hnum hw
    have num : ∀ p ∈ vs, rd w (p.1 + 1) = rd s.words (p.1 + 1) := fun p hp => cell p hp _ (by omega) (by have := C.bd p hp; omega)
    have hdw : ∀ p ∈ vs, rd w p.1 = rd s.words p.1 := fun p hp => cell p hp _ (by omega) (by have := C.bd p hp; omega)
    have slt : ∀ p ∈ vs, ∀ i, 0 ≤ i → i < p.2 → rd w (p.1 + 2 + i) = rd s.words (p.1 + 2 + i) := fun p hp i h1 h2 => cell p hp _ (by omega) (by omega)
    refine ⟨w, { s with last := s.last + 1, words := w, top := s.top + ((found.length : Int) + 2) }, e, ?_, ⟨⟨C'.cong rfl rfl rfl rfl rfl, wg', ?_, ?_, ?_, ?_, ?_, ?_, ?_, ?_, I.ro, I.rn, ?_, ?_, I.lf, ?_, ?_, ?_, ?_, ?_⟩, I.sf⟩,
      wn, ⟨rfl, rfl, rfl, rfl, rfl, l⟩, rfl, .inl (by omega)⟩
    · unfold placed; rw [if_pos c]
    · exact rt_ext I.rt (fun q hq => List.mem_append_left _ hq) num
    · show (s.use = 0 ∨ s.use = 1) ∧ 0 ≤ s.young ∧ 0 ≤ s.old ∧ (w.length : Int) = s.young + 2 * s.old
      rw [l]; exact ⟨su, sy, so, sl⟩
    · show 0 ≤ s.top + _ ∧ s.top + _ ≤ s.young; omega
    · intro p hp
      show p.1 + p.2 + 2 ≤ s.top + _ ∨ (beginOf s s.use ≤ p.1 ∧ p.1 + p.2 + 2 ≤ s.free) ∨ (ot s ≤ p.1 ∧ p.1 + p.2 + 2 ≤ ot s + s.left)
      rcases List.mem_append.1 hp with g | g
      · have := I.rg p g; omega
      · rw [List.mem_singleton] at g; subst g; simp only; omega
    · intro p hp hy
      show 0 ≤ rd w p.1
      rcases List.mem_append.1 hp with g | g
      · rw [hdw p g]; exact I.ny p g hy
      · rw [List.mem_singleton] at g; subst g; simp only [wa]; omega
    · intro p hp hy i i0 i1 ht'
      rcases List.mem_append.1 hp with g | g
      · simp only [slt p g i i0 i1] at ht' ⊢
        exact I.pn p g hy i i0 i1 ht'
      · rw [List.mem_singleton] at g; subst g
        simp only [wi i i0 i1] at ht' ⊢
        exact hpt (i.toNat) (by simp only at i1; omega) ht'
    · intro p hp v1 v2 i i0 i1 ht'
      rcases List.mem_append.1 hp with g | g
      · simp only [slt p g i i0 i1] at ht' ⊢
        exact I.pu p g v1 v2 i i0 i1 ht'
      · rw [List.mem_singleton] at g; subst g
        have v1' : beginOf s s.use ≤ s.top := v1
        omega
    · intro p hp v1 v2 h0 i i0 i1 ht'
      rcases List.mem_append.1 hp with g | g
      · simp only [slt p g i i0 i1, hdw p g] at ht' h0 ⊢
        exact I.pl p g v1 v2 h0 i i0 i1 ht'
      · rw [List.mem_singleton] at g; subst g
        have v1' : ot s ≤ s.top := v1
        omega
    · intro x hx'
      obtain ⟨q, hq, r⟩ := I.rs x hx'
      exact ⟨q, List.mem_append_left _ hq, r⟩
    · obtain ⟨g1, l', g2, g3⟩ := I.ly
      exact ⟨g1, l', g2, fun p hp => List.mem_append_left _ (g3 p hp)⟩
    · show sumBy (fun p => if ot s ≤ p.1 ∧ p.1 < ot s + s.old ∧ 0 ≤ rd w p.1 then p.2 + 2 else 0) _ ≤ s.left - s.copied
      rw [sum_app, sum_zero (l := [_]) fun p hp => by rw [List.mem_singleton] at hp; subst hp; rw [if_neg]; simp only; omega]
      rw [sum_same (l := vs) (g := fun p => if ot s ≤ p.1 ∧ p.1 < ot s + s.old ∧ 0 ≤ rd s.words p.1 then p.2 + 2 else 0) fun p hp => by rw [hdw p hp]]
      have := I.cp; omega
    · show sumBy (fun p => if beginOf s s.use ≤ p.1 ∧ p.1 < lim s then p.2 + 2 else 0) _ ≤ s.free - beginOf s s.use
      rw [sum_app, sum_zero (l := [_]) fun p hp => by rw [List.mem_singleton] at hp; subst hp; rw [if_neg]; simp only; omega]
      have := I.su; omega
    · show sumBy (fun p => if p.1 < s.young then p.2 + 2 else 0) _ ≤ s.top + ((found.length : Int) + 2)
      rw [sum_app]
      have := I.sn
      simp only [sumBy]
      split <;> omega
    · show s.free - beginOf s s.use + (s.top + ((found.length : Int) + 2)) + s.left - s.copied ≤ s.old
      omega
    · intro p hp
      show 1 ≤ rd w (p.1 + 1) ∧ rd w (p.1 + 1) ≤ s.last + 1
      rcases List.mem_append.1 hp with g | g
      · rw [num p g]; have := I.nb p g; omega
      · rw [List.mem_singleton] at g; subst g; simp only [wn]
        omega
  · have pa : placeAt s found = s.free := by unfold placeAt; rw [if_neg c]
    rw [pa]
    obtain ⟨w, e, l, C', cell, wa, wn, wi⟩ := C.add (a := s.free) (sort := (sort : Int)) (m := s.last + 1) (f' := s.free + ((found.length : Int) + 2)) (found := found) (xs := xs) (by omega) hx (by omega) (by omega)
      (fun p hp => by have := C.fr p hp; have := C.bd p hp; unfold Dj; simp only; omega) (.inl (by omega)) (by omega) (by omega) hnum hw
    have num : ∀ p ∈ vs, rd w (p.1 + 1) = rd s.words (p.1 + 1) := fun p hp => cell p hp _ (by omega) (by have := C.bd p hp; omega)
    have hdw : ∀ p ∈ vs, rd w p.1 = rd s.words p.1 := fun p hp => cell p hp _ (by omega) (by have := C.bd p hp; omega)
    have slt : ∀ p ∈ vs, ∀ i, 0 ≤ i → i < p.2 → rd w (p.1 + 2 + i) = rd s.words (p.1 + 2 + i) := fun p hp i h1 h2 => cell p hp _ (by omega) (by omega)
    have rl := I.rem_len
    obtain ⟨s1, e1, q1, n1, a1, b1, c1⟩ := Hm_rems s.free 0 found { s with last := s.last + 1, words := w, free := s.free + ((found.length : Int) + 2) } (by show s.rem.length + _ < _; omega) I.rn
    have b1' : ∀ x ∈ s1.rem, x ∈ s.rem ∨ (s.free + 2 ≤ x ∧ x < s.free + 2 + found.length) := fun x hx => by
      rcases b1 x hx with h | h
      · exact .inl h
      · right; simp only [Int.natCast_zero, Int.add_zero] at h; exact h
    have a1' : ∀ x ∈ s.rem, x ∈ s1.rem := a1
    have c1' : ∀ i : Int, 0 ≤ i → i < found.length → isT (found.getD i.toNat 0) = true → found.getD i.toNat 0 / 8 < s.young → s.free + 2 + i ∈ s1.rem := fun i i0 i1 h1 h2 => by
      have := c1 i.toNat (by omega) h1 h2
      have e : s.free + 2 + i = s.free + 2 + ((0 : Nat) : Int) + (i.toNat : Int) := by omega
      rw [e]; exact this
    generalize s1.rem = rm at q1 n1 a1' b1' c1'
    subst q1
    refine ⟨w, { s with last := s.last + 1, words := w, free := s.free + ((found.length : Int) + 2), rem := rm, scan := if s.left = 0 then s.free + ((found.length : Int) + 2) else s.scan }, e, ?_,
      ⟨⟨C'.cong rfl rfl rfl rfl rfl, wg', ?_, ?_, tp, ?_, ?_, ?_, ?_, ?_, I.ro, n1, ?_, ?_, ?_, ?_, ?_, ?_, ?_, ?_⟩, ?_⟩,
      wn, ⟨rfl, rfl, rfl, rfl, rfl, l⟩, rfl, .inr ⟨z1, by omega⟩⟩
    · unfold placed; rw [if_neg c, e1]
      dsimp only
      by_cases d : s.left = 0
      · rw [if_pos d, if_pos d]
      · rw [if_neg d, if_neg d]
    · exact rt_ext I.rt (fun q hq => List.mem_append_left _ hq) num
    · show (s.use = 0 ∨ s.use = 1) ∧ 0 ≤ s.young ∧ 0 ≤ s.old ∧ (w.length : Int) = s.young + 2 * s.old
      rw [l]; exact ⟨su, sy, so, sl⟩
    · intro p hp
      show p.1 + p.2 + 2 ≤ s.top ∨ (beginOf s s.use ≤ p.1 ∧ p.1 + p.2 + 2 ≤ s.free + ((found.length : Int) + 2)) ∨ (ot s ≤ p.1 ∧ p.1 + p.2 + 2 ≤ ot s + s.left)
      rcases List.mem_append.1 hp with g | g
      · have := I.rg p g; omega
      · rw [List.mem_singleton] at g; subst g; simp only; omega
    · intro p hp hy
      show 0 ≤ rd w p.1
      rcases List.mem_append.1 hp with g | g
      · rw [hdw p g]; exact I.ny p g hy
      · rw [List.mem_singleton] at g; subst g; simp only [wa]; omega
    · intro p hp hy i i0 i1 ht'
      rcases List.mem_append.1 hp with g | g
      · simp only [slt p g i i0 i1] at ht' ⊢
        exact I.pn p g hy i i0 i1 ht'
      · rw [List.mem_singleton] at g; subst g
        have hy' : s.free < s.young := hy
        omega
    · intro p hp v1 v2 i i0 i1 ht'
      show (rd w (p.1 + 2 + i) / 8 < s.young ∧ p.1 + 2 + i ∈ rm) ∨ (beginOf s s.use ≤ rd w (p.1 + 2 + i) / 8 ∧ rd w (p.1 + 2 + i) / 8 < lim s) ∨
        (ot s ≤ rd w (p.1 + 2 + i) / 8 ∧ rd w (p.1 + 2 + i) / 8 < ot s + s.old ∧ (if s.left = 0 then s.free + ((found.length : Int) + 2) else s.scan) ≤ p.1 ∧ 0 < s.left)
      rcases List.mem_append.1 hp with g | g
      · simp only [slt p g i i0 i1] at ht' ⊢
        rcases I.pu p g v1 v2 i i0 i1 ht' with h | h | ⟨h1, h2, h3, h4⟩
        · exact .inl ⟨h.1, a1' _ h.2⟩
        · exact .inr (.inl h)
        · right; right; rw [if_neg (by omega)]; exact ⟨h1, h2, h3, h4⟩
      · rw [List.mem_singleton] at g; subst g
        simp only [wi i i0 i1] at ht' ⊢
        simp only at i1
        rcases hpt (i.toNat) (by omega) ht' with h | h
        · exact .inl ⟨h, c1' i i0 i1 ht' h⟩
        · exact .inr (.inl h)
    · intro p hp v1 v2 h0 i i0 i1 ht'
      rcases List.mem_append.1 hp with g | g
      · simp only [slt p g i i0 i1, hdw p g] at ht' h0 ⊢
        exact I.pl p g v1 v2 h0 i i0 i1 ht'
      · rw [List.mem_singleton] at g; subst g
        have v1' : ot s ≤ s.free := v1
        have v2' : s.free < ot s + s.old := v2
        omega
    · intro x hx'
      rcases b1' x hx' with h | h
      · obtain ⟨q, hq, r⟩ := I.rs x h
        exact ⟨q, List.mem_append_left _ hq, r⟩
      · refine ⟨(s.free, (found.length : Int)), by simp, z1, ?_, (x - s.free - 2).toNat, ?_, ?_⟩
        · show s.free < lim s; omega
        · simp only; omega
        · simp only; omega
    · show beginOf s s.use ≤ (if s.left = 0 then s.free + ((found.length : Int) + 2) else s.scan) ∧ ∃ l, Lay (if s.left = 0 then s.free + ((found.length : Int) + 2) else s.scan) (s.free + ((found.length : Int) + 2)) l ∧ _
      by_cases d : s.left = 0
      · rw [if_pos d]; exact ⟨by omega, [], rfl, fun p hp => by cases hp⟩
      · rw [if_neg d]
        obtain ⟨g1, l', g2, g3⟩ := I.ly
        refine ⟨g1, l' ++ [(s.free, (found.length : Int))], lay_app g2 ⟨rfl, by simp, ?_⟩, fun p hp => ?_⟩
        · show s.free + (found.length : Int) + 2 = _; omega
        · rcases List.mem_append.1 hp with g | g
          · exact List.mem_append_left _ (g3 p g)
          · exact List.mem_append_right _ g
    · show 0 ≤ s.left ∧ s.left ≤ s.old ∧ 0 ≤ s.copied ∧ (s.left = 0 → (if s.left = 0 then s.free + ((found.length : Int) + 2) else s.scan) = s.free + ((found.length : Int) + 2) ∧ s.copied = 0)
      exact ⟨lf1, lf2, lf4, fun h => ⟨by rw [if_pos h], (lf5 h).2⟩⟩
    · show sumBy (fun p => if ot s ≤ p.1 ∧ p.1 < ot s + s.old ∧ 0 ≤ rd w p.1 then p.2 + 2 else 0) _ ≤ s.left - s.copied
      rw [sum_app, sum_zero (l := [_]) fun p hp => by rw [List.mem_singleton] at hp; subst hp; rw [if_neg]; simp only; omega]
      rw [sum_same (l := vs) (g := fun p => if ot s ≤ p.1 ∧ p.1 < ot s + s.old ∧ 0 ≤ rd s.words p.1 then p.2 + 2 else 0) fun p hp => by rw [hdw p hp]]
      have := I.cp; omega
    · show sumBy (fun p => if beginOf s s.use ≤ p.1 ∧ p.1 < lim s then p.2 + 2 else 0) _ ≤ s.free + ((found.length : Int) + 2) - beginOf s s.use
      rw [sum_app]
      have := I.su
      simp only [sumBy]
      split <;> omega
    · show sumBy (fun p => if p.1 < s.young then p.2 + 2 else 0) _ ≤ s.top
      rw [sum_app, sum_zero (l := [_]) fun p hp => by rw [List.mem_singleton] at hp; subst hp; rw [if_neg]; simp only; omega]
      have := I.sn; omega
    · show s.free + ((found.length : Int) + 2) - beginOf s s.use + s.top + s.left - s.copied ≤ s.old
      omega
    · intro p hp
      show 1 ≤ rd w (p.1 + 1) ∧ rd w (p.1 + 1) ≤ s.last + 1
      rcases List.mem_append.1 hp with g | g
      · rw [num p g]; have := I.nb p g; omega
      · rw [List.mem_singleton] at g; subst g; simp only [wn]
        omega
    · show 0 < s.left → (if s.left = 0 then s.free + ((found.length : Int) + 2) else s.scan) < s.free + ((found.length : Int) + 2)
      intro h
      rw [if_neg (by omega)]
      have := sf h; omega
theorem Inv.place {G hs vs} {s : Bd} (I : Inv G hs vs s) {sort : Nat} (h5 : sort ≤ 5) {found : List Int} {xs : List Wo} (hx : xs.length = found.length)
    (hw : ∀ i : Nat, i < found.length → Wor s.words vs (found.getD i 0) (xs.getD i (.word 0)))
    (hpt : ∀ i : Nat, i < found.length → isT (found.getD i 0) = true → found.getD i 0 / 8 < s.young ∨ (beginOf s s.use ≤ found.getD i 0 / 8 ∧ found.getD i 0 / 8 < lim s))
    (ht : sort = 0 → ∀ x ∈ xs, ∀ n, x ≠ .thing n) (hf : filledW s + (found.length + 2) ≤ s.old) (hn : (found.length : Int) + 2 ≤ s.young → s.top + (found.length + 2) ≤ s.young)
    (sm : s.words.length ≤ 400000) (l0 : 0 ≤ s.last) :
    ∃ a s' vs', Hm.place s sort found = some (a * 8 + 0, s') ∧ Inv (addG G (s.last + 1) (sort, xs)) hs vs' s' ∧ KeepP s s' ∧
      (a, (found.length : Int)) ∈ vs' ∧ rd s'.words (a + 1) = s.last + 1 ∧ (a < s'.young ∨ (beginOf s' s'.use ≤ a ∧ a < lim s')) := by
  obtain ⟨w, s2, e1, e2, I2, n2, K2, u2, p2⟩ := I.place1 h5 hx hw hpt ht hf hn sm l0
  unfold Hm.place
  rw [e1]; dsimp only
  rw [e2]; dsimp only
  have B2 : beginOf s2 s2.use = beginOf s s.use := by unfold beginOf; rw [u2, K2.y, K2.o]
  have L2 : lim s2 = lim s := by unfold lim beginOf; rw [u2, K2.y, K2.o]
  by_cases c : s2.left > 0
  · rw [if_pos c]
    obtain ⟨l, s3, v3, e3, I3, K3, -, -, -, u3, -, S3⟩ := I2.steps s2.pace
    rw [e3]
    dsimp only [Option.map]
    obtain ⟨g1, g2⟩ := S3 (placeAt s found, (found.length : Int)) (by simp) (by rw [B2, L2, K2.y]; exact p2)
    refine ⟨placeAt s found, s3, v3, rfl, I3, ⟨K3.y.trans K2.y, K3.o.trans K2.o, K3.pc.trans K2.pc, K3.la.trans K2.la, K3.nx.trans K2.nx, K3.ln.trans K2.ln⟩, g1, by rw [g2]; exact n2, ?_⟩
    have B3 : beginOf s3 s3.use = beginOf s2 s2.use := by unfold beginOf; rw [u3, K3.y, K3.o]
    have L3 : lim s3 = lim s2 := K3.lim u3
    rw [B3, L3, B2, L2, K3.y, K2.y]; exact p2
  · rw [if_neg c]
    dsimp only
    exact ⟨placeAt s found, s2, _, rfl, I2, K2, by simp, n2, by rw [B2, L2, K2.y]; exact p2⟩
end Gc
set_option maxRecDepth 100000
set_option maxHeartbeats 2000000
/-! A word is written; handles are given, and let go of. -/
namespace Gc
open Hm
theorem wg_upd {G : Gr} (h : WG G) {n : Int} {p : Nat} {x : Wo} (hx : (G n).1 = 0 → ∀ m, x ≠ .thing m) : WG (updG G n p x) := by
  intro m i k h0
  unfold updG at h0 ⊢
  by_cases c : m = n
  · subst c
    rw [if_pos rfl] at h0 ⊢
    intro e
    simp only at e h0
    by_cases d : i = p
    · subst d
      by_cases l : i < (G m).2.length
      · have : ((G m).2.set i x).getD i (.word 0) = x := by simp [List.getD, l]
        rw [this] at e; exact hx h0 _ e
      · have : ((G m).2.set i x).getD i (.word 0) = .word 0 := by simp [List.getD, l]
        rw [this] at e; cases e
    · have : ((G m).2.set p x).getD i (.word 0) = (G m).2.getD i (.word 0) := by simp [List.getD, List.getElem?_set_ne (fun h => d h.symm)]
      rw [this] at e; exact h m i k h0 e
  · rw [if_neg c] at h0 ⊢; exact h m i k h0
/-- what may be reached by a handle -/
def Okw (s : Bd) (w : Int) : Prop := isT w = true → w / 8 < s.young ∨ (beginOf s s.use ≤ w / 8 ∧ w / 8 < lim s)
theorem Inv.bwrite {G hs vs} {s : Bd} (I : Inv G hs vs s) {a k : Int} (hq : (a, k) ∈ vs) (ha : a < s.young ∨ (beginOf s s.use ≤ a ∧ a < lim s)) {p : Nat} (hp : (p : Int) < k)
    {v : Int} {x : Wo} (hv : Wor s.words vs v x) (hpt : Okw s v) (ht : rd s.words a % 8 = 0 → ∀ n, x ≠ .thing n) (sm : s.words.length ≤ 400000) :
    ∃ s', Hm.bwrite s a p v = some s' ∧ Inv (updG G (rd s.words (a + 1)) p x) hs vs s' ∧ Keep s s' := by
  have C := I.co
  obtain ⟨z0, z1, z2, z3, z4⟩ := C.b0
  obtain ⟨su, sy, so, sl⟩ := I.sh
  have hv' := halves su
  have ll : lim s = beginOf s s.use + s.old := rfl
  have h0 : 0 ≤ rd s.words a := by
    rcases ha with h | h
    · exact I.ny _ hq h
    · exact C.nu _ hq h.1 h.2
  have bq := C.bd _ hq
  simp only at bq
  obtain ⟨w, e, C', l, hdw, num, slt, at'⟩ := C.put hq h0 hp hv
  simp only at e slt at' C'
  have wg' : WG (updG G (rd s.words (a + 1)) p x) := wg_upd I.wg fun h => ht (by rw [← (C.th _ hq h0).1]; exact h)
  have slt' : ∀ q ∈ vs, ∀ i, 0 ≤ i → i < q.2 → (q = (a, k) ∧ i = p ∧ rd w (q.1 + 2 + i) = v) ∨ (q.1 + 2 + i ≠ a + 2 + p ∧ rd w (q.1 + 2 + i) = rd s.words (q.1 + 2 + i)) := by
    intro q hq' i i0 i1
    by_cases d : q.1 + 2 + i = a + 2 + p
    · left
      have := C.apart hq' hq i0 i1 (by omega) hp d
      subst this
      exact ⟨rfl, by simp only at d; omega, by rw [d]; exact at'⟩
    · exact .inr ⟨d, slt q hq' i i0 i1 d⟩
  have main : ∀ rm : List Int, rm.Nodup → (∀ y ∈ s.rem, y ∈ rm) → (∀ y ∈ rm, y ∈ s.rem ∨ (y = a + 2 + p ∧ s.young ≤ a)) → (s.young ≤ a → isT v = true → v / 8 < s.young → a + 2 + p ∈ rm) →
      Inv (updG G (rd s.words (a + 1)) p x) hs vs { s with words := w, rem := rm } := by
    intro rm n1 a1 b1 c1
    refine ⟨⟨C'.cong rfl rfl rfl rfl rfl, wg', ?_, ?_, I.tp, I.rg, ?_, ?_, ?_, ?_, I.ro, n1, ?_, I.ly, I.lf, ?_, I.su, I.sn, I.fl, ?_⟩, I.sf⟩
    · exact rt_ext I.rt (fun q hq => hq) num
    · show (s.use = 0 ∨ s.use = 1) ∧ 0 ≤ s.young ∧ 0 ≤ s.old ∧ (w.length : Int) = s.young + 2 * s.old
      rw [l]; exact ⟨su, sy, so, sl⟩
    · intro q hq' hy
      simp only [hdw q hq']; exact I.ny q hq' hy
    · intro q hq' hy i i0 i1 ht'
      rcases slt' q hq' i i0 i1 with ⟨-, -, g⟩ | ⟨-, g⟩
      · simp only [g] at ht' ⊢; exact hpt ht'
      · simp only [g] at ht' ⊢; exact I.pn q hq' hy i i0 i1 ht'
    · intro q hq' v1 v2 i i0 i1 ht'
      have v1' : beginOf s s.use ≤ q.1 := v1
      rcases slt' q hq' i i0 i1 with ⟨g1, g2, g⟩ | ⟨-, g⟩
      · subst g1; subst g2
        simp only [g] at ht' ⊢
        rcases hpt ht' with h | h
        · exact .inl ⟨h, c1 (by simp only at v1'; omega) ht' h⟩
        · exact .inr (.inl h)
      · simp only [g] at ht' ⊢
        rcases I.pu q hq' v1 v2 i i0 i1 ht' with h | h | h
        · exact .inl ⟨h.1, a1 _ h.2⟩
        · exact .inr (.inl h)
        · exact .inr (.inr h)
    · intro q hq' v1 v2 hh i i0 i1 ht'
      have v1' : ot s ≤ q.1 := v1
      have v2' : q.1 < ot s + s.old := v2
      rcases slt' q hq' i i0 i1 with ⟨g1, g2, g⟩ | ⟨-, g⟩
      · subst g1
        simp only at v1' v2'; omega
      · simp only [g, hdw q hq'] at ht' hh ⊢
        exact I.pl q hq' v1 v2 hh i i0 i1 ht'
    · intro y hy
      rcases b1 y hy with h | ⟨rfl, h⟩
      · exact I.rs y h
      · refine ⟨(a, k), hq, ?_, ?_, p, hp, rfl⟩
        · show beginOf s s.use ≤ a; omega
        · show a < lim s; omega
    · show sumBy (fun p => if ot s ≤ p.1 ∧ p.1 < ot s + s.old ∧ 0 ≤ rd w p.1 then p.2 + 2 else 0) _ ≤ s.left - s.copied
      rw [sum_same (g := fun p => if ot s ≤ p.1 ∧ p.1 < ot s + s.old ∧ 0 ≤ rd s.words p.1 then p.2 + 2 else 0) fun p hp => by rw [hdw p hp]]
      exact I.cp
    · intro q hq'
      simp only [num q hq']; exact I.nb q hq'
  have rl := I.rem_len
  unfold Hm.bwrite
  rw [e]; dsimp only
  by_cases c : s.young ≤ a
  · rw [if_pos c]
    obtain ⟨s1, e1, q1, n1, l1, a1, b1, c1⟩ := Hm_rem (s := { s with words := w }) (p := a + 2 + (p : Int)) (w := v) (by show s.rem.length < _; omega) I.rn
    refine ⟨s1, e1, ?_, ?_⟩
    · rw [q1]
      exact main s1.rem n1 a1 (fun y hy => by rcases b1 y hy with h | h; exact .inl h; exact .inr ⟨h, c⟩) fun _ h1 h2 => c1 h1 h2
    · rw [q1]; exact ⟨rfl, rfl, rfl, rfl, rfl, l⟩
  · rw [if_neg c]
    exact ⟨_, rfl, main s.rem I.rn (fun _ h => h) (fun _ h => .inl h) (fun h => absurd h c), ⟨rfl, rfl, rfl, rfl, rfl, l⟩⟩
/-! ### handles -/
theorem rt_cons {ws vs r rows x hs} : Rt ws vs (r :: rows) (x :: hs) ↔ r.1 = x.1 ∧ Wor ws vs r.2 x.2 ∧ Rt ws vs rows hs := by
  constructor
  · rintro ⟨l, h⟩
    obtain ⟨y, ey, W⟩ := h 0 r.1 r.2 rfl
    simp only [List.getElem?_cons_zero, Option.some.injEq] at ey
    refine ⟨by rw [ey], by rw [ey]; exact W, by simpa using l, fun k a w e => ?_⟩
    simpa using h (k + 1) a w (by simpa using e)
  · rintro ⟨h1, h2, l, h⟩
    refine ⟨by simp [l], fun k a w e => ?_⟩
    cases k with
    | zero =>
      simp only [List.getElem?_cons_zero, Option.some.injEq] at e
      subst e
      exact ⟨x.2, by simp only at h1; simp [h1], h2⟩
    | succ k => simpa using h k a w (by simpa using e)
theorem rt_nil {ws vs} : Rt ws vs [] [] := ⟨rfl, fun k a w e => by simp at e⟩
theorem rt_app {ws vs} : ∀ {rows hs r h}, Rt ws vs rows hs → Rt ws vs r h → Rt ws vs (rows ++ r) (hs ++ h)
  | [], [], r, h, _, b => b
  | [], x :: hs, r, h, a, _ => by have := a.1; simp at this
  | x :: rows, [], r, h, a, _ => by have := a.1; simp at this
  | r0 :: rows, x :: hs, r, h, a, b => by
    obtain ⟨h1, h2, h3⟩ := rt_cons.1 a
    exact rt_cons.2 ⟨h1, h2, rt_app h3 b⟩
def dropW (l : List (Int × Wo)) (h : Int) : List (Int × Wo) := l.filter fun q => !decide (q.1 = h)
theorem rt_drop {ws vs} {h : Int} : ∀ {rows hs}, Rt ws vs rows hs → Rt ws vs (dropH rows h) (dropW hs h)
  | [], [], _ => rt_nil
  | [], x :: hs, a => by have := a.1; simp at this
  | x :: rows, [], a => by have := a.1; simp at this
  | r :: rows, x :: hs, a => by
    obtain ⟨h1, h2, h3⟩ := rt_cons.1 a
    have ih := rt_drop (h := h) h3
    unfold dropH dropW at ih ⊢
    rw [List.filter_cons, List.filter_cons, h1]
    split
    · exact rt_cons.2 ⟨h1, h2, ih⟩
    · exact ih
def lookW : List (Int × Wo) → Int → Option Wo
  | [], _ => none
  | (k, x) :: r, h => if k = h then some x else lookW r h
theorem rt_look {ws vs} {h : Int} : ∀ {rows hs}, Rt ws vs rows hs → (Hm.look rows h = none ∧ lookW hs h = none) ∨ (∃ w x, Hm.look rows h = some w ∧ lookW hs h = some x ∧ Wor ws vs w x ∧ (h, w) ∈ rows)
  | [], [], _ => .inl ⟨rfl, rfl⟩
  | [], x :: hs, a => by have := a.1; simp at this
  | x :: rows, [], a => by have := a.1; simp at this
  | (k, w) :: rows, (k', x) :: hs, a => by
    obtain ⟨h1, h2, h3⟩ := rt_cons.1 a
    simp only at h1; subst h1
    unfold Hm.look lookW
    by_cases c : k = h
    · rw [if_pos c, if_pos c]; subst c; exact .inr ⟨w, x, rfl, rfl, h2, by simp⟩
    · rw [if_neg c, if_neg c]
      rcases rt_look (h := h) h3 with g | ⟨w', x', g1, g2, g3, g4⟩
      · exact .inl g
      · exact .inr ⟨w', x', g1, g2, g3, by simp [g4]⟩
theorem Inv.ok {G hs vs} {s : Bd} (I : Inv G hs vs s) {h w : Int} (m : (h, w) ∈ s.rows) : Okw s w := fun ht => by
  obtain ⟨k, hk, e⟩ := List.mem_iff_getElem.1 m
  exact I.ro k h w (by rw [List.getElem?_eq_getElem hk, e]) ht
theorem Inv.rows {G hs vs} {s : Bd} (I : Inv G hs vs s) {r : List (Int × Int)} {hs' : List (Int × Wo)} (n : Int) (T : Rt s.words vs r hs') (ok : ∀ q ∈ r, Okw s q.2) :
    Inv G hs' vs { s with rows := r, next := n } :=
  ⟨⟨I.co.cong rfl rfl rfl rfl rfl, I.wg, T, I.sh, I.tp, I.rg, I.ny, I.pn, I.pu, I.pl, fun k h w e ht => ok _ (List.mem_of_getElem? e) ht, I.rn, I.rs, I.ly, I.lf, I.cp, I.su, I.sn, I.fl, I.nb⟩, I.sf⟩
theorem Inv.give {G hs vs} {s : Bd} (I : Inv G hs vs s) {w : Int} {x : Wo} (hv : Wor s.words vs w x) (hpt : Okw s w) (hn : lookW hs s.next = none) (hl : s.rows.length < 100000) :
    ∃ s', Hm.give s w = some (s.next, s') ∧ Inv G (hs ++ [(s.next, x)]) vs s' ∧ s'.next = s.next + 1 ∧ s'.young = s.young ∧ s'.old = s.old ∧ s'.pace = s.pace ∧ s'.last = s.last ∧
      s'.words.length = s.words.length := by
  have hno : Hm.look s.rows s.next = none := by
    rcases rt_look (h := s.next) I.rt with g | ⟨w', x', g1, g2, g3, g4⟩
    · exact g.1
    · rw [hn] at g2; cases g2
  unfold Hm.give
  rw [hno, if_neg (by simp; omega)]
  refine ⟨_, rfl, I.rows _ (rt_app I.rt (rt_cons.2 ⟨rfl, hv, rt_nil⟩)) fun q hq => ?_, rfl, rfl, rfl, rfl, rfl, rfl⟩
  rcases List.mem_append.1 hq with g | g
  · exact I.ok g
  · rw [List.mem_singleton] at g; subst g; exact hpt
theorem Inv.drop {G hs vs} {s : Bd} (I : Inv G hs vs s) {h : Int} (hh : (lookW hs h).isSome = true) : ∃ s', Hm.drop s h = some s' ∧ Inv G (dropW hs h) vs s' ∧ Keep s s' := by
  rcases rt_look (h := h) I.rt with g | ⟨w', x', g1, g2, g3, g4⟩
  · rw [g.2] at hh; cases hh
  · unfold Hm.drop
    rw [g1]
    exact ⟨_, rfl, I.rows s.next (rt_drop I.rt) fun q hq => I.ok (List.mem_filter.1 hq).1, ⟨rfl, rfl, rfl, rfl, rfl, rfl⟩⟩
end Gc
set_option maxRecDepth 100000
set_option maxHeartbeats 2000000
/-! The room that living things take. -/
namespace Gc
open Hm
theorem sum_erase {g : Int × Int → Int} {p : Int × Int} : ∀ {l : List (Int × Int)}, p ∈ l → sumBy g l = g p + sumBy g (l.erase p)
  | q :: r, h => by
    by_cases c : q = p
    · subst c; rw [List.erase_cons_head]; rfl
    · rw [List.erase_cons_tail (by simpa using c), sumBy, sumBy]
      have := sum_erase (g := g) (l := r) (p := p) (by rcases List.mem_cons.1 h with e | e; exact absurd e.symm c; exact e)
      omega
theorem sum_sub {g : Int × Int → Int} : ∀ {o l : List (Int × Int)}, o.Nodup → (∀ p ∈ o, p ∈ l) → (∀ p ∈ l, 0 ≤ g p) → sumBy g o ≤ sumBy g l
  | [], l, _, _, h => sum_nonneg h
  | p :: o, l, hn, hs, h => by
    rw [List.nodup_cons] at hn
    rw [sumBy, sum_erase (hs p (by simp))]
    have := sum_sub (g := g) (o := o) (l := l.erase p) hn.2 (fun q hq => (List.mem_erase_of_ne (by rintro rfl; exact hn.1 hq)).2 (hs q (by simp [hq]))) fun q hq => h q (List.mem_of_mem_erase hq)
    omega
/-- a thing that lives lies somewhere -/
theorem Inv.lies {G hs vs} {s : Bd} (I : Inv G hs vs s) {n : Int} (h : Liv G hs n) : ∃ p ∈ vs, 0 ≤ rd s.words p.1 ∧ rd s.words (p.1 + 1) = n := by
  induction h with
  | @root j h m e =>
    have hl : j < s.rows.length := by rw [I.rt.1]; exact (List.getElem?_eq_some_iff.1 e).1
    obtain ⟨⟨h', w⟩, e'⟩ : ∃ r, s.rows[j]? = some r := ⟨_, List.getElem?_eq_getElem hl⟩
    obtain ⟨x, ex, W⟩ := I.rt.2 j h' w e'
    rw [e] at ex; cases ex
    have ht : isT w = true := by
      unfold Wor at W; split at W
      · assumption
      · cases W
    obtain ⟨k, hk, em⟩ := wor_num W
    refine ⟨_, hk, ?_, em.symm⟩
    rcases I.ro j h w e' ht with g | g
    · exact I.ny _ hk g
    · exact I.co.nu _ hk g.1 g.2
  | @step n m i l e ih =>
    obtain ⟨p, hp, h0, hn⟩ := ih
    obtain ⟨t1, t2, t3⟩ := I.co.th p hp h0
    rw [hn] at t2 t3
    have hi : (i : Int) < p.2 := by
      by_cases c : i < (G n).2.length
      · omega
      · have : (G n).2.getD i (.word 0) = .word 0 := by simp [List.getD, c]
        rw [this] at e; cases e
    have W := t3 i hi
    rw [e] at W
    obtain ⟨k, hk, em⟩ := wor_num W
    rcases I.co.hd _ hk with h | ⟨b, g1, g2, g3, g4, g5, g6⟩
    · exact ⟨_, hk, h.1, em.symm⟩
    · exact ⟨_, g2, g3, by simp only at g6 ⊢; rw [g6]; exact em.symm⟩
def szG (G : Gr) (n : Int) : Int := (G n).2.length + 2
def sumN (f : Int → Int) : List Int → Int
  | [] => 0
  | n :: r => f n + sumN f r
theorem Inv.pick {G hs vs} {s : Bd} (I : Inv G hs vs s) : ∀ ns : List Int, ns.Nodup → (∀ n ∈ ns, Liv G hs n) → ∃ o : List (Int × Int), o.Nodup ∧ (∀ p ∈ o, p ∈ vs ∧ 0 ≤ rd s.words p.1 ∧ rd s.words (p.1 + 1) ∈ ns) ∧
    sumBy (fun p => p.2 + 2) o = sumN (szG G) ns ∧ ∀ n ∈ ns, ∃ p ∈ o, rd s.words (p.1 + 1) = n
  | [], _, _ => ⟨[], by simp, by simp, rfl, by simp⟩
  | n :: ns, hn, hl => by
    rw [List.nodup_cons] at hn
    obtain ⟨o, n1, m1, s1, w1⟩ := I.pick ns hn.2 fun m hm => hl m (by simp [hm])
    obtain ⟨p, hp, h0, e⟩ := I.lies (hl n (by simp))
    refine ⟨p :: o, List.nodup_cons.2 ⟨fun h => hn.1 ?_, n1⟩, fun q hq => ?_, ?_, fun m hm => ?_⟩
    · have := (m1 p h).2.2; rw [e] at this; exact this
    · rcases List.mem_cons.1 hq with g | g
      · subst g; exact ⟨hp, h0, by simp [e]⟩
      · have := m1 q g; exact ⟨this.1, this.2.1, List.mem_cons_of_mem _ this.2.2⟩
    · rw [sumBy, sumN, s1]
      have := (I.co.th p hp h0).2.1
      rw [e] at this
      unfold szG; omega
    · rcases List.mem_cons.1 hm with g | g
      · subst g; exact ⟨p, by simp, e⟩
      · obtain ⟨q, hq, e'⟩ := w1 m g; exact ⟨q, by simp [hq], e'⟩
/-- what lives takes no more than what is filled -/
theorem Inv.fits {G hs vs} {s : Bd} (I : Inv G hs vs s) {ns : List Int} (hn : ns.Nodup) (hl : ∀ n ∈ ns, Liv G hs n) : sumN (szG G) ns ≤ filledW s := by
  obtain ⟨o, n1, m1, s1, -⟩ := I.pick ns hn hl
  rw [← s1]
  obtain ⟨su, sy, so, sl⟩ := I.sh
  have hv := halves su
  have ll : lim s = beginOf s s.use + s.old := rfl
  have e : sumBy (fun p => p.2 + 2) o = sumBy (fun p => if 0 ≤ rd s.words p.1 then p.2 + 2 else 0) o := (sum_same fun p hp => by rw [if_pos (m1 p hp).2.1]).symm
  rw [e]
  refine Int.le_trans (sum_sub n1 (fun p hp => (m1 p hp).1) fun p hp => by have := I.co.bd p hp; split <;> omega) ?_
  refine Int.le_trans (sum_le (g' := fun p => ((if p.1 < s.young then p.2 + 2 else 0) + (if beginOf s s.use ≤ p.1 ∧ p.1 < lim s then p.2 + 2 else 0)) +
    (if ot s ≤ p.1 ∧ p.1 < ot s + s.old ∧ 0 ≤ rd s.words p.1 then p.2 + 2 else 0)) fun p hp => ?_) ?_
  · have b := I.co.bd p hp
    have r := I.rg p hp
    have t := I.tp
    have f := I.lf
    have z := I.co.b0
    by_cases c0 : 0 ≤ rd s.words p.1
    · rw [if_pos c0]
      by_cases c1 : p.1 < s.young
      · rw [if_pos c1]; split <;> split <;> omega
      · rw [if_neg c1]
        by_cases c2 : beginOf s s.use ≤ p.1 ∧ p.1 < lim s
        · rw [if_pos c2]; split <;> omega
        · rw [if_neg c2, if_pos ⟨by omega, by omega, c0⟩]; omega
    · rw [if_neg c0]; split <;> split <;> split <;> omega
  · rw [sum_add, sum_add]
    have := I.sn; have := I.su; have := I.cp; have := filledW_eq s
    omega
/-- where all that lies lives, it takes what is filled -/
theorem Inv.just {G hs vs} {s : Bd} (I : Inv G hs vs s) (hf : filledW s = sumBy (fun p => p.2 + 2) vs) (ha : ∀ p ∈ vs, Liv G hs (rd s.words (p.1 + 1)) ∧ 0 ≤ rd s.words p.1) {ns : List Int}
    (hn : ns.Nodup) (hl : ∀ n, n ∈ ns ↔ Liv G hs n) : sumN (szG G) ns = filledW s := by
  obtain ⟨o, n1, m1, s1, w1⟩ := I.pick ns hn fun n h => (hl n).1 h
  have le := I.fits hn fun n h => (hl n).1 h
  have ge : sumBy (fun p => p.2 + 2) vs ≤ sumN (szG G) ns := by
    rw [← s1]
    have all : ∀ p ∈ vs, p ∈ o := by
      intro p hp
      obtain ⟨q, hq, e⟩ := w1 _ ((hl _).2 (ha p hp).1)
      have := I.co.un q (m1 q hq).1 p hp (m1 q hq).2.1 (ha p hp).2 e
      subst this; exact hq
    exact sum_sub (I.co.nd) all fun p hp => by have := I.co.bd p (m1 p hp).1; omega
  omega
end Gc
set_option maxRecDepth 100000
set_option maxHeartbeats 2000000
/-! What is come to. -/
namespace Gc
open Hm
def Kid (tie : Bool) (G : Gr) (n m : Int) : Prop := (tie = true ∨ (G n).1 ≠ 5) ∧ ∃ i : Nat, (G n).2.getD i (.word 0) = .thing m
inductive LivT (tie : Bool) (G : Gr) (hs : List (Int × Wo)) : Int → Prop
  | root {j : Nat} {h m : Int} (e : hs[j]? = some (h, .thing m)) : LivT tie G hs m
  | step {n m : Int} (l : LivT tie G hs n) (e : Kid tie G n m) : LivT tie G hs m
theorem livT {G hs n} : LivT true G hs n ↔ Liv G hs n := by
  constructor
  · intro h
    induction h with
    | root e => exact .root e
    | step l e ih => obtain ⟨-, i, e⟩ := e; exact .step ih e
  · intro h
    induction h with
    | root e => exact .root e
    | step l e ih => exact .step ih ⟨.inl rfl, _, e⟩
def At (vs : List (Int × Int)) (s : Bd) (a n : Int) : Prop := ∃ k, (a, k) ∈ vs ∧ 0 ≤ rd s.words a ∧ rd s.words (a + 1) = n
theorem Co.settled {G vs} {s : Bd} (C : Co G vs s) {a : Int} (h : Val vs a) : ∃ b, Hm.settled s a = some b ∧ At vs s b (rd s.words (a + 1)) := by
  obtain ⟨k, hk⟩ := h
  have b := C.bd _ hk
  simp only at b
  unfold Hm.settled
  rw [gI_rd b.1 (by omega)]
  dsimp only
  rcases C.hd _ hk with g | ⟨c, g1, g2, g3, g4, g5, g6⟩
  · exact ⟨a, by rw [if_pos g.1], k, hk, g.1, rfl⟩
  · have := C.bd _ g2
    simp only at this g1
    refine ⟨c, by rw [if_neg (by omega), g1]; congr 1; omega, k, g2, g3, g6⟩
theorem Co.addrs {G vs} {s : Bd} (C : Co G vs s) : ∀ ws : List Int, (∀ w ∈ ws, isT w = true → Val vs (w / 8)) → ∃ more, Hm.addrs s ws = some more ∧ more.length ≤ ws.length ∧
    (∀ b ∈ more, ∃ w ∈ ws, isT w = true ∧ At vs s b (rd s.words (w / 8 + 1))) ∧ (∀ w ∈ ws, isT w = true → ∃ b ∈ more, rd s.words (b + 1) = rd s.words (w / 8 + 1))
  | [], _ => ⟨[], rfl, by simp, by simp, by simp⟩
  | w :: r, h => by
    obtain ⟨more, e, l, m1, m2⟩ := C.addrs r fun x hx => h x (by simp [hx])
    unfold Hm.addrs
    by_cases c : isT w = true
    · obtain ⟨b, e2, A⟩ := C.settled (h w (by simp) c)
      rw [if_pos c, e2, e]
      refine ⟨b :: more, rfl, by simp; omega, fun x hx => ?_, fun x hx ht => ?_⟩
      · rcases List.mem_cons.1 hx with g | g
        · subst g; exact ⟨w, by simp, c, A⟩
        · obtain ⟨y, hy, r'⟩ := m1 x g; exact ⟨y, by simp [hy], r'⟩
      · rcases List.mem_cons.1 hx with g | g
        · subst g; obtain ⟨k, -, -, e3⟩ := A; exact ⟨b, by simp, e3⟩
        · obtain ⟨y, hy, r'⟩ := m2 x g ht; exact ⟨y, by simp [hy], r'⟩
    · rw [if_neg c]
      refine ⟨more, e, by simp; omega, fun x hx => ?_, fun x hx ht => ?_⟩
      · obtain ⟨y, hy, r'⟩ := m1 x hx; exact ⟨y, by simp [hy], r'⟩
      · rcases List.mem_cons.1 hx with g | g
        · subst g; exact absurd ht c
        · exact m2 x g ht
theorem look_none {l : List (Int × Int)} {n : Int} : (Hm.look l n).isSome = true ↔ n ∈ l.map Prod.fst := by
  induction l with
  | nil => simp [Hm.look]
  | cons p r ih =>
    obtain ⟨k, w⟩ := p
    unfold Hm.look
    by_cases c : k = n
    · rw [if_pos c]; simp [c]
    · rw [if_neg c, ih]; simp [Ne.symm c]
def lack (s : Bd) (vs found : List (Int × Int)) : Int := sumBy (fun p => if 0 ≤ rd s.words p.1 ∧ rd s.words (p.1 + 1) ∉ found.map Prod.fst then p.2 + 2 else 0) vs
theorem Co.comeGo {G vs} {s : Bd} (C : Co G vs s) (tie : Bool) {L : Int → Prop} (hL : ∀ n m, L n → Kid tie G n m → L m) (wg : WG G) : ∀ (f : Nat) (waiting : List Int) (found : List (Int × Int)),
    (∀ a ∈ waiting, ∃ n, At vs s a n ∧ L n) → (found.map Prod.fst).Nodup → (∀ q ∈ found, At vs s q.2 q.1 ∧ L q.1) →
    (∀ n m, n ∈ found.map Prod.fst → Kid tie G n m → m ∈ found.map Prod.fst ∨ ∃ a ∈ waiting, rd s.words (a + 1) = m) →
    (waiting.length : Int) + lack s vs found < f → (waiting.length : Int) + found.length + lack s vs found < 1000000 →
    ∃ fd, Hm.comeGo tie s f waiting found = some fd ∧ (fd.map Prod.fst).Nodup ∧ (∀ q ∈ fd, At vs s q.2 q.1 ∧ L q.1) ∧ (∀ n m, n ∈ fd.map Prod.fst → Kid tie G n m → m ∈ fd.map Prod.fst) ∧
      (∀ n, n ∈ found.map Prod.fst → n ∈ fd.map Prod.fst) ∧ (∀ a ∈ waiting, rd s.words (a + 1) ∈ fd.map Prod.fst)
  | 0, w, found, _, _, _, _, hf, _ => by
    have : 0 ≤ lack s vs found := sum_nonneg fun p hp => by have := C.bd p hp; split <;> omega
    omega
  | f + 1, [], found, _, nd, hq, hc, _, _ => by
    refine ⟨found, by unfold Hm.comeGo; rfl, nd, hq, fun n m hn hk => ?_, fun _ h => h, fun a ha => by cases ha⟩
    rcases hc n m hn hk with h | ⟨a, ha, -⟩
    · exact h
    · cases ha
  | f + 1, a :: r, found, hw, nd, hq, hc, hf, hb => by
    have l0 : 0 ≤ lack s vs found := sum_nonneg fun p hp => by have := C.bd p hp; split <;> omega
    obtain ⟨n, ⟨k, hk, h0, hn⟩, Ln⟩ := hw a (by simp)
    have b := C.bd _ hk
    simp only at b
    simp only [List.length_cons] at hf hb
    unfold Hm.comeGo
    rw [gI_rd (by omega) (by omega), hn]
    dsimp only
    by_cases c : n ∈ found.map Prod.fst
    · rw [if_pos (look_none.2 c)]
      obtain ⟨fd, e, n1, q1, c1, i1, w1⟩ := C.comeGo tie hL wg f r found (fun x hx => hw x (by simp [hx])) nd hq (fun n' m hn' hk' => by
        rcases hc n' m hn' hk' with h | ⟨x, hx, e⟩
        · exact .inl h
        · rcases List.mem_cons.1 hx with g | g
          · subst g; rw [hn] at e; subst e; exact .inl c
          · exact .inr ⟨x, g, e⟩) (by omega) (by omega)
      refine ⟨fd, e, n1, q1, c1, i1, fun x hx => ?_⟩
      rcases List.mem_cons.1 hx with g | g
      · subst g; rw [hn]; exact i1 _ c
      · exact w1 x g
    · rw [if_neg (fun h => c (look_none.1 h)), gI_rd b.1 (by omega)]
      dsimp only
      have hd : rd s.words a / 8 = k ∧ rd s.words a % 8 ≤ 5 := by
        rcases C.hd _ hk with g | ⟨x, g1, g2, g3, -⟩
        · exact ⟨g.2.1, g.2.2⟩
        · have := C.bd _ g2; simp only at this g1; omega
      rw [if_pos ⟨hd.2, by omega⟩]
      have nd' : ((found ++ [(n, a)]).map Prod.fst).Nodup := by
        rw [List.map_append, List.nodup_append]
        refine ⟨nd, by simp, ?_⟩
        rintro x hx y hy rfl
        simp only [List.map_cons, List.map_nil, List.mem_singleton] at hy
        subst hy; exact c hx
      have q' : ∀ q ∈ found ++ [(n, a)], At vs s q.2 q.1 ∧ L q.1 := fun q hq' => by
        rcases List.mem_append.1 hq' with g | g
        · exact hq q g
        · rw [List.mem_singleton] at g; subst g; exact ⟨⟨k, hk, h0, hn⟩, Ln⟩
      have lk : lack s vs (found ++ [(n, a)]) = lack s vs found - (k + 2) := by
        unfold lack
        rw [sum_upd (x := (a, k)) (g := fun p => if 0 ≤ rd s.words p.1 ∧ rd s.words (p.1 + 1) ∉ found.map Prod.fst then p.2 + 2 else 0) C.nd hk]
        · rw [if_pos ⟨h0, by rw [hn]; exact c⟩, if_neg (by simp [hn])]; simp
        · intro p hp ne
          by_cases c0 : 0 ≤ rd s.words p.1
          · have : rd s.words (p.1 + 1) ≠ n := fun e => ne (C.un p hp _ hk c0 h0 (by rw [e]; exact hn.symm))
            simp only [List.map_append, List.mem_append, List.map_cons, List.map_nil, List.mem_singleton, this, or_false]
          · exact (if_neg fun h => c0 h.1).trans (if_neg fun h => c0 h.1).symm
      have l1 : 0 ≤ lack s vs (found ++ [(n, a)]) := sum_nonneg fun p hp => by have := C.bd p hp; split <;> omega
      have up : ∀ x, x ∈ found.map Prod.fst → x ∈ (found ++ [(n, a)]).map Prod.fst := fun x h => by rw [List.map_append]; exact List.mem_append_left _ h
      have nin : n ∈ (found ++ [(n, a)]).map Prod.fst := by simp
      obtain ⟨t1, t2, t3⟩ := C.th _ hk h0
      simp only [hn] at t1 t2 t3
      by_cases d : (rd s.words a % 8 != 0 && (tie || rd s.words a % 8 != 5)) = true
      · rw [if_pos d, hd.1]
        obtain ⟨part, e1, l1, r1⟩ := gS_rd (ws := s.words) (a := a + 2) (b := a + 2 + k) (by omega) (by omega) (by omega)
        rw [e1]
        dsimp only
        have mem : ∀ w ∈ part, ∃ i : Nat, (i : Int) < k ∧ w = rd s.words (a + 2 + i) := by
          intro w hw'
          obtain ⟨i, hi, e⟩ := List.mem_iff_getElem.1 hw'
          refine ⟨i, by omega, ?_⟩
          have := r1 i (by omega) (by omega)
          rw [← this, ← e]; simp [rd, List.getD, hi]
        have mem' : ∀ i : Nat, (i : Int) < k → rd s.words (a + 2 + i) ∈ part := by
          intro i hi
          have := r1 i (by omega) (by omega)
          rw [← this]
          have hl : i < part.length := by omega
          have : rd part i = part[i] := by simp [rd, List.getD, hl]
          rw [this]; exact List.getElem_mem hl
        obtain ⟨more, e2, l2, m1, m2⟩ := C.addrs part (fun w hw' ht => by
          obtain ⟨i, hi, rfl⟩ := mem w hw'
          exact (C.slotV hk h0 (by omega) hi ht).1)
        rw [e2]
        dsimp only
        rw [if_pos (by omega)]
        have tk : tie = true ∨ (G n).1 ≠ 5 := by
          rw [t1]
          simp only [Bool.and_eq_true, Bool.or_eq_true, bne_iff_ne, ne_eq] at d
          exact d.2
        obtain ⟨fd, e, n1, q1, c1, i1, w1⟩ := C.comeGo tie hL wg f (more.reverse ++ r) (found ++ [(n, a)]) (fun x hx => by
          rcases List.mem_append.1 hx with g | g
          · obtain ⟨w, hw', ht, A⟩ := m1 x (List.mem_reverse.1 g)
            refine ⟨_, A, ?_⟩
            obtain ⟨i, hi, rfl⟩ := mem w hw'
            have sv := (C.slotV hk h0 (i := (i : Int)) (by omega) hi ht).2
            simp only [hn] at sv
            exact hL n _ Ln ⟨tk, _, sv⟩
          · exact hw x (by simp [g])) nd' q' (fun n' m hn' hk' => by
          rw [List.map_append, List.mem_append] at hn'
          rcases hn' with g | g
          · rcases hc n' m g hk' with h | ⟨x, hx, e⟩
            · exact .inl (up _ h)
            · rcases List.mem_cons.1 hx with g' | g'
              · subst g'; rw [hn] at e; subst e; exact .inl nin
              · exact .inr ⟨x, by simp [g'], e⟩
          · simp only [List.map_cons, List.map_nil, List.mem_singleton] at g
            subst g
            obtain ⟨-, i, ei⟩ := hk'
            have hi : (i : Int) < k := by
              by_cases c : i < (G n').2.length
              · omega
              · have : (G n').2.getD i (.word 0) = .word 0 := by simp [List.getD, c]
                rw [this] at ei; cases ei
            have W := t3 i hi
            rw [ei] at W
            have ht : isT (rd s.words (a + 2 + i)) = true := by
              unfold Wor at W; split at W
              · assumption
              · cases W
            obtain ⟨kk, hkk, em⟩ := wor_num W
            obtain ⟨x, hx, e⟩ := m2 _ (mem' i hi) ht
            exact .inr ⟨x, by simp [hx], by rw [e, em]⟩) (by rw [lk]; simp only [List.length_append, List.length_reverse]; omega)
          (by rw [lk]; simp only [List.length_append, List.length_reverse, List.length_cons, List.length_nil]; omega)
        refine ⟨fd, e, n1, q1, c1, fun x hx => i1 x (up x hx), fun x hx => ?_⟩
        rcases List.mem_cons.1 hx with g | g
        · subst g; rw [hn]; exact i1 _ nin
        · exact w1 x (by simp [g])
      · rw [if_neg d]
        have noKid : ∀ m, ¬ Kid tie G n m := by
          rintro m ⟨tk, i, ei⟩
          simp only [Bool.and_eq_true, Bool.or_eq_true, bne_iff_ne, ne_eq] at d
          rw [t1] at tk
          by_cases z : rd s.words a % 8 = 0
          · exact wg n i m (by rw [t1]; exact z) ei
          · exact d ⟨z, tk⟩
        obtain ⟨fd, e, n1, q1, c1, i1, w1⟩ := C.comeGo tie hL wg f r (found ++ [(n, a)]) (fun x hx => hw x (by simp [hx])) nd' q' (fun n' m hn' hk' => by
          rw [List.map_append, List.mem_append] at hn'
          rcases hn' with g | g
          · rcases hc n' m g hk' with h | ⟨x, hx, e⟩
            · exact .inl (up _ h)
            · rcases List.mem_cons.1 hx with g' | g'
              · subst g'; rw [hn] at e; subst e; exact .inl nin
              · exact .inr ⟨x, g', e⟩
          · simp only [List.map_cons, List.map_nil, List.mem_singleton] at g
            subst g; exact absurd hk' (noKid m)) (by rw [lk]; omega)
          (by rw [lk]; simp only [List.length_append, List.length_cons, List.length_nil]; omega)
        refine ⟨fd, e, n1, q1, c1, fun x hx => i1 x (up x hx), fun x hx => ?_⟩
        rcases List.mem_cons.1 hx with g | g
        · subst g; rw [hn]; exact i1 _ nin
        · exact w1 x g
end Gc
set_option maxRecDepth 100000
set_option maxHeartbeats 2000000
/-! What is come to from what is held; a thing is made. -/
namespace Gc
open Hm
theorem Inv.sumAll {G hs vs} {s : Bd} (I : Inv G hs vs s) : lack s vs [] ≤ filledW s := by
  obtain ⟨su, sy, so, sl⟩ := I.sh
  have hv := halves su
  have ll : lim s = beginOf s s.use + s.old := rfl
  refine Int.le_trans (sum_le (g' := fun p => ((if p.1 < s.young then p.2 + 2 else 0) + (if beginOf s s.use ≤ p.1 ∧ p.1 < lim s then p.2 + 2 else 0)) +
    (if ot s ≤ p.1 ∧ p.1 < ot s + s.old ∧ 0 ≤ rd s.words p.1 then p.2 + 2 else 0)) fun p hp => ?_) ?_
  · have b := I.co.bd p hp
    have r := I.rg p hp
    have t := I.tp
    have f := I.lf
    have z := I.co.b0
    by_cases c0 : 0 ≤ rd s.words p.1
    · rw [if_pos ⟨c0, by simp⟩]
      by_cases c1 : p.1 < s.young
      · rw [if_pos c1]; split <;> split <;> omega
      · rw [if_neg c1]
        by_cases c2 : beginOf s s.use ≤ p.1 ∧ p.1 < lim s
        · rw [if_pos c2]; split <;> omega
        · rw [if_neg c2, if_pos ⟨by omega, by omega, c0⟩]; omega
    · rw [if_neg fun h => c0 h.1]; split <;> split <;> split <;> omega
  · rw [sum_add, sum_add]
    have := I.sn; have := I.su; have := I.cp; have := filledW_eq s
    omega
theorem Inv.come {G hs vs} {s : Bd} (I : Inv G hs vs s) (tie : Bool) (sm : s.words.length ≤ 400000) (hr : s.rows.length < 100000) :
    ∃ b fd, Hm.addrs s (s.rows.map Prod.snd) = some b ∧ Hm.comeGo tie s 1000000 b.reverse [] = some fd ∧ (fd.map Prod.fst).Nodup ∧ (∀ n, n ∈ fd.map Prod.fst ↔ LivT tie G hs n) ∧
      ∀ q ∈ fd, At vs s q.2 q.1 := by
  have val : ∀ w ∈ s.rows.map Prod.snd, isT w = true → Val vs (w / 8) ∧ LivT tie G hs (rd s.words (w / 8 + 1)) := by
    intro w hw ht
    obtain ⟨⟨h, w'⟩, hq, e⟩ := List.mem_map.1 hw
    simp only at e; subst e
    obtain ⟨k, hk, e⟩ := List.mem_iff_getElem.1 hq
    obtain ⟨x, ex, W⟩ := I.rt.2 k h w' (by rw [List.getElem?_eq_getElem hk, e])
    unfold Wor at W; rw [if_pos ht] at W
    obtain ⟨V, e2⟩ := W
    subst e2
    exact ⟨V, .root ex⟩
  obtain ⟨b, e1, l1, m1, m2⟩ := I.co.addrs (s.rows.map Prod.snd) fun w hw ht => (val w hw ht).1
  have l0 := I.sumAll
  have fl := I.fl
  have sh := I.sh
  simp only [List.length_map] at l1
  obtain ⟨fd, e2, n1, q1, c1, -, w1⟩ := I.co.comeGo tie (L := LivT tie G hs) (fun n m l k => .step l k) I.wg 1000000 b.reverse [] (fun a ha => by
    obtain ⟨w, hw, ht, A⟩ := m1 a (List.mem_reverse.1 ha)
    exact ⟨_, A, (val w hw ht).2⟩) (by simp) (by simp) (by simp) (by simp only [List.length_reverse]; omega) (by simp only [List.length_reverse, List.length_nil]; omega)
  refine ⟨b, fd, e1, e2, n1, fun n => ⟨fun h => ?_, fun h => ?_⟩, fun q hq => (q1 q hq).1⟩
  · obtain ⟨q, hq, rfl⟩ := List.mem_map.1 h
    exact (q1 q hq).2
  · induction h with
    | @root j h m e =>
      have hl : j < s.rows.length := by rw [I.rt.1]; exact (List.getElem?_eq_some_iff.1 e).1
      obtain ⟨⟨h', w⟩, e'⟩ : ∃ r, s.rows[j]? = some r := ⟨_, List.getElem?_eq_getElem hl⟩
      obtain ⟨x, ex, W⟩ := I.rt.2 j h' w e'
      rw [e] at ex; cases ex
      have ht : isT w = true := by
        unfold Wor at W; split at W
        · assumption
        · cases W
      obtain ⟨k, hk, em⟩ := wor_num W
      obtain ⟨a, ha, ea⟩ := m2 w (List.mem_map.2 ⟨(_, w), List.mem_of_getElem? e', rfl⟩) ht
      rw [em, ← ea]; exact w1 a (List.mem_reverse.2 ha)
    | step l e ih => exact c1 _ _ ih e
theorem Co.sizes {G vs} {s : Bd} (C : Co G vs s) : ∀ fd : List (Int × Int), (∀ q ∈ fd, At vs s q.2 q.1) → Hm.sizes s fd = some (sumN (szG G) (fd.map Prod.fst))
  | [], _ => rfl
  | (n, a) :: r, h => by
    obtain ⟨k, hk, h0, hn⟩ := h (n, a) (by simp)
    simp only at hk h0 hn
    have b := C.bd _ hk
    simp only at b
    unfold Hm.sizes
    rw [gI_rd b.1 (by omega), C.sizes r fun q hq => h q (by simp [hq])]
    dsimp only
    have hd : rd s.words a / 8 = k := by
      rcases C.hd _ hk with g | ⟨x, g1, g2, g3, -⟩
      · exact g.2.1
      · have := C.bd _ g2; simp only at this g1; omega
    have t := (C.th _ hk h0).2.1
    simp only [hn] at t
    rw [List.map_cons, sumN]
    unfold szG
    rw [hd, t]
theorem Inv.filled {G hs vs} {s : Bd} (I : Inv G hs vs s) (sm : s.words.length ≤ 400000) (hr : s.rows.length < 100000) {ns : List Int} (hn : ns.Nodup) (hl : ∀ n, n ∈ ns ↔ Liv G hs n) :
    Hm.filled s = some (sumN (szG G) ns) := by
  obtain ⟨b, fd, e1, e2, n1, m1, q1⟩ := I.come true sm hr
  unfold Hm.filled
  rw [e1]; dsimp only
  rw [e2]; dsimp only
  rw [I.co.sizes fd q1]
  congr 1
  -- sums over lists of the same things
  have perm : ∀ (a b : List Int), a.Nodup → b.Nodup → (∀ x, x ∈ a ↔ x ∈ b) → sumN (szG G) a = sumN (szG G) b := by
    intro a
    induction a with
    | nil =>
      intro b _ _ h
      cases b with
      | nil => rfl
      | cons x r => exact absurd ((h x).2 (by simp)) (by simp)
    | cons x r ih =>
      intro b ha hb h
      rw [List.nodup_cons] at ha
      have hx : x ∈ b := (h x).1 (by simp)
      have er : ∀ {l : List Int}, x ∈ l → sumN (szG G) l = szG G x + sumN (szG G) (l.erase x) := by
        intro l
        induction l with
        | nil => intro h; cases h
        | cons y t iht =>
          intro h
          by_cases c : y = x
          · subst c; rw [List.erase_cons_head]; rfl
          · rw [List.erase_cons_tail (by simpa using c), sumN, sumN]
            have := iht (by rcases List.mem_cons.1 h with e | e; exact absurd e.symm c; exact e)
            omega
      rw [sumN, er hx, ih (b.erase x) ha.2 (hb.erase x) fun y => ?_]
      constructor
      · intro hy
        exact (List.mem_erase_of_ne (by rintro rfl; exact ha.1 hy)).2 ((h y).1 (by simp [hy]))
      · intro hy
        have hne : y ≠ x := fun e => by rw [e] at hy; exact List.Nodup.not_mem_erase hb hy
        rcases List.mem_cons.1 ((h y).2 (List.mem_of_mem_erase hy)) with e | e
        · exact absurd e hne
        · exact e
  exact perm _ _ n1 hn fun x => by rw [m1, livT, hl]
/-! ### items -/
def itW (hs : List (Int × Wo)) : Hm.It → Option Wo
  | .word n => some (.word n)
  | .held h => lookW hs h
def itsW (hs : List (Int × Wo)) : List Hm.It → Option (List Wo)
  | [] => some []
  | i :: r => match itW hs i, itsW hs r with
    | some a, some b => some (a :: b)
    | _, _ => none
def itGood (hs : List (Int × Wo)) : Hm.It → Bool
  | .word n => Wk.isW (.int n) && !isT n
  | .held h => (lookW hs h).isSome
theorem Inv.item {G hs vs} {s : Bd} (I : Inv G hs vs s) {i : Hm.It} (h : itGood hs i = true) : itemOk s i = true ∧ ∃ w x, Hm.worth s i = some w ∧ itW hs i = some x ∧ Wor s.words vs w x ∧ Okw s w := by
  cases i with
  | word n =>
    refine ⟨h, n, .word n, rfl, rfl, ?_, ?_⟩
    · unfold itGood at h
      simp only [Bool.and_eq_true, Bool.not_eq_true'] at h
      unfold Wor; rw [if_neg (by rw [h.2]; simp)]
    · unfold itGood at h
      simp only [Bool.and_eq_true, Bool.not_eq_true'] at h
      intro ht; rw [h.2] at ht; cases ht
  | held k =>
    have h' : (lookW hs k).isSome = true := h
    rcases rt_look (h := k) I.rt with g | ⟨w, x, g1, g2, g3, g4⟩
    · rw [g.2] at h'; cases h'
    · exact ⟨by show (Hm.look s.rows k).isSome = true; rw [g1]; rfl, w, x, g1, g2, g3, I.ok g4⟩
theorem Inv.items {G hs vs} {s : Bd} (I : Inv G hs vs s) : ∀ {is : List Hm.It}, (∀ i ∈ is, itGood hs i = true) → ∃ ws xs, Hm.worths s is = some ws ∧ itsW hs is = some xs ∧ ws.length = is.length ∧ xs.length = is.length ∧
    ∀ k : Nat, k < is.length → Wor s.words vs (ws.getD k 0) (xs.getD k (.word 0)) ∧ Okw s (ws.getD k 0)
  | [], _ => ⟨[], [], rfl, rfl, rfl, rfl, fun k h => by simp at h⟩
  | i :: r, h => by
    obtain ⟨-, w, x, e1, e2, W, O⟩ := I.item (h i (by simp))
    obtain ⟨ws, xs, f1, f2, l1, l2, m⟩ := I.items (is := r) fun j hj => h j (by simp [hj])
    refine ⟨w :: ws, x :: xs, by unfold Hm.worths; rw [e1, f1], by unfold itsW; rw [e2, f2], by simp [l1], by simp [l2], fun k hk => ?_⟩
    cases k with
    | zero => exact ⟨W, O⟩
    | succ k => exact m k (by simpa using hk)
def mayW (sort k : Nat) : Wo → Bool
  | .word w => mayStand sort k w
  | .thing _ => sort == 5 || (decide (0 < sort ∧ sort < 5) && (decide (0 < k) || (sort == 1 || sort == 4)))
theorem may_eq {ws vs w x} {sort k : Nat} (h5 : sort ≤ 5) (h : Wor ws vs w x) : mayStand sort k w = mayW sort k x := by
  unfold Wor at h
  by_cases c : isT w = true
  · rw [if_pos c] at h
    obtain ⟨-, rfl⟩ := h
    have m : w % 8 = 0 := isT_iff.1 c
    unfold mayStand mayW
    by_cases d0 : sort = 0
    · subst d0; simp [isSigns, m]
    · by_cases d5 : sort = 5
      · subst d5; simp [c]
      · have : (0 < sort ∧ sort < 5) := by omega
        rw [if_neg d0, if_neg d5]
        simp [this, m, d5]
  · rw [if_neg c] at h
    subst h; rfl
end Gc
set_option maxRecDepth 100000
set_option maxHeartbeats 2000000
/-! A thing is made, or the heap is full: the fact of room. -/
namespace Gc
open Hm
def make2 (s : Bd) (sort : Nat) (items : List Hm.It) : Option (Option Int × Bd) :=
  match reserve2 s ((items.length : Int) + 2) with
  | none => none
  | some (false, s1) => some (none, s1)
  | some (true, s1) => match Hm.worths s1 items with
    | none => none
    | some ws => match Hm.place s1 sort ws with
      | none => none
      | some (w, s2) => match Hm.give s2 w with
        | none => none
        | some (h, s3) => some (some h, s3)
theorem all_may {ws : List Int} {vs : List (Int × Int)} {m : List Int} {sort : Nat} (h5 : sort ≤ 5) : ∀ (k : Nat) (w0 : List Int) (xs : List Wo), xs.length = w0.length →
    (∀ i : Nat, i < w0.length → Wor m vs (w0.getD i 0) (xs.getD i (.word 0)) ∧ mayW sort (k + i) (xs.getD i (.word 0)) = true) → mayAll sort k w0 = true
  | k, [], xs, _, _ => rfl
  | k, w :: w0, [], h, _ => by simp at h
  | k, w :: w0, x :: xs, h, hm => by
    unfold mayAll
    have h0 := hm 0 (by simp)
    rw [may_eq h5 (w := w) (x := x) h0.1]
    have h1 : mayW sort k x = true := h0.2
    rw [h1, Bool.true_and]
    refine all_may (ws := ws) (m := m) (vs := vs) h5 (k + 1) w0 xs (by simpa using h) fun i hi => ?_
    have := hm (i + 1) (by simpa using hi)
    rw [show k + (i + 1) = k + 1 + i by omega] at this
    exact this
structure KeepG (s s' : Bd) : Prop where
  y : s'.young = s.young
  o : s'.old = s.old
  pc : s'.pace = s.pace
  ln : s'.words.length = s.words.length
theorem Inv.make {G hs vs} {s : Bd} (I : Inv G hs vs s) {sort : Nat} (h5 : sort ≤ 5) {items : List Hm.It} (good : ∀ i ∈ items, itGood hs i = true) {xs : List Wo} (ex : itsW hs items = some xs)
    (may : ∀ k : Nat, k < items.length → mayW sort k (xs.getD k (.word 0)) = true) (hn : lookW hs s.next = none) (hr : s.rows.length < 100000) (sm : s.words.length ≤ 400000) (l0 : 0 ≤ s.last)
    {ns : List Int} (nd : ns.Nodup) (hl : ∀ n, n ∈ ns ↔ Liv G hs n) :
    ∃ r s' vs', make2 s sort items = some (r, s') ∧ KeepG s s' ∧
      ((sumN (szG G) ns + (items.length + 2) ≤ s.old ∧ r = some s.next ∧ Inv (addG G (s.last + 1) (sort, xs)) (hs ++ [(s.next, .thing (s.last + 1))]) vs' s' ∧ s'.next = s.next + 1 ∧ s'.last = s.last + 1) ∨
       (s.old < sumN (szG G) ns + (items.length + 2) ∧ r = none ∧ Inv G hs vs' s' ∧ s'.next = s.next ∧ s'.last = s.last)) := by
  obtain ⟨b, s1, v1, e1, I1, K1, ht, hf⟩ := I.reserve ((items.length : Int) + 2)
  unfold make2
  rw [e1]
  cases b with
  | false =>
    obtain ⟨f1, f2, f3⟩ := hf rfl
    have j := I1.just f2 f3 nd hl
    exact ⟨none, s1, v1, rfl, ⟨K1.y, K1.o, K1.pc, K1.ln⟩, .inr ⟨by omega, rfl, I1, K1.nx, K1.la⟩⟩
  | true =>
    obtain ⟨t1, t2⟩ := ht rfl
    have fit := I1.fits nd fun n h => (hl n).1 h
    obtain ⟨ws, xs', g1, g2, g3, g4, g5⟩ := I1.items good
    rw [ex] at g2; cases g2
    dsimp only
    rw [g1]
    dsimp only
    obtain ⟨a, s2, v2, p1, I2, K2, m2, n2, o2⟩ := I1.place h5 (found := ws) (xs := xs) (by omega) (fun i hi => (g5 i (by omega)).1) (fun i hi => (g5 i (by omega)).2)
      (fun z x hx n e => by
        subst z
        obtain ⟨k, hk, ek⟩ := List.mem_iff_getElem.1 hx
        have := may k (by omega)
        have e2 : xs.getD k (.word 0) = x := by simp [List.getD, hk, ek]
        rw [e2, e] at this
        simp [mayW] at this)
      (by rw [g3, K1.o]; omega) (fun h => by rw [g3] at h ⊢; rw [K1.y] at h ⊢; exact t2 h) (by rw [K1.ln]; exact sm) (by rw [K1.la]; exact l0)
    rw [p1]
    dsimp only
    have t8 : isT (a * 8 + 0) = true := by rw [isT_iff]; omega
    have d8 : (a * 8 + 0) / 8 = a := by omega
    obtain ⟨s3, q1, I3, q2, q3, q4, q5, q6, q7⟩ := I2.give (w := a * 8 + 0) (x := .thing (s1.last + 1)) (by unfold Wor; rw [if_pos t8, d8, n2]; exact ⟨⟨_, m2⟩, rfl⟩) (by intro _; rw [d8]; exact o2)
      (by rw [K2.nx, K1.nx]; exact hn) (by rw [I2.rt.1, ← I.rt.1]; exact hr)
    rw [q1]
    dsimp only
    rw [K1.la] at I3
    rw [K2.nx, K1.nx] at I3 q2
    refine ⟨some s2.next, s3, v2, rfl, ⟨by rw [q3, K2.y, K1.y], by rw [q4, K2.o, K1.o], by rw [q5, K2.pc, K1.pc], by rw [q7, K2.ln, K1.ln]⟩, .inl ⟨by omega, by rw [K2.nx, K1.nx], I3, q2, by rw [q6, K2.la, K1.la]⟩⟩
/-- as the program's own make has it, where there is room -/
theorem Inv.made {G hs vs} {s : Bd} (I : Inv G hs vs s) {sort : Nat} (h5 : sort ≤ 5) {items : List Hm.It} (good : ∀ i ∈ items, itGood hs i = true) {xs : List Wo} (ex : itsW hs items = some xs)
    (may : ∀ k : Nat, k < items.length → mayW sort k (xs.getD k (.word 0)) = true) (many : mayMany sort items.length = true) (hr : s.rows.length < 100000) {h : Int} {s' : Bd}
    (e : make2 s sort items = some (some h, s')) : Hm.make s sort items = some (h, s') := by
  unfold Hm.make
  obtain ⟨ws, xs', g1, g2, g3, g4, g5⟩ := I.items good
  rw [ex] at g2; cases g2
  rw [if_pos ⟨h5, by rw [List.all_eq_true]; exact fun i hi => (I.item (good i hi)).1, hr⟩, g1]
  dsimp only
  have mb : mayBe sort ws = true := by
    unfold mayBe
    rw [g3, many, Bool.true_and]
    exact all_may (ws := []) (m := s.words) (vs := vs) h5 0 ws xs (by omega) fun i hi => ⟨(g5 i (by omega)).1, by rw [Nat.zero_add]; exact may i (by omega)⟩
  rw [if_pos mb]
  unfold make2 at e
  revert e
  cases er : reserve2 s ((items.length : Int) + 2) with
  | none => intro e; cases e
  | some r =>
    obtain ⟨b, s1⟩ := r
    cases b with
    | false => intro e; cases e
    | true =>
      rw [reserve2_true er]
      dsimp only
      cases Hm.worths s1 items with
      | none => intro e; cases e
      | some w1 =>
        dsimp only
        cases Hm.place s1 sort w1 with
        | none => intro e; cases e
        | some r =>
          obtain ⟨w, s2⟩ := r
          dsimp only
          cases Hm.give s2 w with
          | none => intro e; cases e
          | some r => obtain ⟨h', s3⟩ := r; intro e; cases e; rfl
end Gc
set_option maxRecDepth 100000
set_option maxHeartbeats 2000000
/-! Words are written by handles; what a room means; a room without things. -/
namespace Gc
open Hm
theorem Inv.write {G hs vs} {s : Bd} (I : Inv G hs vs s) {h n : Int} (eh : lookW hs h = some (.thing n)) {p : Nat} (hp : p < (G n).2.length) {it : Hm.It} (good : itGood hs it = true) {x : Wo}
    (ex : itW hs it = some x) (may : mayW (G n).1.toNat p x = true) (sm : s.words.length ≤ 400000) :
    ∃ s', Hm.write s h p it = some s' ∧ Inv (updG G n p x) hs vs s' ∧ Keep s s' := by
  rcases rt_look (h := h) I.rt with g | ⟨w, y, g1, g2, g3, g4⟩
  · rw [g.2] at eh; cases eh
  · rw [eh] at g2; cases g2
    have ok := I.ok g4
    have ht : isT w = true := by
      unfold Wor at g3; split at g3
      · assumption
      · cases g3
    obtain ⟨k, hk, em⟩ := wor_num g3
    have b := I.co.bd _ hk
    simp only at b
    have h0 : 0 ≤ rd s.words (w / 8) := by
      rcases ok ht with g | g
      · exact I.ny _ hk g
      · exact I.co.nu _ hk g.1 g.2
    have hd : rd s.words (w / 8) / 8 = k ∧ rd s.words (w / 8) % 8 ≤ 5 := by
      rcases I.co.hd _ hk with g | ⟨c, g1, g2, g3, -⟩
      · exact g.2
      · have := I.co.bd _ g2; simp only at this g1; omega
    obtain ⟨t1, t2, t3⟩ := I.co.th _ hk h0
    simp only [← em] at t1 t2 t3
    obtain ⟨ok1, v, x', e1, e2, W, O⟩ := I.item good
    rw [ex] at e2; cases e2
    unfold Hm.write
    rw [g1]; dsimp only
    rw [if_pos ht, gI_rd b.1 (by omega)]
    dsimp only
    rw [if_pos ⟨by rw [hd.1]; omega, hd.2, ok1⟩, e1]
    dsimp only
    have m : mayStand (rd s.words (w / 8) % 8).toNat p v = true := by
      rw [may_eq (by omega) W, ← t1]; exact may
    rw [if_pos m]
    obtain ⟨s', e3, I', K'⟩ := I.bwrite hk (ok ht) (p := p) (by omega) W O (fun z m' e => by
      have : (G n).1 = 0 := by rw [t1]; exact z
      rw [this, e] at may
      simp [mayW] at may) sm
    rw [← em] at I'
    exact ⟨s', e3, I', K'⟩
/-- what a word is worth -/
def worthOf (s : Bd) (w : Int) : Option Wo :=
  if isT w then (match Hm.settled s (w / 8) with
    | none => none
    | some a => match gI s.words (a + 1) with
      | none => none
      | some n => some (.thing n))
  else some (.word w)
def worthsOf (s : Bd) : List Int → Option (List Wo)
  | [] => some []
  | w :: r => match worthOf s w, worthsOf s r with
    | some a, some b => some (a :: b)
    | _, _ => none
theorem Co.worthOf {G vs} {s : Bd} (C : Co G vs s) {w : Int} {x : Wo} (h : Wor s.words vs w x) : Gc.worthOf s w = some x := by
  unfold Wor at h
  unfold Gc.worthOf
  by_cases c : isT w = true
  · rw [if_pos c] at h ⊢
    obtain ⟨V, rfl⟩ := h
    obtain ⟨b, e, k, hk, h0, hn⟩ := C.settled V
    have bb := C.bd _ hk
    simp only at bb
    rw [e]; dsimp only
    rw [gI_rd (by omega) (by omega), hn]
  · rw [if_neg c] at h ⊢; rw [h]
theorem Co.worthsOf {G vs} {s : Bd} (C : Co G vs s) : ∀ (ws : List Int) (xs : List Wo), xs.length = ws.length → (∀ i : Nat, i < ws.length → Wor s.words vs (ws.getD i 0) (xs.getD i (.word 0))) →
    Gc.worthsOf s ws = some xs
  | [], [], _, _ => rfl
  | [], x :: xs, h, _ => by simp at h
  | w :: ws, [], h, _ => by simp at h
  | w :: ws, x :: xs, h, hm => by
    unfold Gc.worthsOf
    rw [C.worthOf (w := w) (x := x) (hm 0 (by simp)), C.worthsOf ws xs (by simpa using h) fun i hi => hm (i + 1) (by simpa using hi)]
/-- what lies where a thing lies -/
theorem Co.thing {G vs} {s : Bd} (C : Co G vs s) {a n : Int} (A : At vs s a n) : ∃ hd part, gI s.words a = some hd ∧ gI s.words (a + 1) = some n ∧ gS s.words (a + 2) (a + 2 + hd / 8) = some part ∧ hd % 8 = (G n).1 ∧ 0 ≤ hd % 8 ∧ hd % 8 ≤ 5 ∧
    hd / 8 = (G n).2.length ∧ Gc.worthsOf s part = some (G n).2 := by
  obtain ⟨k, hk, h0, hn⟩ := A
  have b := C.bd _ hk
  simp only at b
  have hd : rd s.words a / 8 = k ∧ rd s.words a % 8 ≤ 5 := by
    rcases C.hd _ hk with g | ⟨c, g1, g2, g3, -⟩
    · exact g.2
    · have := C.bd _ g2; simp only at this g1; omega
  obtain ⟨t1, t2, t3⟩ := C.th _ hk h0
  simp only [hn] at t1 t2 t3
  obtain ⟨part, e1, l1, r1⟩ := gS_rd (ws := s.words) (a := a + 2) (b := a + 2 + k) (by omega) (by omega) (by omega)
  refine ⟨rd s.words a, part, gI_rd b.1 (by omega), by rw [gI_rd (by omega) (by omega), hn], by rw [hd.1]; exact e1, t1.symm, by omega, hd.2, by rw [hd.1]; omega, ?_⟩
  refine C.worthsOf part _ (by omega) fun i hi => ?_
  have := r1 i (by omega) (by omega)
  have e : part.getD i 0 = rd s.words (a + 2 + i) := by rw [← this]; simp [rd]
  rw [e]; exact t3 i (by omega)
/-- no thing yet -/
theorem inv_start {y o p : Nat} (h : y + 2 * o ≤ 3000000) : Inv (fun _ => (0, [])) [] [] (Hm.start y o p) := by
  have b : beginOf (Hm.start y o p) (Hm.start y o p).use = y := by
    show (y : Int) + 0 * (o : Int) = y; omega
  have l : lim (Hm.start y o p) = (y : Int) + o := by unfold lim; rw [b]; rfl
  have wl : (Hm.start y o p).words.length = y + 2 * o := by simp [Hm.start]
  refine ⟨⟨⟨by simp, by simp, by simp, by simp, by simp, by simp, by simp, by simp, ?_⟩, ?_, rt_nil, ?_, ?_, by simp, by simp, by simp, by simp, by simp, ?_, by simp [Hm.start], ?_, ?_, ?_, ?_, ?_, ?_, ?_, by simp⟩, ?_⟩
  · rw [b, l, wl]; show 0 ≤ (y : Int) ∧ (y : Int) ≤ (y : Int) ∧ (y : Int) ≤ _ ∧ _; omega
  · intro n i m _ e; simp at e
  · exact ⟨.inl rfl, (by show 0 ≤ (y : Int); omega), (by show 0 ≤ (o : Int); omega), by rw [wl]; show ((y + 2 * o : Nat) : Int) = (y : Int) + 2 * (o : Int); omega⟩
  · show (0 : Int) ≤ 0 ∧ (0 : Int) ≤ (y : Int); omega
  · intro k h w e; simp [Hm.start] at e
  · intro x hx; simp [Hm.start] at hx
  · rw [b]; exact ⟨Int.le_refl _, [], rfl, by simp⟩
  · show (0 : Int) ≤ 0 ∧ (0 : Int) ≤ (o : Int) ∧ (0 : Int) ≤ 0 ∧ ((0 : Int) = 0 → (y : Int) = (y : Int) ∧ (0 : Int) = 0); simp
  · simp [sumBy, Hm.start]
  · rw [b]; simp [sumBy, Hm.start]
  · simp [sumBy, Hm.start]
  · rw [filledW_eq, b]; show (y : Int) - y + 0 + 0 - 0 ≤ (o : Int); omega
  · intro h; exact absurd h (by simp [Hm.start])
end Gc
set_option maxRecDepth 100000
set_option maxHeartbeats 2000000
/-! Sorted lists; what a room means, by numbers. -/
namespace Gc
open Hm
theorem sorted_eq : ∀ (a b : List Int), a.Pairwise (· ≤ ·) → b.Pairwise (· ≤ ·) → a.Nodup → b.Nodup → (∀ x, x ∈ a ↔ x ∈ b) → a = b
  | [], [], _, _, _, _, _ => rfl
  | [], y :: b, _, _, _, _, h => by have := (h y).2 (by simp); simp at this
  | x :: a, [], _, _, _, _, h => by have := (h x).1 (by simp); simp at this
  | x :: a, y :: b, h1, h2, n1, n2, h => by
    rw [List.pairwise_cons] at h1 h2
    rw [List.nodup_cons] at n1 n2
    have e : x = y := by
      have a1 : x ∈ y :: b := (h x).1 (by simp)
      have a2 : y ∈ x :: a := (h y).2 (by simp)
      rcases List.mem_cons.1 a1 with e | m1
      · exact e
      · rcases List.mem_cons.1 a2 with e | m2
        · exact e.symm
        · have := h1.1 _ m2; have := h2.1 _ m1; omega
    subst e
    congr 1
    refine sorted_eq a b h1.2 h2.2 n1.2 n2.2 fun z => ⟨fun hz => ?_, fun hz => ?_⟩
    · rcases List.mem_cons.1 ((h z).1 (by simp [hz])) with e | m
      · subst e; exact absurd hz n1.1
      · exact m
    · rcases List.mem_cons.1 ((h z).2 (by simp [hz])) with e | m
      · subst e; exact absurd hz n2.1
      · exact m
/-- where a number was found -/
theorem look_at {vs : List (Int × Int)} {s : Bd} : ∀ {fd : List (Int × Int)} {n : Int}, n ∈ fd.map Prod.fst → (∀ q ∈ fd, At vs s q.2 q.1) → ∃ a, Hm.look fd n = some a ∧ At vs s a n
  | [], n, h, _ => by simp at h
  | (m, a) :: r, n, h, hq => by
    unfold Hm.look
    by_cases c : m = n
    · subst c; rw [if_pos rfl]; exact ⟨a, rfl, hq (m, a) (by simp)⟩
    · rw [if_neg c]
      refine look_at (fd := r) ?_ fun q h' => hq q (by simp [h'])
      rw [List.map_cons, List.mem_cons] at h
      rcases h with e | e
      · exact absurd e.symm c
      · exact e
/-- the rows' worths are the handles -/
theorem Inv.heldOf {G hs vs} {s : Bd} (I : Inv G hs vs s) (k : Nat) (h w : Int) (e : s.rows[k]? = some (h, w)) : ∃ x, hs[k]? = some (h, x) ∧ worthOf s w = some x := by
  obtain ⟨x, e1, W⟩ := I.rt.2 k h w e
  exact ⟨x, e1, I.co.worthOf W⟩
/-- fewer than 64 things live in a small half -/
theorem Inv.few {G hs vs} {s : Bd} (I : Inv G hs vs s) {ns : List Int} (hn : ns.Nodup) (hl : ∀ n ∈ ns, Liv G hs n) : 2 * (ns.length : Int) ≤ s.old := by
  have := I.fits hn hl
  have f := I.fl
  have le : ∀ l : List Int, 2 * (l.length : Int) ≤ sumN (szG G) l := by
    intro l
    induction l with
    | nil => exact Int.le_refl _
    | cons n r ih => rw [sumN]; unfold szG at *; simp only [List.length_cons]; omega
  have := le ns
  omega
end Gc
set_option maxRecDepth 100000
set_option maxHeartbeats 2000000
/-! A law's own flood over its graph finds what lives. -/
namespace Gc
open Hm
/-- waiting is kept the last first -/
def floodG (G : Gr) (tie : Bool) : Nat → List Wo → List Int → Option (List Int)
  | 0, _, _ => none
  | _ + 1, [], found => some found
  | f + 1, .word _ :: r, found => floodG G tie f r found
  | f + 1, .thing n :: r, found => if n ∈ found then floodG G tie f r found else
      floodG G tie f (if tie = true ∨ (G n).1 ≠ 5 then (G n).2.reverse ++ r else r) (found ++ [n])
def lackG (G : Gr) (ks found : List Int) : Int := sumN (fun n => if n ∈ found then 0 else szG G n) ks
theorem lackG_nonneg (G : Gr) (ks found : List Int) : 0 ≤ lackG G ks found := by
  unfold lackG
  induction ks with
  | nil => exact Int.le_refl _
  | cons n r ih => rw [sumN]; unfold szG at *; split <;> omega
theorem lackG_add {G : Gr} {n : Int} {found : List Int} (hf : n ∉ found) : ∀ {ks : List Int}, ks.Nodup → n ∈ ks → lackG G ks (found ++ [n]) = lackG G ks found - szG G n
  | [], _, h => by simp at h
  | k :: ks, hn, h => by
    rw [List.nodup_cons] at hn
    unfold lackG
    rw [sumN, sumN]
    have same : ∀ l : List Int, n ∉ l → sumN (fun m => if m ∈ found ++ [n] then 0 else szG G m) l = sumN (fun m => if m ∈ found then 0 else szG G m) l := by
      intro l
      induction l with
      | nil => intro _; rfl
      | cons m r ih =>
        intro hm
        have hne : m ≠ n := fun e => hm (by simp [e])
        rw [sumN, sumN, ih fun h => hm (by simp [h])]
        simp [hne]
    by_cases c : k = n
    · subst c
      rw [same ks hn.1, if_pos (by simp), if_neg hf]; omega
    · have := lackG_add (G := G) hf hn.2 (by rcases List.mem_cons.1 h with e | e; exact absurd e.symm c; exact e)
      unfold lackG at this
      rw [this]
      have : (k ∈ found ++ [n]) ↔ k ∈ found := by simp [c]
      simp only [this]; omega
theorem floodG_ok {G : Gr} {tie : Bool} {L : Int → Prop} (hL : ∀ n m, L n → Kid tie G n m → L m) {ks : List Int} (nk : ks.Nodup) (hk : ∀ n ∈ ks, ∀ m, Wo.thing m ∈ (G n).2 → m ∈ ks) :
    ∀ (f : Nat) (waiting : List Wo) (found : List Int), (∀ n, Wo.thing n ∈ waiting → n ∈ ks ∧ L n) → found.Nodup → (∀ n ∈ found, L n) →
    (∀ n m, n ∈ found → Kid tie G n m → m ∈ found ∨ Wo.thing m ∈ waiting) → (waiting.length : Int) + lackG G ks found < f →
    ∃ fd, floodG G tie f waiting found = some fd ∧ fd.Nodup ∧ (∀ n ∈ fd, L n) ∧ (∀ n m, n ∈ fd → Kid tie G n m → m ∈ fd) ∧ (∀ n ∈ found, n ∈ fd) ∧ (∀ n, Wo.thing n ∈ waiting → n ∈ fd)
  | 0, w, found, _, _, _, _, hf => by have := lackG_nonneg G ks found; omega
  | f + 1, [], found, _, nd, hq, hc, _ => by
    refine ⟨found, rfl, nd, hq, fun n m hn h => ?_, fun _ h => h, fun n h => by simp at h⟩
    rcases hc n m hn h with g | g
    · exact g
    · simp at g
  | f + 1, .word x :: r, found, hw, nd, hq, hc, hf => by
    simp only [List.length_cons] at hf
    obtain ⟨fd, e, a1, a2, a3, a4, a5⟩ := floodG_ok hL nk hk f r found (fun n h => hw n (by simp [h])) nd hq (fun n m hn h => by
      rcases hc n m hn h with g | g
      · exact .inl g
      · right; simpa using g) (by omega)
    exact ⟨fd, e, a1, a2, a3, a4, fun n h => a5 n (by simpa using h)⟩
  | f + 1, .thing n :: r, found, hw, nd, hq, hc, hf => by
    simp only [List.length_cons] at hf
    unfold floodG
    obtain ⟨kn, ln⟩ := hw n (by simp)
    by_cases c : n ∈ found
    · rw [if_pos c]
      obtain ⟨fd, e, a1, a2, a3, a4, a5⟩ := floodG_ok hL nk hk f r found (fun m h => hw m (by simp [h])) nd hq (fun n' m hn h => by
        rcases hc n' m hn h with g | g
        · exact .inl g
        · rcases List.mem_cons.1 g with e | e
          · cases e; exact .inl c
          · exact .inr e) (by omega)
      refine ⟨fd, e, a1, a2, a3, a4, fun m h => ?_⟩
      rcases List.mem_cons.1 h with e | e
      · cases e; exact a4 _ c
      · exact a5 m e
    · rw [if_neg c]
      have lk := lackG_add (G := G) c nk kn
      have kid : ∀ m, Wo.thing m ∈ (G n).2 → (tie = true ∨ (G n).1 ≠ 5) → Kid tie G n m := by
        intro m hm t
        obtain ⟨i, hi, e⟩ := List.mem_iff_getElem.1 hm
        exact ⟨t, i, by simp [List.getD, hi, e]⟩
      have dik : ∀ m, Kid tie G n m → (tie = true ∨ (G n).1 ≠ 5) ∧ Wo.thing m ∈ (G n).2 := by
        rintro m ⟨t, i, e⟩
        refine ⟨t, ?_⟩
        by_cases l : i < (G n).2.length
        · have : (G n).2[i] = .thing m := by simpa [List.getD, l] using e
          rw [← this]; exact List.getElem_mem l
        · have : (G n).2.getD i (.word 0) = .word 0 := by simp [List.getD, l]
          rw [this] at e; cases e
      obtain ⟨fd, e, a1, a2, a3, a4, a5⟩ := floodG_ok hL nk hk f (if tie = true ∨ (G n).1 ≠ 5 then (G n).2.reverse ++ r else r) (found ++ [n])
        (fun m h => by
          by_cases t : tie = true ∨ (G n).1 ≠ 5
          · rw [if_pos t] at h
            rcases List.mem_append.1 h with g | g
            · have g' := List.mem_reverse.1 g
              exact ⟨hk n kn m g', hL n m ln (kid m g' t)⟩
            · exact hw m (by simp [g])
          · rw [if_neg t] at h; exact hw m (by simp [h]))
        (by rw [List.nodup_append]; exact ⟨nd, by simp, by rintro x hx y hy rfl; rw [List.mem_singleton] at hy; subst hy; exact c hx⟩)
        (fun m hm => by
          rcases List.mem_append.1 hm with g | g
          · exact hq m g
          · rw [List.mem_singleton] at g; subst g; exact ln)
        (fun n' m hn h => by
          rcases List.mem_append.1 hn with g | g
          · rcases hc n' m g h with g' | g'
            · exact .inl (List.mem_append_left _ g')
            · rcases List.mem_cons.1 g' with e | e
              · cases e; exact .inl (by simp)
              · right; split
                · exact List.mem_append_right _ e
                · exact e
          · rw [List.mem_singleton] at g; subst g
            obtain ⟨t, hm⟩ := dik m h
            right; rw [if_pos t]; exact List.mem_append_left _ (List.mem_reverse.2 hm))
        (by
          rw [lk]; unfold szG
          split
          · simp only [List.length_append, List.length_reverse]; omega
          · omega)
      refine ⟨fd, e, a1, a2, a3, fun m h => a4 m (List.mem_append_left _ h), fun m h => ?_⟩
      rcases List.mem_cons.1 h with e | e
      · cases e; exact a4 _ (by simp)
      · refine a5 m ?_
        split
        · exact List.mem_append_right _ e
        · exact e
/-- begun with what is held -/
theorem flood_live {G : Gr} {tie : Bool} {hs : List (Int × Wo)} {ks : List Int} (nk : ks.Nodup) (hk : ∀ n ∈ ks, ∀ m, Wo.thing m ∈ (G n).2 → m ∈ ks) (hh : ∀ n, Wo.thing n ∈ hs.map Prod.snd → n ∈ ks)
    {f : Nat} (hf : (hs.length : Int) + lackG G ks [] < f) :
    ∃ fd, floodG G tie f (hs.map Prod.snd).reverse [] = some fd ∧ fd.Nodup ∧ ∀ n, n ∈ fd ↔ LivT tie G hs n := by
  have rt : ∀ n, Wo.thing n ∈ hs.map Prod.snd → LivT tie G hs n := by
    intro n h
    obtain ⟨⟨a, x⟩, hx, e⟩ := List.mem_map.1 h
    simp only at e; subst e
    obtain ⟨j, hj, e⟩ := List.mem_iff_getElem.1 hx
    exact .root (j := j) (h := a) (by rw [List.getElem?_eq_getElem hj, e])
  obtain ⟨fd, e, a1, a2, a3, -, a5⟩ := floodG_ok (G := G) (tie := tie) (L := LivT tie G hs) (fun n m l k => .step l k) nk hk f (hs.map Prod.snd).reverse []
    (fun n h => ⟨hh n (List.mem_reverse.1 h), rt n (List.mem_reverse.1 h)⟩) (by simp) (by simp) (by simp) (by simp only [List.length_reverse, List.length_map]; omega)
  refine ⟨fd, e, a1, fun n => ⟨a2 n, fun h => ?_⟩⟩
  induction h with
  | @root j h m e => exact a5 m (List.mem_reverse.2 (List.mem_map.2 ⟨(h, .thing m), List.mem_of_getElem? e, rfl⟩))
  | step l k ih => exact a3 _ _ ih k
end Gc
set_option maxRecDepth 100000
set_option maxHeartbeats 4000000
namespace Wk
open PySem L2 TL PyProof.Rows
open SX (S S_len)
/-! ### the heap is full -/
abbrev s_bad_init : Stmt := inClass (top 11) 0
theorem sc_bad_init : FnScope ["self", "taken"] ["self", "taken"] (defScope s_bad_init) := ⟨rfl, rfl, rfl, by decide +kernel, rfl, by decide +kernel, by decide +kernel⟩
def sp_bad_init (K : PySem.W.Frag) (C : Addr) : Sp := fun vs H Q _ => ∃ a y, vs = [.ref a, y] ∧ H a = some (exo a C none) ∧ ∀ dx, H dx = none → dx ≠ a → Q .non (upd (upd H dx (exd dx [("taken", y)])) a (exo a C (some dx)))
section
variable {P : Program} {w : World} {K : PySem.W.Frag} {mg : Str → Option Value} {base : Heap}
theorem ok_bad_init {C : Addr} (T : OexC K C) (hno : PySem.W.findIn K (.ref C) "taken" = some none) {f : Addr} {fd : FuncData} (F : Fun K "__init__" "HeapFull.__init__" s_bad_init f fd) : FnOk P w K mg base CX0 1 f fd ["self", "taken"] (sp_bad_init K C) := by
  refine F.ok sc_bad_init (fun vs H Q E h => ?_) (fun cdv A outer s H vs Q E hr h => ?_)
  · obtain ⟨a, y, rfl, _⟩ := h; rfl
  obtain ⟨a, y, rfl, ha, q⟩ := h
  exact ⟨_, pss_one (ps_ost (pv 0) (pv 1)), _, rfl, _, rfl, a, C, rfl, T, hno, .inl ⟨ha, fun dx h1 h2 => q dx h1 h2⟩⟩
end
/-- what the written part tells of an own error class and its __init__ -/
structure ExcT (P : Program) (w : World) (K : PySem.W.Frag) (mg : Str → Option Value) (base : Heap) (x : Str) (ps : List Str) (sp : PySem.W.Frag → Addr → Sp) where
  C : Addr
  fI : Addr
  fd : FuncData
  gC : mg x = some (.ref C)
  T : OexC K C
  iC : PySem.W.findIn K (.ref C) "__init__" = some (some (.ref fI))
  tI : PySem.W.typeIn K (.ref fI) = some (.type "function")
  ok : FnOk P w K mg base CX0 1 fI fd ps (sp K C)
  b : Binds K fd ps []
theorem heap_bad {H : Hp} {a d C : Addr} {fs : List (Str × V)} (hd : H d = none) (ha : H a = none) (hne : d ≠ a) : upd (del (upd (upd (upd H a (exo a C none)) d (exd d fs)) a (exo a C (some d))) a) d (.xd fs) = upd H d (.xd fs) := by
  funext b
  by_cases h1 : b = d
  · subst h1; rw [upd_same, upd_same]
  · rw [upd_ne h1, upd_ne h1]
    by_cases h2 : b = a
    · subst h2; rw [del_same, ha]
    · rw [del_ne h2, upd_ne h2, upd_ne h1, upd_ne h2]
/-- behind HeapFull(v) -/
theorem bad_ok {K : PySem.W.Frag} {C : Addr} {H : Hp} {v : V} {Q : XK} (q : ∀ d, H d = none → Q (.ref C) (some d) (upd H d (.xd [("taken", v)]))) :
    [v].length ≤ 1000 ∧ ∀ a, H a = none → sp_bad_init K C (.ref a :: ([v] ++ [])) (upd H a (exo a C none))
      (fun u H2 => u = .non ∧ ∃ (d : Addr) (fs : List (Str × V)), H2 a = some (exo a C (some d)) ∧ H2 d = some (exd d fs) ∧ H d = none ∧ Q (.ref C) (some d) (upd (del H2 a) d (.xd fs))) (fun _ _ _ => False) := by
  refine ⟨by simp, fun a ha => ⟨a, v, rfl, upd_same, fun dx h1 h2 => ⟨rfl, dx, [("taken", v)], upd_same, ?_, ?_, ?_⟩⟩⟩
  · rw [upd_ne h2, upd_same]
  · rw [upd_ne h2] at h1; exact h1
  · rw [upd_ne h2] at h1
    rw [heap_bad h1 ha h2]
    exact q dx h1
section
variable {X : Cx} {e : Expr} {te : TE} {p pos : Pos}
theorem pmk_bad (B : ExcT X.prog X.w X.K X.mg X.base "HeapFull" ["self", "taken"] sp_bad_init) (hr : Room 2 X.A) (hg : Gl X "HeapFull") (he : PE X e te)
    (hs : starEach (e :: []) X.env = (false, eval e X.env) :: starEach [] X.env := by rfl) (hpl : (backTo pos (starEach [] X.env)).any (·.1) = false := by rfl) :
    PMk X (.Call (.Name "HeapFull" p) [e] [] pos) (tMkO B.C (sp_bad_init X.K B.C) [] (tCons te tNil)) :=
  pmk_oex (p := p) (pos := pos) (CX := CX0) B.T B.iC B.tI B.ok hr B.b .nil (fun _ _ _ _ _ _ _ h => h.elim) hg B.gC (pa_cons he pa_nil hs) (by decide) hs hpl
end
end Wk
set_option maxRecDepth 100000
set_option maxHeartbeats 2000000
namespace Wk
open PySem L2 TL PyProof.Rows Hm
open SX (S S_len)
section
variable {P : Program} {w : World} {K : PySem.W.Frag} {mg : Str → Option Value} {base : Heap}
/-- room is there, or HeapFull is raised -/
def sp_breserve2 (C : Cs K) (BC : Addr) : Sp := fun vs H Q E => ∃ F ar rws s many b s', vs = [.ref F.bo, .int many] ∧ St C H F ar rws s ∧ Gc.reserve2 s many = some (b, s') ∧
  (b = true → ∀ H' ar', Go C F ar rws H H' ar' rws s' → Q .non H') ∧
  (b = false → ∀ H' ar' d, Go C F ar rws H H' ar' rws s' → H' d = none → E (.ref BC) (some d) (upd H' d (.xd [("taken", .int many)])))
theorem ok_breserve2 (T : Txt K mg base) (T5 : Txt5 K w mg) (C : Cs K) (B : ExcT P w K mg base "HeapFull" ["self", "taken"] sp_bad_init) {f : Addr} {fd : FuncData} (F : Fun K "reserve" "Bound.reserve" s_Bound__reserve f fd) (Mb_filled_words : MD P w K mg base CX0 C.B "filled_words" ["self"] 2 (sp_bfilled C)) (Mb_end_turn : MD P w K mg base CX0 C.B "end_turn" ["self"] 5 (sp_bendturn C)) (Mb_whole : MD P w K mg base CX0 C.B "whole" ["self"] 6 (sp_bwhole C)) (Mb_gather : MD P w K mg base CX0 C.B "gather" ["self"] 3 (sp_bgather C)) : FnOk P w K mg base (L2.CX P w) 7 f fd ["self", "many"] (sp_breserve2 C B.C) := by
  refine F.okX sc_Bound__reserve (fun vs H Q E h => ?_) (fun cdv A outer s H vs Q E hr h => ?_)
  · obtain ⟨_, _, _, _, _, _, _, rfl, _⟩ := h; rfl
  obtain ⟨F, ar, rws, s, many, b, s', rfl, S, hm, q, qe⟩ := h
  refine ⟨_, (pss_cons (ps_if (pt_cmpR op_gt (pe_op op_add (pe_meth0 (pv 0) C.bcl Mb_filled_words.m Mb_filled_words.ok (hr.mono (by omega)) Mb_filled_words.b .nil pass0) (pv 1)) (pe_fld (pe_fld (pv 0) rfl) rfl) (nomark _)) (pss_one (ps_expr (pe_meth0 (pv 0) C.bcl Mb_end_turn.m Mb_end_turn.ok (hr.mono (by omega)) Mb_end_turn.b .nil pass0))) pss_nil)
    (pss_cons (ps_if (pt_cmpR op_gt (pe_op op_add (pe_meth0 (pv 0) C.bcl Mb_filled_words.m Mb_filled_words.ok (hr.mono (by omega)) Mb_filled_words.b .nil pass0) (pv 1)) (pe_fld (pe_fld (pv 0) rfl) rfl) (nomark _)) (pss_one (ps_expr (pe_meth0 (pv 0) C.bcl Mb_whole.m Mb_whole.ok (hr.mono (by omega)) Mb_whole.b .nil pass0))) pss_nil)
    (pss_cons (ps_if (pt_cmpR op_gt (pe_op op_add (pe_meth0 (pv 0) C.bcl Mb_filled_words.m Mb_filled_words.ok (hr.mono (by omega)) Mb_filled_words.b .nil pass0) (pv 1)) (pe_fld (pe_fld (pv 0) rfl) rfl) (nomark _)) (pss_one (ps_raise rfl (takes_of rfl rfl rfl rfl) (pmk_bad B (hr.mono (by decide)) rfl (pv 1)))) pss_nil)
    (pss_one (ps_if (pt_chain op_le op_lt (pv 1) (pe_fld (pe_fld (pv 0) rfl) rfl) (pe_op op_add (pe_fld (pv 0) rfl) (pv 1))) (pss_one (ps_expr (pe_meth0 (pv 0) C.bcl Mb_gather.m Mb_gather.ok (hr.mono (by omega)) Mb_gather.b .nil pass0))) pss_nil))))), ?_⟩
  unfold Gc.reserve2 at hm
  generalize hσ : L2.start _ _ = σ0
  have hσ : σ0 = [some (.ref F.bo), some (.int many)] := hσ.symm
  subst hσ
  split at hm
  · cases hm
  rename_i s1 h1
  split at hm
  · cases hm
  rename_i s2 h2
  refine seq_join (fun σ H' => σ = [some (.ref F.bo), some (.int many)] ∧ Go C F ar rws H H' ar rws s1) ?_ ?_
  rotate_left
  · intro NX nx
    refine ⟨_, rfl, F.bo, F.bd, _, rfl, S.bo, rfl, F, ar, rws, s, rfl, S, _, rfl, _, _, rfl, rfl, (⟨_, rfl, _, _, _, _, _, rfl, St.bo S, Cs.bcl _, Cs.room _, rfl, _, _, _, _, _, rfl, St.ro S, Cs.rcl _, C.old, rfl, ⟨_, _, rfl, rfl, _, rfl, ?_⟩⟩)⟩
    by_cases hf : filledW s + many > s.old
    · rw [if_pos hf] at h1
      cases he : steps s s.words.length with
      | none => rw [he] at h1; cases h1
      | some z =>
      obtain ⟨n1, sz⟩ := z
      rw [he] at h1
      cases h1
      rw [decide_eq_true hf]
      exact iteT ⟨_, rfl, F.bo, F.bd, _, rfl, S.bo, rfl, F, ar, rws, s, _, sz, rfl, S, he, fun H1 g1 => nx _ _ ⟨rfl, g1⟩⟩
    · rw [if_neg hf] at h1
      cases h1
      rw [decide_eq_false hf]
      exact iteF (nx _ _ ⟨rfl, S.go⟩)
  rintro σ H1 ⟨rfl, g1⟩
  have S1 := g1.st
  refine seq_join (fun σ H' => σ = [some (.ref F.bo), some (.int many)] ∧ ∃ ar1, Go C F ar rws H H' ar1 rws s2) ?_ ?_
  rotate_left
  · intro NX nx
    refine ⟨_, rfl, F.bo, F.bd, _, rfl, S1.bo, rfl, F, ar, rws, s1, rfl, S1, _, rfl, _, _, rfl, rfl, (⟨_, rfl, _, _, _, _, _, rfl, St.bo S1, Cs.bcl _, Cs.room _, rfl, _, _, _, _, _, rfl, St.ro S1, Cs.rcl _, C.old, rfl, ⟨_, _, rfl, rfl, _, rfl, ?_⟩⟩)⟩
    by_cases hf : filledW s1 + many > s1.old
    · rw [if_pos hf] at h2
      cases he : whole s1 with
      | none => rw [he] at h2; cases h2
      | some z =>
      obtain ⟨n1, sz⟩ := z
      rw [he] at h2
      cases h2
      rw [decide_eq_true hf]
      exact iteT ⟨_, rfl, F.bo, F.bd, _, rfl, S1.bo, rfl, F, ar, rws, s1, _, sz, rfl, S1, he, fun H1 ar1 g2 => nx _ _ ⟨rfl, ar1, g1.trans g2⟩⟩
    · rw [if_neg hf] at h2
      cases h2
      rw [decide_eq_false hf]
      exact iteF (nx _ _ ⟨rfl, ar, g1⟩)
  rintro σ H2 ⟨rfl, ar1, g2⟩
  have S2 := g2.st
  refine ⟨_, rfl, F.bo, F.bd, _, rfl, S2.bo, rfl, F, ar1, rws, s2, rfl, S2, _, rfl, _, _, rfl, rfl, (⟨_, rfl, _, _, _, _, _, rfl, St.bo S2, Cs.bcl _, Cs.room _, rfl, _, _, _, _, _, rfl, St.ro S2, Cs.rcl _, C.old, rfl, ⟨_, _, rfl, rfl, _, rfl, ?_⟩⟩)⟩
  by_cases hfull : filledW s2 + many > s2.old
  · rw [if_pos hfull] at hm
    cases hm
    rw [decide_eq_true hfull]
    exact iteT ⟨_, rfl, bad_ok fun d hd => qe rfl _ _ d g2 hd⟩
  rw [if_neg hfull] at hm
  rw [decide_eq_false hfull]
  refine iteF (go_next ?_)
  refine ⟨_, rfl, (⟨_, rfl, _, _, _, _, _, rfl, St.bo S2, Cs.bcl _, Cs.room _, rfl, _, _, _, _, _, rfl, St.ro S2, Cs.rcl _, C.young, rfl, ⟨_, _, rfl, rfl, ?_⟩⟩)⟩
  by_cases hy : many ≤ s2.young
  rotate_left
  · rw [if_neg (fun z => hy z.1)] at hm
    cases hm
    refine ⟨_, rfl, ?_⟩
    rw [decide_eq_false hy]
    exact iteF ⟨_, rfl, iteF (q rfl _ _ g2)⟩
  refine ⟨_, rfl, ?_⟩
  rw [decide_eq_true hy]
  refine iteT ((⟨_, rfl, _, _, _, _, _, rfl, St.bo S2, Cs.bcl _, C.top, rfl, ⟨_, rfl, _, _, rfl, rfl, _, _, rfl, rfl, _, rfl, ?_⟩⟩))
  by_cases hy2 : s2.young < s2.top + many
  · rw [if_pos ⟨hy, hy2⟩] at hm
    cases he : gather s2 with
    | none => rw [he] at hm; cases hm
    | some z =>
    obtain ⟨n1, sz⟩ := z
    rw [he] at hm
    cases hm
    rw [decide_eq_true hy2]
    exact iteT ⟨_, rfl, F.bo, F.bd, _, rfl, S2.bo, rfl, F, ar1, rws, s2, _, _, rfl, S2, he, fun H3 ar3 g3 => q rfl _ _ (g2.trans g3)⟩
  · rw [if_neg (fun z => hy2 z.2)] at hm
    cases hm
    rw [decide_eq_false hy2]
    exact iteF (q rfl _ _ g2)
end
end Wk
set_option maxRecDepth 100000
set_option maxHeartbeats 2000000
namespace Wk
open PySem L2 TL PyProof.Rows Hm
open SX (S S_len)
section
variable {P : Program} {w : World} {K : PySem.W.Frag} {mg : Str → Option Value} {base : Heap}
/-- a thing is made, or HeapFull is raised -/
def sp_hmake2 (C : Cs K) (BC : Addr) : Sp := fun vs H Q E => ∃ F ar rws s x k, ∃ (pi : Addr) (ias : List Addr) (its : List Hm.It), ∃ r s', vs = [.ref F.ho, .str (S (codes x)), .ref pi] ∧ SortIs x k ∧ St C H F ar rws s ∧
  H pi = some (.tup (ias.map V.ref)) ∧ ItsAt H ias its ∧ its.length ≤ 60000 ∧ its.all (itemOk s) = true ∧ s.rows.length < 100000 ∧ (∃ w0, worths s its = some w0 ∧ mayBe k w0 = true) ∧ Gc.make2 s k its = some (r, s') ∧
  (∀ n, r = some n → ∀ H' ar' rws', Go C F ar rws H H' ar' rws' s' → Q (.int n) H') ∧
  (r = none → ∀ H' ar' rws' d, Go C F ar rws H H' ar' rws' s' → H' d = none → E (.ref BC) (some d) (upd H' d (.xd [("taken", .int ((its.length : Int) + 2))])))
theorem ok_hmake2 (T : Txt K mg base) (T5 : Txt5 K w mg) (C : Cs K) (BC : Addr) {f : Addr} {fd : FuncData} (F : Fun K "make" "Heap.make" s_Heap__make f fd) (Mh_is_item : MD P w K mg base CX0 C.H "is_item" ["self", "thing"] 4 (sp_hisitem C)) (Mh_word_of_item : MD P w K mg base CX0 C.H "word_of_item" ["self", "item"] 1 (sp_hworth C)) (D_may_be : Def P w K mg base CX0 "may_be" ["sort", "found"] 4 sp_maybe) (Mb_reserve : MD P w K mg base (L2.CX P w) C.B "reserve" ["self", "many"] 7 (sp_breserve2 C BC)) (Mb_place : MD P w K mg base CX0 C.B "place" ["self", "sort", "found"] 5 (sp_bplace C)) (Mh_give_handle : MD P w K mg base CX0 C.H "give_handle" ["self", "word"] 1 (sp_hgive C)) : FnOk P w K mg base (L2.CX P w) 8 f fd ["self", "sort", "items"] (sp_hmake2 C BC) := by
  refine F.okX sc_Heap__make (fun vs H Q E h => ?_) (fun cdv A outer s H vs Q E hr h => ?_)
  · obtain ⟨_, _, _, _, _, _, _, _, _, _, _, rfl, _⟩ := h; rfl
  obtain ⟨F, ar, rws, s, x, k, pi, ias, its, r, s', rfl, hx, S, hpi, hia, hl, hc2, hc3, ⟨w0, hw0, hmb⟩, hm, q, qe⟩ := h
  refine ⟨_, (pss_cons (ps_if (PW.pt (pw_or (pt_not (pt_val (pe_callB call_isi rfl T.n_isinstance boot_isinstance (pa_cons (pv 1) (pa_cons (pe_bltn (v := .ty "str") rfl T.n_str boot_str rfl) pa_nil))))) (pw_or1 (pt_cmpR op_notIn_seq (pv 1) (pe_glob (v := .ref T5.aSORTS) rfl T5.mSORTS rfl) rfl)))) (pss_one ps_no) pss_nil)
    (pss_cons (ps_if (PW.pt (pw_or (pt_not (pt_val (pe_callB call_isi rfl T.n_isinstance boot_isinstance (pa_cons (pv 2) (pa_cons (pe_bltn (v := .ty "tuple") rfl T.n_tuple boot_tuple rfl) pa_nil))))) (pw_or1 (pt_not (pt_val (pe_callB (cr_all rfl) rfl T.n_all boot_all (pa_cons (pe_lc (own := [("item", 3)]) (g := gName 3) (tt := tYes) rfl sc_Heap__make.nd (pi_tup (pv 2)) (blkOk_by (N := ["self", "sort", "items", "item"]) (sc := defScope s_Heap__make) (by decide +kernel)) (fun _ _ _ _ _ => pg_name (i := 3) sc_Heap__make.nd rfl (Or.inl rfl)) (fun _ _ _ _ _ => pts_nil) (fun _ _ _ _ _ => (pe_meth (pv 0) C.hcl Mh_is_item.m Mh_is_item.ok (hr.mono (by omega)) Mh_is_item.b .nil pass0 (pa_cons (pv 3) pa_nil)))) pa_nil))))))) (pss_one ps_no) pss_nil)
    (pss_cons (ps_if (pt_not (pt_val (pe_call D_may_be.ok (hr.mono (by omega)) rfl D_may_be.g D_may_be.k D_may_be.b .nil pass0 (pa_cons (pv 1) (pa_cons (pe_lc (own := [("item", 3)]) (g := gName 3) (tt := tYes) rfl sc_Heap__make.nd (pi_tup (pv 2)) (blkOk_by (N := ["self", "sort", "items", "item"]) (sc := defScope s_Heap__make) (by decide +kernel)) (fun _ _ _ _ _ => pg_name (i := 3) sc_Heap__make.nd rfl (Or.inl rfl)) (fun _ _ _ _ _ => pts_nil) (fun _ _ _ _ _ => (pe_meth (pv 0) C.hcl Mh_word_of_item.m Mh_word_of_item.ok (hr.mono (by omega)) Mh_word_of_item.b .nil pass0 (pa_cons (pv 3) pa_nil)))) pa_nil))))) (pss_one ps_no) pss_nil)
    (pss_cons (ps_expr (pe_meth (pe_fld (pv 0) rfl) C.bcl Mb_reserve.m Mb_reserve.ok (hr.mono (by omega)) Mb_reserve.b .nil (passes_call (takes_of rfl rfl rfl rfl) (fun _ _ _ _ h => h)) (pa_cons (pe_op op_add (pe_callB call_len_seq rfl T.n_len boot_len (pa_cons (pv 2) pa_nil)) (pe_glob (v := .int 2) rfl T5.mAHEAD ⟨_, rfl⟩)) pa_nil)))
    (pss_one (ps_ret (pe_meth (pv 0) C.hcl Mh_give_handle.m Mh_give_handle.ok (hr.mono (by omega)) Mh_give_handle.b .nil pass0 (pa_cons (pe_meth (pe_fld (pv 0) rfl) C.bcl Mb_place.m Mb_place.ok (hr.mono (by omega)) Mb_place.b .nil pass0 (pa_cons (pv 1) (pa_cons (pe_lc (own := [("item", 3)]) (g := gName 3) (tt := tYes) rfl sc_Heap__make.nd (pi_tup (pv 2)) (blkOk_by (N := ["self", "sort", "items", "item"]) (sc := defScope s_Heap__make) (by decide +kernel)) (fun _ _ _ _ _ => pg_name (i := 3) sc_Heap__make.nd rfl (Or.inl rfl)) (fun _ _ _ _ _ => pts_nil) (fun _ _ _ _ _ => (pe_meth (pv 0) C.hcl Mh_word_of_item.m Mh_word_of_item.ok (hr.mono (by omega)) Mh_word_of_item.b .nil pass0 (pa_cons (pv 3) pa_nil)))) pa_nil))) pa_nil)))))))), ?_⟩
  have hz := line_eq
  unfold Gc.make2 at hm
  cases er : Gc.reserve2 s ((its.length : Int) + 2) with
  | none => rw [er] at hm; cases hm
  | some z =>
  obtain ⟨b, s1⟩ := z
  rw [er] at hm
  have hlen := hia.len
  -- isinstance(sort, str), sort not in SORTS
  refine ⟨_, rfl, _, .ty "str", .type "str", .type "str", true, rfl, .ty "str", .base (.str _), kit_ty (by decide +kernel), _, rfl, ?_⟩
  refine iteF ⟨_, rfl, _, _, rfl, .inr (T5.kSORTS H), rfl, rfl, _, rfl, ?_⟩
  rw [if_pos rfl, hx.inS]
  refine iteF (go_next ?_)
  -- isinstance(items, tuple), all(..)
  refine ⟨_, rfl, _, .ty "tuple", .type "tuple", .type "tuple", true, rfl, .ty "tuple", .base (.tup hpi), kit_ty (by decide +kernel), _, rfl, ?_⟩
  refine iteF ⟨_, rfl, pi, rfl, ⟨_, SqT.of hpi⟩, fun D hD => ?_⟩
  refine lc_tup (xs := ias.map V.ref) (fun i H' => Same H H' ∧ i ≤ ias.length ∧ H' D = some (.lst ((List.replicate i true).map V.bl))) ⟨same_new hD _, Nat.zero_le _, upd_same⟩ (fun i H' _ h => SqT.of (h.1 _ _ hpi)) ?_ ?_
  · rintro i v H' hv ⟨g, hi', hd⟩
    rw [List.getElem?_map] at hv
    cases et : ias[i]? with
    | none => rw [et] at hv; cases hv
    | some a =>
    rw [et] at hv
    cases hv
    have hlt : i < ias.length := (List.getElem?_eq_some_iff.mp et).1
    obtain ⟨it, e1, e2⟩ := hia.at et
    have eok : itemOk s it = true := List.all_eq_true.mp hc2 it (List.mem_of_getElem? e1)
    have S' := S.same g
    refine ⟨rfl, ?_⟩
    unfold tYes
    dsimp only
    rw [if_pos rfl]
    refine ⟨_, rfl, F.ho, F.hd, _, rfl, S'.ho, rfl, _, rfl, F, ar, rws, s, a, it, rfl, S', g _ _ e2, ?_⟩
    rw [eok]
    refine ⟨_, hd, (by rw [List.length_map, List.length_replicate]; omega), same_mut g hD _, hlt, ?_⟩
    rw [upd_same, List.replicate_succ', List.map_append]; rfl
  rintro H1 ⟨g1, _, hd1⟩
  refine ⟨D, _, rfl, SqL.of hd1, _, rfl, ?_⟩
  have eall : ((List.replicate ((ias.map V.ref).length) true).all id) = true := by simp
  rw [eall]
  refine iteF (go_next ?_)
  have S1 := S.same g1
  have hpi1 := g1 _ _ hpi
  have hia1 : ItsAt H1 ias its := hia.keep fun a xs e => g1 _ _ e
  -- may_be(sort, [..])
  refine ⟨_, rfl, _, rfl, pi, rfl, ⟨_, SqT.of hpi1⟩, fun D2 hD2 => ?_⟩
  refine worths_lc S1 hpi1 hia1 hw0 hl hD2 fun H2 g2 hd2 => ?_
  obtain ⟨hwl, _⟩ := worths_at hw0
  refine ⟨x, k, D2, w0, rfl, hx, hd2, by omega, fun H3 g3 => ⟨_, rfl, ?_⟩⟩
  rw [hmb]
  refine iteF (go_next ?_)
  have g03 := (g1.trans g2).trans g3
  have S3 := S.same g03
  have hpi3 := g03 _ _ hpi
  have hia3 : ItsAt H3 ias its := hia.keep fun a xs e => g03 _ _ e
  -- reserve
  refine (⟨_, rfl, _, _, _, _, _, rfl, St.ho S3, Cs.hcl _, C.store, rfl, ⟨F.bo, F.bd, _, rfl, S3.bo, rfl, _, rfl, pi, _, rfl, .inr (SqT.of hpi3), _, _, rfl, rfl, F, ar, rws, s, _, b, s1, (by rw [List.length_map, hlen]; rfl), S3, er, (fun hb H4 ar4 g4 => ?_), (fun hb H4 ar4 d g4 hd => ?_)⟩⟩)
  rotate_left
  · subst hb
    cases hm
    exact qe rfl _ _ _ _ ⟨g4.st, fun b u n e => g4.ch b u n (g03 _ _ e)⟩ hd
  subst hb
  dsimp only at hm
  cases hws : worths s1 its with
  | none => rw [hws] at hm; cases hm
  | some ws =>
  rw [hws] at hm
  dsimp only at hm
  cases hp2 : place s1 k ws with
  | none => rw [hp2] at hm; cases hm
  | some z2 =>
  obtain ⟨wd, s2⟩ := z2
  rw [hp2] at hm
  dsimp only at hm
  cases hg : give s2 wd with
  | none => rw [hg] at hm; cases hm
  | some z3 =>
  obtain ⟨n, s3⟩ := z3
  rw [hg] at hm
  cases hm
  have S4 := g4.st
  have tup4 : ∀ a xs, H3 a = some (.tup xs) → H4 a = some (.tup xs) := fun a xs e => (g4.ch a _ (S3.noTup e) e).2
  have hpi4 := tup4 _ _ hpi3
  have hia4 : ItsAt H4 ias its := hia3.keep tup4
  -- place
  dsimp only
  refine ⟨_, rfl, F.ho, F.hd, _, rfl, S4.ho, rfl, (⟨_, rfl, _, _, _, _, _, rfl, St.ho S4, Cs.hcl _, C.store, rfl, ⟨F.bo, F.bd, _, rfl, S4.bo, rfl, _, rfl, _, rfl, pi, rfl, ⟨_, SqT.of hpi4⟩, fun D5 hD5 => ?_⟩⟩)⟩
  refine worths_lc S4 hpi4 hia4 hws hl hD5 fun H5 g5 hd5 => ?_
  have S5 := S4.same g5
  have hno5 : ¬ Own F ar4 rws D5 := S4.off hD5
  obtain ⟨hwl2, _⟩ := worths_at hws
  refine ⟨F, ar4, rws, s1, x, k, D5, ws, wd, s2, rfl, hx, S5, hd5, hno5, by omega, hp2, fun H6 g6 => ?_⟩
  refine ⟨F, ar4, rws, s2, wd, n, _, rfl, g6.st, hg, fun H7 rws7 g7 => ?_⟩
  refine q _ rfl _ _ _ ⟨g7.st, ?_⟩
  refine ((Ch.trans (fun b u n e => ?_) g6.ch).trans g7.ch)
  obtain ⟨n4, e4⟩ := g4.ch b u n (g03 _ _ e)
  exact ⟨n4, g5 _ _ e4⟩
end
end Wk
set_option maxRecDepth 100000
set_option maxHeartbeats 2000000
namespace Wk
open PySem L2 TL PyProof.Rows Hm
open SX (S S_len)
section
variable {P : Program} {w : World} {K : PySem.W.Frag} {mg : Str → Option Value} {base : Heap}
/-- what a word is worth, as a pair -/
def woV : Gc.Wo → List V
  | .thing n => [.str (S (codes "thing")), .int n]
  | .word n => [.str (S (codes "word")), .int n]
abbrev s_worth_of : Stmt := top 44
theorem sc_worth_of : FnScope ["store", "word"] ["store", "word"] (defScope s_worth_of) := ⟨rfl, rfl, rfl, by decide +kernel, rfl, by decide +kernel, by decide +kernel⟩
def sp_worthof (C : Cs K) : Sp := fun vs H Q _ => ∃ F ar rws s wd x, vs = [.ref F.bo, .int wd] ∧ St C H F ar rws s ∧ Gc.worthOf s wd = some x ∧ ∀ p, H p = none → Q (.ref p) (upd H p (.tup (woV x)))
theorem ok_worthof (T : Txt K mg base) (C : Cs K) {f : Addr} {fd : FuncData} (F : Fun K "worth_of" "worth_of" s_worth_of f fd) (D_is_things : Def P w K mg base CX0 "is_things" ["word"] 1 sp_isthings) (Mb_settled : MD P w K mg base CX0 C.B "settled" ["self", "at"] 1 (sp_bsettled C)) (Mb_number_at : MD P w K mg base CX0 C.B "number_at" ["self", "at"] 1 (sp_bnumat C)) : FnOk P w K mg base CX0 2 f fd ["store", "word"] (sp_worthof C) := by
  refine F.ok sc_worth_of (fun vs H Q E h => ?_) (fun cdv A outer s H vs Q E hr h => ?_)
  · obtain ⟨_, _, _, _, _, _, rfl, _⟩ := h; rfl
  obtain ⟨F, ar, rws, s, wd, x, rfl, S, hm, q⟩ := h
  refine ⟨_, (pss_cons (ps_if (pt_val (pe_call D_is_things.ok (hr.mono (by omega)) rfl D_is_things.g D_is_things.k D_is_things.b .nil pass0 (pa_cons (pv 1) pa_nil))) (pss_one (ps_ret (pe_tup (pa_cons pe_str (pa_cons (pe_meth (pv 0) C.bcl Mb_number_at.m Mb_number_at.ok (hr.mono (by omega)) Mb_number_at.b .nil pass0 (pa_cons (pe_meth (pv 0) C.bcl Mb_settled.m Mb_settled.ok (hr.mono (by omega)) Mb_settled.b .nil pass0 (pa_cons (pe_op op_fdivW (pv 1) (pe_glob (v := .int 8) rfl T.mTAGS ⟨_, rfl⟩)) pa_nil)) pa_nil)) pa_nil))))) pss_nil)
    (pss_one (ps_ret (pe_tup (pa_cons pe_str (pa_cons (pv 1) pa_nil)))))), ?_⟩
  unfold Gc.worthOf at hm
  refine ⟨_, rfl, wd, rfl, _, rfl, ?_⟩
  cases ht : isT wd with
  | false =>
    rw [ht] at hm
    cases hm
    refine iteF (go_next ?_)
    exact ⟨_, rfl, (by rw [line_eq]; simp), fun p n => q p n⟩
  | true =>
    rw [ht, if_pos rfl] at hm
    split at hm
    · cases hm
    rename_i a e1
    split at hm
    · cases hm
    rename_i n e2
    cases hm
    refine iteT ⟨_, rfl, F.bo, F.bd, _, rfl, S.bo, rfl, _, rfl, F.bo, F.bd, _, rfl, S.bo, rfl, _, rfl, _, _, rfl, rfl, ⟨by decide, by decide⟩, F, ar, rws, s, _, a, rfl, S, e1, F, ar, rws, s, a, n, rfl, S, e2, (by rw [line_eq]; simp), fun p n => q p n⟩
end
end Wk
set_option maxRecDepth 100000
set_option maxHeartbeats 2000000
namespace Wk
open PySem L2 TL PyProof.Rows Hm
open SX (S S_len)
/-! ### data of ints, texts and tuples -/
/-- tuples stay -/
def Tk (H H' : Hp) : Prop := ∀ b xs, H b = some (.tup xs) → H' b = some (.tup xs)
theorem Tk.refl {H : Hp} : Tk H H := fun _ _ h => h
theorem Tk.trans {H H1 H2 : Hp} (a : Tk H H1) (b : Tk H1 H2) : Tk H H2 := fun x xs h => b x xs (a x xs h)
theorem tk_same {H H' : Hp} (g : Same H H') : Tk H H' := fun _ _ h => g _ _ h
theorem tk_new {H : Hp} {p : Addr} (h : H p = none) (o : HO) : Tk H (upd H p o) := tk_same (same_new h o)
theorem tk_lst {H : Hp} {p : Addr} {xs : List V} (h : H p = some (.lst xs)) (o : HO) : Tk H (upd H p o) := fun b ys e => by
  rw [upd_ne (fun z => by rw [z, h] at e; cases e)]; exact e
mutual
def Dt (H : Hp) : V → PyData → Prop
  | v, .int i => v = .int i
  | v, .str x => v = .str x
  | v, .tuple ds => ∃ p vs, v = .ref p ∧ H p = some (.tup vs) ∧ DtAll H vs ds
  | _, _ => False
def DtAll (H : Hp) : List V → List PyData → Prop
  | [], [] => True
  | v :: vs, d :: ds => Dt H v d ∧ DtAll H vs ds
  | _, _ => False
end
mutual
theorem Dt.tk {H H' : Hp} (g : Tk H H') : ∀ (d : PyData) (v : V), Dt H v d → Dt H' v d
  | .int i, v, h => h
  | .str x, v, h => h
  | .tuple ds, v, h => by
    obtain ⟨p, vs, e, h1, h2⟩ := h
    exact ⟨p, vs, e, g _ _ h1, DtAll.tk g ds vs h2⟩
  | .none, v, h => h.elim
  | .bool _, v, h => h.elim
  | .list _, v, h => h.elim
  | .dict _, v, h => h.elim
theorem DtAll.tk {H H' : Hp} (g : Tk H H') : ∀ (ds : List PyData) (vs : List V), DtAll H vs ds → DtAll H' vs ds
  | [], [], h => h
  | [], _ :: _, h => h.elim
  | _ :: _, [], h => h.elim
  | d :: ds, v :: vs, h => ⟨Dt.tk g d v h.1, DtAll.tk g ds vs h.2⟩
end
mutual
theorem Dt.dp {K : PySem.W.Frag} {H : Hp} : ∀ (d : PyData) (v : V), Dt H v d → Dp K H v d
  | .int i, v, h => by rw [show v = .int i from h]; exact .int i
  | .str x, v, h => by rw [show v = .str x from h]; exact .str x
  | .tuple ds, v, h => by
    obtain ⟨p, vs, e, h1, h2⟩ := h
    rw [e]
    exact .tup (SqT.of h1) (DtAll.dp ds vs h2)
  | .none, v, h => h.elim
  | .bool _, v, h => h.elim
  | .list _, v, h => h.elim
  | .dict _, v, h => h.elim
theorem DtAll.dp {K : PySem.W.Frag} {H : Hp} : ∀ (ds : List PyData) (vs : List V), DtAll H vs ds → DpAll K H vs ds
  | [], [], _ => .nil
  | [], _ :: _, h => h.elim
  | _ :: _, [], h => h.elim
  | d :: ds, v :: vs, h => .cons (Dt.dp d v h.1) (DtAll.dp ds vs h.2)
end
theorem DtAll.snoc {H : Hp} {v : V} {d : PyData} (h : Dt H v d) : ∀ {vs : List V} {ds : List PyData}, DtAll H vs ds → DtAll H (vs ++ [v]) (ds ++ [d])
  | [], [], _ => ⟨h, trivial⟩
  | [], _ :: _, g => g.elim
  | _ :: _, [], g => g.elim
  | _ :: _, _ :: _, g => ⟨g.1, g.2.snoc h⟩
theorem Dt.tup {H : Hp} {p : Addr} {vs : List V} {ds : List PyData} (h : H p = some (.tup vs)) (g : DtAll H vs ds) : Dt H (.ref p) (.tuple ds) := ⟨p, vs, rfl, h, g⟩
/-- data that is well formed, so deep, so heavy -/
structure Gdd (n wt : Nat) (d : PyData) : Prop where
  c : d.canLay0 = true
  dp : d.depth ≤ n
  sh : d.showable = true
  nd : d.hasDict = false
  sm : d.intsShort 60 = true
  wt : d.weight ≤ wt
theorem Gdd.le {n m a b : Nat} {d : PyData} (h : Gdd n a d) (h1 : n ≤ m) (h2 : a ≤ b) : Gdd m b d := ⟨h.c, Nat.le_trans h.dp h1, h.sh, h.nd, h.sm, Nat.le_trans h.wt h2⟩
theorem gdd_all {n wt : Nat} : ∀ {ds : List PyData}, (∀ d ∈ ds, Gdd n wt d) → PyData.canLayAll0 ds = true ∧ PyData.depthAll ds ≤ n ∧ PyData.showableAll ds = true ∧ PyData.hasDictAll ds = false ∧ PyData.intsShortAll 60 ds = true ∧ PyData.weightAll ds ≤ ds.length * (wt + 1)
  | [], _ => ⟨rfl, Nat.zero_le _, rfl, rfl, rfl, Nat.zero_le _⟩
  | d :: ds, h => by
    obtain ⟨a1, a2, a3, a4, a5, a6⟩ := gdd_all (ds := ds) fun x hx => h x (List.mem_cons_of_mem _ hx)
    obtain ⟨b1, b2, b3, b4, b5, b6⟩ := h d List.mem_cons_self
    refine ⟨by rw [PyData.canLayAll0, a1, b1]; rfl, by rw [PyData.depthAll]; omega, by rw [PyData.showableAll, a3, b3]; rfl, by rw [PyData.hasDictAll, a4, b4]; rfl, by rw [PyData.intsShortAll, a5, b5]; rfl, ?_⟩
    rw [PyData.weightAll, List.length_cons, Nat.add_mul]; omega
theorem Gdd.tup {n wt k : Nat} {ds : List PyData} (h : ∀ d ∈ ds, Gdd n wt d) (hl : ds.length ≤ k) : Gdd (n + 1) (k * (wt + 1)) (.tuple ds) := by
  obtain ⟨a1, a2, a3, a4, a5, a6⟩ := gdd_all h
  exact ⟨by rw [PyData.canLay0, a1], by rw [PyData.depth]; omega, by rw [PyData.showable, a3], by rw [PyData.hasDict, a4], by rw [PyData.intsShort, a5], by rw [PyData.weight]; exact Nat.le_trans a6 (Nat.mul_le_mul_right _ hl)⟩
theorem Gdd.lst {n wt k : Nat} {ds : List PyData} (h : ∀ d ∈ ds, Gdd n wt d) (hl : ds.length ≤ k) : Gdd (n + 1) (k * (wt + 1)) (.list ds) := by
  obtain ⟨a1, a2, a3, a4, a5, a6⟩ := gdd_all h
  exact ⟨by rw [PyData.canLay0, a1], by rw [PyData.depth]; omega, by rw [PyData.showable, a3], by rw [PyData.hasDict, a4], by rw [PyData.intsShort, a5], by rw [PyData.weight]; exact Nat.le_trans a6 (Nat.mul_le_mul_right _ hl)⟩
def Sma (i : Int) : Prop := i.natAbs < 10 ^ 45
theorem sma_of {i : Int} (h1 : -(2 ^ 100) ≤ i) (h2 : i ≤ 2 ^ 100) : Sma i := by
  unfold Sma
  have e : (2 : Int) ^ 100 = 1267650600228229401496703205376 := by decide
  have e2 : (10 : Nat) ^ 45 = 1000000000000000000000000000000000000000000000 := by decide
  rw [e] at h1 h2; rw [e2]; omega
theorem Gdd.int {i : Int} (h : Sma i) : Gdd 0 150 (.int i) := by
  have e : (PyData.shown (.int i)).length = (toString i).length := by
    show (Str.ofString (toString i)).length = _
    exact PySem.ofString_length _
  have l := int_text_length_le10 (a := i) (k := 45) (by decide) h
  have h' : i.natAbs < 2 ^ 150 := Nat.lt_of_lt_of_le h (by decide +kernel)
  refine ⟨rfl, Nat.le_refl _, ?_, rfl, ?_, ?_⟩
  · rw [PyData.showable]
    have h' : i.natAbs < 2 ^ 1920 := Nat.lt_of_lt_of_le h (by decide +kernel)
    by_cases e : i.natAbs = 0
    · rw [e]; decide
    · exact decide_eq_true ((Nat.log2_lt e).mpr h')
  · rw [PyData.intsShort]; exact decide_eq_true (by omega)
  · rw [PyData.weight]
    by_cases e : i = 0
    · rw [e]; decide
    · have := (Nat.log2_lt (show i.natAbs ≠ 0 by omega)).mpr h'
      split <;> omega
structure Okv (d : PyData) : Prop where
  h1 : SeqAt.shaped d = true
  h2 : d.showable = true
  h3 : d.hasDict = false
  h4 : d.depth ≤ 60
  h5 : d.shown.length ≤ sizeLine
theorem Gdd.ok {n wt : Nat} {d : PyData} (h : Gdd n wt d) (hn : n ≤ 60) (hw : wt ≤ 250000) : Okv d := by
  obtain ⟨a1, a2, a3, a4, a5, a6⟩ := h
  refine ⟨?_, a3, a4, by omega, ?_⟩
  · unfold SeqAt.shaped
    rw [a1, decide_eq_true (by omega)]; rfl
  · have := PyData.shown_le 60 (by decide) d (PyData.leavesShort_of_canLay0 60 d a1 a5)
    have e := sizeLine_eq
    omega
/-! ### what a heap means, as data -/
def woP : Gc.Wo → PyData
  | .thing n => .tuple [.str (S (codes "thing")), .int n]
  | .word n => .tuple [.str (S (codes "word")), .int n]
def hP (q : Int × Gc.Wo) : PyData := .tuple [.int q.1, woP q.2]
def sortS (k : Int) : PyData := .str (S (codes (sortL.getD k.toNat "text")))
def thP (G : Gc.Gr) (n : Int) : PyData := .tuple [.int n, sortS (G n).1, .tuple ((G n).2.map woP)]
def mnP (hs : List (Int × Gc.Wo)) (G : Gc.Gr) (ys : List Int) : PyData := .tuple [.tuple (hs.map hP), .tuple (ys.map (thP G))]
theorem dt_wo {H : Hp} {p : Addr} {x : Gc.Wo} (h : H p = some (.tup (woV x))) : Dt H (.ref p) (woP x) := by
  cases x with
  | thing n => exact ⟨p, _, rfl, h, rfl, rfl, trivial⟩
  | word n => exact ⟨p, _, rfl, h, rfl, rfl, trivial⟩
/-- what lies at an address means what g tells -/
def ThingAt (s : Bd) (a : Int) (g : Int × List Gc.Wo) : Prop := ∃ hd part, gI s.words a = some hd ∧ gS s.words (a + 2) (a + 2 + hd / 8) = some part ∧ hd % 8 = g.1 ∧ hd % 8 ≤ 5 ∧ Gc.worthsOf s part = some g.2
theorem worthsOf_at {s : Bd} : ∀ {ws : List Int} {xs : List Gc.Wo}, Gc.worthsOf s ws = some xs → xs.length = ws.length ∧ ∀ (i : Nat) (w : Int), ws[i]? = some w → ∃ x, xs[i]? = some x ∧ Gc.worthOf s w = some x
  | [], xs, h => by cases h; exact ⟨rfl, fun i w e => by simp at e⟩
  | w :: ws, xs, h => by
    rw [Gc.worthsOf] at h
    split at h
    · rename_i a b e1 e2
      cases h
      obtain ⟨l, m⟩ := worthsOf_at e2
      refine ⟨by simp [l], fun i v e => ?_⟩
      cases i with
      | zero => cases e; exact ⟨a, rfl, e1⟩
      | succ i => exact m i v e
    · cases h
end Wk
set_option maxRecDepth 100000
set_option maxHeartbeats 2000000
namespace Wk
open PySem L2 TL PyProof.Rows Hm
open SX (S S_len)
theorem none_back {H H' : Hp} {p : Addr} (g : Same H H') (h : H' p = none) : H p = none := by
  cases e : H p with
  | none => rfl
  | some u => rw [g _ _ e] at h; cases h
theorem fnd_get {H : Hp} {d : Addr} {n a : Int} {found : List (Int × Int)} (hd : H d = some (.dK (fndD found))) (h : look found n = some a) : DGet H d (.int n) (some (.int a)) := by
  have e : valV (fndD found) (.inl n : Key) = some (.int a) := by
    clear hd
    induction found with
    | nil => cases h
    | cons q r ih =>
      obtain ⟨k, b⟩ := q
      rw [look] at h
      unfold fndD
      rw [List.map_cons]
      by_cases c : k = n
      · rw [if_pos c] at h
        cases h
        rw [valV_pos (by show (Sum.inl k : Key) = _; rw [c])]
      · rw [if_neg c] at h
        rw [valV_neg (fun z => c (Sum.inl.inj z))]
        exact ih h
  rw [← e]
  exact DGet.k (k := Sum.inl n) hd
theorem look_mem {n : Int} : ∀ {found : List (Int × Int)}, n ∈ found.map Prod.fst → ∃ a, look found n = some a ∧ (n, a) ∈ found
  | [], h => by cases h
  | (k, b) :: r, h => by
    rw [look]
    by_cases c : k = n
    · rw [if_pos c]; exact ⟨b, rfl, by rw [← c]; exact List.mem_cons_self⟩
    · rw [if_neg c]
      rw [List.map_cons, List.mem_cons] at h
      rcases h with e | h
      · exact absurd e.symm c
      · obtain ⟨a, e1, e2⟩ := look_mem h
        exact ⟨a, e1, List.mem_cons_of_mem _ e2⟩
section
variable {P : Program} {w : World} {K : PySem.W.Frag} {mg : Str → Option Value} {base : Heap}
abbrev s_meaning_from : Stmt := top 45
theorem sc_meaning_from : FnScope ["store", "roots", "held", "found", "things", "number", "at", "worths", "handle", "word", "_"] ["store", "roots"] (defScope s_meaning_from) := ⟨rfl, rfl, rfl, by decide +kernel, rfl, by decide +kernel, by decide +kernel⟩
def sp_meanfrom (C : Cs K) : Sp := fun vs H Q _ => ∃ F ar rws s pr ts hs bs found G, vs = [.ref F.bo, .ref pr] ∧ St C H F ar rws s ∧ H pr = some (.tup (ts.map V.ref)) ∧ PairsAt H ts s.rows ∧ hs.length = s.rows.length ∧ (∀ (i : Nat) h wd, s.rows[i]? = some (h, wd) → ∃ x, hs[i]? = some (h, x) ∧ Gc.worthOf s wd = some x) ∧
  Hm.addrs s (s.rows.map Prod.snd) = some bs ∧ comeGo true s 1000000 bs.reverse [] = some found ∧ found.length < 64 ∧ (∀ q ∈ found, ThingAt s q.2 (G q.1)) ∧
  ∀ H' p ys, Same H H' → ys.Perm (found.map Prod.fst) → ys.Pairwise (· ≤ ·) → Dt H' (.ref p) (mnP hs G ys) → Q (.ref p) H'
theorem ok_meanfrom (T : Txt K mg base) (C : Cs K) {f : Addr} {fd : FuncData} (F : Fun K "meaning_from" "meaning_from" s_meaning_from f fd) (D_worth_of : Def P w K mg base CX0 "worth_of" ["store", "word"] 2 (sp_worthof C)) (D_come_to : Def P w K mg base CX0 "come_to" ["store", "begins", "is_tie_followed"] 3 (sp_cometo C)) (Mb_words_at : MD P w K mg base CX0 C.B "words_at" ["self", "at"] 1 (sp_bwordsat C)) (Mb_sort_at : MD P w K mg base CX0 C.B "sort_at" ["self", "at"] 1 (sp_bsortat C)) : FnOk P w K mg base CX0 4 f fd ["store", "roots"] (sp_meanfrom C) := by
  refine F.ok sc_meaning_from (fun vs H Q E h => ?_) (fun cdv A outer s H vs Q E hr h => ?_)
  · obtain ⟨_, _, _, _, _, _, _, _, _, _, rfl, _⟩ := h; rfl
  obtain ⟨F, ar, rws, s, pr, ts, hs, bs, found, G, rfl, S, hpr, hpa, hhl, hrow, hb, hf, hfl, hth, q⟩ := h
  refine ⟨_, (pss_cons (ps_set (i := 2) sc_meaning_from.nd rfl (Or.inl rfl) (pe_tupleOf rfl T.n_tuple (pe_lc (own := [("handle", 8), ("word", 9)]) (g := gTup K 2 (gCons (gName 8) (gCons (gName 9) gNil))) (tt := tYes) rfl sc_meaning_from.nd (pi_tup (pv 1)) (blkOk_by (N := ["store", "roots", "held", "found", "things", "number", "at", "worths", "handle", "word", "_"]) (sc := defScope s_meaning_from) (by decide +kernel)) (fun _ _ _ _ _ => (pg_tup rfl (pgs_cons (pg_name (i := 8) sc_meaning_from.nd rfl (Or.inl rfl)) (pgs_cons (pg_name (i := 9) sc_meaning_from.nd rfl (Or.inl rfl)) pgs_nil)))) (fun _ _ _ _ _ => pts_nil) (fun _ _ _ _ _ => (pe_tup (pa_cons (pv 8) (pa_cons (pe_call D_worth_of.ok (hr.mono (by omega)) rfl D_worth_of.g D_worth_of.k D_worth_of.b .nil pass0 (pa_cons (pv 0) (pa_cons (pv 9) pa_nil))) pa_nil)))))))
    (pss_cons (ps_set (i := 3) sc_meaning_from.nd rfl (Or.inl rfl) (pe_call D_come_to.ok (hr.mono (by omega)) rfl D_come_to.g D_come_to.k D_come_to.b .nil pass0 (pa_cons (pv 0) (pa_cons (pe_lc (own := [("_", 10), ("word", 9)]) (g := gTup K 2 (gCons (gName 10) (gCons (gName 9) gNil))) (tt := tYes) rfl sc_meaning_from.nd (pi_tup (pv 1)) (blkOk_by (N := ["store", "roots", "held", "found", "things", "number", "at", "worths", "handle", "word", "_"]) (sc := defScope s_meaning_from) (by decide +kernel)) (fun _ _ _ _ _ => (pg_tup rfl (pgs_cons (pg_name (i := 10) sc_meaning_from.nd rfl (Or.inl rfl)) (pgs_cons (pg_name (i := 9) sc_meaning_from.nd rfl (Or.inl rfl)) pgs_nil)))) (fun _ _ _ _ _ => pts_nil) (fun _ _ _ _ _ => (pv 9))) (pa_cons pe_bl pa_nil)))))
    (pss_cons (ps_set (i := 4) sc_meaning_from.nd rfl (Or.inl rfl) (pe_lst pa_nil))
    (pss_cons (ps_for PassesOwn.never rfl (pi_list (pe_callB (call_sortedDI rfl) rfl T.n_sorted (by decide +kernel) (pa_cons (pv 3) pa_nil))) (pg_name (i := 5) sc_meaning_from.nd rfl (Or.inl rfl)) (pss_cons (ps_set (i := 6) sc_meaning_from.nd rfl (Or.inl rfl) (pe_dget (hu1 hr) (pv 3) (pv 5) (fun _ _ => rfl)))
      (pss_cons (ps_set (i := 7) sc_meaning_from.nd rfl (Or.inl rfl) (pe_tupleOf rfl T.n_tuple (pe_lc (own := [("word", 9)]) (g := gName 9) (tt := tYes) rfl sc_meaning_from.nd (pi_list (pe_meth (pv 0) C.bcl Mb_words_at.m Mb_words_at.ok (hr.mono (by omega)) Mb_words_at.b .nil pass0 (pa_cons (pv 6) pa_nil))) (blkOk_by (N := ["store", "roots", "held", "found", "things", "number", "at", "worths", "handle", "word", "_"]) (sc := defScope s_meaning_from) (by decide +kernel)) (fun _ _ _ _ _ => pg_name (i := 9) sc_meaning_from.nd rfl (Or.inl rfl)) (fun _ _ _ _ _ => pts_nil) (fun _ _ _ _ _ => (pe_call D_worth_of.ok (hr.mono (by omega)) rfl D_worth_of.g D_worth_of.k D_worth_of.b .nil pass0 (pa_cons (pv 0) (pa_cons (pv 9) pa_nil)))))))
      (pss_one (ps_expr (pe_bm PySem.F.plainAttrs_list PySem.F.slot_list_append PySem.F.type_list_append mt_append (pv 4) (pa_cons (pe_tup (pa_cons (pv 5) (pa_cons (pe_meth (pv 0) C.bcl Mb_sort_at.m Mb_sort_at.ok (hr.mono (by omega)) Mb_sort_at.b .nil pass0 (pa_cons (pv 6) pa_nil)) (pa_cons (pv 7) pa_nil)))) pa_nil)))))))
    (pss_one (ps_ret (pe_tup (pa_cons (pv 2) (pa_cons (pe_tupleOf rfl T.n_tuple (pv 4)) pa_nil))))))))), ?_⟩
  have hz := line_eq
  have hlen := hpa.len
  have hz2 := S.z2
  generalize hσ : L2.start _ _ = σ0
  have hσ : σ0 = [some (.ref F.bo), some (.ref pr), none, none, none, none, none, none, none, none, none] := hσ.symm
  subst hσ
  -- held
  refine seq_set ⟨_, rfl, pr, rfl, ⟨_, SqT.of hpr⟩, fun D hD => ?_⟩
  refine lc_tup (xs := ts.map V.ref) (fun i H' => Same H H' ∧ i ≤ ts.length ∧ ∃ as : List V, H' D = some (.lst as) ∧ as.length = i ∧ DtAll H' as ((hs.take i).map hP)) ⟨same_new hD _, Nat.zero_le _, [], upd_same, rfl, trivial⟩ (fun i H' _ h => SqT.of (h.1 _ _ hpr)) ?_ ?_
  · rintro i v H' hv ⟨g, hi, as, hd, hal, hdt⟩
    rw [List.getElem?_map] at hv
    cases et : ts[i]? with
    | none => rw [et] at hv; cases hv
    | some t =>
    rw [et] at hv
    cases hv
    have hlt : i < ts.length := (List.getElem?_eq_some_iff.mp et).1
    obtain ⟨⟨h, wd⟩, eq1, eq2⟩ := hpa.at et
    obtain ⟨x, ex1, ex2⟩ := hrow i h wd eq1
    have S' := S.same g
    refine ⟨t, _, rfl, SqT.of (g _ _ eq2), rfl, _, _, rfl, _, _, rfl, rfl, ?_⟩
    refine ⟨rfl, ?_⟩
    unfold tYes
    dsimp only
    rw [if_pos rfl]
    refine ⟨_, rfl, _, rfl, _, rfl, F, ar, rws, s, wd, x, rfl, S', ex2, fun pw npw => ?_⟩
    have g1 := same_new npw (.tup (woV x))
    have hpw : (upd H' pw (.tup (woV x))) pw = some (.tup (woV x)) := upd_same
    have hd1 := g1 _ _ hd
    have hdt1 := hdt.tk (tk_same g1)
    have gg := g.trans g1
    generalize upd H' pw (.tup (woV x)) = H1 at g1 hpw hd1 hdt1 gg ⊢
    refine ⟨(by show 2 ≤ sizeLine; rw [hz]; decide), fun pt npt => ?_⟩
    have g2 := same_new npt (.tup [V.int h, V.ref pw])
    have hpt : (upd H1 pt (.tup [V.int h, V.ref pw])) pt = some (.tup [V.int h, V.ref pw]) := upd_same
    have hpw2 := g2 _ _ hpw
    have hd2 := g2 _ _ hd1
    have hdt2 := hdt1.tk (tk_same g2)
    have gg2 := gg.trans g2
    generalize upd H1 pt (.tup [V.int h, V.ref pw]) = H2 at g2 hpt hpw2 hd2 hdt2 gg2 ⊢
    refine ⟨as, hd2, (by omega), same_mut gg2 hD _, hlt, as ++ [.ref pt], upd_same, (by rw [List.length_append, hal]; rfl), ?_⟩
    rw [take_app ex1, List.map_append]
    refine DtAll.snoc ?_ (DtAll.tk (tk_lst hd2 _) _ _ hdt2)
    exact Dt.tk (tk_lst hd2 _) _ _ (Dt.tup hpt ⟨rfl, dt_wo hpw2, trivial⟩)
  rintro H1 ⟨g1, _, as, hd1, hal1, hdt1⟩
  rw [List.length_map, hlen, ← hhl, List.take_length] at hdt1
  rw [List.length_map] at hal1
  refine .inl ⟨D, _, rfl, SqL.of hd1, fun p1 np1 => ?_⟩
  have g2 := same_to g1 np1 (.tup as)
  have hp1 : (upd H1 p1 (.tup as)) p1 = some (.tup as) := upd_same
  have hdt2 := DtAll.tk (tk_new np1 (.tup as)) _ _ hdt1
  generalize upd H1 p1 (.tup as) = H2 at g2 hp1 hdt2 ⊢
  have dheld : Dt H2 (.ref p1) (.tuple (hs.map hP)) := Dt.tup hp1 hdt2
  clear hd1 hdt1 g1 hp1 hdt2
  dsimp only [List.set]
  -- found
  refine seq_set ⟨_, rfl, _, rfl, pr, rfl, ⟨_, SqT.of (g2 _ _ hpr)⟩, fun D2 hD2 => ?_⟩
  have hpr2 := g2 _ _ hpr
  have hpa2 : PairsAt H2 ts s.rows := hpa.keep fun t _ xs e => g2 _ _ e
  refine lc_tup (xs := ts.map V.ref) (fun i H' => Same H2 H' ∧ i ≤ ts.length ∧ H' D2 = some (.lst (((s.rows.take i).map Prod.snd).map V.int))) ⟨same_new hD2 _, Nat.zero_le _, upd_same⟩ (fun i H' _ h => SqT.of (h.1 _ _ hpr2)) ?_ ?_
  · rintro i v H' hv ⟨g, hi, hd⟩
    rw [List.getElem?_map] at hv
    cases et : ts[i]? with
    | none => rw [et] at hv; cases hv
    | some t =>
    rw [et] at hv
    cases hv
    have hlt : i < ts.length := (List.getElem?_eq_some_iff.mp et).1
    obtain ⟨qq, eq1, eq2⟩ := hpa2.at et
    refine ⟨t, _, rfl, SqT.of (g _ _ eq2), rfl, _, _, rfl, _, _, rfl, rfl, ?_⟩
    refine ⟨rfl, ?_⟩
    unfold tYes
    dsimp only
    rw [if_pos rfl]
    refine ⟨_, rfl, _, hd, (by rw [List.length_map, List.length_map, List.length_take]; omega), same_mut g hD2 _, hlt, ?_⟩
    rw [upd_same, take_app eq1, List.map_append, List.map_append]; rfl
  rintro H3 ⟨g3, _, hd3⟩
  rw [List.length_map, hlen, List.take_length] at hd3
  refine ⟨F, ar, rws, s, D2, s.rows.map Prod.snd, true, bs, found, rfl, S.same (g2.trans g3), hd3, (by rw [List.length_map]; omega), hb, hf, fun H4 pf g4 npf hpf => ?_⟩
  have gg := (g2.trans g3).trans g4
  have dheld4 := Dt.tk (tk_same (g3.trans g4)) _ _ dheld
  dsimp only [List.set]
  -- things
  refine seq_set ⟨Nat.zero_le _, fun pt npt => ?_⟩
  have g5 := gg.trans (same_new npt (.lst []))
  have hpt : (upd H4 pt (.lst [])) pt = some (.lst []) := upd_same
  have hpf5 := same_new npt (.lst []) _ _ hpf
  have dheld5 := Dt.tk (tk_new npt (.lst [])) _ _ dheld4
  have nptH := none_back gg npt
  generalize upd H4 pt (.lst []) = H5 at g5 hpt hpf5 dheld5 ⊢
  dsimp only [List.set]
  refine seq_join (fun σ H' => ∃ (x5 x6 x7 x8 x9 x10 : Option V) (ys : List Int) (as : List V), σ = [some (.ref F.bo), some (.ref pr), some (.ref p1), some (.ref pf), some (.ref pt), x5, x6, x7, x8, x9, x10] ∧ Same H H' ∧ Dt H' (.ref p1) (.tuple (hs.map hP)) ∧ H' pt = some (.lst as) ∧ as.length ≤ 100 ∧ DtAll H' as (ys.map (thP G)) ∧ ys.Perm (found.map Prod.fst) ∧ ys.Pairwise (· ≤ ·)) ?_ ?_
  · rintro σ H' ⟨x5, x6, x7, x8, x9, x10, ys, as, rfl, g, dh, hpt, hal, hdt, hp, hw⟩
    refine ⟨_, rfl, _, rfl, .inl ⟨pt, _, rfl, SqL.of hpt, fun p2 np2 => ?_⟩⟩
    have gA := g.trans (same_new np2 (.tup as))
    have hp2 : (upd H' p2 (.tup as)) p2 = some (.tup as) := upd_same
    have dh2 := Dt.tk (tk_new np2 (.tup as)) _ _ dh
    have hdt2 := DtAll.tk (tk_new np2 (.tup as)) _ _ hdt
    generalize upd H' p2 (.tup as) = H6 at gA hp2 dh2 hdt2 ⊢
    refine ⟨(by show 2 ≤ sizeLine; rw [hz]; decide), fun p3 np3 => ?_⟩
    refine q _ p3 ys (gA.trans (same_new np3 _)) hp hw ?_
    refine Dt.tup upd_same ⟨Dt.tk (tk_new np3 _) _ _ dh2, Dt.tk (tk_new np3 _) _ _ (Dt.tup hp2 hdt2), trivial⟩
  intro NX nx
  refine ⟨_, rfl, pf, _, found.map Prod.fst, rfl, .inl hpf5, (by unfold fndD; rw [List.map_map, List.map_map]; rfl), (by rw [List.length_map]; exact hfl), fun ys py hperm hpw npy => ?_⟩
  have hyl : ys.length = found.length := by rw [hperm.length_eq, List.length_map]
  have g6 := g5.trans (same_new npy (.lst (ys.map V.int)))
  have hpy : (upd H5 py (.lst (ys.map V.int))) py = some (.lst (ys.map V.int)) := upd_same
  have hpt6 := same_new npy (.lst (ys.map V.int)) _ _ hpt
  have hpf6 := same_new npy (.lst (ys.map V.int)) _ _ hpf5
  have dheld6 := Dt.tk (tk_new npy (.lst (ys.map V.int))) _ _ dheld5
  have hny : pt ≠ py := ne_of_none hpt npy
  have hnf : pf ≠ pt := fun z => by rw [z, hpt] at hpf5; cases hpf5
  generalize upd H5 py (.lst (ys.map V.int)) = H6 at g6 hpy hpt6 hpf6 dheld6 ⊢
  refine ⟨py, rfl, ⟨_, SqL.of hpy⟩, ?_⟩
  refine for_list (D := { nx := NX, rt := Q }) (xs := ys.map V.int) (fun i σ H' => ∃ (x5 x6 x7 x8 x9 x10 : Option V) (as : List V), σ = [some (.ref F.bo), some (.ref pr), some (.ref p1), some (.ref pf), some (.ref pt), x5, x6, x7, x8, x9, x10] ∧ Same H H' ∧ Dt H' (.ref p1) (.tuple (hs.map hP)) ∧ H' pt = some (.lst as) ∧ H' pf = some (.dK (fndD found)) ∧ H' py = some (.lst (ys.map V.int)) ∧ as.length = i ∧ i ≤ ys.length ∧ DtAll H' as ((ys.take i).map (thP G))) ⟨_, _, _, _, _, _, [], rfl, g6, dheld6, hpt6, hpf6, hpy, rfl, Nat.zero_le _, trivial⟩ (fun i σ H' _ h => by obtain ⟨_, _, _, _, _, _, _, _, _, _, _, _, h, _⟩ := h; exact SqL.of h) ?_ ?_
  · rintro i v σ H' hv ⟨x5, x6, x7, x8, x9, x10, as, rfl, g, dh, hpt, hpf, hpy, hal, hi, hdt⟩
    obtain ⟨n, ey, rfl, _⟩ := ints_at hv
    have hlt : i < ys.length := (List.getElem?_eq_some_iff.mp ey).1
    have hmem : n ∈ found.map Prod.fst := hperm.mem_iff.mp (List.mem_of_getElem? ey)
    obtain ⟨a, hla, hma⟩ := look_mem hmem
    obtain ⟨hd, part, eh, ep, e8, e5, ew⟩ := hth _ hma
    obtain ⟨k, x, ek, hx⟩ := sort_of e5
    obtain ⟨c1, c2, c3, c4, c5⟩ := gS_cut ep
    have hz1 := S.z1
    obtain ⟨hwl, hwat⟩ := worthsOf_at ew
    show tSeq _ _ _ [some (.ref F.bo), some (.ref pr), some (.ref p1), some (.ref pf), some (.ref pt), some (.int n), x6, x7, x8, x9, x10] H'
    refine seq_set ⟨_, rfl, _, rfl, pf, _, rfl, fnd_get hpf hla, ?_⟩
    dsimp only [List.set]
    have S' := S.same g
    refine seq_set ⟨_, rfl, F.bo, F.bd, _, rfl, S'.bo, rfl, _, rfl, F, ar, rws, s, a, hd, part, rfl, S', eh, ep, fun pw npw => ?_⟩
    have gB := same_new npw (.lst (part.map V.int))
    have hpw : (upd H' pw (.lst (part.map V.int))) pw = some (.lst (part.map V.int)) := upd_same
    have hptw : pt ≠ pw := ne_of_none hpt npw
    have g' := g.trans gB
    have dh' := Dt.tk (tk_same gB) _ _ dh
    have hpt' := gB _ _ hpt
    have hpf' := gB _ _ hpf
    have hpy' := gB _ _ hpy
    have hdt' := DtAll.tk (tk_same gB) _ _ hdt
    generalize upd H' pw (.lst (part.map V.int)) = H7 at gB hpw g' dh' hpt' hpf' hpy' hdt' ⊢
    refine ⟨pw, rfl, ⟨_, SqL.of hpw⟩, fun D7 hD7 => ?_⟩
    refine lc_list (xs := part.map V.int) (fun j H'' => Same H7 H'' ∧ j ≤ part.length ∧ ∃ bs : List V, H'' D7 = some (.lst bs) ∧ bs.length = j ∧ DtAll H'' bs (((G n).2.take j).map woP)) ⟨same_new hD7 _, Nat.zero_le _, [], upd_same, rfl, trivial⟩ (fun j H'' _ h => SqL.of (h.1 _ _ hpw)) ?_ ?_
    · rintro j v H'' hv ⟨gj, hj, bs, hdj, hbl, hdtj⟩
      obtain ⟨wd, ewd, rfl, _⟩ := ints_at hv
      have hjl : j < part.length := (List.getElem?_eq_some_iff.mp ewd).1
      obtain ⟨xo, ex1, ex2⟩ := hwat j wd ewd
      have S'' := (S.same g').same gj
      refine ⟨rfl, ?_⟩
      unfold tYes
      dsimp only
      rw [if_pos rfl]
      refine ⟨_, rfl, _, rfl, F, ar, rws, s, wd, xo, rfl, S'', ex2, fun pq npq => ?_⟩
      have gq := same_new npq (.tup (woV xo))
      have hpq : (upd H'' pq (.tup (woV xo))) pq = some (.tup (woV xo)) := upd_same
      have hdj' := gq _ _ hdj
      have hdtj' := DtAll.tk (tk_same gq) _ _ hdtj
      have gjq := gj.trans gq
      generalize upd H'' pq (.tup (woV xo)) = H8 at gq hpq hdj' hdtj' gjq ⊢
      refine ⟨bs, hdj', (by omega), same_mut gjq hD7 _, hjl, bs ++ [.ref pq], upd_same, (by rw [List.length_append, hbl]; rfl), ?_⟩
      rw [take_app ex1, List.map_append]
      exact DtAll.snoc (Dt.tk (tk_lst hdj' _) _ _ (dt_wo hpq)) (DtAll.tk (tk_lst hdj' _) _ _ hdtj')
    rintro H8 ⟨g8, _, bs8, hd8, hbl8, hdt8⟩
    rw [List.length_map] at hbl8
    rw [List.length_map, ← hwl, List.take_length] at hdt8
    refine .inl ⟨D7, _, rfl, SqL.of hd8, fun p8 np8 => ?_⟩
    have g9 := g8.trans (same_new np8 (.tup bs8))
    have hp8 : (upd H8 p8 (.tup bs8)) p8 = some (.tup bs8) := upd_same
    have hdt9 := DtAll.tk (tk_new np8 (.tup bs8)) _ _ hdt8
    generalize upd H8 p8 (.tup bs8) = H9 at g9 hp8 hdt9 ⊢
    have dw : Dt H9 (.ref p8) (.tuple ((G n).2.map woP)) := Dt.tup hp8 hdt9
    dsimp only [List.set]
    have hpt9 := g9 _ _ hpt'
    have S9 := S.same (g'.trans g9)
    refine ⟨_, rfl, .inl ⟨rfl, _, SqL.of hpt9⟩, _, rfl, _, rfl, F.bo, F.bd, _, rfl, S9.bo, rfl, _, rfl, F, ar, rws, s, a, hd, k, x, rfl, S9, eh, ek, hx, _, rfl, (by show 3 ≤ sizeLine; rw [hz]; decide), fun p9 np9 => ?_⟩
    have gC := same_new np9 (.tup [V.int n, V.str (SX.S (codes x)), V.ref p8])
    have hp9 : (upd H9 p9 (.tup [V.int n, V.str (SX.S (codes x)), V.ref p8])) p9 = some (.tup [V.int n, V.str (SX.S (codes x)), V.ref p8]) := upd_same
    have hptC := gC _ _ hpt9
    have hpfC := gC _ _ (g9 _ _ hpf')
    have hpyC := gC _ _ (g9 _ _ hpy')
    have dhC := Dt.tk (tk_same (g9.trans gC)) _ _ dh'
    have hdtC := DtAll.tk (tk_same (g9.trans gC)) _ _ hdt'
    have dwC := Dt.tk (tk_same gC) _ _ dw
    have gall := (g'.trans g9).trans gC
    generalize upd H9 p9 (.tup [V.int n, V.str (SX.S (codes x)), V.ref p8]) = HC at gC hp9 hptC hpfC hpyC dhC hdtC dwC gall ⊢
    refine ⟨pt, as, _, rfl, rfl, hptC, (by omega), ?_⟩
    refine ⟨_, _, _, _, _, _, as ++ [.ref p9], rfl, same_mut gall nptH _, Dt.tk (tk_lst hptC _) _ _ dhC, upd_same, (by rw [upd_ne hnf]; exact hpfC), (by rw [upd_ne hny.symm]; exact hpyC), (by rw [List.length_append, hal]; rfl), hlt, ?_⟩
    rw [take_app ey, List.map_append]
    refine DtAll.snoc ?_ (DtAll.tk (tk_lst hptC _) _ _ hdtC)
    refine Dt.tk (tk_lst hptC _) _ _ (Dt.tup hp9 ⟨rfl, ?_, dwC, trivial⟩)
    show V.str (SX.S (codes x)) = V.str (SX.S (codes (sortL.getD (G n).1.toNat "text")))
    have : sortL.getD (G n).1.toNat "text" = x := by
      rw [← e8, ek, Int.toNat_natCast, List.getD_eq_getElem?_getD, show sortL[k]? = some x from hx]; rfl
    rw [this]
  · rintro σ H' ⟨x5, x6, x7, x8, x9, x10, as, rfl, g, dh, hpt, hpf, hpy, hal, hi, hdt⟩
    rw [List.length_map] at hal
    rw [List.length_map, List.take_length] at hdt
    exact nx _ _ ⟨_, _, _, _, _, _, ys, as, rfl, g, dh, hpt, by omega, hdt, hperm, hpw⟩
abbrev s_Heap__meaning : Stmt := inClass (top 68) 19
theorem sc_Heap__meaning : FnScope ["self"] ["self"] (defScope s_Heap__meaning) := ⟨rfl, rfl, rfl, by decide +kernel, rfl, by decide +kernel, by decide +kernel⟩
def sp_hmeaning (C : Cs K) : Sp := fun vs H Q _ => ∃ F ar rws s hs bs found G, vs = [.ref F.ho] ∧ St C H F ar rws s ∧ hs.length = s.rows.length ∧ (∀ (i : Nat) h wd, s.rows[i]? = some (h, wd) → ∃ x, hs[i]? = some (h, x) ∧ Gc.worthOf s wd = some x) ∧
  Hm.addrs s (s.rows.map Prod.snd) = some bs ∧ comeGo true s 1000000 bs.reverse [] = some found ∧ found.length < 64 ∧ (∀ q ∈ found, ThingAt s q.2 (G q.1)) ∧
  ∀ H' p ys, Same H H' → ys.Perm (found.map Prod.fst) → ys.Pairwise (· ≤ ·) → Dt H' (.ref p) (mnP hs G ys) → Q (.ref p) H'
theorem ok_hmeaning (C : Cs K) {f : Addr} {fd : FuncData} (F : Fun K "meaning" "Heap.meaning" s_Heap__meaning f fd) (Mh_root_pairs : MD P w K mg base CX0 C.H "root_pairs" ["self"] 1 (sp_hpairs C)) (D_meaning_from : Def P w K mg base CX0 "meaning_from" ["store", "roots"] 4 (sp_meanfrom C)) : FnOk P w K mg base CX0 5 f fd ["self"] (sp_hmeaning C) := by
  refine F.ok sc_Heap__meaning (fun vs H Q E h => ?_) (fun cdv A outer s H vs Q E hr h => ?_)
  · obtain ⟨_, _, _, _, _, _, _, _, rfl, _⟩ := h; rfl
  obtain ⟨F, ar, rws, s, hs, bs, found, G, rfl, S, hhl, hrow, hb, hf, hfl, hth, q⟩ := h
  refine ⟨_, (pss_one (ps_ret (pe_call D_meaning_from.ok (hr.mono (by omega)) rfl D_meaning_from.g D_meaning_from.k D_meaning_from.b .nil pass0 (pa_cons (pe_fld (pv 0) rfl) (pa_cons (pe_meth0 (pv 0) C.hcl Mh_root_pairs.m Mh_root_pairs.ok (hr.mono (by omega)) Mh_root_pairs.b .nil pass0) pa_nil))))), ?_⟩
  refine (⟨_, rfl, _, _, _, _, _, rfl, St.ho S, Cs.hcl _, C.store, rfl, ⟨_, rfl, F.ho, F.hd, _, rfl, S.ho, rfl, F, ar, rws, s, rfl, S, fun H1 p ts g1 np hp hpa => ?_⟩⟩)
  exact ⟨F, ar, rws, s, p, ts, hs, bs, found, G, rfl, S.same g1, hp, hpa, hhl, hrow, hb, hf, hfl, hth, fun H2 p2 ys g2 hy hw hd => q _ p2 ys (g1.trans g2) hy hw hd⟩
end
end Wk
set_option maxRecDepth 100000
set_option maxHeartbeats 2000000
namespace Wk
open PySem L2 TL PyProof.Rows Hm
open SX (S S_len)
/-! ### the law's graph -/
structure Lg where
  th : List (Int × List Gc.Wo)
  hs : List (Int × Gc.Wo)
  next : Int
structure La where
  gd : Addr
  td : Addr
  hd : Addr
  tas : List Addr
  las : List Addr
  was : List Addr
def kD : List Int → List Addr → List (Key × V)
  | k :: ks, a :: as => (.inl k, .ref a) :: kD ks as
  | _, _ => []
def nums (n : Nat) : List Int := (List.range n).map fun i : Nat => (i : Int) + 1
def gdD (a : La) (L : Lg) : List (Key × V) := [(.inr "things", .ref a.td), (.inr "handles", .ref a.hd), (.inr "last", .int (L.th.length : Int)), (.inr "next", .int L.next)]
def sname (k : Int) : Str := S (codes (sortL.getD k.toNat "text"))
def WoAt (H : Hp) : List Addr → List Gc.Wo → Prop
  | [], [] => True
  | a :: as, x :: xs => H a = some (.tup (woV x)) ∧ WoAt H as xs
  | _, _ => False
def ThAt (H : Hp) : List Addr → List Addr → List (Int × List Gc.Wo) → Prop
  | [], [], [] => True
  | t :: ts, l :: ls, g :: r => H t = some (.tup [.str (sname g.1), .ref l]) ∧ (∃ ws, H l = some (.lst (ws.map V.ref)) ∧ WoAt H ws g.2) ∧ ThAt H ts ls r
  | _, _, _ => False
structure Gra (H : Hp) (a : La) (L : Lg) : Prop where
  g : H a.gd = some (.dK (gdD a L))
  t : H a.td = some (.dK (kD (nums L.th.length) a.tas))
  h : H a.hd = some (.dK (kD (L.hs.map Prod.fst) a.was))
  tw : ThAt H a.tas a.las L.th
  hw : WoAt H a.was (L.hs.map Prod.snd)
  nd : (a.gd :: a.td :: a.hd :: a.las).Nodup
  hn : (L.hs.map Prod.fst).Nodup
  z1 : L.th.length ≤ 100000
  z2 : L.hs.length ≤ 100000
  z3 : ∀ g ∈ L.th, g.2.length ≤ 100000
def GraO (a : La) (b : Addr) : Prop := b ∈ a.gd :: a.td :: a.hd :: a.las
def ChA (a : La) (H : Hp) (a' : La) (H' : Hp) : Prop := ∀ b u, ¬ GraO a b → H b = some u → ¬ GraO a' b ∧ H' b = some u
theorem ChA.refl {a : La} {H : Hp} : ChA a H a H := fun _ _ n h => ⟨n, h⟩
theorem ChA.trans {a a1 a2 : La} {H H1 H2 : Hp} (x : ChA a H a1 H1) (y : ChA a1 H1 a2 H2) : ChA a H a2 H2 := fun b u n h => y b u (x b u n h).1 (x b u n h).2
theorem ChA.same {a a1 : La} {H H1 H2 : Hp} (x : ChA a H a1 H1) (y : Same H1 H2) : ChA a H a1 H2 := fun b u n h => ⟨(x b u n h).1, y _ _ (x b u n h).2⟩
theorem ChA.from {a a1 : La} {H0 H H1 : Hp} (g : Same H0 H) (x : ChA a H a1 H1) : ChA a H0 a1 H1 := fun b u n h => x b u n (g _ _ h)
/-- one of its own is changed -/
theorem ChA.own {a : La} {H : Hp} {b : Addr} (h : GraO a b) (o : HO) : ChA a H a (upd H b o) := fun c u n e => ⟨n, by rw [upd_ne (fun z => n (by rw [z]; exact h))]; exact e⟩
theorem WoAt.tk {H H' : Hp} (g : Tk H H') : ∀ {as : List Addr} {xs : List Gc.Wo}, WoAt H as xs → WoAt H' as xs
  | [], [], h => h
  | _ :: _, _ :: _, h => ⟨g _ _ h.1, WoAt.tk g h.2⟩
  | [], _ :: _, h => h.elim
  | _ :: _, [], h => h.elim
theorem WoAt.len {H : Hp} : ∀ {as : List Addr} {xs : List Gc.Wo}, WoAt H as xs → as.length = xs.length
  | [], [], _ => rfl
  | _ :: _, _ :: _, h => congrArg Nat.succ (WoAt.len h.2)
  | [], _ :: _, h => h.elim
  | _ :: _, [], h => h.elim
theorem WoAt.at {H : Hp} : ∀ {as : List Addr} {xs : List Gc.Wo} {i : Nat} {x : Gc.Wo}, WoAt H as xs → xs[i]? = some x → ∃ a, as[i]? = some a ∧ H a = some (.tup (woV x))
  | a :: _, _ :: _, 0, _, h, e => by cases e; exact ⟨a, rfl, h.1⟩
  | _ :: _, _ :: _, i + 1, _, h, e => WoAt.at (i := i) h.2 e
  | [], [], _, _, _, e => by simp at e
  | [], _ :: _, _, _, h, _ => h.elim
  | _ :: _, [], _, _, h, _ => h.elim
theorem WoAt.app {H : Hp} {a : Addr} {x : Gc.Wo} (h : H a = some (.tup (woV x))) : ∀ {as : List Addr} {xs : List Gc.Wo}, WoAt H as xs → WoAt H (as ++ [a]) (xs ++ [x])
  | [], [], _ => ⟨h, trivial⟩
  | _ :: _, _ :: _, g => ⟨g.1, WoAt.app h g.2⟩
  | [], _ :: _, g => g.elim
  | _ :: _, [], g => g.elim
theorem WoAt.set {H : Hp} {a : Addr} {x : Gc.Wo} (h : H a = some (.tup (woV x))) : ∀ {as : List Addr} {xs : List Gc.Wo} {i : Nat}, WoAt H as xs → WoAt H (as.set i a) (xs.set i x)
  | [], [], _, g => g
  | _ :: _, _ :: _, 0, g => ⟨h, g.2⟩
  | _ :: _, _ :: _, i + 1, g => ⟨g.1, WoAt.set h g.2⟩
  | [], _ :: _, _, g => g.elim
  | _ :: _, [], _, g => g.elim
theorem WoAt.two {H : Hp} : ∀ {as bs : List Addr} {xs ys : List Gc.Wo}, WoAt H as xs → WoAt H bs ys → WoAt H (as ++ bs) (xs ++ ys)
  | [], _, [], _, _, g => g
  | _ :: _, _, _ :: _, _, h, g => ⟨h.1, WoAt.two h.2 g⟩
  | [], _, _ :: _, _, h, _ => h.elim
  | _ :: _, _, [], _, h, _ => h.elim
theorem ThAt.keep {H H' : Hp} (g : Tk H H') : ∀ {ts ls : List Addr} {r : List (Int × List Gc.Wo)}, (∀ l ∈ ls, ∀ xs, H l = some (.lst xs) → H' l = some (.lst xs)) → ThAt H ts ls r → ThAt H' ts ls r
  | [], [], [], _, _ => trivial
  | t :: ts, l :: ls, x :: r, k, h => by
    obtain ⟨h1, ⟨ws, h2, h3⟩, h4⟩ := h
    exact ⟨g _ _ h1, ⟨ws, k l List.mem_cons_self _ h2, h3.tk g⟩, ThAt.keep g (fun l hl => k l (List.mem_cons_of_mem _ hl)) h4⟩
  | [], [], _ :: _, _, h => h.elim
  | [], _ :: _, [], _, h => h.elim
  | [], _ :: _, _ :: _, _, h => h.elim
  | _ :: _, [], [], _, h => h.elim
  | _ :: _, [], _ :: _, _, h => h.elim
  | _ :: _, _ :: _, [], _, h => h.elim
theorem ThAt.len {H : Hp} : ∀ {ts ls : List Addr} {r : List (Int × List Gc.Wo)}, ThAt H ts ls r → ts.length = r.length ∧ ls.length = r.length
  | [], [], [], _ => ⟨rfl, rfl⟩
  | t :: ts, l :: ls, x :: r, h => ⟨congrArg Nat.succ (ThAt.len h.2.2).1, congrArg Nat.succ (ThAt.len h.2.2).2⟩
  | [], [], _ :: _, h => h.elim
  | [], _ :: _, [], h => h.elim
  | [], _ :: _, _ :: _, h => h.elim
  | _ :: _, [], [], h => h.elim
  | _ :: _, [], _ :: _, h => h.elim
  | _ :: _, _ :: _, [], h => h.elim
theorem ThAt.at {H : Hp} : ∀ {ts ls : List Addr} {r : List (Int × List Gc.Wo)} {i : Nat} {g : Int × List Gc.Wo}, ThAt H ts ls r → r[i]? = some g → ∃ t l ws, ts[i]? = some t ∧ ls[i]? = some l ∧ H t = some (.tup [.str (sname g.1), .ref l]) ∧ H l = some (.lst (ws.map V.ref)) ∧ WoAt H ws g.2
  | t :: ts, l :: ls, x :: r, 0, g, h, e => by
    cases e
    obtain ⟨h1, ⟨ws, h2, h3⟩, h4⟩ := h
    exact ⟨t, l, ws, rfl, rfl, h1, h2, h3⟩
  | t :: ts, l :: ls, x :: r, i + 1, g, h, e => ThAt.at (i := i) h.2.2 e
  | [], [], [], _, _, _, e => by simp at e
  | [], [], _ :: _, _, _, h, _ => h.elim
  | [], _ :: _, [], _, _, h, _ => h.elim
  | [], _ :: _, _ :: _, _, _, h, _ => h.elim
  | _ :: _, [], [], _, _, h, _ => h.elim
  | _ :: _, [], _ :: _, _, _, h, _ => h.elim
  | _ :: _, _ :: _, [], _, _, h, _ => h.elim
theorem ThAt.app {H : Hp} {t l : Addr} {ws : List Addr} {g : Int × List Gc.Wo} (h1 : H t = some (.tup [.str (sname g.1), .ref l])) (h2 : H l = some (.lst (ws.map V.ref))) (h3 : WoAt H ws g.2) : ∀ {ts ls : List Addr} {r : List (Int × List Gc.Wo)}, ThAt H ts ls r → ThAt H (ts ++ [t]) (ls ++ [l]) (r ++ [g])
  | [], [], [], _ => ⟨h1, ⟨ws, h2, h3⟩, trivial⟩
  | _ :: _, _ :: _, _ :: _, h => ⟨h.1, h.2.1, ThAt.app h1 h2 h3 h.2.2⟩
  | [], [], _ :: _, h => h.elim
  | [], _ :: _, [], h => h.elim
  | [], _ :: _, _ :: _, h => h.elim
  | _ :: _, [], [], h => h.elim
  | _ :: _, [], _ :: _, h => h.elim
  | _ :: _, _ :: _, [], h => h.elim
/-- one of the lists is changed -/
theorem ThAt.set {H : Hp} {l : Addr} {ws : List Addr} {g g' : Int × List Gc.Wo} (e1 : g'.1 = g.1) (h3 : WoAt H ws g'.2) : ∀ {ts ls : List Addr} {r : List (Int × List Gc.Wo)} {i : Nat}, ls.Nodup → ls[i]? = some l → r[i]? = some g → (∃ xs, H l = some (.lst xs)) → ThAt H ts ls r → ThAt (upd H l (.lst (ws.map V.ref))) ts ls (r.set i g')
  | t :: ts, m :: ls, x :: r, 0, nd, e, er, hl, h => by
    cases e; cases er
    obtain ⟨h1, h2, h4⟩ := h
    obtain ⟨xs, hl⟩ := hl
    have tk := tk_lst hl (.lst (ws.map V.ref))
    refine ⟨by rw [e1]; exact tk _ _ h1, ⟨ws, upd_same, h3.tk tk⟩, ThAt.keep tk (fun b hb xs e => ?_) h4⟩
    rw [upd_ne (fun z => (List.nodup_cons.mp nd).1 (by rw [← z]; exact hb))]; exact e
  | t :: ts, m :: ls, x :: r, i + 1, nd, e, er, hl, h => by
    obtain ⟨h1, ⟨ws', h2, h3'⟩, h4⟩ := h
    obtain ⟨xs, hl'⟩ := hl
    have tk := tk_lst hl' (.lst (ws.map V.ref))
    have hm : l ∈ ls := List.mem_of_getElem? (show ls[i]? = some l from e)
    refine ⟨tk _ _ h1, ⟨ws', ?_, h3'.tk tk⟩, ThAt.set (i := i) e1 h3 (List.nodup_cons.mp nd).2 e er ⟨xs, hl'⟩ h4⟩
    rw [upd_ne (fun z => (List.nodup_cons.mp nd).1 (by rw [z]; exact hm))]; exact h2
  | [], [], [], _, _, e, _, _, _ => by simp at e
  | [], [], _ :: _, _, _, _, _, _, h => h.elim
  | [], _ :: _, [], _, _, _, _, _, h => h.elim
  | [], _ :: _, _ :: _, _, _, _, _, _, h => h.elim
  | _ :: _, [], [], _, _, _, _, _, h => h.elim
  | _ :: _, [], _ :: _, _, _, _, _, _, h => h.elim
  | _ :: _, _ :: _, [], _, _, _, _, _, h => h.elim
/-! #### its dicts -/
theorem kD_get {k : Int} {a : Addr} : ∀ {ks : List Int} {as : List Addr} {i : Nat}, ks.Nodup → ks[i]? = some k → as[i]? = some a → valV (kD ks as) (.inl k : Key) = some (.ref a)
  | [], _, _, _, e, _ => by simp at e
  | _ :: _, [], _, _, _, e => by simp at e
  | k0 :: ks, b :: as, 0, _, e, e2 => by cases e; cases e2; exact valV_pos (p := (Sum.inl k, V.ref a)) rfl
  | k0 :: ks, b :: as, i + 1, nd, e, e2 => by
    have hm : k ∈ ks := List.mem_of_getElem? (show ks[i]? = some k from e)
    rw [kD, valV_neg (fun z => (List.nodup_cons.mp nd).1 (by rw [Sum.inl.inj z]; exact hm))]
    exact kD_get (i := i) (List.nodup_cons.mp nd).2 e e2
theorem kD_none {k : Int} : ∀ {ks : List Int} {as : List Addr}, k ∉ ks → valV (kD ks as) (.inl k : Key) = none
  | [], as, _ => by cases as <;> rfl
  | _ :: _, [], _ => rfl
  | k0 :: ks, b :: as, n => by
    rw [kD, valV_neg (fun z => n (by rw [Sum.inl.inj z]; exact List.mem_cons_self))]
    exact kD_none fun z => n (List.mem_cons_of_mem _ z)
theorem kD_app {k : Int} {a : Addr} : ∀ {ks : List Int} {as : List Addr}, ks.length = as.length → kD ks as ++ [(.inl k, .ref a)] = kD (ks ++ [k]) (as ++ [a])
  | [], [], _ => rfl
  | [], _ :: _, h => by cases h
  | _ :: _, [], h => by cases h
  | k0 :: ks, b :: as, h => congrArg (_ :: ·) (kD_app (Nat.succ.inj h))
theorem kD_fst : ∀ {ks : List Int} {as : List Addr}, ks.length = as.length → (kD ks as).map Prod.fst = ks.map Sum.inl
  | [], [], _ => rfl
  | [], _ :: _, h => by cases h
  | _ :: _, [], h => by cases h
  | k0 :: ks, b :: as, h => congrArg (_ :: ·) (kD_fst (Nat.succ.inj h))
theorem kD_snd : ∀ {ks : List Int} {as : List Addr}, ks.length = as.length → (kD ks as).map Prod.snd = as.map V.ref
  | [], [], _ => rfl
  | [], _ :: _, h => by cases h
  | _ :: _, [], h => by cases h
  | k0 :: ks, b :: as, h => congrArg (_ :: ·) (kD_snd (Nat.succ.inj h))
theorem kD_len {ks : List Int} {as : List Addr} (h : ks.length = as.length) : (kD ks as).length = ks.length := by
  have := congrArg List.length (kD_fst h)
  rw [List.length_map, List.length_map] at this
  exact this
theorem nums_len (n : Nat) : (nums n).length = n := by simp [nums]
theorem nums_at {n i : Nat} (h : i < n) : (nums n)[i]? = some ((i : Int) + 1) := by simp [nums, h]
theorem nums_succ (n : Nat) : nums (n + 1) = nums n ++ [(n : Int) + 1] := by simp [nums, List.range_succ]
theorem nums_mem {n : Nat} {k : Int} : k ∈ nums n ↔ 1 ≤ k ∧ k ≤ n := by
  unfold nums
  rw [List.mem_map]
  constructor
  · rintro ⟨i, hi, rfl⟩
    have := List.mem_range.mp hi
    omega
  · rintro ⟨h1, h2⟩
    exact ⟨(k - 1).toNat, List.mem_range.mpr (by omega), by omega⟩
theorem nums_nodup (n : Nat) : (nums n).Nodup := by
  unfold nums
  exact List.Pairwise.map _ (fun i j h z => h (by omega)) (List.nodup_range (n := n))
/-- what a number means -/
def gOf (th : List (Int × List Gc.Wo)) : Gc.Gr := fun n => if 1 ≤ n then th.getD (n - 1).toNat (0, []) else (0, [])
theorem gOf_at {th : List (Int × List Gc.Wo)} {n : Int} {g : Int × List Gc.Wo} {i : Nat} (hn : n = (i : Int) + 1) (h : th[i]? = some g) : gOf th n = g := by
  unfold gOf
  rw [if_pos (by omega), show (n - 1).toNat = i by omega, List.getD_eq_getElem?_getD, h]; rfl
theorem gOf_in {th : List (Int × List Gc.Wo)} {n : Int} (h : n ∈ nums th.length) : ∃ i : Nat, n = (i : Int) + 1 ∧ i < th.length ∧ th[i]? = some (gOf th n) := by
  obtain ⟨h1, h2⟩ := nums_mem.mp h
  refine ⟨(n - 1).toNat, by omega, by omega, ?_⟩
  have hl : (n - 1).toNat < th.length := by omega
  rw [gOf_at (i := (n - 1).toNat) (by omega) (List.getElem?_eq_getElem hl)]
  exact List.getElem?_eq_getElem hl
theorem gOf_add {th : List (Int × List Gc.Wo)} {g : Int × List Gc.Wo} : gOf (th ++ [g]) = Gc.addG (gOf th) ((th.length : Int) + 1) g := by
  funext n
  unfold Gc.addG
  by_cases c : n = (th.length : Int) + 1
  · rw [if_pos c]
    exact gOf_at (i := th.length) c (by simp)
  · rw [if_neg c]
    unfold gOf
    by_cases h : 1 ≤ n
    · rw [if_pos h, if_pos h, List.getD_eq_getElem?_getD, List.getD_eq_getElem?_getD]
      by_cases hl : (n - 1).toNat < th.length
      · rw [List.getElem?_append_left hl]
      · rw [List.getElem?_eq_none (by rw [List.length_append]; show th.length + 1 ≤ _; omega), List.getElem?_eq_none (by omega)]
    · rw [if_neg h, if_neg h]
theorem gOf_upd {th : List (Int × List Gc.Wo)} {n : Int} {i : Nat} (hn : n = (i : Int) + 1) (hi : i < th.length) {p : Nat} {x : Gc.Wo} : gOf (th.set i ((gOf th n).1, (gOf th n).2.set p x)) = Gc.updG (gOf th) n p x := by
  funext m
  unfold Gc.updG
  by_cases c : m = n
  · rw [if_pos c]
    exact gOf_at (i := i) (by omega) (by rw [List.getElem?_set_self hi])
  · rw [if_neg c]
    unfold gOf
    by_cases h : 1 ≤ m
    · rw [if_pos h, if_pos h, List.getD_eq_getElem?_getD, List.getD_eq_getElem?_getD, List.getElem?_set_ne (by omega), ← List.getD_eq_getElem?_getD]
    · rw [if_neg h, if_neg h]
/-! #### reading it -/
section
variable {H H' : Hp} {a : La} {L : Lg}
theorem Gra.things (R : Gra H a L) : DGet H a.gd (.str "things") (some (.ref a.td)) := DGet.k (k := Sum.inr "things") R.g
theorem Gra.handles (R : Gra H a L) : DGet H a.gd (.str "handles") (some (.ref a.hd)) := DGet.k (k := Sum.inr "handles") R.g
theorem Gra.lastly (R : Gra H a L) : DGet H a.gd (.str "last") (some (.int (L.th.length : Int))) := DGet.k (k := Sum.inr "last") R.g
theorem Gra.nextly (R : Gra H a L) : DGet H a.gd (.str "next") (some (.int L.next)) := DGet.k (k := Sum.inr "next") R.g
theorem Gra.keep (R : Gra H a L) (k : ∀ b u, GraO a b → H b = some u → H' b = some u) (t : Tk H H') : Gra H' a L :=
  ⟨k _ _ (by simp [GraO]) R.g, k _ _ (by simp [GraO]) R.t, k _ _ (by simp [GraO]) R.h, ThAt.keep t (fun l hl xs e => k _ _ (by simp [GraO, hl]) e) R.tw, R.hw.tk t, R.nd, R.hn, R.z1, R.z2, R.z3⟩
theorem Gra.same (R : Gra H a L) (g : Same H H') : Gra H' a L := R.keep (fun b u _ e => g _ _ e) (tk_same g)
/-- what it owns is there, and no tuple -/
theorem Gra.some (R : Gra H a L) {b : Addr} (h : GraO a b) : (∃ kvs, H b = Option.some (.dK kvs)) ∨ ∃ xs, H b = Option.some (.lst xs) := by
  unfold GraO at h
  rcases List.mem_cons.mp h with rfl | h
  · exact .inl ⟨_, R.g⟩
  rcases List.mem_cons.mp h with rfl | h
  · exact .inl ⟨_, R.t⟩
  rcases List.mem_cons.mp h with rfl | h
  · exact .inl ⟨_, R.h⟩
  · obtain ⟨i, hi, e⟩ := List.mem_iff_getElem.mp h
    have hl : i < L.th.length := by rw [← R.tw.len.2]; exact hi
    obtain ⟨t, l, ws, e1, e2, e3, e4, e5⟩ := R.tw.at (List.getElem?_eq_getElem hl)
    rw [List.getElem?_eq_getElem hi, e] at e2
    cases e2
    exact .inr ⟨_, e4⟩
theorem Gra.off (R : Gra H a L) {b : Addr} (h : H b = none) : ¬ GraO a b := fun z => by
  rcases R.some z with ⟨_, e⟩ | ⟨_, e⟩ <;> rw [e] at h <;> cases h
theorem Gra.noTup (R : Gra H a L) {b : Addr} {xs : List V} (h : H b = Option.some (.tup xs)) : ¬ GraO a b := fun z => by
  rcases R.some z with ⟨_, e⟩ | ⟨_, e⟩ <;> rw [e] at h <;> cases h
theorem ChA.tk {a' : La} (R : Gra H a L) (c : ChA a H a' H') : Tk H H' := fun b xs e => (c b _ (R.noTup e) e).2
/-- a thing by its number -/
theorem Gra.thing (R : Gra H a L) {n : Int} (h : n ∈ nums L.th.length) : ∃ t l ws, DGet H a.td (.int n) (Option.some (.ref t)) ∧ H t = Option.some (.tup [.str (sname (gOf L.th n).1), .ref l]) ∧ H l = Option.some (.lst (ws.map V.ref)) ∧ WoAt H ws (gOf L.th n).2 ∧ l ∈ a.las ∧ ∃ i : Nat, n = (i : Int) + 1 ∧ a.las[i]? = Option.some l ∧ i < L.th.length := by
  obtain ⟨i, e1, e2, e3⟩ := gOf_in h
  obtain ⟨t, l, ws, f1, f2, f3, f4, f5⟩ := R.tw.at e3
  refine ⟨t, l, ws, ?_, f3, f4, f5, List.mem_of_getElem? f2, i, e1, f2, e2⟩
  have : valV (kD (nums L.th.length) a.tas) (Sum.inl n : Key) = Option.some (.ref t) := kD_get (i := i) (nums_nodup _) (by rw [nums_at e2, e1]) f1
  rw [← this]
  exact DGet.k (k := Sum.inl n) R.t
theorem lookW_at {h : Int} {x : Gc.Wo} : ∀ {hs : List (Int × Gc.Wo)}, Gc.lookW hs h = Option.some x → ∃ i : Nat, hs[i]? = Option.some (h, x)
  | [], e => by cases e
  | (k, y) :: r, e => by
    rw [Gc.lookW] at e
    split at e
    · rename_i c
      cases e
      exact ⟨0, by rw [c]; rfl⟩
    · obtain ⟨i, e⟩ := lookW_at e
      exact ⟨i + 1, e⟩
theorem lookW_none {h : Int} : ∀ {hs : List (Int × Gc.Wo)}, Gc.lookW hs h = none → h ∉ hs.map Prod.fst
  | [], _ => by simp
  | (k, y) :: r, e => by
    rw [Gc.lookW] at e
    split at e
    · cases e
    · rename_i c
      rw [List.map_cons, List.mem_cons]
      rintro (z | z)
      · exact c z.symm
      · exact lookW_none e z
theorem lookW_mem {h : Int} : ∀ {hs : List (Int × Gc.Wo)}, h ∈ hs.map Prod.fst → (Gc.lookW hs h).isSome = true
  | [], h => by cases h
  | (k, y) :: r, m => by
    rw [Gc.lookW]
    split
    · rfl
    · rename_i c
      rw [List.map_cons, List.mem_cons] at m
      rcases m with z | z
      · exact absurd z.symm c
      · exact lookW_mem z
/-- what a handle holds -/
theorem Gra.held (R : Gra H a L) {h : Int} {x : Gc.Wo} (e : Gc.lookW L.hs h = Option.some x) : ∃ wa, DGet H a.hd (.int h) (Option.some (.ref wa)) ∧ H wa = Option.some (.tup (woV x)) := by
  obtain ⟨i, e⟩ := lookW_at e
  obtain ⟨wa, f1, f2⟩ := R.hw.at (i := i) (x := x) (by rw [List.getElem?_map, e]; rfl)
  refine ⟨wa, ?_, f2⟩
  have : valV (kD (L.hs.map Prod.fst) a.was) (Sum.inl h : Key) = Option.some (.ref wa) := kD_get (i := i) R.hn (by rw [List.getElem?_map, e]; rfl) f1
  rw [← this]
  exact DGet.k (k := Sum.inl h) R.h
theorem Gra.hlen (R : Gra H a L) : (L.hs.map Prod.fst).length = a.was.length := by
  have := R.hw.len
  rw [List.length_map] at this
  rw [List.length_map, this]
end
end Wk
set_option maxRecDepth 100000
set_option maxHeartbeats 2000000
namespace Wk
open PySem L2 TL PyProof.Rows Hm
open SX (S S_len)
section
variable {P : Program} {w : World} {K : PySem.W.Frag} {mg : Str → Option Value} {base : Heap}
abbrev s__law_some : Stmt := top 72
theorem sc__law_some : FnScope ["bag", "things"] ["bag", "things"] (defScope s__law_some) := ⟨rfl, rfl, rfl, by decide +kernel, rfl, by decide +kernel, by decide +kernel⟩
/-- one of a list's things is drawn -/
def sp_some (K : PySem.W.Frag) : Sp := fun vs H Q _ => ∃ (a g l : Addr) (xs : List V), vs = [.ref a, .ref l] ∧ Bag H a g ∧ SqL K H l xs ∧ l ≠ a ∧ l ≠ g ∧ 0 < xs.length ∧ xs.length < 2 ^ 100 ∧ ∀ H' v, v ∈ xs → But a g H H' → Bag H' a g → Q v H'
theorem sql_but {a g l : Addr} {xs : List V} {H H' : Hp} (h : SqL K H l xs) (b : But a g H H') (n1 : l ≠ a) (n2 : l ≠ g) : SqL K H' l xs := by
  rcases h with h | h
  · rcases h with h | ⟨o, h⟩
    · exact .inl (.inl (b _ _ n1 n2 h))
    · exact .inl (.inr ⟨o, b _ _ n1 n2 h⟩)
  · exact .inr h
theorem ok_some (T : Txt K mg base) {f : Addr} {fd : FuncData} (F : Fun K "_law_some" "_law_some" s__law_some f fd) (D__law_pick : Def P w K mg base CX0 "_law_pick" ["bag", "many"] 1 sp_pick) : FnOk P w K mg base CX0 2 f fd ["bag", "things"] (sp_some K) := by
  refine F.ok sc__law_some (fun vs H Q E h => ?_) (fun cdv A outer s H vs Q E hr h => ?_)
  · obtain ⟨_, _, _, _, rfl, _⟩ := h; rfl
  obtain ⟨a, g, l, xs, rfl, hB, hl, n1, n2, h0, hl2, q⟩ := h
  refine ⟨_, (pss_one (ps_ret (pe_ix ix_list (pv 1) (pe_call D__law_pick.ok (hr.mono (by omega)) rfl D__law_pick.g D__law_pick.k D__law_pick.b .nil pass0 (pa_cons (pv 0) (pa_cons (pe_callB call_len_seq rfl T.n_len boot_len (pa_cons (pv 1) pa_nil)) pa_nil))) (fun _ _ => rfl)))), ?_⟩
  refine ⟨_, rfl, _, rfl, _, rfl, l, _, rfl, .inl hl, a, g, xs.length, rfl, h0, hl2, hB, fun H' d hd b B' => ?_⟩
  exact ⟨l, xs, _, xs[d], rfl, rfl, sql_but hl b n1 n2, atI_nat (j := d) (List.getElem?_eq_getElem hd), q _ _ (List.getElem_mem hd) b B'⟩
abbrev s__law_int : Stmt := top 74
theorem sc__law_int : FnScope ["thing", "least", "most"] ["thing", "least", "most"] (defScope s__law_int) := ⟨rfl, rfl, rfl, by decide +kernel, rfl, by decide +kernel, by decide +kernel⟩
def sp_int : Sp := fun vs H Q _ => ∃ i lo hi : Int, vs = [.int i, .int lo, .int hi] ∧ lo ≤ i ∧ i ≤ hi ∧ Q (.bl true) H
theorem ok_int (T : Txt K mg base) {f : Addr} {fd : FuncData} (F : Fun K "_law_int" "_law_int" s__law_int f fd) : FnOk P w K mg base CX0 1 f fd ["thing", "least", "most"] sp_int := by
  refine F.ok sc__law_int (fun vs H Q E h => ?_) (fun cdv A outer s H vs Q E hr h => ?_)
  · obtain ⟨_, _, _, rfl, _⟩ := h; rfl
  obtain ⟨i, lo, hi, rfl, h1, h2, q⟩ := h
  refine ⟨_, (pss_one (ps_ret (pe_and (pe_callB call_isi rfl T.n_isinstance boot_isinstance (pa_cons (pv 0) (pa_cons (pe_bltn (v := .ty "int") rfl T.n_int boot_int rfl) pa_nil))) (pe_and (pe_not (pe_callB call_isi rfl T.n_isinstance boot_isinstance (pa_cons (pv 0) (pa_cons (pe_bltn (v := .ty "bool") rfl T.n_bool boot_bool rfl) pa_nil)))) (pe_one (pe_chain op_le op_le (pv 1) (pv 0) (pv 2))))))), ?_⟩
  refine isiV (K := K) (T := "int") (t := "int") (b := true) rfl (.base (.int i)) (by decide +kernel) ⟨_, rfl, iteT ?_⟩
  refine isiV (K := K) (T := "int") (t := "bool") (b := false) rfl (.base (.int i)) (by decide +kernel) ⟨_, rfl, _, rfl, iteT ?_⟩
  refine ⟨_, rfl, _, rfl, _, _, rfl, rfl, _, rfl, ?_⟩
  rw [decide_eq_true h1]
  refine iteT ⟨_, rfl, _, _, rfl, rfl, ?_⟩
  show Q (.bl (decide (i ≤ hi))) H
  rw [decide_eq_true h2]
  exact q
abbrev s__law_graph : Stmt := top 75
theorem sc__law_graph : FnScope [] [] (defScope s__law_graph) := ⟨rfl, rfl, rfl, by decide +kernel, rfl, by decide +kernel, by decide +kernel⟩
def sp_lgraph : Sp := fun vs H Q _ => vs = [] ∧ ∀ H' a, Same H H' → (∀ b, GraO a b → H b = none) → Gra H' a ⟨[], [], 0⟩ → Q (.ref a.gd) H'
theorem ok_lgraph (T : Txt K mg base) {f : Addr} {fd : FuncData} (F : Fun K "_law_graph" "_law_graph" s__law_graph f fd) : FnOk P w K mg base CX0 1 f fd [] sp_lgraph := by
  refine F.ok sc__law_graph (fun vs H Q E h => ?_) (fun cdv A outer s H vs Q E hr h => ?_)
  · obtain ⟨rfl, _⟩ := h; rfl
  obtain ⟨rfl, q⟩ := h
  refine ⟨_, (pss_one (ps_ret (pe_disp (pps_cons pe_str pe_dnewK (pps_cons pe_str pe_dnewK (pps_cons pe_str pe_int (pps_cons pe_str pe_int pps_nil)))) (by rfl) (by rfl) (fun z => by cases z) (by decide)))), ?_⟩
  intro p np d1 n1 d2 n2
  have p1 : d1 ≠ p := fun z => by rw [z, upd_same] at n1; cases n1
  have p2 : d2 ≠ d1 := fun z => by rw [z, upd_same] at n2; cases n2
  have n2' : (upd H p (.dK [])) d2 = none := by rw [upd_ne p2] at n2; exact n2
  have p3 : d2 ≠ p := fun z => by rw [z, upd_same] at n2'; cases n2'
  have k1 : H d1 = none := by rw [upd_ne p1] at n1; exact n1
  have k2 : H d2 = none := by rw [upd_ne p3] at n2'; exact n2'
  refine ⟨by rw [upd_ne p3.symm, upd_ne p1.symm, upd_same], [(.inr "things", .ref d1), (.inr "handles", .ref d2), (.inr "last", .int 0), (.inr "next", .int 0)], rfl, (by show 4 ≤ 15; decide), ?_⟩
  refine q _ ⟨p, d1, d2, [], [], []⟩ (fun b u e => ?_) (fun b hb => ?_) ⟨?_, ?_, ?_, trivial, trivial, ?_, List.nodup_nil, Nat.zero_le _, Nat.zero_le _, fun g hg => by cases hg⟩
  · have e1 : b ≠ p := ne_of_none e np
    have e2 : b ≠ d1 := ne_of_none e k1
    have e3 : b ≠ d2 := ne_of_none e k2
    rw [upd_ne e1, upd_ne e3, upd_ne e2, upd_ne e1]; exact e
  · unfold GraO at hb
    simp only [List.mem_cons, List.not_mem_nil, or_false] at hb
    rcases hb with rfl | rfl | rfl
    · exact np
    · exact k1
    · exact k2
  · exact upd_same
  · show (upd _ p _) d1 = _
    rw [upd_ne p1, upd_ne p2.symm, upd_same]; rfl
  · show (upd _ p _) d2 = _
    rw [upd_ne p3, upd_same]; rfl
  · simp only [List.nodup_cons, List.mem_cons, List.not_mem_nil, or_false, not_or, not_false_eq_true, List.nodup_nil, and_true]
    exact ⟨⟨p1.symm, p3.symm⟩, p2.symm⟩
abbrev s__law_worth : Stmt := top 76
theorem sc__law_worth : FnScope ["graph", "item"] ["graph", "item"] (defScope s__law_worth) := ⟨rfl, rfl, rfl, by decide +kernel, rfl, by decide +kernel, by decide +kernel⟩
def sp_lworth : Sp := fun vs H Q _ => ∃ a L pi it x, vs = [.ref a.gd, .ref pi] ∧ Gra H a L ∧ H pi = some (.tup (itV it)) ∧ Gc.itW L.hs it = some x ∧ ∀ wa, H wa = some (.tup (woV x)) → Q (.ref wa) H
theorem ok_lworth (T : Txt K mg base) {f : Addr} {fd : FuncData} (F : Fun K "_law_worth" "_law_worth" s__law_worth f fd) : FnOk P w K mg base CX0 1 f fd ["graph", "item"] sp_lworth := by
  refine F.ok sc__law_worth (fun vs H Q E h => ?_) (fun cdv A outer s H vs Q E hr h => ?_)
  · obtain ⟨_, _, _, _, _, rfl, _⟩ := h; rfl
  obtain ⟨a, L, pi, it, x, rfl, R, hpi, hx, q⟩ := h
  refine ⟨_, (pss_one (ps_ret (pe_ifExp (pt_cmpR op_eq (pe_ix ix_tup (pv 1) pe_int (fun _ _ => rfl)) pe_str (nomark _)) (pv 1) (pe_dget (hu1 hr) (pe_dget (hu1 hr) (pv 0) pe_str (fun _ _ => rfl)) (pe_ix ix_tup (pv 1) pe_int (fun _ _ => rfl)) (fun _ _ => rfl))))), ?_⟩
  cases it with
  | word n =>
    cases hx
    refine ⟨_, rfl, pi, _, _, _, rfl, rfl, SqT.of hpi, atI_nat (j := 0) rfl, rfl, _, rfl, ?_⟩
    rw [show decide (V.str (Str.ofString "word") = V.str (Str.ofString "word")) = true from decide_eq_true rfl]
    exact iteT ⟨_, rfl, q pi (by rw [hpi, itV, woV, S_of])⟩
  | held h =>
    obtain ⟨wa, e1, e2⟩ := R.held (show Gc.lookW L.hs h = some x from hx)
    refine ⟨_, rfl, pi, _, _, _, rfl, rfl, SqT.of hpi, atI_nat (j := 0) rfl, rfl, _, rfl, ?_⟩
    rw [show decide (V.str (Str.ofString "held") = V.str (Str.ofString "word")) = false from by decide +kernel]
    refine iteF ⟨_, rfl, a.gd, _, rfl, R.handles, _, rfl, pi, _, _, _, rfl, rfl, SqT.of hpi, atI_nat (j := 1) rfl, a.hd, _, rfl, e1, q wa e2⟩
abbrev s__law_given : Stmt := top 77
theorem sc__law_given : FnScope ["graph", "worth"] ["graph", "worth"] (defScope s__law_given) := ⟨rfl, rfl, rfl, by decide +kernel, rfl, by decide +kernel, by decide +kernel⟩
theorem put_next {a : La} {L : Lg} {n : Int} : putK (gdD a L) (.inr "next" : Key) (.int n) = gdD a { L with next := n } := rfl
def sp_lgiven : Sp := fun vs H Q _ => ∃ a L wa x, vs = [.ref a.gd, .ref wa] ∧ Gra H a L ∧ H wa = some (.tup (woV x)) ∧ Gc.lookW L.hs L.next = none ∧ L.hs.length < 100000 ∧ ∀ H' a', a'.gd = a.gd → ChA a H a' H' → Gra H' a' { L with hs := L.hs ++ [(L.next, x)], next := L.next + 1 } → Q (.int L.next) H'
theorem ok_lgiven (T : Txt K mg base) {f : Addr} {fd : FuncData} (F : Fun K "_law_given" "_law_given" s__law_given f fd) : FnOk P w K mg base CX0 1 f fd ["graph", "worth"] sp_lgiven := by
  refine F.ok sc__law_given (fun vs H Q E h => ?_) (fun cdv A outer s H vs Q E hr h => ?_)
  · obtain ⟨_, _, _, _, rfl, _⟩ := h; rfl
  obtain ⟨a, L, wa, x, rfl, R, hwa, hn, hl, q⟩ := h
  refine ⟨_, (pss_cons (ps_dput (hu1 hr) (pe_dget (hu1 hr) (pv 0) pe_str (fun _ _ => rfl)) (pe_dget (hu1 hr) (pv 0) pe_str (fun _ _ => rfl)) (pv 1) rfl)
    (pss_cons (ps_dput (hu1 hr) (pv 0) pe_str (pe_op op_add (pe_dget (hu1 hr) (pv 0) pe_str (fun _ _ => rfl)) pe_int) rfl)
    (pss_one (ps_ret (pe_op op_sub (pe_dget (hu1 hr) (pv 0) pe_str (fun _ _ => rfl)) pe_int))))), ?_⟩
  have hz := line_eq
  have hlen := R.hlen
  have nd := R.nd
  simp only [List.nodup_cons, List.mem_cons, not_or] at nd
  obtain ⟨⟨m1, m2, m3⟩, ⟨m4, m5⟩, m6, m7⟩ := nd
  refine ⟨_, rfl, _, rfl, a.gd, _, rfl, R.handles, _, rfl, a.gd, _, rfl, R.nextly, a.hd, _, rfl, DPut.k (k := Sum.inl L.next) R.h (by rw [kD_len hlen, List.length_map]; omega), ?_⟩
  rw [putK_new _ (kD_none (lookW_none hn)), kD_app hlen]
  have tk1 : Tk H (upd H a.hd (.dK (kD (L.hs.map Prod.fst ++ [L.next]) (a.was ++ [wa])))) := fun b xs e => by
    rw [upd_ne (fun z => by rw [z, R.h] at e; cases e)]; exact e
  have g1 : (upd H a.hd (.dK (kD (L.hs.map Prod.fst ++ [L.next]) (a.was ++ [wa])))) a.gd = some (.dK (gdD a L)) := by rw [upd_ne m2]; exact R.g
  have h1 : (upd H a.hd (.dK (kD (L.hs.map Prod.fst ++ [L.next]) (a.was ++ [wa])))) a.hd = some (.dK (kD (L.hs.map Prod.fst ++ [L.next]) (a.was ++ [wa]))) := upd_same
  have k1 : ∀ b, b ≠ a.hd → (upd H a.hd (.dK (kD (L.hs.map Prod.fst ++ [L.next]) (a.was ++ [wa])))) b = H b := fun b n => upd_ne n
  generalize upd H a.hd (.dK (kD (L.hs.map Prod.fst ++ [L.next]) (a.was ++ [wa]))) = H1 at tk1 g1 h1 k1 ⊢
  refine ⟨_, rfl, a.gd, _, rfl, DGet.k (k := Sum.inr "next") g1, _, _, rfl, rfl, _, rfl, a.gd, _, rfl, DPut.k (k := Sum.inr "next") g1 (by show 4 < sizeLine; omega), ?_⟩
  have tk2 : Tk H1 (upd H1 a.gd (.dK (gdD a { L with next := L.next + 1 }))) := fun b xs e => by
    rw [upd_ne (fun z => by rw [z, g1] at e; cases e)]; exact e
  have k2 : ∀ b, b ≠ a.gd → (upd H1 a.gd (.dK (gdD a { L with next := L.next + 1 }))) b = H1 b := fun b n => upd_ne n
  have g2 : (upd H1 a.gd (.dK (gdD a { L with next := L.next + 1 }))) a.gd = some (.dK (gdD a { L with next := L.next + 1 })) := upd_same
  dsimp only
  rw [show putK (gdD a L) (Sum.inr (Str.ofString "next") : Key) (V.int (L.next + 1)) = gdD a { L with next := L.next + 1 } from put_next]
  generalize upd H1 a.gd (.dK (gdD a { L with next := L.next + 1 })) = H2 at tk2 k2 g2 ⊢
  refine ⟨_, rfl, a.gd, _, rfl, DGet.k (k := Sum.inr "next") g2, _, _, rfl, rfl, ?_⟩
  show Q (.int (L.next + 1 - 1)) H2
  rw [show L.next + 1 - 1 = L.next by omega]
  have off : ∀ b, ¬ GraO a b → b ≠ a.gd ∧ b ≠ a.hd := fun b n => ⟨fun z => n (by simp [GraO, z]), fun z => n (by simp [GraO, z])⟩
  refine q H2 { a with was := a.was ++ [wa] } rfl (fun b u n e => ⟨n, ?_⟩) ⟨g2, ?_, ?_, ?_, ?_, R.nd, ?_, R.z1, ?_, R.z3⟩
  · obtain ⟨o1, o2⟩ := off b n
    rw [k2 _ o1, k1 _ o2]; exact e
  · rw [k2 _ (fun z => m1 z.symm), k1 _ m4]; exact R.t
  · show H2 a.hd = some (.dK (kD ((L.hs ++ [(L.next, x)]).map Prod.fst) (a.was ++ [wa])))
    rw [k2 _ (fun z => m2 z.symm), h1, List.map_append]; rfl
  · refine ThAt.keep (tk1.trans tk2) (fun l hl' xs e => ?_) R.tw
    rw [k2 _ (fun z => m3 (by rw [← z]; exact hl')), k1 _ (fun z => m6 (by rw [← z]; exact hl'))]; exact e
  · show WoAt H2 (a.was ++ [wa]) ((L.hs ++ [(L.next, x)]).map Prod.snd)
    rw [List.map_append]
    exact WoAt.app ((tk1.trans tk2) _ _ hwa) (R.hw.tk (tk1.trans tk2))
  · show ((L.hs ++ [(L.next, x)]).map Prod.fst).Nodup
    rw [List.map_append, List.nodup_append]
    exact ⟨R.hn, by simp, by rintro y hy z hz' rfl; rw [List.map_cons, List.map_nil, List.mem_singleton] at hz'; subst hz'; exact lookW_none hn hy⟩
  · show (L.hs ++ [(L.next, x)]).length ≤ 100000
    rw [List.length_append]; show L.hs.length + 1 ≤ _; omega
end
end Wk
set_option maxRecDepth 100000
set_option maxHeartbeats 2000000
namespace Wk
open PySem L2 TL PyProof.Rows Hm
open SX (S S_len)
theorem floodG_len {G : Gc.Gr} {tie : Bool} : ∀ {f : Nat} {st : List Gc.Wo} {fd found : List Int}, Gc.floodG G tie f st fd = some found → st.length < f
  | 0, _, _, _, h => by cases h
  | f + 1, [], _, _, h => Nat.succ_pos _
  | f + 1, .word _ :: r, fd, found, h => by
    rw [Gc.floodG] at h
    exact Nat.succ_lt_succ (floodG_len h)
  | f + 1, .thing n :: r, fd, found, h => by
    rw [Gc.floodG] at h
    split at h
    · exact Nat.succ_lt_succ (floodG_len h)
    · have := floodG_len h
      split at this
      · rw [List.length_append] at this
        show r.length + 1 < f + 1
        omega
      · exact Nat.succ_lt_succ this
theorem floodG_more {G : Gc.Gr} {tie : Bool} : ∀ {f : Nat} {st : List Gc.Wo} {fd found : List Int}, Gc.floodG G tie f st fd = some found → fd.length ≤ found.length
  | 0, _, _, _, h => by cases h
  | f + 1, [], _, _, h => by rw [Gc.floodG] at h; cases h; exact Nat.le_refl _
  | f + 1, .word _ :: r, fd, found, h => by
    rw [Gc.floodG] at h
    exact floodG_more h
  | f + 1, .thing n :: r, fd, found, h => by
    rw [Gc.floodG] at h
    split at h
    · exact floodG_more h
    · have := floodG_more h
      rw [List.length_append] at this
      simp only [List.length_cons, List.length_nil] at this
      omega
def fndB (l : List Int) : List (Key × V) := l.map fun n => (.inl n, .bl true)
theorem fndB_look {n : Int} : ∀ {l : List Int}, (valV (fndB l) (.inl n : Key)).isSome = decide (n ∈ l)
  | [] => rfl
  | k :: r => by
    unfold fndB
    rw [List.map_cons]
    by_cases e : k = n
    · rw [valV_pos (by show (Sum.inl k : Key) = _; rw [e]), e, decide_eq_true List.mem_cons_self]; rfl
    · rw [valV_neg (fun z => e (Sum.inl.inj z))]
      refine (fndB_look (n := n) (l := r)).trans ?_
      by_cases h : n ∈ r
      · rw [decide_eq_true h, decide_eq_true (List.mem_cons_of_mem _ h)]
      · rw [decide_eq_false h, decide_eq_false (fun z => by rcases List.mem_cons.mp z with z | z; exact e z.symm; exact h z)]
theorem fndB_put {n : Int} {l : List Int} (h : n ∉ l) : putK (fndB l) (.inl n : Key) (.bl true) = fndB (l ++ [n]) := by
  rw [putK_new]
  · unfold fndB; rw [List.map_append]; rfl
  · have := fndB_look (n := n) (l := l)
    rw [decide_eq_false h] at this
    cases e : valV (fndB l) (Sum.inl n : Key) with
    | none => rfl
    | some u => rw [e] at this; cases this
theorem sname_tie {k : Int} (h0 : 0 ≤ k) (h5 : k ≤ 5) : (!decide (V.str (sname k) = V.str (Str.ofString "tie"))) = decide (k ≠ 5) := by
  obtain ⟨n, rfl⟩ := Int.eq_ofNat_of_zero_le h0
  have hn : n < 6 := by omega
  unfold sname
  rcases n with _ | _ | _ | _ | _ | _ | n
  · decide +kernel
  · decide +kernel
  · decide +kernel
  · decide +kernel
  · decide +kernel
  · decide +kernel
  · omega
section
variable {X : Cx} {K : PySem.W.Frag}
def rLenS (K : PySem.W.Frag) : List V → Hp → VK → Prop := fun xs H Q => ∃ p ys, xs = [V.ref p] ∧ (SqL K H p ys ∨ SqT K H p ys) ∧ Q (V.int (ys.length : Int)) H
theorem call_len_seqB (h : X.K = K) : CallR X (.builtin "len") (rLenS K) := h ▸ call_len_seq
end
section
variable {P : Program} {w : World} {K : PySem.W.Frag} {mg : Str → Option Value} {base : Heap}
abbrev s__law_flood : Stmt := top 78
theorem sc__law_flood : FnScope ["graph", "is_tie_led", "waiting", "found", "tag", "number"] ["graph", "is_tie_led"] (defScope s__law_flood) := ⟨rfl, rfl, rfl, by decide +kernel, rfl, by decide +kernel, by decide +kernel⟩
/-- all numbers are numbers of things -/
structure Cls0 (L : Lg) : Prop where
  k : ∀ n ∈ nums L.th.length, ∀ m, Gc.Wo.thing m ∈ (gOf L.th n).2 → m ∈ nums L.th.length
  h : ∀ n, Gc.Wo.thing n ∈ L.hs.map Prod.snd → n ∈ nums L.th.length
  s : ∀ g ∈ L.th, 0 ≤ g.1 ∧ g.1 ≤ 5
def sp_lflood : Sp := fun vs H Q _ => ∃ a L tie fd f, vs = [.ref a.gd, .bl tie] ∧ Gra H a L ∧ Cls0 L ∧ f ≤ 1000000 ∧ Gc.floodG (gOf L.th) tie f (L.hs.map Prod.snd).reverse [] = some fd ∧ fd.length < 64 ∧ ∀ H' p (ys : List Int), Same H H' → H p = none → ys.Perm fd → ys.Pairwise (· ≤ ·) → H' p = some (.lst (ys.map V.int)) → Q (.ref p) H'
theorem ok_lflood (T : Txt K mg base) {f : Addr} {fd : FuncData} (F : Fun K "_law_flood" "_law_flood" s__law_flood f fd) : FnOk P w K mg base CX0 1 f fd ["graph", "is_tie_led"] sp_lflood := by
  refine F.ok sc__law_flood (fun vs H Q E h => ?_) (fun cdv A outer s H vs Q E hr h => ?_)
  · obtain ⟨_, _, _, _, _, rfl, _⟩ := h; rfl
  obtain ⟨a, L, tie, found, f0, rfl, R, hc, hf0, hfl, h64, q⟩ := h
  refine ⟨_, (pss_cons (ps_par (i := 2) (j := 3) rfl sc__law_flood.nd rfl rfl (by decide) rfl rfl (pa_cons (pe_listVals rfl (pe_dget (hu1 hr) (pv 0) pe_str (fun _ _ => rfl)) rfl T.n_list boot_list) (pa_cons pe_dnewK pa_nil)) (by rfl))
    (pss_cons (ps_while PassesOwn.never (pt_cmpR op_gt (pe_callB call_len_seq rfl T.n_len boot_len (pa_cons (pv 2) pa_nil)) pe_int (nomark _)) (pss_cons (ps_asg (pe_bm0 PySem.F.plainAttrs_list PySem.F.slot_list_pop PySem.F.type_list_pop mt_pop (pv 2)) (pg_tup rfl (pgs_cons (pg_name (i := 4) sc__law_flood.nd rfl (Or.inl rfl)) (pgs_cons (pg_name (i := 5) sc__law_flood.nd rfl (Or.inl rfl)) pgs_nil))))
      (pss_one (ps_if (PW.pt (pw_and (pt_cmpR op_eq (pv 4) pe_str (nomark _)) (pw_and1 (pt_cmp (pc_dnotin (hu1 hr) (pv 5) (pv 3)))))) (pss_cons (ps_dput (hu1 hr) (pv 3) (pv 5) pe_bl rfl)
        (pss_one (ps_if (PW.pt (pw_or (pt_val (pv 1)) (pw_or1 (pt_cmpR op_ne (pe_ix ix_tup (pe_dget (hu1 hr) (pe_dget (hu1 hr) (pv 0) pe_str (fun _ _ => rfl)) (pv 5) (fun _ _ => rfl)) pe_int (fun _ _ => rfl)) pe_str (nomark _))))) (pss_one (ps_expr (pe_bm PySem.F.plainAttrs_list PySem.F.slot_list_extend PySem.F.type_list_extend mt_extend (pv 2) (pa_cons (pe_ix ix_tup (pe_dget (hu1 hr) (pe_dget (hu1 hr) (pv 0) pe_str (fun _ _ => rfl)) (pv 5) (fun _ _ => rfl)) pe_int (fun _ _ => rfl)) pa_nil)))) pss_nil))) pss_nil))))
    (pss_one (ps_ret (pe_callB (call_sortedDI rfl) rfl T.n_sorted (by decide +kernel) (pa_cons (pv 3) pa_nil)))))), ?_⟩
  have hz := line_eq
  generalize hσ : L2.start _ _ = σ0
  have hσ : σ0 = [some (.ref a.gd), some (.bl tie), none, none, none, none] := hσ.symm
  subst hσ
  refine ⟨_, rfl, a.gd, _, rfl, R.handles, a.hd, _, rfl, R.h, fun p np => ?_⟩
  rw [kD_snd R.hlen]
  have hp : (upd H p (.lst (a.was.map V.ref))) p = some (.lst (a.was.map V.ref)) := upd_same
  have g1 := same_new np (.lst (a.was.map V.ref))
  generalize upd H p (.lst (a.was.map V.ref)) = H1 at hp g1 ⊢
  intro d nd
  have npd : p ≠ d := ne_of_none hp nd
  have ndH := none_back g1 nd
  have hp1 := same_new nd (.dK []) _ _ hp
  have hd1 : (upd H1 d (.dK [])) d = some (.dK (fndB [])) := upd_same
  have g2 := g1.trans (same_new nd (.dK []))
  generalize upd H1 d (.dK []) = H2 at hp1 hd1 g2 ⊢
  clear hp g1 nd
  refine ⟨_, _, rfl, ?_⟩
  dsimp only [List.set]
  refine seq_join (fun σ H' => ∃ (x4 x5 : Option V), σ = [some (.ref a.gd), some (.bl tie), some (.ref p), some (.ref d), x4, x5] ∧ Same H H' ∧ H' d = some (.dK (fndB found))) ?_ ?_
  · rintro σ H3 ⟨x4, x5, rfl, g3, hd3⟩
    refine ⟨_, rfl, d, _, found, rfl, .inl hd3, (by unfold fndB; rw [List.map_map]; rfl), h64, fun ys py hperm hpw npy => ?_⟩
    exact q _ py ys (g3.trans (same_new npy _)) (none_back g3 npy) hperm hpw upd_same
  intro NX nx
  refine while_of (fun σ H' => ∃ (x4 x5 : Option V), σ = [some (.ref a.gd), some (.bl tie), some (.ref p), some (.ref d), x4, x5] ∧ Same H H' ∧ H' d = some (.dK (fndB found))) (fun m σ H' => m ≤ 1000000 ∧ ∃ (x4 x5 : Option V) (st : List Gc.Wo) (ws : List Addr) (fd : List Int), σ = [some (.ref a.gd), some (.bl tie), some (.ref p), some (.ref d), x4, x5] ∧ Same H H' ∧ H' p = some (.lst (ws.reverse.map V.ref)) ∧ WoAt H' ws st ∧ H' d = some (.dK (fndB fd)) ∧ (∀ n, Gc.Wo.thing n ∈ st → n ∈ nums L.th.length) ∧ Gc.floodG (gOf L.th) tie m st fd = some found) f0 ⟨hf0, none, none, _, a.was.reverse, [], rfl, g2, by rw [List.reverse_reverse]; exact hp1, ?_, hd1, fun n hn => hc.h n (List.mem_reverse.mp hn), hfl⟩ nx ?_
  · have h0 := R.hw.tk (tk_same g2)
    have rev : ∀ {as : List Addr} {xs : List Gc.Wo}, WoAt H2 as xs → WoAt H2 as.reverse xs.reverse := by
      intro as
      induction as with
      | nil => intro xs h; cases xs with
        | nil => exact h
        | cons x xs => exact h.elim
      | cons b as ih => intro xs h; cases xs with
        | nil => exact h.elim
        | cons x xs =>
          rw [List.reverse_cons, List.reverse_cons]
          exact WoAt.app h.1 (ih h.2)
    exact rev h0
  rintro NX nx m σ H3 ⟨hm6, x4, x5, st, ws, fd, rfl, g3, hp3, hw3, hd3, hn3, hk⟩
  have R3 := R.same g3
  cases m with
  | zero => cases hk
  | succ m =>
  cases st with
  | nil =>
    rw [Gc.floodG] at hk
    cases hk
    cases ws with
    | cons b ws => exact hw3.elim
    | nil =>
    refine ⟨_, rfl, p, _, rfl, .inl (SqL.of hp3), _, _, rfl, rfl, _, rfl, ?_⟩
    exact iteF (nx _ _ ⟨_, _, rfl, g3, hd3⟩)
  | cons x r =>
  cases ws with
  | nil => exact hw3.elim
  | cons b ws =>
  have hlen := floodG_len hk
  have hwl := hw3.len
  rw [List.reverse_cons, List.map_append] at hp3
  refine ⟨_, rfl, p, _, rfl, .inl (SqL.of hp3), _, _, rfl, rfl, _, rfl, ?_⟩
  rw [decide_eq_true (by rw [List.length_append]; show ((_ + 1 : Nat) : Int) > 0; omega)]
  refine iteT ⟨fun σ H' => m ≤ 1000000 ∧ ∃ (x4 x5 : Option V) (st : List Gc.Wo) (ws : List Addr) (fd : List Int), σ = [some (.ref a.gd), some (.bl tie), some (.ref p), some (.ref d), x4, x5] ∧ Same H H' ∧ H' p = some (.lst (ws.reverse.map V.ref)) ∧ WoAt H' ws st ∧ H' d = some (.dK (fndB fd)) ∧ (∀ n, Gc.Wo.thing n ∈ st → n ∈ nums L.th.length) ∧ Gc.floodG (gOf L.th) tie m st fd = some found, fun σ' H' h => ⟨m, Nat.lt_succ_self m, h⟩, ?_⟩
  refine ⟨_, rfl, .inl ⟨rfl, _, SqL.of hp3⟩, p, _, .ref b, rfl, rfl, hp3, (by simp), ?_⟩
  rw [show ws.reverse.map V.ref ++ [b].map V.ref = ws.reverse.map V.ref ++ [V.ref b] from rfl, List.dropLast_concat]
  have tk4 := tk_lst hp3 (.lst (ws.reverse.map V.ref))
  have g4 : Same H (upd H3 p (.lst (ws.reverse.map V.ref))) := same_mut g3 np _
  have hp4 : (upd H3 p (.lst (ws.reverse.map V.ref))) p = some (.lst (ws.reverse.map V.ref)) := upd_same
  have hd4 : (upd H3 p (.lst (ws.reverse.map V.ref))) d = some (.dK (fndB fd)) := by rw [upd_ne npd.symm]; exact hd3
  have hb4 := tk4 _ _ hw3.1
  have hw4 := WoAt.tk tk4 hw3.2
  generalize upd H3 p (.lst (ws.reverse.map V.ref)) = H4 at g4 hp4 hd4 hb4 hw4 ⊢
  have R4 := R.same g4
  cases x with
  | word n =>
    rw [Gc.floodG] at hk
    refine ⟨b, _, rfl, SqT.of hb4, rfl, _, _, rfl, _, _, rfl, rfl, ?_⟩
    refine ⟨_, rfl, rfl, _, rfl, ?_⟩
    rw [show decide (V.str (SX.S (codes "word")) = V.str (Str.ofString "thing")) = false from by decide +kernel]
    refine iteF (go_next ⟨by omega, _, _, r, ws, fd, rfl, g4, hp4, hw4, hd4, fun n hn => hn3 n (List.mem_cons_of_mem _ hn), hk⟩)
  | thing n =>
    have hin := hn3 n List.mem_cons_self
    rw [Gc.floodG] at hk
    refine ⟨b, _, rfl, SqT.of hb4, rfl, _, _, rfl, _, _, rfl, rfl, ?_⟩
    refine ⟨_, rfl, rfl, _, rfl, ?_⟩
    rw [show decide (V.str (SX.S (codes "thing")) = V.str (Str.ofString "thing")) = true from by decide +kernel]
    refine iteT ⟨_, rfl, _, rfl, d, _, rfl, DGet.k (k := Sum.inl n) hd4, _, rfl, ?_⟩
    rw [fndB_look]
    by_cases hf : n ∈ fd
    · rw [if_pos hf] at hk
      rw [decide_eq_true hf]
      exact iteF (go_next ⟨by omega, _, _, r, ws, fd, rfl, g4, hp4, hw4, hd4, fun n hn => hn3 n (List.mem_cons_of_mem _ hn), hk⟩)
    rw [if_neg hf] at hk
    rw [decide_eq_false hf]
    have hmore := floodG_more hk
    rw [List.length_append] at hmore
    refine iteT ⟨_, rfl, _, rfl, d, _, rfl, DPut.k (k := Sum.inl n) hd4 (by unfold fndB; rw [List.length_map]; omega), ?_⟩
    rw [fndB_put hf]
    have tk5 : Tk H4 (upd H4 d (.dK (fndB (fd ++ [n])))) := fun b xs e => by
      rw [upd_ne (fun z => by rw [z, hd4] at e; cases e)]; exact e
    have g5 : Same H (upd H4 d (.dK (fndB (fd ++ [n])))) := same_mut g4 ndH _
    have hp5 : (upd H4 d (.dK (fndB (fd ++ [n])))) p = some (.lst (ws.reverse.map V.ref)) := by rw [upd_ne npd]; exact hp4
    have hd5 : (upd H4 d (.dK (fndB (fd ++ [n])))) d = some (.dK (fndB (fd ++ [n]))) := upd_same
    have hw5 := WoAt.tk tk5 hw4
    dsimp only
    generalize upd H4 d (.dK (fndB (fd ++ [n]))) = H5 at tk5 g5 hp5 hd5 hw5 ⊢
    have R5 := R.same g5
    obtain ⟨t, l, wl, e1, e2, e3, e4, hla, i, ei, eil, eit⟩ := R5.thing hin
    have hl4 := e4.len
    have hsrt : 0 ≤ (gOf L.th n).1 ∧ (gOf L.th n).1 ≤ 5 := by
      obtain ⟨j, j1, j2, j3⟩ := gOf_in hin
      exact hc.s _ (List.mem_of_getElem? j3)
    -- the way in
    have goin : ∀ NX' : L2.St → Hp → Prop, (tie = true ∨ (gOf L.th n).1 ≠ 5) → NX' = (fun σ H' => m ≤ 1000000 ∧ ∃ (x4 x5 : Option V) (st : List Gc.Wo) (ws : List Addr) (fd : List Int), σ = [some (.ref a.gd), some (.bl tie), some (.ref p), some (.ref d), x4, x5] ∧ Same H H' ∧ H' p = some (.lst (ws.reverse.map V.ref)) ∧ WoAt H' ws st ∧ H' d = some (.dK (fndB fd)) ∧ (∀ n, Gc.Wo.thing n ∈ st → n ∈ nums L.th.length) ∧ Gc.floodG (gOf L.th) tie m st fd = some found) → NX' [some (.ref a.gd), some (.bl tie), some (.ref p), some (.ref d), some (V.str (SX.S (codes "thing"))), some (V.int n)] (upd H5 p (.lst (ws.reverse.map V.ref ++ wl.map V.ref))) := by
      rintro NX' ht rfl
      rw [if_pos ht] at hk
      have tk6 := tk_lst hp5 (.lst (ws.reverse.map V.ref ++ wl.map V.ref))
      refine ⟨by omega, _, _, (gOf L.th n).2.reverse ++ r, wl.reverse ++ ws, fd ++ [n], rfl, same_mut g5 np _, ?_, ?_, by rw [upd_ne npd.symm]; exact hd5, ?_, hk⟩
      · rw [upd_same, List.reverse_append, List.reverse_reverse, List.map_append]
      · have rev : ∀ {as : List Addr} {xs : List Gc.Wo}, WoAt (upd H5 p (.lst (ws.reverse.map V.ref ++ wl.map V.ref))) as xs → WoAt (upd H5 p (.lst (ws.reverse.map V.ref ++ wl.map V.ref))) as.reverse xs.reverse := by
          intro as
          induction as with
          | nil => intro xs h; cases xs with
            | nil => exact h
            | cons x xs => exact h.elim
          | cons b as ih => intro xs h; cases xs with
            | nil => exact h.elim
            | cons x xs =>
              rw [List.reverse_cons, List.reverse_cons]
              exact WoAt.app h.1 (ih h.2)
        exact WoAt.two (rev (e4.tk tk6)) (hw5.tk tk6)
      · intro k hk'
        rcases List.mem_append.mp hk' with z | z
        · exact hc.k n hin k (List.mem_reverse.mp z)
        · exact hn3 k (List.mem_cons_of_mem _ z)
    have hbound : (tie = true ∨ (gOf L.th n).1 ≠ 5) → wl.length + r.length < 1000000 := fun ht => by
      rw [if_pos ht] at hk
      have := floodG_len hk
      rw [List.length_append, List.length_reverse] at this
      omega
    simp only [List.length_cons] at hwl
    refine ⟨_, rfl, tie, rfl, ?_⟩
    cases tie with
    | true =>
      have hbd := hbound (.inl rfl)
      refine iteT ⟨_, rfl, .inl ⟨rfl, _, SqL.of hp5⟩, _, rfl, a.gd, _, rfl, R5.things, _, rfl, a.td, _, rfl, e1, t, _, _, _, rfl, rfl, SqT.of e2, atI_nat (j := 1) rfl, p, l, _, _, rfl, rfl, hp5, e3, (by rw [List.length_map, List.length_map, List.length_reverse]; omega), ?_⟩
      exact goin _ (.inl rfl) rfl
    | false =>
      refine iteF ⟨_, rfl, a.gd, _, rfl, R5.things, _, rfl, a.td, _, rfl, e1, t, _, _, _, rfl, rfl, SqT.of e2, atI_nat (j := 0) rfl, rfl, _, rfl, ?_⟩
      rw [sname_tie hsrt.1 hsrt.2]
      by_cases h5 : (gOf L.th n).1 = 5
      · rw [decide_eq_false (fun z => z h5)]
        rw [if_neg (by rintro (z | z); cases z; exact z h5)] at hk
        exact iteF (go_next ⟨by omega, _, _, r, ws, fd ++ [n], rfl, g5, hp5, hw5, hd5, fun n hn => hn3 n (List.mem_cons_of_mem _ hn), hk⟩)
      · rw [decide_eq_true h5]
        have hbd := hbound (.inr h5)
        refine iteT ⟨_, rfl, .inl ⟨rfl, _, SqL.of hp5⟩, _, rfl, a.gd, _, rfl, R5.things, _, rfl, a.td, _, rfl, e1, t, _, _, _, rfl, rfl, SqT.of e2, atI_nat (j := 1) rfl, p, l, _, _, rfl, rfl, hp5, e3, (by rw [List.length_map, List.length_map, List.length_reverse]; omega), ?_⟩
        exact goin _ (.inr h5) rfl
abbrev s__law_filled : Stmt := top 79
theorem sc__law_filled : FnScope ["graph", "number"] ["graph"] (defScope s__law_filled) := ⟨rfl, rfl, rfl, by decide +kernel, rfl, by decide +kernel, by decide +kernel⟩
theorem sumN_app (f : Int → Int) : ∀ (a b : List Int), Gc.sumN f (a ++ b) = Gc.sumN f a + Gc.sumN f b
  | [], b => by simp [Gc.sumN]
  | x :: a, b => by rw [List.cons_append, Gc.sumN, Gc.sumN, sumN_app f a b]; omega
theorem sumN_perm {f : Int → Int} {a b : List Int} (h : a.Perm b) : Gc.sumN f a = Gc.sumN f b := by
  induction h with
  | nil => rfl
  | cons x _ ih => rw [Gc.sumN, Gc.sumN, ih]
  | swap x y l => simp only [Gc.sumN]; omega
  | trans _ _ i1 i2 => rw [i1, i2]
def sp_lfilled : Sp := fun vs H Q _ => ∃ a L fd f, vs = [.ref a.gd] ∧ Gra H a L ∧ Cls0 L ∧ f ≤ 1000000 ∧ Gc.floodG (gOf L.th) true f (L.hs.map Prod.snd).reverse [] = some fd ∧ fd.length < 64 ∧ (∀ n ∈ fd, n ∈ nums L.th.length) ∧ ∀ H', Same H H' → Q (.int (Gc.sumN (Gc.szG (gOf L.th)) fd)) H'
theorem ok_lfilled (T : Txt K mg base) {f : Addr} {fd : FuncData} (F : Fun K "_law_filled" "_law_filled" s__law_filled f fd) (D__law_flood : Def P w K mg base CX0 "_law_flood" ["graph", "is_tie_led"] 1 sp_lflood) : FnOk P w K mg base CX0 2 f fd ["graph"] sp_lfilled := by
  refine F.ok sc__law_filled (fun vs H Q E h => ?_) (fun cdv A outer s H vs Q E hr h => ?_)
  · obtain ⟨_, _, _, _, rfl, _⟩ := h; rfl
  obtain ⟨a, L, found, f0, rfl, R, hc, hf0, hfl, h64, hin, q⟩ := h
  refine ⟨_, (pss_one (ps_ret (pe_callB (cr_sum rfl) rfl T.n_sum boot_sum (pa_cons (pe_lc (own := [("number", 1)]) (g := gName 1) (tt := tYes) rfl sc__law_filled.nd (pi_list (pe_call D__law_flood.ok (hr.mono (by omega)) rfl D__law_flood.g D__law_flood.k D__law_flood.b .nil pass0 (pa_cons (pv 0) (pa_cons pe_bl pa_nil)))) (blkOk_by (N := ["graph", "number"]) (sc := defScope s__law_filled) (by decide +kernel)) (fun _ _ _ _ _ => pg_name (i := 1) sc__law_filled.nd rfl (Or.inl rfl)) (fun _ _ _ _ _ => pts_nil) (fun _ _ _ _ _ => (pe_op op_add (pe_callB (call_len_seqB (K := K) rfl) rfl T.n_len boot_len (pa_cons (pe_ix (ix_tupB (K := K) rfl) (pe_dget (hu1 hr) (pe_dget (hu1 hr) (pv 0) pe_str (fun _ _ => rfl)) (pv 1) (fun _ _ => rfl)) pe_int (fun _ _ => rfl)) pa_nil)) pe_int))) pa_nil)))), ?_⟩
  have hz := line_eq
  refine ⟨_, rfl, a, L, true, found, f0, rfl, R, hc, hf0, hfl, h64, fun H1 p ys g1 np hperm hpw hp => ?_⟩
  refine ⟨p, rfl, ⟨_, SqL.of hp⟩, fun D hD => ?_⟩
  have hyl := hperm.length_eq
  refine lc_list (xs := ys.map V.int) (fun i H' => Same H1 H' ∧ i ≤ ys.length ∧ ∃ ms : List Int, H' D = some (.lst (ms.map V.int)) ∧ ms.length = i ∧ ms.sum = Gc.sumN (Gc.szG (gOf L.th)) (ys.take i)) ⟨same_new hD _, Nat.zero_le _, [], upd_same, rfl, rfl⟩ (fun i H' _ h => SqL.of (h.1 _ _ hp)) ?_ ?_
  · rintro i v H' hv ⟨g, hi, ms, hd, hml, hsum⟩
    obtain ⟨n, ey, rfl, _⟩ := ints_at hv
    have hlt : i < ys.length := (List.getElem?_eq_some_iff.mp ey).1
    have hn := hin n (hperm.mem_iff.mp (List.mem_of_getElem? ey))
    have R' := R.same (g1.trans g)
    obtain ⟨t, l, wl, e1, e2, e3, e4, hla, j, ej, ejl, ejt⟩ := R'.thing hn
    have hl4 := e4.len
    refine ⟨rfl, ?_⟩
    unfold tYes
    dsimp only
    rw [if_pos rfl]
    refine ⟨_, rfl, a.gd, _, rfl, R'.things, _, rfl, a.td, _, rfl, e1, t, _, _, _, rfl, rfl, SqT.of e2, atI_nat (j := 1) rfl, l, wl.map V.ref, rfl, .inl (SqL.of e3), _, _, rfl, rfl, ms.map V.int, hd, (by rw [List.length_map]; omega), ?_⟩
    refine ⟨same_mut g hD _, hlt, ms ++ [((wl.map V.ref).length : Int) + 2], ?_, by rw [List.length_append, hml]; rfl, ?_⟩
    · rw [upd_same, List.map_append]; rfl
    · rw [take_app ey, sumN_app, List.sum_append, hsum]
      simp only [Gc.sumN, List.sum_cons, List.sum_nil]
      unfold Gc.szG
      rw [List.length_map, hl4]
  · rintro H' ⟨g, hi, ms, hd, hml, hsum⟩
    rw [List.length_map, List.take_length] at hsum
    refine ⟨D, ms, rfl, SqL.of hd, ?_⟩
    rw [hsum, sumN_perm hperm]
    exact q _ (g1.trans g)
end
end Wk
set_option maxRecDepth 100000
set_option maxHeartbeats 2000000
namespace Wk
open PySem L2 TL PyProof.Rows Hm
open SX (S S_len)
/-- sorted, without doubles: there is one such list -/
theorem sorted_is {a b : List Int} (h1 : a.Perm b) (h2 : a.Pairwise (· ≤ ·)) (h3 : b.Pairwise (· ≤ ·)) (h4 : b.Nodup) : a = b :=
  Gc.sorted_eq a b h2 h3 (h1.nodup_iff.mpr h4) h4 fun x => h1.mem_iff
section
variable {P : Program} {w : World} {K : PySem.W.Frag} {mg : Str → Option Value} {base : Heap}
abbrev s__law_meaning : Stmt := top 80
theorem sc__law_meaning : FnScope ["graph", "handles", "things", "number", "handle"] ["graph"] (defScope s__law_meaning) := ⟨rfl, rfl, rfl, by decide +kernel, rfl, by decide +kernel, by decide +kernel⟩
def sp_lmeaning : Sp := fun vs H Q _ => ∃ a L fd f, vs = [.ref a.gd] ∧ Gra H a L ∧ Cls0 L ∧ f ≤ 1000000 ∧ Gc.floodG (gOf L.th) true f (L.hs.map Prod.snd).reverse [] = some fd ∧ fd.length < 64 ∧ (∀ n ∈ fd, n ∈ nums L.th.length) ∧ L.hs.length < 64 ∧ (L.hs.map Prod.fst).Pairwise (· ≤ ·) ∧
  ∀ H' p (ys : List Int), Same H H' → ys.Perm fd → ys.Pairwise (· ≤ ·) → Dt H' (.ref p) (mnP L.hs (gOf L.th) ys) → Q (.ref p) H'
theorem ok_lmeaning (T : Txt K mg base) {f : Addr} {fd : FuncData} (F : Fun K "_law_meaning" "_law_meaning" s__law_meaning f fd) (D__law_flood : Def P w K mg base CX0 "_law_flood" ["graph", "is_tie_led"] 1 sp_lflood) : FnOk P w K mg base CX0 2 f fd ["graph"] sp_lmeaning := by
  refine F.ok sc__law_meaning (fun vs H Q E h => ?_) (fun cdv A outer s H vs Q E hr h => ?_)
  · obtain ⟨_, _, _, _, rfl, _⟩ := h; rfl
  obtain ⟨a, L, found, f0, rfl, R, hc, hf0, hfl, h64, hin, hhl, hhs, q⟩ := h
  refine ⟨_, (pss_cons (ps_set (i := 1) sc__law_meaning.nd rfl (Or.inl rfl) (pe_tupleOf rfl T.n_tuple (pe_lc (own := [("handle", 4)]) (g := gName 4) (tt := tYes) rfl sc__law_meaning.nd (pi_list (pe_callB (call_sortedDI rfl) rfl T.n_sorted (by decide +kernel) (pa_cons (pe_dget (hu1 hr) (pv 0) pe_str (fun _ _ => rfl)) pa_nil))) (blkOk_by (N := ["graph", "handles", "things", "number", "handle"]) (sc := defScope s__law_meaning) (by decide +kernel)) (fun _ _ _ _ _ => pg_name (i := 4) sc__law_meaning.nd rfl (Or.inl rfl)) (fun _ _ _ _ _ => pts_nil) (fun _ _ _ _ _ => (pe_tup (pa_cons (pv 4) (pa_cons (pe_dget (hu1 hr) (pe_dget (hu1 hr) (pv 0) pe_str (fun _ _ => rfl)) (pv 4) (fun _ _ => rfl)) pa_nil)))))))
    (pss_cons (ps_set (i := 2) sc__law_meaning.nd rfl (Or.inl rfl) (pe_lst pa_nil))
    (pss_cons (ps_for PassesOwn.never rfl (pi_list (pe_call D__law_flood.ok (hr.mono (by omega)) rfl D__law_flood.g D__law_flood.k D__law_flood.b .nil pass0 (pa_cons (pv 0) (pa_cons pe_bl pa_nil)))) (pg_name (i := 3) sc__law_meaning.nd rfl (Or.inl rfl)) (pss_one (ps_expr (pe_bm PySem.F.plainAttrs_list PySem.F.slot_list_append PySem.F.type_list_append mt_append (pv 2) (pa_cons (pe_tup (pa_cons (pv 3) (pa_cons (pe_ix ix_tup (pe_dget (hu1 hr) (pe_dget (hu1 hr) (pv 0) pe_str (fun _ _ => rfl)) (pv 3) (fun _ _ => rfl)) pe_int (fun _ _ => rfl)) (pa_cons (pe_tupleOf rfl T.n_tuple (pe_ix ix_tup (pe_dget (hu1 hr) (pe_dget (hu1 hr) (pv 0) pe_str (fun _ _ => rfl)) (pv 3) (fun _ _ => rfl)) pe_int (fun _ _ => rfl))) pa_nil)))) pa_nil)))))
    (pss_one (ps_ret (pe_tup (pa_cons (pv 1) (pa_cons (pe_tupleOf rfl T.n_tuple (pv 2)) pa_nil)))))))), ?_⟩
  have hz := line_eq
  generalize hσ : L2.start _ _ = σ0
  have hσ : σ0 = [some (.ref a.gd), none, none, none, none] := hσ.symm
  subst hσ
  -- handles
  refine seq_set ⟨_, rfl, a.gd, _, rfl, R.handles, a.hd, _, L.hs.map Prod.fst, rfl, .inl R.h, kD_fst R.hlen, (by rw [List.length_map]; exact hhl), fun zs pz hperm hpw npz => ?_⟩
  have ez : zs = L.hs.map Prod.fst := sorted_is hperm hpw hhs R.hn
  subst ez
  have hpz : (upd H pz (.lst ((L.hs.map Prod.fst).map V.int))) pz = some (.lst ((L.hs.map Prod.fst).map V.int)) := upd_same
  have g1 := same_new npz (.lst ((L.hs.map Prod.fst).map V.int))
  generalize upd H pz (.lst ((L.hs.map Prod.fst).map V.int)) = H1 at hpz g1 ⊢
  refine ⟨pz, rfl, ⟨_, SqL.of hpz⟩, fun D hD => ?_⟩
  refine lc_list (xs := (L.hs.map Prod.fst).map V.int) (fun i H' => Same H1 H' ∧ i ≤ L.hs.length ∧ ∃ as : List V, H' D = some (.lst as) ∧ as.length = i ∧ DtAll H' as ((L.hs.take i).map hP)) ⟨same_new hD _, Nat.zero_le _, [], upd_same, rfl, trivial⟩ (fun i H' _ h => SqL.of (h.1 _ _ hpz)) ?_ ?_
  · rintro i v H' hv ⟨g, hi, as, hd, hal, hdt⟩
    obtain ⟨n, ey, rfl, _⟩ := ints_at hv
    rw [List.getElem?_map] at ey
    cases eh : L.hs[i]? with
    | none => rw [eh] at ey; cases ey
    | some hx =>
    rw [eh] at ey
    cases ey
    have hlt : i < L.hs.length := (List.getElem?_eq_some_iff.mp eh).1
    have R' := R.same (g1.trans g)
    obtain ⟨wa, e1, e2⟩ : ∃ wa, DGet H' a.hd (.int hx.1) (some (.ref wa)) ∧ H' wa = some (.tup (woV hx.2)) := by
      obtain ⟨wa, f1, f2⟩ := R'.hw.at (i := i) (x := hx.2) (by rw [List.getElem?_map, eh]; rfl)
      refine ⟨wa, ?_, f2⟩
      have : valV (kD (L.hs.map Prod.fst) a.was) (Sum.inl hx.1 : Key) = some (.ref wa) := kD_get (i := i) R.hn (by rw [List.getElem?_map, eh]; rfl) f1
      rw [← this]
      exact DGet.k (k := Sum.inl hx.1) R'.h
    refine ⟨rfl, ?_⟩
    unfold tYes
    dsimp only
    rw [if_pos rfl]
    refine ⟨_, rfl, _, rfl, a.gd, _, rfl, R'.handles, _, rfl, a.hd, _, rfl, e1, (by show 2 ≤ sizeLine; rw [hz]; decide), fun pt npt => ?_⟩
    have g2 := same_new npt (.tup [V.int hx.1, V.ref wa])
    have hpt : (upd H' pt (.tup [V.int hx.1, V.ref wa])) pt = some (.tup [V.int hx.1, V.ref wa]) := upd_same
    have hd2 := g2 _ _ hd
    have hdt2 := DtAll.tk (tk_same g2) _ _ hdt
    have e22 := g2 _ _ e2
    have gg := g.trans g2
    generalize upd H' pt (.tup [V.int hx.1, V.ref wa]) = H2 at g2 hpt hd2 hdt2 e22 gg ⊢
    refine ⟨as, hd2, (by omega), same_mut gg hD _, hlt, as ++ [.ref pt], upd_same, (by rw [List.length_append, hal]; rfl), ?_⟩
    rw [take_app eh, List.map_append]
    refine DtAll.snoc ?_ (DtAll.tk (tk_lst hd2 _) _ _ hdt2)
    exact Dt.tk (tk_lst hd2 _) _ _ (Dt.tup hpt ⟨rfl, dt_wo e22, trivial⟩)
  rintro H2 ⟨g2, _, as, hd, hal, hdt⟩
  rw [List.length_map, List.length_map] at hal
  rw [List.length_map, List.length_map, List.take_length] at hdt
  refine .inl ⟨D, _, rfl, SqL.of hd, fun p1 np1 => ?_⟩
  have g3 := (g1.trans g2).trans (same_new np1 (.tup as))
  have hp1 : (upd H2 p1 (.tup as)) p1 = some (.tup as) := upd_same
  have hdt1 := DtAll.tk (tk_new np1 (.tup as)) _ _ hdt
  generalize upd H2 p1 (.tup as) = H3 at g3 hp1 hdt1 ⊢
  have dheld : Dt H3 (.ref p1) (.tuple (L.hs.map hP)) := Dt.tup hp1 hdt1
  clear hdt hd hdt1 hp1 g2 g1
  dsimp only [List.set]
  -- things
  refine seq_set ⟨Nat.zero_le _, fun pt npt => ?_⟩
  have g5 := g3.trans (same_new npt (.lst []))
  have hpt : (upd H3 pt (.lst [])) pt = some (.lst []) := upd_same
  have dheld5 := Dt.tk (tk_new npt (.lst [])) _ _ dheld
  have nptH := none_back g3 npt
  generalize upd H3 pt (.lst []) = H5 at g5 hpt dheld5 ⊢
  dsimp only [List.set]
  refine seq_join (fun σ H' => ∃ (x3 x4 : Option V) (ys : List Int) (as : List V), σ = [some (.ref a.gd), some (.ref p1), some (.ref pt), x3, x4] ∧ Same H H' ∧ Dt H' (.ref p1) (.tuple (L.hs.map hP)) ∧ H' pt = some (.lst as) ∧ as.length ≤ 100 ∧ DtAll H' as (ys.map (thP (gOf L.th))) ∧ ys.Perm found ∧ ys.Pairwise (· ≤ ·)) ?_ ?_
  · rintro σ H' ⟨x3, x4, ys, as, rfl, g, dh, hpt, hal, hdt, hp, hw⟩
    refine ⟨_, rfl, _, rfl, .inl ⟨pt, _, rfl, SqL.of hpt, fun p2 np2 => ?_⟩⟩
    have gA := g.trans (same_new np2 (.tup as))
    have hp2 : (upd H' p2 (.tup as)) p2 = some (.tup as) := upd_same
    have dh2 := Dt.tk (tk_new np2 (.tup as)) _ _ dh
    have hdt2 := DtAll.tk (tk_new np2 (.tup as)) _ _ hdt
    generalize upd H' p2 (.tup as) = H6 at gA hp2 dh2 hdt2 ⊢
    refine ⟨(by show 2 ≤ sizeLine; rw [hz]; decide), fun p3 np3 => ?_⟩
    refine q _ p3 ys (gA.trans (same_new np3 _)) hp hw ?_
    refine Dt.tup upd_same ⟨Dt.tk (tk_new np3 _) _ _ dh2, Dt.tk (tk_new np3 _) _ _ (Dt.tup hp2 hdt2), trivial⟩
  intro NX nx
  refine ⟨_, rfl, a, L, true, found, f0, rfl, R.same g5, hc, hf0, hfl, h64, fun H6 py ys g6 npy hperm hpw hpy => ?_⟩
  have hyl := hperm.length_eq
  have hpt6 := g6 _ _ hpt
  have dheld6 := Dt.tk (tk_same g6) _ _ dheld5
  have hny : pt ≠ py := ne_of_none hpt npy
  have g56 := g5.trans g6
  refine ⟨py, rfl, ⟨_, SqL.of hpy⟩, ?_⟩
  refine for_list (D := { nx := NX, rt := Q }) (xs := ys.map V.int) (fun i σ H' => ∃ (x3 x4 : Option V) (as : List V), σ = [some (.ref a.gd), some (.ref p1), some (.ref pt), x3, x4] ∧ Same H H' ∧ Dt H' (.ref p1) (.tuple (L.hs.map hP)) ∧ H' pt = some (.lst as) ∧ H' py = some (.lst (ys.map V.int)) ∧ as.length = i ∧ i ≤ ys.length ∧ DtAll H' as ((ys.take i).map (thP (gOf L.th)))) ⟨_, _, [], rfl, g56, dheld6, hpt6, hpy, rfl, Nat.zero_le _, trivial⟩ (fun i σ H' _ h => by obtain ⟨_, _, _, _, _, _, _, h, _⟩ := h; exact SqL.of h) ?_ ?_
  · rintro i v σ H' hv ⟨x3, x4, as, rfl, g, dh, hpt, hpy, hal, hi, hdt⟩
    obtain ⟨n, ey, rfl, _⟩ := ints_at hv
    have hlt : i < ys.length := (List.getElem?_eq_some_iff.mp ey).1
    have hn := hin n (hperm.mem_iff.mp (List.mem_of_getElem? ey))
    have R' := R.same g
    obtain ⟨t, l, wl, e1, e2, e3, e4, hla, j, ej, ejl, ejt⟩ := R'.thing hn
    show tDrop _ _ [some (.ref a.gd), some (.ref p1), some (.ref pt), some (.int n), x4] H'
    refine ⟨_, rfl, .inl ⟨rfl, _, SqL.of hpt⟩, _, rfl, _, rfl, a.gd, _, rfl, R'.things, _, rfl, a.td, _, rfl, e1, t, _, _, _, rfl, rfl, SqT.of e2, atI_nat (j := 0) rfl, _, rfl, a.gd, _, rfl, R'.things, _, rfl, a.td, _, rfl, e1, t, _, _, _, rfl, rfl, SqT.of e2, atI_nat (j := 1) rfl, .inl ⟨l, _, rfl, SqL.of e3, fun p8 np8 => ?_⟩⟩
    have g9 := same_new np8 (.tup (wl.map V.ref))
    have hp8 : (upd H' p8 (.tup (wl.map V.ref))) p8 = some (.tup (wl.map V.ref)) := upd_same
    have e48 := WoAt.tk (tk_same g9) e4
    have hpt9 := g9 _ _ hpt
    have hpy9 := g9 _ _ hpy
    have dh9 := Dt.tk (tk_same g9) _ _ dh
    have hdt9 := DtAll.tk (tk_same g9) _ _ hdt
    have gg := g.trans g9
    generalize upd H' p8 (.tup (wl.map V.ref)) = H9 at g9 hp8 e48 hpt9 hpy9 dh9 hdt9 gg ⊢
    have dall : ∀ {ws : List Addr} {xs : List Gc.Wo}, WoAt H9 ws xs → DtAll H9 (ws.map V.ref) (xs.map woP) := by
      intro ws
      induction ws with
      | nil => intro xs h; cases xs with
        | nil => exact trivial
        | cons x xs => exact h.elim
      | cons b ws ih => intro xs h; cases xs with
        | nil => exact h.elim
        | cons x xs => exact ⟨dt_wo h.1, ih h.2⟩
    have dw : Dt H9 (.ref p8) (.tuple ((gOf L.th n).2.map woP)) := Dt.tup hp8 (dall e48)
    refine ⟨(by show 3 ≤ sizeLine; rw [hz]; decide), fun p9 np9 => ?_⟩
    have gC := same_new np9 (.tup [V.int n, V.str (sname (gOf L.th n).1), V.ref p8])
    have hp9 : (upd H9 p9 (.tup [V.int n, V.str (sname (gOf L.th n).1), V.ref p8])) p9 = some (.tup [V.int n, V.str (sname (gOf L.th n).1), V.ref p8]) := upd_same
    have hptC := gC _ _ hpt9
    have hpyC := gC _ _ hpy9
    have dhC := Dt.tk (tk_same gC) _ _ dh9
    have hdtC := DtAll.tk (tk_same gC) _ _ hdt9
    have dwC := Dt.tk (tk_same gC) _ _ dw
    have gall := gg.trans gC
    generalize upd H9 p9 (.tup [V.int n, V.str (sname (gOf L.th n).1), V.ref p8]) = HC at gC hp9 hptC hpyC dhC hdtC dwC gall ⊢
    refine ⟨pt, as, _, rfl, rfl, hptC, (by omega), ?_⟩
    refine ⟨_, _, as ++ [.ref p9], rfl, same_mut gall nptH _, Dt.tk (tk_lst hptC _) _ _ dhC, upd_same, (by rw [upd_ne hny.symm]; exact hpyC), (by rw [List.length_append, hal]; rfl), hlt, ?_⟩
    rw [take_app ey, List.map_append]
    refine DtAll.snoc ?_ (DtAll.tk (tk_lst hptC _) _ _ hdtC)
    exact Dt.tk (tk_lst hptC _) _ _ (Dt.tup hp9 ⟨rfl, rfl, dwC, trivial⟩)
  · rintro σ H' ⟨x3, x4, as, rfl, g, dh, hpt, hpy, hal, hi, hdt⟩
    rw [List.length_map] at hal
    rw [List.length_map, List.take_length] at hdt
    exact nx _ _ ⟨_, _, ys, as, rfl, g, dh, hpt, by omega, hdt, hperm, hpw⟩
end
end Wk
set_option maxRecDepth 100000
set_option maxHeartbeats 2000000
namespace Wk
open PySem L2 TL PyProof.Rows Hm
open SX (S S_len)
/-- a word that is no thing's -/
def plainW (n : Int) : Bool := isW (.int n) && !isT n
theorem plain_of {n t p : Int} (e : n = 8 * p + t) (h0 : 0 < t) (h8 : t < 8) (h : okT t p = true) : plainW n = true := by
  have e1 : n % 8 = t := by omega
  have e2 : n / 8 = p := by omega
  show (okT (n % 8) (n / 8) && !(n % 8 == 0)) = true
  rw [e1, e2, h, Bool.true_and]
  have : (t == 0) = false := by rw [beq_eq_false_iff_ne]; omega
  rw [this]; rfl
theorem plain1 {p : Int} (h1 : -(2 ^ 59) ≤ p) (h2 : p ≤ 2 ^ 59 - 1) : plainW (8 * p + 1) = true := plain_of rfl (by decide) (by decide) (decide_eq_true (.inl ⟨rfl, h1, h2⟩))
theorem plain2 {p : Int} (h1 : 0 ≤ p) (h2 : p ≤ 1) : plainW (8 * p + 2) = true := plain_of rfl (by decide) (by decide) (decide_eq_true (.inr (.inr (.inl ⟨rfl, h1, h2⟩))))
theorem plain3 : plainW 3 = true := plain_of (p := 0) (t := 3) rfl (by decide) (by decide) (decide_eq_true (.inr (.inr (.inr (.inl ⟨rfl, rfl⟩)))))
theorem plain4 {p : Int} (h1 : 0 ≤ p) (h2 : p ≤ 8) : plainW (8 * p + 4) = true := plain_of rfl (by decide) (by decide) (decide_eq_true (.inr (.inr (.inr (.inr ⟨rfl, h1, h2⟩)))))
theorem plain5 {p : Int} (h1 : 0 ≤ p) : plainW (8 * p + 5) = true := plain_of rfl (by decide) (by decide) (decide_eq_true (.inr (.inl ⟨.inr rfl, h1⟩)))
def plainS (n : Int) : Prop := plainW n = true ∧ Sma n
theorem ps1 {p : Int} (h1 : -(2 ^ 59) ≤ p) (h2 : p ≤ 2 ^ 59 - 1) : plainS (8 * p + 1) := ⟨plain1 h1 h2, sma_of (by omega) (by omega)⟩
theorem ps2 {p : Int} (h1 : 0 ≤ p) (h2 : p ≤ 1) : plainS (8 * p + 2) := ⟨plain2 h1 h2, sma_of (by omega) (by omega)⟩
theorem ps4 {p : Int} (h1 : 0 ≤ p) (h2 : p ≤ 8) : plainS (8 * p + 4) := ⟨plain4 h1 h2, sma_of (by omega) (by omega)⟩
theorem ps5 {p : Int} (h1 : 0 ≤ p) (h2 : p ≤ 1000) : plainS (8 * p + 5) := ⟨plain5 h1, sma_of (by omega) (by omega)⟩
theorem ps3 : plainS 3 := ⟨plain3, sma_of (by decide) (by decide)⟩
/-- an item of the law's -/
def ItG (hs : List (Int × Gc.Wo)) (it : Hm.It) : Prop := Gc.itGood hs it = true ∧ ∀ n, it = .word n → Sma n
theorem itg_word {hs : List (Int × Gc.Wo)} {n : Int} (h : plainS n) : ItG hs (.word n) := ⟨h.1, fun m e => by cases e; exact h.2⟩
theorem itg_held {hs : List (Int × Gc.Wo)} {n : Int} (h : (Gc.lookW hs n).isSome = true) : ItG hs (.held n) := ⟨h, fun m e => by cases e⟩
section
variable {P : Program} {w : World} {K : PySem.W.Frag} {mg : Str → Option Value} {base : Heap}
abbrev s__law_plain_word : Stmt := top 81
theorem sc__law_plain_word : FnScope ["bag", "kind"] ["bag"] (defScope s__law_plain_word) := ⟨rfl, rfl, rfl, by decide +kernel, rfl, by decide +kernel, by decide +kernel⟩
def sp_plain : Sp := fun vs H Q _ => ∃ a g, vs = [.ref a] ∧ Bag H a g ∧ ∀ H' n, plainS n → But a g H H' → Bag H' a g → Q (.int n) H'
theorem ok_plain (T : Txt K mg base) {f : Addr} {fd : FuncData} (F : Fun K "_law_plain_word" "_law_plain_word" s__law_plain_word f fd) (D__law_pick : Def P w K mg base CX0 "_law_pick" ["bag", "many"] 1 sp_pick) (D__law_some : Def P w K mg base CX0 "_law_some" ["bag", "things"] 2 (sp_some K)) : FnOk P w K mg base CX0 3 f fd ["bag"] sp_plain := by
  refine F.ok sc__law_plain_word (fun vs H Q E h => ?_) (fun cdv A outer s H vs Q E hr h => ?_)
  · obtain ⟨_, _, rfl, _⟩ := h; rfl
  obtain ⟨a, g, rfl, hB, q⟩ := h
  refine ⟨_, (pss_cons (ps_set (i := 1) sc__law_plain_word.nd rfl (Or.inl rfl) (pe_call D__law_pick.ok (hr.mono (by omega)) rfl D__law_pick.g D__law_pick.k D__law_pick.b .nil pass0 (pa_cons (pv 0) (pa_cons pe_int pa_nil))))
    (pss_cons (ps_if (pt_cmpR op_lt (pv 1) pe_int (nomark _)) (pss_one (ps_ret (pe_op op_add (pe_op op_mul pe_int (pe_call D__law_some.ok (hr.mono (by omega)) rfl D__law_some.g D__law_some.k D__law_some.b .nil pass0 (pa_cons (pv 0) (pa_cons (pe_lst (pa_cons pe_int (pa_cons pe_int (pa_cons (pe_un un_neg pe_int) (pa_cons pe_int (pa_cons (pe_call D__law_pick.ok (hr.mono (by omega)) rfl D__law_pick.g D__law_pick.k D__law_pick.b .nil pass0 (pa_cons (pv 0) (pa_cons pe_int pa_nil))) (pa_cons (pe_op op_sub (pe_op op_pow pe_int pe_int) pe_int) (pa_cons (pe_un un_neg (pe_op op_pow pe_int pe_int)) pa_nil)))))))) pa_nil)))) pe_int))) pss_nil)
    (pss_cons (ps_if (pt_cmpR op_eq (pv 1) pe_int (nomark _)) (pss_one (ps_ret (pe_op op_add (pe_op op_mul pe_int (pe_call D__law_pick.ok (hr.mono (by omega)) rfl D__law_pick.g D__law_pick.k D__law_pick.b .nil pass0 (pa_cons (pv 0) (pa_cons pe_int pa_nil)))) pe_int))) pss_nil)
    (pss_cons (ps_if (pt_cmpR op_eq (pv 1) pe_int (nomark _)) (pss_one (ps_ret pe_int)) pss_nil)
    (pss_one (ps_ret (pe_ifExp (pt_cmpR op_eq (pv 1) pe_int (nomark _)) (pe_op op_add (pe_op op_mul pe_int (pe_call D__law_pick.ok (hr.mono (by omega)) rfl D__law_pick.g D__law_pick.k D__law_pick.b .nil pass0 (pa_cons (pv 0) (pa_cons pe_int pa_nil)))) pe_int) (pe_op op_add (pe_op op_mul pe_int (pe_call D__law_pick.ok (hr.mono (by omega)) rfl D__law_pick.g D__law_pick.k D__law_pick.b .nil pass0 (pa_cons (pv 0) (pa_cons pe_int pa_nil)))) pe_int)))))))), ?_⟩
  have hz := line_eq
  refine seq_set ⟨_, rfl, a, g, 7, rfl, by decide, by decide, hB, fun H1 k hk b1 B1 => ?_⟩
  dsimp only [List.set]
  have out : ∀ {n : Int} {H' : Hp}, plainS n → But a g H1 H' → Bag H' a g → Q (.int n) H' := fun h b B => q _ _ h (b1.trans b) B
  refine ⟨_, rfl, _, _, rfl, rfl, _, rfl, ?_⟩
  refine ited (fun _ => ?_) (fun _ => go_next ?_)
  · refine ⟨_, rfl, 1, rfl, _, rfl, a, g, 1000, rfl, by decide, by decide, B1, fun H2 r hr2 b2 B2 => ?_⟩
    refine ⟨_, _, rfl, rfl, ⟨by decide, by decide, by decide⟩, _, _, rfl, rfl, _, _, rfl, rfl, ⟨by decide, by decide, by decide⟩, _, rfl, (by show 7 ≤ sizeLine; rw [hz]; decide), fun l nl => ?_⟩
    have e59 : ((2 : Int) ^ (59 : Int).toNat) = 2 ^ 59 := rfl
    obtain ⟨o1, o2⟩ := B2.off nl
    have gl := same_new nl (.lst [V.int 0, V.int 1, V.int (-1), V.int 65, V.int (r : Int), V.int (2 ^ 59 - 1), V.int (-(2 ^ 59))])
    refine ⟨a, g, l, [V.int 0, V.int 1, V.int (-1), V.int 65, V.int (r : Int), V.int (2 ^ 59 - 1), V.int (-(2 ^ 59))], rfl, B2.new nl _, SqL.of upd_same, o1, o2, (by show 0 < 7; decide), (by show 7 < 2 ^ 100; decide), fun H3 v hv b3 B3 => ?_⟩
    obtain ⟨p, rfl, h1, h2⟩ : ∃ p : Int, v = .int p ∧ -(2 ^ 59) ≤ p ∧ p ≤ 2 ^ 59 - 1 := by
      simp only [List.mem_cons, List.not_mem_nil, or_false] at hv
      rcases hv with rfl | rfl | rfl | rfl | rfl | rfl | rfl
      · exact ⟨_, rfl, by decide, by decide⟩
      · exact ⟨_, rfl, by decide, by decide⟩
      · exact ⟨_, rfl, by decide, by decide⟩
      · exact ⟨_, rfl, by decide, by decide⟩
      · exact ⟨_, rfl, by omega, by omega⟩
      · exact ⟨_, rfl, by decide, by decide⟩
      · exact ⟨_, rfl, by decide, by decide⟩
    refine ⟨_, _, rfl, rfl, .inl ⟨by decide, by decide⟩, _, _, rfl, rfl, ?_⟩
    exact out (ps1 h1 h2) ((b2.new nl _).trans b3) B3
  refine ⟨_, rfl, rfl, _, rfl, ?_⟩
  refine ited (fun _ => ?_) (fun _ => go_next ?_)
  · refine ⟨_, rfl, a, g, 2, rfl, by decide, by decide, B1, fun H2 r hr2 b2 B2 => ⟨_, _, rfl, rfl, .inl ⟨by decide, by decide⟩, _, _, rfl, rfl, out (ps2 (by omega) (by omega)) b2 B2⟩⟩
  refine ⟨_, rfl, rfl, _, rfl, ?_⟩
  refine ited (fun _ => ?_) (fun _ => go_next ?_)
  · exact out ps3 (.refl a g H1) B1
  refine ⟨_, rfl, rfl, _, rfl, ?_⟩
  refine ited (fun _ => ?_) (fun _ => ?_)
  · refine ⟨_, rfl, a, g, 9, rfl, by decide, by decide, B1, fun H2 r hr2 b2 B2 => ⟨_, _, rfl, rfl, .inl ⟨by decide, by decide⟩, _, _, rfl, rfl, out (ps4 (by omega) (by omega)) b2 B2⟩⟩
  · refine ⟨_, rfl, a, g, 30, rfl, by decide, by decide, B1, fun H2 r hr2 b2 B2 => ⟨_, _, rfl, rfl, .inl ⟨by decide, by decide⟩, _, _, rfl, rfl, out (ps5 (by omega) (by omega)) b2 B2⟩⟩
abbrev s__law_item : Stmt := top 82
theorem sc__law_item : FnScope ["bag", "graph"] ["bag", "graph"] (defScope s__law_item) := ⟨rfl, rfl, rfl, by decide +kernel, rfl, by decide +kernel, by decide +kernel⟩
/-- an item is drawn: a plain word, or a handle that is held -/
def sp_litem : Sp := fun vs H Q _ => ∃ a g b L, vs = [.ref a, .ref b.gd] ∧ Bag H a g ∧ Gra H b L ∧ (∀ x, x = a ∨ x = g → ¬ GraO b x) ∧ L.hs.length < 64 ∧ ∀ H' pi it, But a g H H' → Bag H' a g → H' pi = some (.tup (itV it)) → ItG L.hs it → Q (.ref pi) H'
theorem gra_but {a g : Addr} {b : La} {L : Lg} {H H' : Hp} (R : Gra H b L) (n : ∀ x, x = a ∨ x = g → ¬ GraO b x) (B : Bag H a g) (k : But a g H H') : Gra H' b L := by
  obtain ⟨⟨xs, h1⟩, ⟨ys, h2⟩⟩ := B.lists
  exact R.keep (fun x u o e => k _ _ (fun z => n x (.inl z) o) (fun z => n x (.inr z) o) e) (fun x us e => k _ _ (fun z => by rw [z, h1] at e; cases e) (fun z => by rw [z, h2] at e; cases e) e)
theorem ok_litem (T : Txt K mg base) {f : Addr} {fd : FuncData} (F : Fun K "_law_item" "_law_item" s__law_item f fd) (D__law_pick : Def P w K mg base CX0 "_law_pick" ["bag", "many"] 1 sp_pick) (D__law_some : Def P w K mg base CX0 "_law_some" ["bag", "things"] 2 (sp_some K)) (D__law_plain_word : Def P w K mg base CX0 "_law_plain_word" ["bag"] 3 sp_plain) : FnOk P w K mg base CX0 4 f fd ["bag", "graph"] sp_litem := by
  refine F.ok sc__law_item (fun vs H Q E h => ?_) (fun cdv A outer s H vs Q E hr h => ?_)
  · obtain ⟨_, _, _, _, rfl, _⟩ := h; rfl
  obtain ⟨a, g, b, L, rfl, hB, R, hn, hl, q⟩ := h
  refine ⟨_, (pss_cons (ps_if (PW.pt (pw_and (pt_cmpR op_gt (pe_callB call_lenD rfl T.n_len boot_len (pa_cons (pe_dget (hu1 hr) (pv 1) pe_str (fun _ _ => rfl)) pa_nil)) pe_int (nomark _)) (pw_and1 (pt_cmpR op_gt (pe_call D__law_pick.ok (hr.mono (by omega)) rfl D__law_pick.g D__law_pick.k D__law_pick.b .nil pass0 (pa_cons (pv 0) (pa_cons pe_int pa_nil))) pe_int (nomark _))))) (pss_one (ps_ret (pe_tup (pa_cons pe_str (pa_cons (pe_call D__law_some.ok (hr.mono (by omega)) rfl D__law_some.g D__law_some.k D__law_some.b .nil pass0 (pa_cons (pv 0) (pa_cons (pe_callB (call_sortedDI rfl) rfl T.n_sorted (by decide +kernel) (pa_cons (pe_dget (hu1 hr) (pv 1) pe_str (fun _ _ => rfl)) pa_nil)) pa_nil))) pa_nil))))) pss_nil)
    (pss_one (ps_ret (pe_tup (pa_cons pe_str (pa_cons (pe_call D__law_plain_word.ok (hr.mono (by omega)) rfl D__law_plain_word.g D__law_plain_word.k D__law_plain_word.b .nil pass0 (pa_cons (pv 0) pa_nil)) pa_nil)))))), ?_⟩
  have hz := line_eq
  have word : ∀ H1, But a g H H1 → Bag H1 a g → (tRet (tTup (tCons (tC (V.str (Str.ofString "word"))) (tCons (tCall sp_plain [] E0 (tCons (tVar 0) tNil)) tNil)))) { nx := fun x H' => Q V.non H', rt := Q } (L2.start ["bag", "graph"] [V.ref a, V.ref b.gd]) H1 := fun H1 b1 B1 => by
    refine ⟨_, rfl, a, g, rfl, B1, fun H2 n hn2 b2 B2 => ⟨(by show 2 ≤ sizeLine; rw [hz]; decide), fun p np => ?_⟩⟩
    exact q _ p (.word n) ((b1.trans b2).new np _) (B2.new np _) upd_same (itg_word hn2)
  refine ⟨_, rfl, b.gd, _, rfl, R.handles, b.hd, _, rfl, R.h, _, _, rfl, rfl, _, rfl, ?_⟩
  refine ited (fun h0 => ?_) (fun _ => go_next (word H (.refl a g H) hB))
  rw [kD_len R.hlen, List.length_map] at h0
  refine ⟨_, rfl, a, g, 3, rfl, by decide, by decide, hB, fun H1 k hk b1 B1 => ⟨_, _, rfl, rfl, _, rfl, ?_⟩⟩
  refine ited (fun _ => ?_) (fun _ => go_next (word H1 b1 B1))
  have R1 := gra_but R hn hB b1
  refine ⟨_, rfl, _, rfl, b.gd, _, rfl, R1.handles, b.hd, _, L.hs.map Prod.fst, rfl, .inl R1.h, kD_fst R1.hlen, (by rw [List.length_map]; exact hl), fun zs pz hperm hpw npz => ?_⟩
  have hzl := hperm.length_eq
  rw [List.length_map] at hzl
  obtain ⟨o1, o2⟩ := B1.off npz
  refine ⟨a, g, pz, zs.map V.int, rfl, B1.new npz _, SqL.of upd_same, o1, o2, (by rw [List.length_map]; omega), (by rw [List.length_map]; omega), fun H2 v hv b2 B2 => ?_⟩
  obtain ⟨h, hm, rfl⟩ := List.mem_map.mp hv
  refine ⟨(by show 2 ≤ sizeLine; rw [hz]; decide), fun p np => ?_⟩
  exact q _ p (.held h) (((b1.new npz _).trans b2).new np _) (B2.new np _) upd_same (itg_held (lookW_mem (hperm.mem_iff.mp hm)))
end
end Wk
set_option maxRecDepth 100000
set_option maxHeartbeats 2000000
namespace Wk
open PySem L2 TL PyProof.Rows Hm
open SX (S S_len)
/-- items of which a thing of a sort may be made -/
def ItsFit (k : Nat) (its : List Hm.It) : Prop := k = 1 ∨ (k = 4 ∧ its.length = 1) ∨ ((k = 2 ∨ k = 3) ∧ ∃ p r, its = .word (8 * p + 1) :: r)
section
variable {P : Program} {w : World} {K : PySem.W.Frag} {mg : Str → Option Value} {base : Heap}
abbrev s__law_items : Stmt := top 84
theorem sc__law_items : FnScope ["bag", "graph", "sort", "most", "some", "items", "number", "place", "sign"] ["bag", "graph", "sort", "most"] (defScope s__law_items) := ⟨rfl, rfl, rfl, by decide +kernel, rfl, by decide +kernel, by decide +kernel⟩
def sp_litems : Sp := fun vs H Q _ => ∃ a g b L x k, ∃ most : Nat, vs = [.ref a, .ref b.gd, .str (S (codes x)), .int (most : Int)] ∧ SortIs x k ∧ (1 ≤ k ∧ k ≤ 4) ∧ 1 ≤ most ∧ most ≤ 50 ∧ Bag H a g ∧ Gra H b L ∧ (∀ x, x = a ∨ x = g → ¬ GraO b x) ∧ L.hs.length < 64 ∧
  ∀ H' pi ias its, But a g H H' → Bag H' a g → H' pi = some (.tup (ias.map V.ref)) → ItsAt H' ias its → its.length ≤ most → (∀ i ∈ its, ItG L.hs i) → ItsFit k its → Q (.ref pi) H'
theorem ok_litems (T : Txt K mg base) {f : Addr} {fd : FuncData} (F : Fun K "_law_items" "_law_items" s__law_items f fd) (D__law_pick : Def P w K mg base CX0 "_law_pick" ["bag", "many"] 1 sp_pick) (D__law_item : Def P w K mg base CX0 "_law_item" ["bag", "graph"] 4 sp_litem) : FnOk P w K mg base CX0 5 f fd ["bag", "graph", "sort", "most"] sp_litems := by
  refine F.ok sc__law_items (fun vs H Q E h => ?_) (fun cdv A outer s H vs Q E hr h => ?_)
  · obtain ⟨_, _, _, _, _, _, _, rfl, _⟩ := h; rfl
  obtain ⟨a, g, b, L, x, k, most, rfl, hx, hk, hm1, hm2, hB, R, hn, hl, q⟩ := h
  refine ⟨_, (pss_cons (ps_if (pt_cmpR op_eq (pv 2) pe_str (nomark _)) (pss_cons ps_no
      (pss_one ps_no)) pss_nil)
    (pss_cons (ps_if (pt_cmpR op_eq (pv 2) pe_str (nomark _)) (pss_one ps_no) pss_nil)
    (pss_cons (ps_if (pt_cmpR op_eq (pv 2) pe_str (nomark _)) (pss_one (ps_ret (pe_tup (pa_cons (pe_call D__law_item.ok (hr.mono (by omega)) rfl D__law_item.g D__law_item.k D__law_item.b .nil pass0 (pa_cons (pv 0) (pa_cons (pv 1) pa_nil))) pa_nil)))) pss_nil)
    (pss_cons (ps_set (i := 5) sc__law_items.nd rfl (Or.inl rfl) (pe_tupleOf rfl T.n_tuple (pe_lc (own := [("place", 7)]) (g := gName 7) (tt := tYes) rfl sc__law_items.nd (pi_range1 rfl T.n_range (pa_cons (pe_call D__law_pick.ok (hr.mono (by omega)) rfl D__law_pick.g D__law_pick.k D__law_pick.b .nil pass0 (pa_cons (pv 0) (pa_cons (pv 3) pa_nil))) pa_nil)) (blkOk_by (N := ["bag", "graph", "sort", "most", "some", "items", "number", "place", "sign"]) (sc := defScope s__law_items) (by decide +kernel)) (fun _ _ _ _ _ => pg_name (i := 7) sc__law_items.nd rfl (Or.inl rfl)) (fun _ _ _ _ _ => pts_nil) (fun _ _ _ _ _ => (pe_call D__law_item.ok (hr.mono (by omega)) rfl D__law_item.g D__law_item.k D__law_item.b .nil pass0 (pa_cons (pv 0) (pa_cons (pv 1) pa_nil)))))))
    (pss_one (ps_ret (pe_ifExp (pt_cmpR op_eq (pv 2) pe_str (nomark _)) (pv 5) (pe_op op_catT (pe_tup (pa_cons (pe_tup (pa_cons pe_str (pa_cons (pe_op op_add (pe_op op_mul pe_int (pe_call D__law_pick.ok (hr.mono (by omega)) rfl D__law_pick.g D__law_pick.k D__law_pick.b .nil pass0 (pa_cons (pv 0) (pa_cons pe_int pa_nil)))) pe_int) pa_nil))) pa_nil)) (pv 5))))))))), ?_⟩
  have hz := line_eq
  refine ⟨_, rfl, rfl, _, rfl, ?_⟩
  rw [hx.eq (show SortIs "text" 0 from rfl), decide_eq_false (by omega)]
  refine iteF (go_next ⟨_, rfl, rfl, _, rfl, ?_⟩)
  rw [hx.eq (show SortIs "tie" 5 from rfl), decide_eq_false (by omega)]
  refine iteF (go_next ⟨_, rfl, rfl, _, rfl, ?_⟩)
  rw [hx.eq (show SortIs "cell" 4 from rfl)]
  refine ited (fun h4 => ?_) (fun h4 => go_next ?_)
  · refine ⟨_, rfl, _, rfl, a, g, b, L, rfl, hB, R, hn, hl, fun H1 pi it b1 B1 hpi hg => ⟨(by show 1 ≤ sizeLine; rw [hz]; decide), fun p np => ?_⟩⟩
    refine q _ p [pi] [it] (b1.new np _) (B1.new np _) upd_same ⟨by rw [upd_ne (ne_of_none hpi np)]; exact hpi, trivial⟩ (by show 1 ≤ most; omega) (fun i hi => by rw [List.mem_singleton.mp hi]; exact hg) (.inr (.inl ⟨h4, rfl⟩))
  -- items
  dsimp only
  refine seq_set ⟨_, rfl, _, rfl, a, g, most, rfl, hm1, (by omega), hB, fun H1 many hmany b1 B1 => ?_⟩
  have R1 := gra_but R hn hB b1
  refine ⟨_, rfl, (by omega), (by omega), fun D hD => ?_⟩
  rw [show ((many : Int)).toNat = many from Int.toNat_natCast many]
  obtain ⟨oD1, oD2⟩ := B1.off hD
  refine lc_range (lo := 0) (n := many) (fun i H' => But a g H H' ∧ Bag H' a g ∧ ∃ ias its, H' D = some (.lst (ias.map V.ref)) ∧ ItsAt H' ias its ∧ its.length = i ∧ i ≤ many ∧ (∀ it ∈ its, ItG L.hs it)) ⟨b1.new hD _, B1.new hD _, [], [], upd_same, trivial, rfl, Nat.zero_le _, fun it h => by cases h⟩ ?_ ?_
  · rintro i H' hi ⟨b2, B2, ias, its, hd, hia, hil, hi2, hg⟩
    have R2 := gra_but R hn hB b2
    refine ⟨rfl, ?_⟩
    unfold tYes
    dsimp only
    rw [if_pos rfl]
    refine ⟨_, rfl, _, rfl, a, g, b, L, rfl, B2, R2, hn, hl, fun H3 pi it b3 B3 hpi hgi => ?_⟩
    have hd3 := b3 _ _ oD1 oD2 hd
    have hal := hia.len
    refine ⟨ias.map V.ref, hd3, (by rw [List.length_map]; omega), ?_⟩
    have tk := tk_lst hd3 (.lst (ias.map V.ref ++ [V.ref pi]))
    have tk3 : Tk H' H3 := fun x xs e => by
      obtain ⟨⟨ys, h1⟩, ⟨zs, h2⟩⟩ := B2.lists
      exact b3 _ _ (fun z => by rw [z, h1] at e; cases e) (fun z => by rw [z, h2] at e; cases e) e
    have b4 : But a g H (upd H3 D (.lst (ias.map V.ref ++ [V.ref pi]))) := fun x u n1 n2 e => by
      rw [upd_ne (fun z => by rw [z] at e; rw [b1 _ _ oD1 oD2 e] at hD; cases hD)]
      exact b3 _ _ n1 n2 (b2 _ _ n1 n2 e)
    have B4 : Bag (upd H3 D (.lst (ias.map V.ref ++ [V.ref pi]))) a g := by
      obtain ⟨x1, x2, x3, x4, h1, h2, h3⟩ := B3
      exact ⟨x1, x2, x3, x4, by rw [upd_ne oD1.symm]; exact h1, by rw [upd_ne oD2.symm]; exact h2, h3⟩
    refine ⟨b4, B4, ias ++ [pi], its ++ [it], by rw [upd_same, List.map_append]; rfl, ?_, by rw [List.length_append, hil]; rfl, hi, fun j hj => ?_⟩
    · have two : ∀ {as : List Addr} {is : List Hm.It}, ItsAt (upd H3 D (.lst (ias.map V.ref ++ [V.ref pi]))) as is → ItsAt (upd H3 D (.lst (ias.map V.ref ++ [V.ref pi]))) (as ++ [pi]) (is ++ [it]) := by
        intro as
        induction as with
        | nil => intro is h; cases is with
          | nil => exact ⟨tk _ _ hpi, trivial⟩
          | cons x xs => exact h.elim
        | cons b as ih => intro is h; cases is with
          | nil => exact h.elim
          | cons x xs => exact ⟨h.1, ih h.2⟩
      exact two (hia.keep fun x xs e => tk _ _ (tk3 _ _ e))
    · rcases List.mem_append.mp hj with z | z
      · exact hg j z
      · rw [List.mem_singleton.mp z]; exact hgi
  rintro H2 ⟨b2, B2, ias, its, hd, hia, hil, _, hg⟩
  refine .inl ⟨D, _, rfl, SqL.of hd, fun p1 np1 => ?_⟩
  have b3 := b2.new np1 (.tup (ias.map V.ref))
  have B3 := B2.new np1 (.tup (ias.map V.ref))
  have hp1 : (upd H2 p1 (.tup (ias.map V.ref))) p1 = some (.tup (ias.map V.ref)) := upd_same
  have hia3 : ItsAt (upd H2 p1 (.tup (ias.map V.ref))) ias its := hia.keep fun x xs e => by rw [upd_ne (ne_of_none e np1)]; exact e
  generalize upd H2 p1 (.tup (ias.map V.ref)) = H3 at b3 B3 hp1 hia3 ⊢
  dsimp only [List.set]
  refine ⟨_, rfl, rfl, _, rfl, ?_⟩
  rw [hx.eq (show SortIs "list" 1 from rfl)]
  refine ited (fun h1 => ?_) (fun h1 => ?_)
  · exact ⟨_, rfl, q _ p1 ias its b3 B3 hp1 hia3 (by omega) hg (.inl h1)⟩
  refine ⟨_, rfl, a, g, 9, rfl, by decide, by decide, B3, fun H4 d hd4 b4 B4 => ⟨_, _, rfl, rfl, .inl ⟨by decide, by decide⟩, _, _, rfl, rfl, (by show 2 ≤ sizeLine; rw [hz]; decide), fun p2 np2 => ?_⟩⟩
  have tk4 : Tk H3 H4 := fun x xs e => by
    obtain ⟨⟨ys, h1⟩, ⟨zs, h2⟩⟩ := B3.lists
    exact b4 _ _ (fun z => by rw [z, h1] at e; cases e) (fun z => by rw [z, h2] at e; cases e) e
  have b5 := (b3.trans b4).new np2 (.tup [V.str (Str.ofString "word"), V.int (8 * (d : Int) + 1)])
  have B5 := B4.new np2 (.tup [V.str (Str.ofString "word"), V.int (8 * (d : Int) + 1)])
  have hp2 : (upd H4 p2 (.tup [V.str (Str.ofString "word"), V.int (8 * (d : Int) + 1)])) p2 = some (.tup (itV (.word (8 * (d : Int) + 1)))) := upd_same
  have tk5 := tk4.trans (tk_new np2 (.tup [V.str (Str.ofString "word"), V.int (8 * (d : Int) + 1)]))
  generalize upd H4 p2 (.tup [V.str (Str.ofString "word"), V.int (8 * (d : Int) + 1)]) = H5 at b5 B5 hp2 tk5 ⊢
  refine ⟨(by show 1 ≤ sizeLine; rw [hz]; decide), fun p3 np3 => ?_⟩
  have b6 := b5.new np3 (.tup [V.ref p2])
  have B6 := B5.new np3 (.tup [V.ref p2])
  have hp3 : (upd H5 p3 (.tup [V.ref p2])) p3 = some (.tup [V.ref p2]) := upd_same
  have tk6 := tk_new np3 (.tup [V.ref p2])
  have hp26 := tk6 _ _ hp2
  have hp16 := (tk5.trans tk6) _ _ hp1
  have hia6 := hia3.keep fun x xs e => (tk5.trans tk6) _ _ e
  generalize upd H5 p3 (.tup [V.ref p2]) = H6 at b6 B6 hp3 tk6 hp26 hp16 hia6 ⊢
  have fit : ∀ r, ItsFit k (.word (8 * (d : Int) + 1) :: r) := fun r => .inr (.inr ⟨by omega, _, _, rfl⟩)
  have gd : ItG L.hs (.word (8 * (d : Int) + 1)) := itg_word (ps1 (by omega) (by omega))
  have hal := hia6.len
  refine ⟨_, rfl, p3, p1, _, _, rfl, rfl, SqT.of hp3, SqT.of hp16, (fun z => by cases z), (by rw [List.length_map]; show 1 + _ ≤ sizeLine; omega), fun e0 => ?_, fun _ p4 np4 => ?_⟩
  · have e1 : ias = [] := by cases ias with
      | nil => rfl
      | cons x xs => cases e0
    subst e1
    cases its with
    | cons x xs => exact hia6.elim
    | nil =>
    exact q _ p3 [p2] [_] b6 B6 hp3 ⟨hp26, trivial⟩ (by show 1 ≤ most; omega) (fun i hi => by rw [List.mem_singleton.mp hi]; exact gd) (fit [])
  · refine q _ p4 (p2 :: ias) (_ :: its) (b6.new np4 _) (B6.new np4 _) upd_same ⟨by rw [upd_ne (ne_of_none hp26 np4)]; exact hp26, hia6.keep fun x xs e => by rw [upd_ne (ne_of_none e np4)]; exact e⟩ (by rw [List.length_cons]; omega) (fun i hi => ?_) (fit its)
    rcases List.mem_cons.mp hi with z | z
    · rw [z]; exact gd
    · exact hg i z
end
end Wk
set_option maxRecDepth 100000
set_option maxHeartbeats 2000000
namespace Wk
open PySem L2 TL PyProof.Rows Hm
open SX (S S_len)
/-! ### deeds -/
inductive De
  | make (k : Nat) (its : List Hm.It)
  | drop (h : Int)
  | write (h : Int) (p : Nat) (it : Hm.It)
def DeAt (H : Hp) (pd : Addr) : De → Prop
  | .make k its => ∃ x pi ias, SortIs x k ∧ H pd = some (.tup [.str (Str.ofString "make"), .str (S (codes x)), .ref pi]) ∧ H pi = some (.tup (ias.map V.ref)) ∧ ItsAt H ias its
  | .drop h => H pd = some (.tup [.str (Str.ofString "drop"), .int h])
  | .write h p it => ∃ pi, H pd = some (.tup [.str (Str.ofString "write"), .int h, .int (p : Int), .ref pi]) ∧ H pi = some (.tup (itV it))
theorem DeAt.tk {H H' : Hp} (g : Tk H H') {pd : Addr} : ∀ {d : De}, DeAt H pd d → DeAt H' pd d
  | .make k its, ⟨x, pi, ias, h1, h2, h3, h4⟩ => ⟨x, pi, ias, h1, g _ _ h2, g _ _ h3, h4.keep g⟩
  | .drop h, e => g _ _ e
  | .write h p it, ⟨pi, h1, h2⟩ => ⟨pi, g _ _ h1, g _ _ h2⟩
def szD : De → Int
  | .make _ its => (its.length : Int) + 2
  | _ => 0
def doneL (L : Lg) : De → Option (V × Lg)
  | .make k its => match Gc.itsW L.hs its with
    | none => none
    | some xs => some (.int L.next, ⟨L.th ++ [((k : Int), xs)], L.hs ++ [(L.next, .thing ((L.th.length : Int) + 1))], L.next + 1⟩)
  | .drop h => match Gc.lookW L.hs h with
    | none => none
    | some _ => some (.non, { L with hs := Gc.dropW L.hs h })
  | .write h p it => match Gc.lookW L.hs h, Gc.itW L.hs it with
    | some (.thing n), some x => if 1 ≤ n ∧ n ≤ L.th.length ∧ p < (gOf L.th n).2.length then some (.non, { L with th := L.th.set (n - 1).toNat ((gOf L.th n).1, (gOf L.th n).2.set p x) }) else none
    | _, _ => none
theorem tk_but {a g : Addr} {H H' : Hp} (B : Bag H a g) (b : But a g H H') : Tk H H' := fun x xs e => by
  obtain ⟨⟨ys, h1⟩, ⟨zs, h2⟩⟩ := B.lists
  exact b _ _ (fun z => by rw [z, h1] at e; cases e) (fun z => by rw [z, h2] at e; cases e) e
section
variable {P : Program} {w : World} {K : PySem.W.Frag} {mg : Str → Option Value} {base : Heap}
abbrev s__law_ring_deed : Stmt := top 88
theorem sc__law_ring_deed : FnScope ["bag", "graph", "most", "sort"] ["bag", "graph", "most"] (defScope s__law_ring_deed) := ⟨rfl, rfl, rfl, by decide +kernel, rfl, by decide +kernel, by decide +kernel⟩
def sp_ring : Sp := fun vs H Q _ => ∃ a g b L, ∃ most : Nat, vs = [.ref a, .ref b.gd, .int (most : Int)] ∧ 1 ≤ most ∧ most ≤ 50 ∧ Bag H a g ∧ Gra H b L ∧ (∀ x, x = a ∨ x = g → ¬ GraO b x) ∧ L.hs.length < 64 ∧
  ∀ H' pd k its, But a g H H' → Bag H' a g → DeAt H' pd (.make k its) → (1 ≤ k ∧ k ≤ 4) → its.length ≤ most → (∀ i ∈ its, ItG L.hs i) → ItsFit k its → Q (.ref pd) H'
theorem ok_ring (T : Txt K mg base) {f : Addr} {fd : FuncData} (F : Fun K "_law_ring_deed" "_law_ring_deed" s__law_ring_deed f fd) (D__law_some : Def P w K mg base CX0 "_law_some" ["bag", "things"] 2 (sp_some K)) (D__law_items : Def P w K mg base CX0 "_law_items" ["bag", "graph", "sort", "most"] 5 sp_litems) : FnOk P w K mg base CX0 6 f fd ["bag", "graph", "most"] sp_ring := by
  refine F.ok sc__law_ring_deed (fun vs H Q E h => ?_) (fun cdv A outer s H vs Q E hr h => ?_)
  · obtain ⟨_, _, _, _, _, rfl, _⟩ := h; rfl
  obtain ⟨a, g, b, L, most, rfl, hm1, hm2, hB, R, hn, hl, q⟩ := h
  refine ⟨_, (pss_cons (ps_set (i := 3) sc__law_ring_deed.nd rfl (Or.inl rfl) (pe_call D__law_some.ok (hr.mono (by omega)) rfl D__law_some.g D__law_some.k D__law_some.b .nil pass0 (pa_cons (pv 0) (pa_cons (pe_lst (pa_cons pe_str (pa_cons pe_str (pa_cons pe_str (pa_cons pe_str (pa_cons pe_str pa_nil)))))) pa_nil))))
    (pss_one (ps_ret (pe_tup (pa_cons pe_str (pa_cons (pv 3) (pa_cons (pe_call D__law_items.ok (hr.mono (by omega)) rfl D__law_items.g D__law_items.k D__law_items.b .nil pass0 (pa_cons (pv 0) (pa_cons (pv 1) (pa_cons (pv 3) (pa_cons (pv 2) pa_nil))))) pa_nil))))))), ?_⟩
  have hz := line_eq
  refine seq_set ⟨_, rfl, (by show 5 ≤ sizeLine; rw [hz]; decide), fun l nl => ?_⟩
  obtain ⟨o1, o2⟩ := hB.off nl
  refine ⟨a, g, l, _, rfl, hB.new nl _, SqL.of upd_same, o1, o2, (by show 0 < 5; decide), (by show 5 < 2 ^ 100; decide), fun H1 v hv b1 B1 => ?_⟩
  obtain ⟨x, k, hx, hk, rfl⟩ : ∃ x k, SortIs x k ∧ (1 ≤ k ∧ k ≤ 4) ∧ v = V.str (S (codes x)) := by
    simp only [List.mem_cons, List.not_mem_nil, or_false] at hv
    rcases hv with rfl | rfl | rfl | rfl | rfl
    · exact ⟨"list", 1, rfl, by decide, congrArg V.str (S_of _)⟩
    · exact ⟨"list", 1, rfl, by decide, congrArg V.str (S_of _)⟩
    · exact ⟨"object", 2, rfl, by decide, congrArg V.str (S_of _)⟩
    · exact ⟨"cell", 4, rfl, by decide, congrArg V.str (S_of _)⟩
    · exact ⟨"function", 3, rfl, by decide, congrArg V.str (S_of _)⟩
  have b2 := (But.new (.refl a g H) nl (.lst [V.str (Str.ofString "list"), V.str (Str.ofString "list"), V.str (Str.ofString "object"), V.str (Str.ofString "cell"), V.str (Str.ofString "function")])).trans b1
  have R1 := gra_but R hn hB b2
  refine ⟨_, rfl, _, rfl, _, rfl, _, rfl, _, rfl, a, g, b, L, x, k, most, rfl, hx, hk, hm1, hm2, B1, R1, hn, hl, fun H2 pi ias its b3 B3 hpi hia hil hg hf => ⟨(by show 3 ≤ sizeLine; rw [hz]; decide), fun p np => ?_⟩⟩
  refine q _ p k its ((b2.trans b3).new np _) (B3.new np _) ⟨x, pi, ias, hx, upd_same, ?_, ?_⟩ hk hil hg hf
  · rw [upd_ne (ne_of_none hpi np)]; exact hpi
  · exact hia.keep fun x xs e => by rw [upd_ne (ne_of_none e np)]; exact e
abbrev s__law_size : Stmt := top 87
theorem sc__law_size : FnScope ["deed"] ["deed"] (defScope s__law_size) := ⟨rfl, rfl, rfl, by decide +kernel, rfl, by decide +kernel, by decide +kernel⟩
def sp_lsize : Sp := fun vs H Q _ => ∃ pd d, vs = [.ref pd] ∧ DeAt H pd d ∧ Q (.int (szD d)) H
theorem ok_lsize (T : Txt K mg base) {f : Addr} {fd : FuncData} (F : Fun K "_law_size" "_law_size" s__law_size f fd) : FnOk P w K mg base CX0 1 f fd ["deed"] sp_lsize := by
  refine F.ok sc__law_size (fun vs H Q E h => ?_) (fun cdv A outer s H vs Q E hr h => ?_)
  · obtain ⟨_, _, rfl, _⟩ := h; rfl
  obtain ⟨pd, d, rfl, hd, q⟩ := h
  refine ⟨_, (pss_one (ps_ret (pe_ifExp (pt_cmpR op_eq (pe_ix ix_tup (pv 0) pe_int (fun _ _ => rfl)) pe_str (nomark _)) (pe_op op_add (pe_callB call_len_seq rfl T.n_len boot_len (pa_cons (pe_ix ix_tup (pv 0) pe_int (fun _ _ => rfl)) pa_nil)) pe_int) pe_int))), ?_⟩
  cases d with
  | make k its =>
    obtain ⟨x, pi, ias, hx, h1, h2, h3⟩ := hd
    refine ⟨_, rfl, pd, _, _, _, rfl, rfl, SqT.of h1, atI_nat (j := 0) rfl, rfl, _, rfl, ?_⟩
    rw [show decide (V.str (Str.ofString "make") = V.str (Str.ofString "make")) = true from decide_eq_true rfl]
    refine iteT ⟨_, rfl, pd, _, _, _, rfl, rfl, SqT.of h1, atI_nat (j := 2) rfl, pi, _, rfl, .inr (SqT.of h2), _, _, rfl, rfl, ?_⟩
    rw [List.length_map, h3.len]
    exact q
  | drop h =>
    refine ⟨_, rfl, pd, _, _, _, rfl, rfl, SqT.of hd, atI_nat (j := 0) rfl, rfl, _, rfl, ?_⟩
    rw [show decide (V.str (Str.ofString "drop") = V.str (Str.ofString "make")) = false from by decide +kernel]
    exact iteF q
  | write h p it =>
    obtain ⟨pi, h1, h2⟩ := hd
    refine ⟨_, rfl, pd, _, _, _, rfl, rfl, SqT.of h1, atI_nat (j := 0) rfl, rfl, _, rfl, ?_⟩
    rw [show decide (V.str (Str.ofString "write") = V.str (Str.ofString "make")) = false from by decide +kernel]
    exact iteF q
abbrev s__law_wished : Stmt := top 89
theorem sc__law_wished : FnScope ["graph", "deed"] ["graph", "deed"] (defScope s__law_wished) := ⟨rfl, rfl, rfl, by decide +kernel, rfl, by decide +kernel, by decide +kernel⟩
def sp_lwished : Sp := fun vs H Q _ => ∃ a L fd f pd d, vs = [.ref a.gd, .ref pd] ∧ Gra H a L ∧ Cls0 L ∧ f ≤ 1000000 ∧ Gc.floodG (gOf L.th) true f (L.hs.map Prod.snd).reverse [] = some fd ∧ fd.length < 64 ∧ (∀ n ∈ fd, n ∈ nums L.th.length) ∧ DeAt H pd d ∧ ∀ H', Same H H' → Q (.int (Gc.sumN (Gc.szG (gOf L.th)) fd + szD d)) H'
theorem ok_lwished (T : Txt K mg base) {f : Addr} {fd : FuncData} (F : Fun K "_law_wished" "_law_wished" s__law_wished f fd) (D__law_filled : Def P w K mg base CX0 "_law_filled" ["graph"] 2 sp_lfilled) (D__law_size : Def P w K mg base CX0 "_law_size" ["deed"] 1 sp_lsize) : FnOk P w K mg base CX0 3 f fd ["graph", "deed"] sp_lwished := by
  refine F.ok sc__law_wished (fun vs H Q E h => ?_) (fun cdv A outer s H vs Q E hr h => ?_)
  · obtain ⟨_, _, _, _, _, _, rfl, _⟩ := h; rfl
  obtain ⟨a, L, fd, f0, pd, d, rfl, R, hc, hf0, hfl, h64, hin, hd, q⟩ := h
  refine ⟨_, (pss_one (ps_ret (pe_op op_add (pe_call D__law_filled.ok (hr.mono (by omega)) rfl D__law_filled.g D__law_filled.k D__law_filled.b .nil pass0 (pa_cons (pv 0) pa_nil)) (pe_call D__law_size.ok (hr.mono (by omega)) rfl D__law_size.g D__law_size.k D__law_size.b .nil pass0 (pa_cons (pv 1) pa_nil))))), ?_⟩
  exact ⟨_, rfl, a, L, fd, f0, rfl, R, hc, hf0, hfl, h64, hin, fun H1 g1 => ⟨_, rfl, pd, d, rfl, hd.tk (tk_same g1), _, _, rfl, rfl, q _ g1⟩⟩
end
end Wk
set_option maxRecDepth 100000
set_option maxHeartbeats 4000000
namespace Wk
open PySem L2 TL PyProof.Rows Hm
open SX (S S_len)
def gdN (a : La) (n m : Int) : List (Key × V) := [(.inr "things", .ref a.td), (.inr "handles", .ref a.hd), (.inr "last", .int n), (.inr "next", .int m)]
theorem put_last {a : La} {n m k : Int} : putK (gdN a n m) (.inr "last" : Key) (.int k) = gdN a k m := rfl
theorem kD_drop {h : Int} : ∀ {hs : List (Int × Gc.Wo)} {as : List Addr} {H : Hp}, WoAt H as (hs.map Prod.snd) → ∃ bs, dropK (kD (hs.map Prod.fst) as) (.inl h : Key) = kD ((Gc.dropW hs h).map Prod.fst) bs ∧ WoAt H bs ((Gc.dropW hs h).map Prod.snd)
  | [], [], _, g => ⟨[], rfl, trivial⟩
  | [], _ :: _, _, g => g.elim
  | _ :: _, [], _, g => g.elim
  | (k, x) :: r, a :: as, H, g => by
    obtain ⟨bs, e1, e2⟩ := kD_drop (h := h) (hs := r) g.2
    by_cases c : k = h
    · refine ⟨bs, ?_, ?_⟩
      · rw [List.map_cons, kD]
        unfold dropK at e1 ⊢
        rw [List.filter_cons_of_neg (by simp [c]), e1]
        unfold Gc.dropW
        rw [List.filter_cons_of_neg (by simp [c])]
      · unfold Gc.dropW at e2 ⊢
        rw [List.filter_cons_of_neg (by simp [c])]; exact e2
    · refine ⟨a :: bs, ?_, ?_⟩
      · rw [List.map_cons, kD]
        unfold dropK at e1 ⊢
        rw [List.filter_cons_of_pos (by simp [c]), e1]
        unfold Gc.dropW
        rw [List.filter_cons_of_pos (by simp [c])]
        rfl
      · unfold Gc.dropW at e2 ⊢
        rw [List.filter_cons_of_pos (by simp [c])]
        exact ⟨g.1, e2⟩
section
variable {P : Program} {w : World} {K : PySem.W.Frag} {mg : Str → Option Value} {base : Heap}
theorem itsW_at {hs : List (Int × Gc.Wo)} : ∀ {is : List Hm.It} {xs : List Gc.Wo}, Gc.itsW hs is = some xs → xs.length = is.length ∧ ∀ (i : Nat) (it : Hm.It), is[i]? = some it → ∃ x, xs[i]? = some x ∧ Gc.itW hs it = some x
  | [], xs, h => by cases h; exact ⟨rfl, fun i it e => by simp at e⟩
  | it :: is, xs, h => by
    rw [Gc.itsW] at h
    split at h
    · rename_i a b e1 e2
      cases h
      obtain ⟨l, m⟩ := itsW_at e2
      refine ⟨by simp [l], fun i v e => ?_⟩
      cases i with
      | zero => cases e; exact ⟨a, rfl, e1⟩
      | succ i => exact m i v e
    · cases h
theorem sname_is {x : String} {k : Nat} (h : SortIs x k) : S (codes x) = sname (k : Int) := by
  unfold sname
  rw [Int.toNat_natCast, List.getD_eq_getElem?_getD, show sortL[k]? = some x from h]; rfl
abbrev s__law_done : Stmt := top 85
theorem sc__law_done : FnScope ["graph", "deed", "worths", "item"] ["graph", "deed"] (defScope s__law_done) := ⟨rfl, rfl, rfl, by decide +kernel, rfl, by decide +kernel, by decide +kernel⟩
def sp_ldone : Sp := fun vs H Q _ => ∃ a L pd d v L', vs = [.ref a.gd, .ref pd] ∧ Gra H a L ∧ DeAt H pd d ∧ doneL L d = some (v, L') ∧ L.th.length < 100000 ∧ L.hs.length < 100000 ∧ Gc.lookW L.hs L.next = none ∧ (∀ k its, d = .make k its → its.length ≤ 100000) ∧ ∀ H' a', a'.gd = a.gd → ChA a H a' H' → Gra H' a' L' → Q v H'
theorem ok_ldone (T : Txt K mg base) {f : Addr} {fd : FuncData} (F : Fun K "_law_done" "_law_done" s__law_done f fd) (D__law_worth : Def P w K mg base CX0 "_law_worth" ["graph", "item"] 1 sp_lworth) (D__law_given : Def P w K mg base CX0 "_law_given" ["graph", "worth"] 1 sp_lgiven) : FnOk P w K mg base CX0 2 f fd ["graph", "deed"] sp_ldone := by
  refine F.ok sc__law_done (fun vs H Q E h => ?_) (fun cdv A outer s H vs Q E hr h => ?_)
  · obtain ⟨_, _, _, _, _, _, rfl, _⟩ := h; rfl
  obtain ⟨a, L, pd, d, v, L', rfl, R, hd, hm, hl1, hl2, hnx, hlen, q⟩ := h
  refine ⟨_, (pss_cons (ps_if (pt_cmpR op_eq (pe_ix ix_tup (pv 1) pe_int (fun _ _ => rfl)) pe_str (nomark _)) (pss_cons (ps_setLc (i := 2) (own := [("item", 3)]) (g := gName 3) (tt := tYes) rfl sc__law_done.nd rfl rfl (sw_true rfl rfl rfl (by decide +kernel)) (pi_tup (pe_ix ix_tup (pv 1) pe_int (fun _ _ => rfl))) (blkOk_by (N := ["graph", "deed", "worths", "item"]) (sc := defScope s__law_done) (by decide +kernel)) (fun _ _ _ _ _ => pg_name (i := 3) sc__law_done.nd rfl (Or.inl rfl)) (fun _ _ _ _ _ => pts_nil) (fun _ _ _ _ _ => (pe_call D__law_worth.ok (hr.mono (by omega)) rfl D__law_worth.g D__law_worth.k D__law_worth.b .nil pass0 (pa_cons (pv 0) (pa_cons (pv 3) pa_nil)))))
      (pss_cons (ps_dput (hu1 hr) (pv 0) pe_str (pe_op op_add (pe_dget (hu1 hr) (pv 0) pe_str (fun _ _ => rfl)) pe_int) rfl)
      (pss_cons (ps_dput (hu1 hr) (pe_dget (hu1 hr) (pv 0) pe_str (fun _ _ => rfl)) (pe_dget (hu1 hr) (pv 0) pe_str (fun _ _ => rfl)) (pe_tup (pa_cons (pe_ix ix_tup (pv 1) pe_int (fun _ _ => rfl)) (pa_cons (pv 2) pa_nil))) rfl)
      (pss_one (ps_ret (pe_call D__law_given.ok (hr.mono (by omega)) rfl D__law_given.g D__law_given.k D__law_given.b .nil pass0 (pa_cons (pv 0) (pa_cons (pe_tup (pa_cons pe_str (pa_cons (pe_dget (hu1 hr) (pv 0) pe_str (fun _ _ => rfl)) pa_nil))) pa_nil)))))))) pss_nil)
    (pss_cons (ps_if (pt_cmpR op_eq (pe_ix ix_tup (pv 1) pe_int (fun _ _ => rfl)) pe_str (nomark _)) (pss_one (ps_ret (pe_call D__law_given.ok (hr.mono (by omega)) rfl D__law_given.g D__law_given.k D__law_given.b .nil pass0 (pa_cons (pv 0) (pa_cons (pe_call D__law_worth.ok (hr.mono (by omega)) rfl D__law_worth.g D__law_worth.k D__law_worth.b .nil pass0 (pa_cons (pv 0) (pa_cons (pe_ix ix_tup (pv 1) pe_int (fun _ _ => rfl)) pa_nil))) pa_nil))))) pss_nil)
    (pss_cons (ps_if (pt_cmpR op_eq (pe_ix ix_tup (pv 1) pe_int (fun _ _ => rfl)) pe_str (nomark _)) (pss_cons (ps_expr (pe_dpop1 (pe_dget (hu1 hr) (pv 0) pe_str (fun _ _ => rfl)) (pe_ix ix_tup (pv 1) pe_int (fun _ _ => rfl)) ⟨rfl, rfl, rfl, rfl⟩))
      (pss_one (ps_ret pe_non))) pss_nil)
    (pss_cons (ps_set (i := 2) sc__law_done.nd rfl (Or.inl rfl) (pe_ix ix_tup (pe_dget (hu1 hr) (pe_dget (hu1 hr) (pv 0) pe_str (fun _ _ => rfl)) (pe_ix ix_tup (pe_dget (hu1 hr) (pe_dget (hu1 hr) (pv 0) pe_str (fun _ _ => rfl)) (pe_ix ix_tup (pv 1) pe_int (fun _ _ => rfl)) (fun _ _ => rfl)) pe_int (fun _ _ => rfl)) (fun _ _ => rfl)) pe_int (fun _ _ => rfl)))
    (pss_cons (ps_if (pt_cmpR op_eq (pe_ix ix_tup (pv 1) pe_int (fun _ _ => rfl)) pe_str (nomark _)) (pss_one (ps_ret (pe_call D__law_given.ok (hr.mono (by omega)) rfl D__law_given.g D__law_given.k D__law_given.b .nil pass0 (pa_cons (pv 0) (pa_cons (pe_ix ix_list (pv 2) (pe_ix ix_tup (pv 1) pe_int (fun _ _ => rfl)) (fun _ _ => rfl)) pa_nil))))) pss_nil)
    (pss_cons (ps_asg (pe_call D__law_worth.ok (hr.mono (by omega)) rfl D__law_worth.g D__law_worth.k D__law_worth.b .nil pass0 (pa_cons (pv 0) (pa_cons (pe_ix ix_tup (pv 1) pe_int (fun _ _ => rfl)) pa_nil))) (pg_sub (pv 2) (pe_ix ix_tup (pv 1) pe_int (fun _ _ => rfl)) set_list))
    (pss_one (ps_ret pe_non)))))))), ?_⟩
  have hz := line_eq
  have nd := R.nd
  simp only [List.nodup_cons, List.mem_cons, not_or] at nd
  obtain ⟨⟨m1, m2, m3⟩, ⟨m4, m5⟩, m6, m7⟩ := nd
  have ogd : GraO a a.gd := by simp [GraO]
  have otd : GraO a a.td := by simp [GraO]
  have ohd : GraO a a.hd := by simp [GraO]
  cases d with
  | make k its =>
    have hil := hlen k its rfl
    obtain ⟨x, pi, ias, hx, hpd, hpi, hia⟩ := hd
    dsimp only [doneL] at hm
    cases hxs : Gc.itsW L.hs its with
    | none => rw [hxs] at hm; cases hm
    | some xs =>
    rw [hxs] at hm
    cases hm
    obtain ⟨hxl, hxat⟩ := itsW_at hxs
    have hial := hia.len
    refine ⟨_, rfl, pd, _, _, _, rfl, rfl, SqT.of hpd, atI_nat (j := 0) rfl, rfl, _, rfl, ?_⟩
    rw [show decide (V.str (Str.ofString "make") = V.str (Str.ofString "make")) = true from decide_eq_true rfl]
    refine iteT ⟨_, rfl, pd, _, _, _, rfl, rfl, SqT.of hpd, atI_nat (j := 2) rfl, pi, rfl, ⟨_, SqT.of hpi⟩, fun D hD => ?_⟩
    refine lc_tup (xs := ias.map V.ref) (fun i H' => Same H H' ∧ i ≤ ias.length ∧ ∃ ws : List Addr, H' D = some (.lst (ws.map V.ref)) ∧ ws.length = i ∧ WoAt H' ws (xs.take i)) ⟨same_new hD _, Nat.zero_le _, [], upd_same, rfl, trivial⟩ (fun i H' _ h => SqT.of (h.1 _ _ hpi)) ?_ ?_
    · rintro i v H' hv ⟨g, hi, ws, hdl, hwl, hwo⟩
      rw [List.getElem?_map] at hv
      cases et : ias[i]? with
      | none => rw [et] at hv; cases hv
      | some t =>
      rw [et] at hv
      cases hv
      have hlt : i < ias.length := (List.getElem?_eq_some_iff.mp et).1
      obtain ⟨it, f1, f2⟩ := hia.at et
      obtain ⟨y, y1, y2⟩ := hxat i it f1
      refine ⟨rfl, ?_⟩
      unfold tYes
      dsimp only
      rw [if_pos rfl]
      refine ⟨_, rfl, _, rfl, a, L, t, it, y, rfl, R.same g, g _ _ f2, y2, fun wa hwa => ?_⟩
      have tk := tk_lst hdl (.lst (ws.map V.ref ++ [V.ref wa]))
      refine ⟨ws.map V.ref, hdl, (by rw [List.length_map]; omega), same_mut g hD _, hlt, ws ++ [wa], by rw [upd_same, List.map_append]; rfl, (by rw [List.length_append, hwl]; rfl), ?_⟩
      rw [take_app y1]
      exact WoAt.app (tk _ _ hwa) (hwo.tk tk)
    rintro H1 ⟨g1, _, ws, hdl, hwl, hwo⟩
    rw [List.length_map] at hwl
    rw [List.length_map, hial, ← hxl, List.take_length] at hwo
    have R1 := R.same g1
    have oD : ¬ GraO a D := R.off hD
    have nDg : D ≠ a.gd := fun z => oD (by rw [z]; exact ogd)
    have nDt : D ≠ a.td := fun z => oD (by rw [z]; exact otd)
    have nDh : D ≠ a.hd := fun z => oD (by rw [z]; exact ohd)
    have hpd1 := g1 _ _ hpd
    dsimp only [List.set]
    -- last
    refine ⟨_, rfl, a.gd, _, rfl, R1.lastly, _, _, rfl, rfl, _, rfl, a.gd, _, rfl, DPut.k (k := Sum.inr "last") R1.g (by show 4 < sizeLine; omega), ?_⟩
    dsimp only
    rw [show putK (gdD a L) (Sum.inr (Str.ofString "last") : Key) (V.int ((L.th.length : Int) + 1)) = gdN a ((L.th.length : Int) + 1) L.next from put_last]
    have g2 : (upd H1 a.gd (.dK (gdN a ((L.th.length : Int) + 1) L.next))) a.gd = some (.dK (gdN a ((L.th.length : Int) + 1) L.next)) := upd_same
    have k2 : ∀ b, b ≠ a.gd → (upd H1 a.gd (.dK (gdN a ((L.th.length : Int) + 1) L.next))) b = H1 b := fun b n => upd_ne n
    have tk2 : Tk H1 (upd H1 a.gd (.dK (gdN a ((L.th.length : Int) + 1) L.next))) := fun b xs e => by
      rw [upd_ne (fun z => by rw [z, R1.g] at e; cases e)]; exact e
    generalize upd H1 a.gd (.dK (gdN a ((L.th.length : Int) + 1) L.next)) = H2 at g2 k2 tk2 ⊢
    have t2 : H2 a.td = some (.dK (kD (nums L.th.length) a.tas)) := by rw [k2 _ (fun z => m1 z.symm)]; exact R1.t
    have hlt := R.tw.len
    -- things
    refine ⟨_, rfl, pd, _, _, _, rfl, rfl, SqT.of (tk2 _ _ hpd1), atI_nat (j := 1) rfl, _, rfl, (by show 2 ≤ sizeLine; rw [hz]; decide), fun t nt => ?_⟩
    have hpt : (upd H2 t (.tup [V.str (SX.S (codes x)), V.ref D])) t = some (.tup [V.str (sname (k : Int)), V.ref D]) := by rw [upd_same, sname_is hx]
    have k3 := same_new nt (.tup [V.str (SX.S (codes x)), V.ref D])
    have ntD : t ≠ D := fun z => by rw [z, k2 _ nDg, hdl] at nt; cases nt
    have ntO : ∀ b, GraO a b → b ≠ t := fun b hb z => by
      rw [z] at hb
      rcases R1.some hb with ⟨_, e⟩ | ⟨_, e⟩
      · by_cases c : t = a.gd
        · rw [c, g2] at nt; cases nt
        · rw [k2 _ c, e] at nt; cases nt
      · by_cases c : t = a.gd
        · rw [c, g2] at nt; cases nt
        · rw [k2 _ c, e] at nt; cases nt
    have g3 := k3 _ _ g2
    have t3 := k3 _ _ t2
    generalize upd H2 t (.tup [V.str (SX.S (codes x)), V.ref D]) = H3 at hpt k3 g3 t3 ⊢
    refine ⟨_, rfl, a.gd, _, rfl, DGet.k (k := Sum.inr "things") g3, _, rfl, a.gd, _, rfl, DGet.k (k := Sum.inr "last") g3, a.td, _, rfl, DPut.k (k := Sum.inl ((L.th.length : Int) + 1)) t3 (by rw [kD_len (by rw [nums_len, hlt.1]), nums_len]; omega), ?_⟩
    rw [putK_new _ (kD_none (fun z => by have := nums_mem.mp z; omega)), kD_app (by rw [nums_len, hlt.1]), ← nums_succ]
    have t4 : (upd H3 a.td (.dK (kD (nums (L.th.length + 1)) (a.tas ++ [t])))) a.td = some (.dK (kD (nums (L.th.length + 1)) (a.tas ++ [t]))) := upd_same
    have k4 : ∀ b, b ≠ a.td → (upd H3 a.td (.dK (kD (nums (L.th.length + 1)) (a.tas ++ [t])))) b = H3 b := fun b n => upd_ne n
    have tk4 : Tk H3 (upd H3 a.td (.dK (kD (nums (L.th.length + 1)) (a.tas ++ [t])))) := fun b xs e => by
      rw [upd_ne (fun z => by rw [z, t3] at e; cases e)]; exact e
    generalize upd H3 a.td (.dK (kD (nums (L.th.length + 1)) (a.tas ++ [t]))) = H4 at t4 k4 tk4 ⊢
    have tkA : Tk H1 H4 := (tk2.trans (tk_same k3)).trans tk4
    have keep4 : ∀ b u, b ≠ a.gd → b ≠ a.td → H1 b = some u → H4 b = some u := fun b u n1 n2 e => by
      rw [k4 _ n2]; exact k3 _ _ (by rw [k2 _ n1]; exact e)
    have c4 : ChA a H { a with tas := a.tas ++ [t], las := a.las ++ [D] } H4 := fun b u n e => by
      have e1 := g1 _ _ e
      refine ⟨fun z => ?_, keep4 b u (fun z => n (by rw [z]; exact ogd)) (fun z => n (by rw [z]; exact otd)) e1⟩
      unfold GraO at z n
      simp only [List.mem_cons, List.mem_append, not_or] at z n
      rcases z with z | z | z | z | z
      · exact n.1 z
      · exact n.2.1 z
      · exact n.2.2.1 z
      · exact n.2.2.2 z
      · rcases z with z | z
        · rw [z, hD] at e; cases e
        · cases z
    have R4 : Gra H4 { a with tas := a.tas ++ [t], las := a.las ++ [D] } ⟨L.th ++ [((k : Int), xs)], L.hs, L.next⟩ := by
      refine ⟨?_, ?_, ?_, ?_, R.hw.tk ((tk_same g1).trans tkA), ?_, R.hn, ?_, R.z2, ?_⟩
      · show H4 a.gd = some (.dK [(.inr "things", .ref a.td), (.inr "handles", .ref a.hd), (.inr "last", .int ((L.th ++ [((k : Int), xs)]).length : Int)), (.inr "next", .int L.next)])
        rw [k4 _ m1, g3, List.length_append]; rfl
      · show H4 a.td = some (.dK (kD (nums (L.th ++ [((k : Int), xs)]).length) (a.tas ++ [t])))
        rw [t4, List.length_append]; rfl
      · exact keep4 _ _ (fun z => m2 z.symm) (fun z => m4 z.symm) R1.h
      · refine ThAt.app (ws := ws) (tk4 _ _ hpt) (keep4 _ _ nDg nDt hdl) (hwo.tk tkA) ?_
        exact ThAt.keep tkA (fun l hl xs e => keep4 _ _ (fun z => m3 (by rw [← z]; exact hl)) (fun z => m5 (by rw [← z]; exact hl)) e) R1.tw
      · have nDl : D ∉ a.las := fun z => oD (by simp [GraO, z])
        show (a.gd :: a.td :: a.hd :: (a.las ++ [D])).Nodup
        have := R.nd
        rw [← List.cons_append, ← List.cons_append, ← List.cons_append, List.nodup_append]
        refine ⟨this, by simp, ?_⟩
        intro y hy z hz'
        rw [List.mem_singleton.mp hz']
        rintro rfl
        exact oD hy
      · show (L.th ++ [((k : Int), xs)]).length ≤ 100000
        rw [List.length_append]; show L.th.length + 1 ≤ _; omega
      · intro y hy
        rcases List.mem_append.mp hy with z | z
        · exact R.z3 y z
        · rw [List.mem_singleton.mp z]; show xs.length ≤ _; omega
    -- the handle
    have gl4 : H4 a.gd = some (.dK (gdN a ((L.th.length : Int) + 1) L.next)) := by rw [k4 _ m1]; exact g3
    refine ⟨_, rfl, _, rfl, a.gd, _, rfl, DGet.k (k := Sum.inr "last") gl4, (by show 2 ≤ sizeLine; rw [hz]; decide), fun pt npt => ?_⟩
    have k5 := same_new npt (.tup [V.str (Str.ofString "thing"), V.int ((L.th.length : Int) + 1)])
    refine ⟨{ a with tas := a.tas ++ [t], las := a.las ++ [D] }, _, pt, .thing ((L.th.length : Int) + 1), rfl, R4.same k5, (by rw [upd_same, S_of]; rfl), hnx, hl2, fun H' a' ea c' R' => ?_⟩
    exact q H' a' ea ((c4.same k5).trans c') R'
  | drop h =>
    dsimp only [doneL] at hm
    cases hlk : Gc.lookW L.hs h with
    | none => rw [hlk] at hm; cases hm
    | some y =>
    rw [hlk] at hm
    cases hm
    refine ⟨_, rfl, pd, _, _, _, rfl, rfl, SqT.of hd, atI_nat (j := 0) rfl, rfl, _, rfl, ?_⟩
    rw [show decide (V.str (Str.ofString "drop") = V.str (Str.ofString "make")) = false from by decide +kernel]
    refine iteF (go_next ⟨_, rfl, pd, _, _, _, rfl, rfl, SqT.of hd, atI_nat (j := 0) rfl, rfl, _, rfl, ?_⟩)
    rw [show decide (V.str (Str.ofString "drop") = V.str (Str.ofString "hold")) = false from by decide +kernel]
    refine iteF (go_next ⟨_, rfl, pd, _, _, _, rfl, rfl, SqT.of hd, atI_nat (j := 0) rfl, rfl, _, rfl, ?_⟩)
    rw [show decide (V.str (Str.ofString "drop") = V.str (Str.ofString "drop")) = true from decide_eq_true rfl]
    obtain ⟨wa, e1, e2⟩ := R.held hlk
    obtain ⟨bs, f1, f2⟩ := kD_drop (h := h) R.hw
    have hv : valV (kD (L.hs.map Prod.fst) a.was) (Sum.inl h : Key) = some (.ref wa) := by
      obtain ⟨i, e⟩ := lookW_at hlk
      obtain ⟨wa', f1, f2⟩ := R.hw.at (i := i) (x := y) (by rw [List.getElem?_map, e]; rfl)
      have : valV (kD (L.hs.map Prod.fst) a.was) (Sum.inl h : Key) = some (.ref wa') := kD_get (i := i) R.hn (by rw [List.getElem?_map, e]; rfl) f1
      rcases e1 with ⟨kvs, k, g1, g2, g3⟩ | ⟨kvs, k, b, g1, _⟩
      · rcases g1 with g1 | ⟨o, g1⟩
        · rw [R.h] at g1; cases g1
          cases k with
          | inl k => cases g2; exact g3.symm
          | inr k => cases g2
        · rw [R.h] at g1; cases g1
      · rcases g1 with g1 | ⟨o, g1⟩ <;> rw [R.h] at g1 <;> cases g1
    refine iteT ⟨_, rfl, a.gd, _, rfl, R.handles, a.hd, rfl, ?_, _, rfl, pd, _, _, _, rfl, rfl, SqT.of hd, atI_nat (j := 1) rfl, _, Sum.inl h, _, R.h, rfl, hv, ?_⟩
    · exact .inl ⟨_, .inl R.h⟩
    rw [f1]
    have tk1 : Tk H (upd H a.hd (.dK (kD ((Gc.dropW L.hs h).map Prod.fst) bs))) := fun b xs e => by
      rw [upd_ne (fun z => by rw [z, R.h] at e; cases e)]; exact e
    have k1 : ∀ b, b ≠ a.hd → (upd H a.hd (.dK (kD ((Gc.dropW L.hs h).map Prod.fst) bs))) b = H b := fun b n => upd_ne n
    refine q _ { a with was := bs } rfl (fun b u n e => ⟨n, ?_⟩) ⟨?_, ?_, upd_same, ?_, f2.tk tk1, R.nd, ?_, R.z1, ?_, R.z3⟩
    · rw [k1 _ (fun z => n (by rw [z]; exact ohd))]; exact e
    · show (upd H a.hd _) a.gd = _
      rw [k1 _ m2]; exact R.g
    · show (upd H a.hd _) a.td = _
      rw [k1 _ m4]; exact R.t
    · refine ThAt.keep tk1 (fun l hl xs e => ?_) R.tw
      rw [k1 _ (fun z => m6 (by rw [← z]; exact hl))]; exact e
    · exact R.hn.sublist ((List.filter_sublist).map _)
    · exact Nat.le_trans (List.length_filter_le _ _) R.z2
  | write h p it =>
    obtain ⟨pi, hpd, hpi⟩ := hd
    dsimp only [doneL] at hm
    split at hm
    rotate_left
    · cases hm
    rename_i n y hlk hit
    split at hm
    rotate_left
    · cases hm
    rename_i hc
    cases hm
    obtain ⟨c1, c2, c3⟩ := hc
    have hn : n ∈ nums L.th.length := nums_mem.mpr ⟨c1, c2⟩
    obtain ⟨wa, e1, e2⟩ := R.held hlk
    obtain ⟨t, l, ws, f1, f2, f3, f4, f5, i, fi, fl, fl2⟩ := R.thing hn
    have hwl := f4.len
    refine ⟨_, rfl, pd, _, _, _, rfl, rfl, SqT.of hpd, atI_nat (j := 0) rfl, rfl, _, rfl, ?_⟩
    rw [show decide (V.str (Str.ofString "write") = V.str (Str.ofString "make")) = false from by decide +kernel]
    refine iteF (go_next ⟨_, rfl, pd, _, _, _, rfl, rfl, SqT.of hpd, atI_nat (j := 0) rfl, rfl, _, rfl, ?_⟩)
    rw [show decide (V.str (Str.ofString "write") = V.str (Str.ofString "hold")) = false from by decide +kernel]
    refine iteF (go_next ⟨_, rfl, pd, _, _, _, rfl, rfl, SqT.of hpd, atI_nat (j := 0) rfl, rfl, _, rfl, ?_⟩)
    rw [show decide (V.str (Str.ofString "write") = V.str (Str.ofString "drop")) = false from by decide +kernel]
    refine iteF (go_next ?_)
    dsimp only
    refine seq_set ⟨_, rfl, a.gd, _, rfl, R.things, _, rfl, a.gd, _, rfl, R.handles, _, rfl, pd, _, _, _, rfl, rfl, SqT.of hpd, atI_nat (j := 1) rfl, a.hd, _, rfl, e1, wa, _, _, _, rfl, rfl, SqT.of e2, atI_nat (j := 1) rfl, a.td, _, rfl, f1, t, _, _, _, rfl, rfl, SqT.of f2, atI_nat (j := 1) rfl, ?_⟩
    dsimp only [List.set]
    refine ⟨_, rfl, pd, _, _, _, rfl, rfl, SqT.of hpd, atI_nat (j := 0) rfl, rfl, _, rfl, ?_⟩
    rw [show decide (V.str (Str.ofString "write") = V.str (Str.ofString "read")) = false from by decide +kernel]
    refine iteF (go_next ⟨_, rfl, _, rfl, pd, _, _, _, rfl, rfl, SqT.of hpd, atI_nat (j := 3) rfl, a, L, pi, it, y, rfl, R, hpi, hit, fun wb hwb => ?_⟩)
    refine ⟨_, rfl, _, rfl, pd, _, _, _, rfl, rfl, SqT.of hpd, atI_nat (j := 2) rfl, l, _, (p : Int), p, rfl, rfl, f3, ixN_of (by rw [List.length_map]; omega), ?_⟩
    rw [← List.map_set]
    have tk1 := tk_lst f3 (.lst ((ws.set p wb).map V.ref))
    have ol : GraO a l := by simp [GraO, f5]
    have k1 : ∀ b, b ≠ l → (upd H l (.lst ((ws.set p wb).map V.ref))) b = H b := fun b n => upd_ne n
    obtain ⟨j, ej, hj, eg⟩ := gOf_in hn
    have eij : i = j := by omega
    subst eij
    have eidx : (n - 1).toNat = i := by omega
    refine q _ a rfl (fun b u nb e => ⟨nb, ?_⟩) ⟨?_, ?_, ?_, ?_, R.hw.tk tk1, R.nd, R.hn, ?_, R.z2, ?_⟩
    · rw [k1 _ (fun z => nb (by rw [z]; exact ol))]; exact e
    · rw [k1 _ (fun z => m3 (by rw [z]; exact f5)), R.g]
      show some (HO.dK (gdN a (L.th.length : Int) L.next)) = some (.dK (gdN a ((L.th.set (n - 1).toNat ((gOf L.th n).1, (gOf L.th n).2.set p y)).length : Int) L.next))
      rw [List.length_set]
    · rw [k1 _ (fun z => m5 (by rw [z]; exact f5)), R.t]
      show _ = some (HO.dK (kD (nums (L.th.set (n - 1).toNat ((gOf L.th n).1, (gOf L.th n).2.set p y)).length) a.tas))
      rw [List.length_set]
    · rw [k1 _ (fun z => m6 (by rw [z]; exact f5))]; exact R.h
    · show ThAt (upd H l (.lst ((ws.set p wb).map V.ref))) a.tas a.las (L.th.set (n - 1).toNat ((gOf L.th n).1, (gOf L.th n).2.set p y))
      rw [eidx]
      exact ThAt.set (g := gOf L.th n) (g' := ((gOf L.th n).1, (gOf L.th n).2.set p y)) rfl (WoAt.set hwb f4) m7 fl eg ⟨_, f3⟩ R.tw
    · show (L.th.set (n - 1).toNat ((gOf L.th n).1, (gOf L.th n).2.set p y)).length ≤ 100000
      rw [List.length_set]; exact R.z1
    · intro z hz'
      rcases List.mem_or_eq_of_mem_set hz' with z' | z'
      · exact R.z3 z z'
      · rw [z']; show ((gOf L.th n).2.set p y).length ≤ _
        rw [List.length_set]; exact R.z3 _ (List.mem_of_getElem? eg)
end
end Wk
set_option maxRecDepth 100000
set_option maxHeartbeats 2000000
namespace Wk
open PySem PySem.Spec L2 TL PyProof.Rows Hm
open SX (S S_len)
/-! A rule of my own: o.m(e, ..) within a try, where m may raise what the try takes. -/
def tMethE (C : Addr) (m : Str) (sp : Sp) (E : L2.St → XK) (ta : TE) (t : TA) : TE := fun σ H Q => ta σ H fun x H1 => ∃ a dx fs, x = .ref a ∧ H1 a = some (.ins C dx fs) ∧ fs.lookup m = none ∧ t σ H1 fun vs H2 => sp (x :: vs) H2 Q (E σ)
section
variable {X : Cx} {CX : CXT} {k : Nat} {C g : Addr} {fd : FuncData} {ps : List Str} {sp : Sp} {E : L2.St → XK} {o e : Expr} {es : List Expr} {m : Str} {pos apos : Pos} {ta : TE} {t : TA} {pl : Sem Bool}
theorem pe_methE (he : PE X o ta) (c : Cls X.K C) (hm : Meth X.K C m g) (F : FnOk X.prog X.w X.K X.mg X.base CX k g fd ps sp) (hr : Room k X.A) (hb : Binds X.K fd ps []) (hx : ∀ σ, PassesAt CX X σ (E σ)) (ha : PA X (e :: es) t)
    (hst : starEach (e :: es) X.env = (false, eval e X.env) :: starEach es X.env := by rfl) (hpl : (backTo pos (starEach es X.env)).any (·.1) = false := by rfl)
    (ht : eval (.Call (.Attribute o m apos) (e :: es) [] pos) X.env = (do
      let ov ← eval o X.env
      standAt apos.atName
      let (f, first) ← holding [ov] (getMethod ov m pl)
      callWith pos f first (backTo pos (starEach (e :: es) X.env)) (backToKw pos (keywordEach [] X.env))) := by rfl) :
    PE X (.Call (.Attribute o m apos) (e :: es) [] pos) (tMethE C m sp E ta t) := by
  refine ⟨fun pins s σ H Q I h => ?_⟩
  refine PySem.W.methodCall_KW (pl := pl) (thn (he.run pins s σ H _ I h) fun v s1 ⟨x, H1, I1, rx, b, dx, fs, ex, ea, l, q⟩ => ?_) ht
  subst ex
  obtain rfl : v = Value.ref b := rx
  refine getmeth_ok I1 ea c hm l ?_
  refine PySem.W.callWith_K (h₀ := X.base) (first := [.ref b]) I1.ok.mod.kin hm.kp (thn (ha.run pos pins s1 σ H1 _ I1 q) fun us s2 ⟨vs, H2, I2, r, q2⟩ => ⟨I2.kIn, ?_⟩) hst hpl
  exact run_fnS (us := .ref b :: us) (vs := .ref b :: vs) F hr hb (hx σ) I2 (.cons rfl r) q2
end
/-! ### a deed is done by the heap -/
def callS (s : Bd) : De → Option (Option V × Bd)
  | .make k its => match Gc.make2 s k its with
    | none => none
    | some (some n, s') => some (some (.int n), s')
    | some (none, s') => some (none, s')
  | .drop h => match Hm.drop s h with
    | none => none
    | some s' => some (some .non, s')
  | .write h p it => match Hm.write s h p it with
    | none => none
    | some s' => some (some .non, s')
theorem Go.more {K : PySem.W.Frag} {C : Cs K} {F : Fx} {ar a' : Addr} {rws r' : List Addr} {H H1 H2 : Hp} {s : Bd} (g : Go C F ar rws H H1 a' r' s) (k : Same H1 H2) : Go C F ar rws H H2 a' r' s :=
  ⟨g.st.same k, fun b u n e => ⟨(g.ch b u n e).1, k _ _ (g.ch b u n e).2⟩⟩
section
variable {P : Program} {w : World} {K : PySem.W.Frag} {mg : Str → Option Value} {base : Heap}
abbrev s__law_called : Stmt := top 86
theorem sc__law_called : FnScope ["heap", "deed", "told", "e"] ["heap", "deed"] (defScope s__law_called) := ⟨rfl, rfl, rfl, by decide +kernel, rfl, by decide +kernel, by decide +kernel⟩
def sp_lcalled (C : Cs K) : Sp := fun vs H Q _ => ∃ F ar rws s pd d r s', vs = [.ref F.ho, .ref pd] ∧ St C H F ar rws s ∧ DeAt H pd d ∧ callS s d = some (r, s') ∧
  (∀ k its, d = .make k its → its.length ≤ 60000 ∧ its.all (itemOk s) = true ∧ s.rows.length < 100000 ∧ ∃ w0, worths s its = some w0 ∧ mayBe k w0 = true) ∧
  (∀ v, r = some v → ∀ H' ar' rws', Go C F ar rws H H' ar' rws' s' → Q v H') ∧
  (r = none → ∀ H' ar' rws' p, Go C F ar rws H H' ar' rws' s' → H' p = some (.tup [.str (Str.ofString "full"), .int (szD d)]) → Q (.ref p) H')
theorem ok_lcalled (T : Txt K mg base) (C : Cs K) (BF : ExcT P w K mg base "HeapFull" ["self", "taken"] sp_bad_init) (XT : XfC K BF.C) (hno : PySem.W.findIn K (.ref BF.C) "taken" = some none) (hm1 : PySem.W.exmOne K (.ref BF.C) (.ref BF.C) = some true) {f : Addr} {fd : FuncData} (F : Fun K "_law_called" "_law_called" s__law_called f fd)
    (Mh_make : MD P w K mg base (L2.CX P w) C.H "make" ["self", "sort", "items"] 8 (sp_hmake2 C BF.C)) (Mh_drop : MD P w K mg base CX0 C.H "drop" ["self", "handle"] 3 (sp_hdrop C)) (Mh_write : MD P w K mg base CX0 C.H "write" ["self", "handle", "place", "item"] 5 (sp_hwrite C)) : FnOk P w K mg base CX0 9 f fd ["heap", "deed"] (sp_lcalled C) := by
  refine F.ok sc__law_called (fun vs H Q E h => ?_) (fun cdv A outer s H vs Q E hr h => ?_)
  · obtain ⟨_, _, _, _, _, _, _, _, rfl, _⟩ := h; rfl
  obtain ⟨F, ar, rws, s, pd, d, r, s', rfl, S, hd, hm, hmk, q1, q2⟩ := h
  refine ⟨_, (pss_cons (ps_set (i := 2) sc__law_called.nd rfl (Or.inl rfl) pe_str)
    (pss_cons (ps_try_as (i := 3) rfl rfl sc__law_called.nd rfl rfl ⟨rfl, by decide, .inl BF.gC⟩ takes0 (fun W pn xe tk _ => (pss_one (ps_if (pt_cmpR op_eq (pe_ix (ix_tupB (K := K) rfl) (pv 1) pe_int (fun _ _ => rfl)) pe_str (nomark _)) (pss_one (ps_set (i := 2) sc__law_called.nd rfl (Or.inl rfl) (pe_methE (pv 0) C.hcl Mh_make.m Mh_make.ok (hr.mono (by omega)) Mh_make.b (fun σ => passAt tk σ) (pa_cons (pe_ix (ix_tupB (K := K) rfl) (pv 1) pe_int (fun _ _ => rfl)) (pa_cons (pe_ix (ix_tupB (K := K) rfl) (pv 1) pe_int (fun _ _ => rfl)) pa_nil))))) (pss_one (ps_if (pt_cmpR op_eq (pe_ix (ix_tupB (K := K) rfl) (pv 1) pe_int (fun _ _ => rfl)) pe_str (nomark _)) (pss_one ps_no) (pss_one (ps_if (pt_cmpR op_eq (pe_ix (ix_tupB (K := K) rfl) (pv 1) pe_int (fun _ _ => rfl)) pe_str (nomark _)) (pss_one (ps_set (i := 2) sc__law_called.nd rfl (Or.inl rfl) (pe_meth (pv 0) C.hcl Mh_drop.m Mh_drop.ok (hr.mono (by omega)) Mh_drop.b .nil pass0 (pa_cons (pe_ix (ix_tupB (K := K) rfl) (pv 1) pe_int (fun _ _ => rfl)) pa_nil)))) (pss_one (ps_if (pt_cmpR op_eq (pe_ix (ix_tupB (K := K) rfl) (pv 1) pe_int (fun _ _ => rfl)) pe_str (nomark _)) (pss_one ps_no) (pss_one (ps_set (i := 2) sc__law_called.nd rfl (Or.inl rfl) (pe_meth (pv 0) C.hcl Mh_write.m Mh_write.ok (hr.mono (by omega)) Mh_write.b .nil pass0 (pa_cons (pe_ix (ix_tupB (K := K) rfl) (pv 1) pe_int (fun _ _ => rfl)) (pa_cons (pe_ix (ix_tupB (K := K) rfl) (pv 1) pe_int (fun _ _ => rfl)) (pa_cons (pe_ix (ix_tupB (K := K) rfl) (pv 1) pe_int (fun _ _ => rfl)) pa_nil))))))))))))))) (fun a oe cls d pn hz hf => (pss_one (ps_set (i := 2) sc__law_called.nd rfl (Or.inl rfl) (pe_tup (pa_cons pe_str (pa_cons (pe_xf XT hno hz hf (pv 3)) pa_nil)))))))
    (pss_one (ps_ret (pv 2))))), ?_⟩
  have hz := line_eq
  generalize hσ : L2.start _ _ = σ0
  have hσ : σ0 = [some (.ref F.ho), some (.ref pd), none, none] := hσ.symm
  subst hσ
  refine seq_setC ?_
  dsimp only [List.set]
  refine seq_join (fun σ H' => ∃ v, (∃ x3 : Option V, σ = [some (.ref F.ho), some (.ref pd), some v, x3]) ∧ Q v H') ?_ ?_
  · rintro σ H' ⟨v, ⟨x3, rfl⟩, h⟩
    exact ⟨_, rfl, h⟩
  intro NX nx
  cases d with
  | make k its =>
    obtain ⟨x, pi, ias, hx, h1, h2, h3⟩ := hd
    obtain ⟨c1, c2, c3, w0, c4, c5⟩ := hmk k its rfl
    refine ⟨_, rfl, pd, _, _, _, rfl, rfl, SqT.of h1, atI_nat (j := 0) rfl, rfl, _, rfl, ?_⟩
    rw [show decide (V.str (Str.ofString "make") = V.str (Str.ofString "make")) = true from decide_eq_true rfl]
    dsimp only [callS] at hm
    cases em : Gc.make2 s k its with
    | none => rw [em] at hm; cases hm
    | some z =>
    obtain ⟨on, s2⟩ := z
    rw [em] at hm
    refine iteT ⟨_, rfl, F.ho, F.hd, _, rfl, S.ho, rfl, _, rfl, pd, _, _, _, rfl, rfl, SqT.of h1, atI_nat (j := 1) rfl, _, rfl, pd, _, _, _, rfl, rfl, SqT.of h1, atI_nat (j := 2) rfl, ?_⟩
    refine ⟨F, ar, rws, s, x, k, pi, ias, its, on, s2, rfl, hx, S, h2, h3, c1, c2, c3, ⟨w0, c4, c5⟩, em, fun n hn H' ar' rws' g => ?_, fun hn H' ar' rws' dd g ndd => ?_⟩
    · subst hn
      cases hm
      exact nx _ _ ⟨_, ⟨_, rfl⟩, q1 _ rfl _ _ _ g⟩
    · subst hn
      cases hm
      refine ⟨true, hm1, fun _ b hb => ?_, fun z => by cases z⟩
      have g1 := g.more (same_new ndd (.xd [("taken", .int ((its.length : Int) + 2))]))
      have hdd : (upd H' dd (.xd [("taken", .int ((its.length : Int) + 2))])) dd = some (.xd [("taken", .int ((its.length : Int) + 2))]) := upd_same
      generalize upd H' dd (.xd [("taken", .int ((its.length : Int) + 2))]) = H1 at g1 hdd hb ⊢
      refine ⟨_, rfl, rfl, rfl, dd, _, _, rfl, hdd, rfl, (by show 2 ≤ sizeLine; rw [hz]; decide), fun p np => ?_⟩
      refine nx _ _ ⟨_, ⟨_, rfl⟩, ?_⟩
      exact q2 rfl _ _ _ p (g1.more (same_new np _)) upd_same
  | drop h =>
    dsimp only [callS] at hm
    cases em : Hm.drop s h with
    | none => rw [em] at hm; cases hm
    | some s2 =>
    rw [em] at hm
    cases hm
    refine ⟨_, rfl, pd, _, _, _, rfl, rfl, SqT.of hd, atI_nat (j := 0) rfl, rfl, _, rfl, ?_⟩
    rw [show decide (V.str (Str.ofString "drop") = V.str (Str.ofString "make")) = false from by decide +kernel]
    refine iteF ⟨_, rfl, pd, _, _, _, rfl, rfl, SqT.of hd, atI_nat (j := 0) rfl, rfl, _, rfl, ?_⟩
    rw [show decide (V.str (Str.ofString "drop") = V.str (Str.ofString "hold")) = false from by decide +kernel]
    refine iteF ⟨_, rfl, pd, _, _, _, rfl, rfl, SqT.of hd, atI_nat (j := 0) rfl, rfl, _, rfl, ?_⟩
    rw [show decide (V.str (Str.ofString "drop") = V.str (Str.ofString "drop")) = true from decide_eq_true rfl]
    refine iteT ⟨_, rfl, F.ho, F.hd, _, rfl, S.ho, rfl, _, rfl, pd, _, _, _, rfl, rfl, SqT.of hd, atI_nat (j := 1) rfl, ?_⟩
    exact ⟨F, ar, rws, s, h, _, rfl, S, em, fun H' rws' g => nx _ _ ⟨_, ⟨_, rfl⟩, q1 _ rfl _ _ _ g⟩⟩
  | write h p it =>
    obtain ⟨pi, h1, h2⟩ := hd
    dsimp only [callS] at hm
    cases em : Hm.write s h p it with
    | none => rw [em] at hm; cases hm
    | some s2 =>
    rw [em] at hm
    cases hm
    refine ⟨_, rfl, pd, _, _, _, rfl, rfl, SqT.of h1, atI_nat (j := 0) rfl, rfl, _, rfl, ?_⟩
    rw [show decide (V.str (Str.ofString "write") = V.str (Str.ofString "make")) = false from by decide +kernel]
    refine iteF ⟨_, rfl, pd, _, _, _, rfl, rfl, SqT.of h1, atI_nat (j := 0) rfl, rfl, _, rfl, ?_⟩
    rw [show decide (V.str (Str.ofString "write") = V.str (Str.ofString "hold")) = false from by decide +kernel]
    refine iteF ⟨_, rfl, pd, _, _, _, rfl, rfl, SqT.of h1, atI_nat (j := 0) rfl, rfl, _, rfl, ?_⟩
    rw [show decide (V.str (Str.ofString "write") = V.str (Str.ofString "drop")) = false from by decide +kernel]
    refine iteF ⟨_, rfl, pd, _, _, _, rfl, rfl, SqT.of h1, atI_nat (j := 0) rfl, rfl, _, rfl, ?_⟩
    rw [show decide (V.str (Str.ofString "write") = V.str (Str.ofString "read")) = false from by decide +kernel]
    refine iteF ⟨_, rfl, F.ho, F.hd, _, rfl, S.ho, rfl, _, rfl, pd, _, _, _, rfl, rfl, SqT.of h1, atI_nat (j := 1) rfl, _, rfl, pd, _, _, _, rfl, rfl, SqT.of h1, atI_nat (j := 2) rfl, _, rfl, pd, _, _, _, rfl, rfl, SqT.of h1, atI_nat (j := 3) rfl, ?_⟩
    exact ⟨F, ar, rws, s, h, p, pi, it, _, rfl, S, h2, em, fun H' g => nx _ _ ⟨_, ⟨_, rfl⟩, q1 _ rfl _ _ _ g⟩⟩
end
end Wk
set_option maxRecDepth 100000
set_option maxHeartbeats 2000000
namespace Wk
open PySem L2 TL PyProof.Rows Hm
open SX (S S_len)
/-! ### the heap means the law's graph -/
structure Rl (s : Bd) (L : Lg) (vs : List (Int × Int)) : Prop where
  inv : Gc.Inv (gOf L.th) L.hs vs s
  la : s.last = L.th.length
  nx : s.next = L.next
  cl : Cls0 L
  up : (L.hs.map Prod.fst).Pairwise (· ≤ ·)
  lt : ∀ h ∈ L.hs.map Prod.fst, h < L.next
  ge : ∀ h ∈ L.hs.map Prod.fst, 0 ≤ h
  tg : ∀ q ∈ L.hs, ∃ n, q.2 = .thing n
  sm : ∀ g ∈ L.th, ∀ n, Gc.Wo.word n ∈ g.2 → Sma n
  ln : ∀ g ∈ L.th, g.2.length ≤ 10
  so : ∀ g ∈ L.th, 1 ≤ g.1 ∧ g.1 ≤ 4
  n0 : 0 ≤ L.next
  n1 : L.next ≤ 1000000
  z1 : L.th.length ≤ 1000
  z2 : L.hs.length ≤ 10
  z3 : s.old ≤ 100
  z4 : s.words.length ≤ 1000
section
variable {s : Bd} {L : Lg} {vs : List (Int × Int)}
theorem Rl.live (R : Rl s L vs) {n : Int} (h : Gc.Liv (gOf L.th) L.hs n) : n ∈ nums L.th.length := by
  induction h with
  | @root j h m e => exact R.cl.h m (List.mem_map.mpr ⟨_, List.mem_of_getElem? e, rfl⟩)
  | @step n m i l e ih =>
    refine R.cl.k n ih m ?_
    by_cases c : i < (gOf L.th n).2.length
    · have : (gOf L.th n).2[i] = .thing m := by simpa [List.getD, c] using e
      rw [← this]; exact List.getElem_mem c
    · have : (gOf L.th n).2.getD i (.word 0) = .word 0 := by simp [List.getD, c]
      rw [this] at e; cases e
theorem sumN_le {f : Int → Int} {k : Int} : ∀ {l : List Int}, (∀ n ∈ l, f n ≤ k) → Gc.sumN f l ≤ l.length * k
  | [], _ => by simp [Gc.sumN]
  | x :: r, h => by
    have := sumN_le (l := r) fun n hn => h n (List.mem_cons_of_mem _ hn)
    have h1 := h x List.mem_cons_self
    rw [Gc.sumN, List.length_cons, Int.natCast_add, Int.add_mul]
    omega
/-- the law's flood -/
theorem Rl.flood (R : Rl s L vs) : ∃ fd, Gc.floodG (gOf L.th) true 1000000 (L.hs.map Prod.snd).reverse [] = some fd ∧ fd.Nodup ∧ (∀ n, n ∈ fd ↔ Gc.Liv (gOf L.th) L.hs n) ∧ fd.length < 64 ∧ (∀ n ∈ fd, n ∈ nums L.th.length) ∧ Gc.sumN (Gc.szG (gOf L.th)) fd ≤ s.old := by
  have hlk : Gc.lackG (gOf L.th) (nums L.th.length) [] ≤ 12000 := by
    unfold Gc.lackG
    have h1 := sumN_le (f := fun n => if n ∈ ([] : List Int) then 0 else Gc.szG (gOf L.th) n) (k := 12) (l := nums L.th.length) fun n hn => by
      show (if n ∈ ([] : List Int) then 0 else Gc.szG (gOf L.th) n) ≤ 12
      rw [if_neg (by simp)]
      obtain ⟨i, e1, e2, e3⟩ := gOf_in hn
      have := R.ln _ (List.mem_of_getElem? e3)
      unfold Gc.szG; omega
    have := R.z1
    rw [nums_len] at h1
    omega
  have hz2 := R.z2
  obtain ⟨fd, e1, e2, e3⟩ := Gc.flood_live (G := gOf L.th) (tie := true) (hs := L.hs) (ks := nums L.th.length) (nums_nodup _) R.cl.k R.cl.h (f := 1000000) (by omega)
  have e4 : ∀ n, n ∈ fd ↔ Gc.Liv (gOf L.th) L.hs n := fun n => (e3 n).trans Gc.livT
  have e5 := R.inv.few e2 fun n h => (e4 n).mp h
  have e6 := R.inv.fits e2 fun n h => (e4 n).mp h
  have fl := R.inv.fl
  have := R.z3
  exact ⟨fd, e1, e2, e4, by omega, fun n h => R.live ((e4 n).mp h), by omega⟩
theorem Rl.rows (R : Rl s L vs) : s.rows.length = L.hs.length := R.inv.rt.1
theorem Rl.filled (R : Rl s L vs) {fd : List Int} (e2 : fd.Nodup) (e4 : ∀ n, n ∈ fd ↔ Gc.Liv (gOf L.th) L.hs n) : Hm.filled s = some (Gc.sumN (Gc.szG (gOf L.th)) fd) := by
  have := R.z4
  have := R.rows
  have := R.z2
  exact R.inv.filled (by omega) (by omega) e2 e4
/-- what the heap tells of its meaning -/
theorem Rl.mean (R : Rl s L vs) {fd : List Int} (e2 : fd.Nodup) (e4 : ∀ n, n ∈ fd ↔ Gc.Liv (gOf L.th) L.hs n) (e5 : fd.length < 64) : ∃ bs found, Hm.addrs s (s.rows.map Prod.snd) = some bs ∧ Hm.comeGo true s 1000000 bs.reverse [] = some found ∧ found.length < 64 ∧
    (found.map Prod.fst).Perm fd ∧ ∀ q ∈ found, ThingAt s q.2 (gOf L.th q.1) := by
  have z4 := R.z4
  have hr := R.rows
  have z2 := R.z2
  obtain ⟨b, found, f1, f2, f3, f4, f5⟩ := R.inv.come true (by omega) (by omega)
  have hp : (found.map Prod.fst).Perm fd := (List.perm_ext_iff_of_nodup f3 e2).mpr fun n => by rw [f4, e4, Gc.livT]
  refine ⟨b, found, f1, f2, ?_, hp, fun q hq => ?_⟩
  · have := hp.length_eq
    rw [List.length_map] at this
    omega
  · obtain ⟨hd, part, g1, g2, g3, g4, g5, g6, g7, g8⟩ := R.inv.co.thing (f5 q hq)
    exact ⟨hd, part, g1, g3, g4, g6, g8⟩
theorem Rl.next (R : Rl s L vs) : Gc.lookW L.hs L.next = none := by
  cases e : Gc.lookW L.hs L.next with
  | none => rfl
  | some x =>
    obtain ⟨i, ei⟩ := lookW_at e
    have := R.lt L.next (List.mem_map.mpr ⟨_, List.mem_of_getElem? ei, rfl⟩)
    omega
theorem Rl.turn (R : Rl s L vs) : ∃ n s' vs', Hm.turn s = some (n, s') ∧ (n = 0 ∨ n = 1) ∧ Rl s' L vs' ∧ s'.young = s.young ∧ s'.old = s.old := by
  obtain ⟨n, s', vs', e1, e2, I, k, _⟩ := R.inv.turn
  exact ⟨n, s', vs', e1, e2, ⟨I, by rw [k.la]; exact R.la, by rw [k.nx]; exact R.nx, R.cl, R.up, R.lt, R.ge, R.tg, R.sm, R.ln, R.so, R.n0, R.n1, R.z1, R.z2, by rw [k.o]; exact R.z3, by rw [k.ln]; exact R.z4⟩, k.y, k.o⟩
theorem Rl.drop (R : Rl s L vs) {h : Int} (hh : h ∈ L.hs.map Prod.fst) : ∃ s' L', callS s (.drop h) = some (some .non, s') ∧ doneL L (.drop h) = some (.non, L') ∧ Rl s' L' vs ∧ L'.th = L.th ∧ L'.hs.length + 1 ≤ L.hs.length ∧ L'.next = L.next ∧ s'.young = s.young ∧ s'.old = s.old := by
  have hs := lookW_mem hh
  obtain ⟨s', e1, I, k⟩ := R.inv.drop hs
  obtain ⟨x, hx⟩ := Option.isSome_iff_exists.mp hs
  have sub : (Gc.dropW L.hs h).Sublist L.hs := List.filter_sublist
  have hlen : (Gc.dropW L.hs h).length + 1 ≤ L.hs.length := by
    obtain ⟨i, ei⟩ := lookW_at hx
    have hm : (h, x) ∈ L.hs := List.mem_of_getElem? ei
    have : (Gc.dropW L.hs h).length < L.hs.length := by
      unfold Gc.dropW
      exact List.length_filter_lt_length_iff_exists.mpr ⟨_, hm, by simp⟩
    exact this
  have z2 := R.z2
  refine ⟨s', { L with hs := Gc.dropW L.hs h }, by dsimp only [callS]; rw [e1], by dsimp only [doneL]; rw [hx], ⟨I, by rw [k.la]; exact R.la, by rw [k.nx]; exact R.nx, ⟨R.cl.k, fun n hn => R.cl.h n ((sub.map _).subset hn), R.cl.s⟩, R.up.sublist (sub.map _), fun y hy => R.lt y ((sub.map _).subset hy), fun y hy => R.ge y ((sub.map _).subset hy), fun q hq => R.tg q (sub.subset hq), R.sm, R.ln, R.so, R.n0, R.n1, R.z1, ?_, by rw [k.o]; exact R.z3, by rw [k.ln]; exact R.z4⟩, rfl, hlen, rfl, k.y, k.o⟩
  show (Gc.dropW L.hs h).length ≤ 10
  omega
theorem may_fit {hs : List (Int × Gc.Wo)} {k : Nat} (hk : 1 ≤ k ∧ k ≤ 4) {its : List Hm.It} (fit : ItsFit k its) {xs : List Gc.Wo} (ex : Gc.itsW hs its = some xs) (j : Nat) (hj : j < its.length) : Gc.mayW k j (xs.getD j (.word 0)) = true := by
  have any : (k = 1 ∨ k = 4) ∨ 0 < j → ∀ x, Gc.mayW k j x = true := by
    intro h x
    have h5 : ¬ k = 5 := by omega
    have h0 : ¬ k = 0 := by omega
    have hb : (decide (0 < j) || (k == 1 || k == 4)) = true := by
      rcases h with (h | h) | h
      · subst h; simp
      · subst h; simp
      · simp [h]
    cases x with
    | word n =>
      show Hm.mayStand k j n = true
      unfold Hm.mayStand
      rw [if_neg h0, if_neg h5, hb]; rfl
    | thing n =>
      show (k == 5 || (decide (0 < k ∧ k < 5) && (decide (0 < j) || (k == 1 || k == 4)))) = true
      rw [hb, decide_eq_true (by omega)]; simp
  by_cases h0 : 0 < j
  · exact any (.inr h0) _
  rcases fit with h | ⟨h, _⟩ | ⟨h, p, r, rfl⟩
  · exact any (.inl (.inl h)) _
  · exact any (.inl (.inr h)) _
  · have : j = 0 := by omega
    subst this
    obtain ⟨hl, hat⟩ := itsW_at ex
    obtain ⟨x, e1, e2⟩ := hat 0 _ rfl
    cases e2
    rw [List.getD_eq_getElem?_getD, e1]
    show Hm.mayStand k 0 (8 * p + 1) = true
    unfold Hm.mayStand
    rw [if_neg (by omega), if_neg (by omega)]
    have : ((8 * p + 1) % 8 == 1) = true := by rw [beq_iff_eq]; omega
    rw [this]; simp
theorem many_fit {k : Nat} (hk : 1 ≤ k ∧ k ≤ 4) {its : List Hm.It} (fit : ItsFit k its) (hl : its.length ≤ 60000) : Hm.mayMany k its.length = true := by
  unfold Hm.mayMany
  rcases fit with h | ⟨h, h1⟩ | ⟨h, p, r, rfl⟩
  · subst h
    rw [if_neg (by omega), decide_eq_true hl]; simp
  · subst h
    rw [if_pos (by omega), h1]; rfl
  · rw [if_neg (by omega), decide_eq_true hl]; simp
theorem Rl.make (R : Rl s L vs) {k : Nat} (hk : 1 ≤ k ∧ k ≤ 4) {its : List Hm.It} (hl : its.length ≤ 10) (good : ∀ i ∈ its, ItG L.hs i) (fit : ItsFit k its) (b1 : L.hs.length < 10) (b2 : L.th.length < 1000) (b3 : L.next < 1000000)
    {fd : List Int} (e2 : fd.Nodup) (e4 : ∀ n, n ∈ fd ↔ Gc.Liv (gOf L.th) L.hs n) :
    (its.length ≤ 60000 ∧ its.all (itemOk s) = true ∧ s.rows.length < 100000 ∧ ∃ w0, worths s its = some w0 ∧ mayBe k w0 = true) ∧ ∃ r s' vs', callS s (.make k its) = some (r, s') ∧ s'.young = s.young ∧ s'.old = s.old ∧
      ((Gc.sumN (Gc.szG (gOf L.th)) fd + (its.length + 2) ≤ s.old ∧ r = some (.int L.next) ∧ ∃ L', doneL L (.make k its) = some (.int L.next, L') ∧ Rl s' L' vs' ∧ L'.th.length = L.th.length + 1 ∧ L'.hs.length = L.hs.length + 1 ∧ L'.next = L.next + 1) ∨
       (s.old < Gc.sumN (Gc.szG (gOf L.th)) fd + (its.length + 2) ∧ r = none ∧ Rl s' L vs')) := by
  obtain ⟨ws, xs, w1, w2, w3, w4, w5⟩ := R.inv.items (is := its) fun i hi => (good i hi).1
  have may := may_fit hk fit w2
  have hrw := R.rows
  have z4 := R.z4
  have z2 := R.z2
  refine ⟨⟨by omega, by rw [List.all_eq_true]; exact fun i hi => (R.inv.item (good i hi).1).1, by omega, ws, w1, ?_⟩, ?_⟩
  · unfold Hm.mayBe
    rw [w3, many_fit hk fit (by omega), Bool.true_and]
    exact Gc.all_may (ws := []) (m := s.words) (vs := vs) (by omega) 0 ws xs (by omega) fun i hi => ⟨(w5 i (by omega)).1, by rw [Nat.zero_add]; exact may i (by omega)⟩
  obtain ⟨r, s', vs', m1, kg, m2⟩ := R.inv.make (sort := k) (by omega) (items := its) (fun i hi => (good i hi).1) w2 may (by rw [R.nx]; exact R.next) (by omega) (by omega) (by rw [R.la]; omega) e2 e4
  rcases m2 with ⟨c1, rfl, I, c2, c3⟩ | ⟨c1, rfl, I, c2, c3⟩
  · refine ⟨some (.int s.next), s', vs', by dsimp only [callS]; rw [m1], kg.y, kg.o, .inl ⟨c1, by rw [R.nx], ⟨L.th ++ [((k : Int), xs)], L.hs ++ [(L.next, .thing ((L.th.length : Int) + 1))], L.next + 1⟩, by dsimp only [doneL]; rw [w2], ?_, by simp, by simp, rfl⟩⟩
    have hin : ∀ m, Gc.Wo.thing m ∈ xs → m ∈ nums L.th.length := by
      intro m hm
      obtain ⟨hxl, hat⟩ := itsW_at w2
      obtain ⟨i, hi, e⟩ := List.mem_iff_getElem.mp hm
      obtain ⟨x, f1, f2⟩ := hat i its[i] (List.getElem?_eq_getElem (by omega))
      rw [List.getElem?_eq_getElem hi, e] at f1
      cases f1
      cases hit : its[i] with
      | word n => rw [hit] at f2; cases f2
      | held h =>
        rw [hit] at f2
        obtain ⟨j, ej⟩ := lookW_at (show Gc.lookW L.hs h = some (.thing m) from f2)
        exact R.cl.h m (List.mem_map.mpr ⟨_, List.mem_of_getElem? ej, rfl⟩)
    have mono : ∀ m, m ∈ nums L.th.length → m ∈ nums (L.th.length + 1) := fun m hm => by
      rw [nums_succ]; exact List.mem_append_left _ hm
    have len1 : (L.th ++ [((k : Int), xs)]).length = L.th.length + 1 := by simp
    refine ⟨?_, ?_, ?_, ⟨?_, ?_, ?_⟩, ?_, ?_, ?_, ?_, ?_, ?_, ?_, ?_, ?_, ?_, ?_, ?_, ?_⟩
    · show Gc.Inv (gOf (L.th ++ [((k : Int), xs)])) (L.hs ++ [(L.next, .thing ((L.th.length : Int) + 1))]) vs' s'
      rw [gOf_add, ← R.la, ← R.nx]; exact I
    · show s'.last = ((L.th ++ [((k : Int), xs)]).length : Int)
      rw [c3, R.la, len1]; rfl
    · show s'.next = L.next + 1
      rw [c2, R.nx]
    · intro n hn m hm
      show m ∈ nums (L.th ++ [((k : Int), xs)]).length
      rw [len1]
      have hn' : n ∈ nums (L.th ++ [((k : Int), xs)]).length := hn
      rw [len1, nums_succ] at hn'
      have hm' : Gc.Wo.thing m ∈ (gOf (L.th ++ [((k : Int), xs)]) n).2 := hm
      rw [gOf_add] at hm'
      unfold Gc.addG at hm'
      rcases List.mem_append.mp hn' with z | z
      · have := nums_mem.mp z
        rw [if_neg (by omega)] at hm'
        exact mono m (R.cl.k n z m hm')
      · rw [List.mem_singleton] at z
        rw [if_pos z] at hm'
        exact mono m (hin m hm')
    · intro n hn
      show n ∈ nums (L.th ++ [((k : Int), xs)]).length
      rw [len1]
      have hn' : Gc.Wo.thing n ∈ (L.hs ++ [(L.next, Gc.Wo.thing ((L.th.length : Int) + 1))]).map Prod.snd := hn
      rw [List.map_append] at hn'
      rcases List.mem_append.mp hn' with z | z
      · exact mono n (R.cl.h n z)
      · rw [List.map_cons, List.map_nil, List.mem_singleton] at z
        cases z
        rw [nums_succ]; exact List.mem_append_right _ (List.mem_singleton.mpr rfl)
    · intro g hg
      rcases List.mem_append.mp hg with z | z
      · exact R.cl.s g z
      · rw [List.mem_singleton.mp z]
        show 0 ≤ (k : Int) ∧ (k : Int) ≤ 5
        omega
    · show ((L.hs ++ [(L.next, Gc.Wo.thing ((L.th.length : Int) + 1))]).map Prod.fst).Pairwise (· ≤ ·)
      rw [List.map_append, List.pairwise_append]
      refine ⟨R.up, by simp, fun a ha b hb => ?_⟩
      rw [List.map_cons, List.map_nil, List.mem_singleton] at hb
      have := R.lt a ha
      omega
    · intro h hh
      have hh' : h ∈ (L.hs ++ [(L.next, Gc.Wo.thing ((L.th.length : Int) + 1))]).map Prod.fst := hh
      rw [List.map_append] at hh'
      show h < L.next + 1
      rcases List.mem_append.mp hh' with z | z
      · have := R.lt h z; omega
      · rw [List.map_cons, List.map_nil, List.mem_singleton] at z; omega
    · intro h hh
      have hh' : h ∈ (L.hs ++ [(L.next, Gc.Wo.thing ((L.th.length : Int) + 1))]).map Prod.fst := hh
      rw [List.map_append] at hh'
      rcases List.mem_append.mp hh' with z | z
      · exact R.ge h z
      · rw [List.map_cons, List.map_nil, List.mem_singleton] at z; have := R.n0; omega
    · intro q hq
      rcases List.mem_append.mp hq with z | z
      · exact R.tg q z
      · rw [List.mem_singleton.mp z]; exact ⟨_, rfl⟩
    · intro g hg n hn
      rcases List.mem_append.mp hg with z | z
      · exact R.sm g z n hn
      · rw [List.mem_singleton.mp z] at hn
        obtain ⟨hxl, hat⟩ := itsW_at w2
        obtain ⟨i, hi, e⟩ := List.mem_iff_getElem.mp (show Gc.Wo.word n ∈ xs from hn)
        obtain ⟨x, f1, f2⟩ := hat i its[i] (List.getElem?_eq_getElem (by omega))
        rw [List.getElem?_eq_getElem hi, e] at f1
        cases f1
        have hg' := good its[i] (List.getElem_mem (by omega))
        cases hit : its[i] with
        | word m => rw [hit] at f2 hg'; cases f2; exact hg'.2 _ rfl
        | held h =>
          rw [hit] at f2
          obtain ⟨j, ej⟩ := lookW_at (show Gc.lookW L.hs h = some (.word n) from f2)
          obtain ⟨m, em⟩ := R.tg _ (List.mem_of_getElem? ej)
          cases em
    · intro g hg
      rcases List.mem_append.mp hg with z | z
      · exact R.ln g z
      · rw [List.mem_singleton.mp z]; show xs.length ≤ 10; omega
    · intro g hg
      rcases List.mem_append.mp hg with z | z
      · exact R.so g z
      · rw [List.mem_singleton.mp z]; show 1 ≤ (k : Int) ∧ (k : Int) ≤ 4; omega
    · have := R.n0; show 0 ≤ L.next + 1; omega
    · show L.next + 1 ≤ 1000000; omega
    · show (L.th ++ [((k : Int), xs)]).length ≤ 1000; omega
    · show (L.hs ++ [(L.next, Gc.Wo.thing ((L.th.length : Int) + 1))]).length ≤ 10
      rw [List.length_append]; show L.hs.length + 1 ≤ 10; omega
    · rw [kg.o]; exact R.z3
    · rw [kg.ln]; exact R.z4
  · refine ⟨none, s', vs', by dsimp only [callS]; rw [m1], kg.y, kg.o, .inr ⟨c1, rfl, ⟨I, by rw [c3]; exact R.la, by rw [c2]; exact R.nx, R.cl, R.up, R.lt, R.ge, R.tg, R.sm, R.ln, R.so, R.n0, R.n1, R.z1, R.z2, by rw [kg.o]; exact R.z3, by rw [kg.ln]; exact R.z4⟩⟩⟩
theorem Rl.write (R : Rl s L vs) {h n : Int} (eh : Gc.lookW L.hs h = some (.thing n)) {p : Nat} (hp1 : 1 ≤ p) (hp : p < (gOf L.th n).2.length) {g : Int} (hg : (Gc.lookW L.hs g).isSome = true) :
    ∃ s' L', callS s (.write h p (.held g)) = some (some .non, s') ∧ doneL L (.write h p (.held g)) = some (.non, L') ∧ Rl s' L' vs ∧ L'.th.length = L.th.length ∧ L'.hs = L.hs ∧ L'.next = L.next ∧ s'.young = s.young ∧ s'.old = s.old := by
  obtain ⟨j, ej⟩ := lookW_at eh
  have hn : n ∈ nums L.th.length := R.cl.h n (List.mem_map.mpr ⟨_, List.mem_of_getElem? ej, rfl⟩)
  obtain ⟨n1, n2⟩ := nums_mem.mp hn
  obtain ⟨i, ei, hi, eg⟩ := gOf_in hn
  have so := R.so _ (List.mem_of_getElem? eg)
  obtain ⟨x, hx⟩ := Option.isSome_iff_exists.mp hg
  obtain ⟨jx, ejx⟩ := lookW_at hx
  obtain ⟨m, em⟩ := R.tg _ (List.mem_of_getElem? ejx)
  cases em
  have hm : m ∈ nums L.th.length := R.cl.h m (List.mem_map.mpr ⟨_, List.mem_of_getElem? ejx, rfl⟩)
  have z4 := R.z4
  obtain ⟨s', e1, I, k⟩ := R.inv.write eh (p := p) hp (it := .held g) hg (x := .thing m) hx (by
    show ((gOf L.th n).1.toNat == 5 || (decide (0 < (gOf L.th n).1.toNat ∧ (gOf L.th n).1.toNat < 5) && (decide (0 < p) || ((gOf L.th n).1.toNat == 1 || (gOf L.th n).1.toNat == 4)))) = true
    rw [decide_eq_true (show 0 < (gOf L.th n).1.toNat ∧ (gOf L.th n).1.toNat < 5 by omega), decide_eq_true (show 0 < p by omega)]; simp) (by omega)
  have eidx : (n - 1).toNat = i := by omega
  refine ⟨s', { L with th := L.th.set (n - 1).toNat ((gOf L.th n).1, (gOf L.th n).2.set p (.thing m)) }, by dsimp only [callS]; rw [e1], by dsimp only [doneL]; rw [eh, show Gc.itW L.hs (.held g) = some (.thing m) from hx]; dsimp only; rw [if_pos ⟨n1, n2, hp⟩], ?_, by simp, rfl, rfl, k.y, k.o⟩
  have mem : ∀ {g : Int × List Gc.Wo}, g ∈ L.th.set (n - 1).toNat ((gOf L.th n).1, (gOf L.th n).2.set p (.thing m)) → g ∈ L.th ∨ g = ((gOf L.th n).1, (gOf L.th n).2.set p (.thing m)) := fun h => List.mem_or_eq_of_mem_set h
  have lenE : (L.th.set (n - 1).toNat ((gOf L.th n).1, (gOf L.th n).2.set p (.thing m))).length = L.th.length := List.length_set
  have gE : gOf (L.th.set (n - 1).toNat ((gOf L.th n).1, (gOf L.th n).2.set p (.thing m))) = Gc.updG (gOf L.th) n p (.thing m) := by
    rw [eidx]; exact gOf_upd ei hi
  refine ⟨?_, ?_, by rw [k.nx]; exact R.nx, ⟨?_, ?_, ?_⟩, R.up, R.lt, R.ge, R.tg, ?_, ?_, ?_, R.n0, R.n1, ?_, R.z2, by rw [k.o]; exact R.z3, by rw [k.ln]; exact R.z4⟩
  · show Gc.Inv (gOf (L.th.set (n - 1).toNat ((gOf L.th n).1, (gOf L.th n).2.set p (.thing m)))) L.hs vs s'
    rw [gE]; exact I
  · show s'.last = ((L.th.set (n - 1).toNat ((gOf L.th n).1, (gOf L.th n).2.set p (.thing m))).length : Int)
    rw [lenE, k.la]; exact R.la
  · intro a ha b hb
    show b ∈ nums (L.th.set (n - 1).toNat ((gOf L.th n).1, (gOf L.th n).2.set p (.thing m))).length
    have ha' : a ∈ nums (L.th.set (n - 1).toNat ((gOf L.th n).1, (gOf L.th n).2.set p (.thing m))).length := ha
    have hb' : Gc.Wo.thing b ∈ (gOf (L.th.set (n - 1).toNat ((gOf L.th n).1, (gOf L.th n).2.set p (.thing m))) a).2 := hb
    rw [lenE] at ha' ⊢
    rw [gE] at hb'
    unfold Gc.updG at hb'
    by_cases c : a = n
    · rw [if_pos c] at hb'
      rcases List.mem_or_eq_of_mem_set hb' with z | z
      · exact R.cl.k n hn b z
      · cases z; exact hm
    · rw [if_neg c] at hb'
      exact R.cl.k a ha' b hb'
  · intro a ha
    show a ∈ nums (L.th.set (n - 1).toNat ((gOf L.th n).1, (gOf L.th n).2.set p (.thing m))).length
    rw [lenE]; exact R.cl.h a ha
  · intro g hg
    rcases mem hg with z | z
    · exact R.cl.s g z
    · rw [z]; exact R.cl.s (gOf L.th n) (List.mem_of_getElem? eg)
  · intro g hg a ha
    rcases mem hg with z | z
    · exact R.sm g z a ha
    · rw [z] at ha
      rcases List.mem_or_eq_of_mem_set ha with z' | z'
      · exact R.sm _ (List.mem_of_getElem? eg) a z'
      · cases z'
  · intro g hg
    rcases mem hg with z | z
    · exact R.ln g z
    · rw [z]; show ((gOf L.th n).2.set p (.thing m)).length ≤ 10
      rw [List.length_set]; exact R.ln _ (List.mem_of_getElem? eg)
  · intro g hg
    rcases mem hg with z | z
    · exact R.so g z
    · rw [z]; exact so
  · show (L.th.set (n - 1).toNat ((gOf L.th n).1, (gOf L.th n).2.set p (.thing m))).length ≤ 1000
    rw [lenE]; exact R.z1
end
end Wk
set_option maxRecDepth 100000
set_option maxHeartbeats 2000000
namespace Wk
open PySem L2 TL PyProof.Rows Hm
open SX (S S_len)
/-! ### the world of the law: the bag, the graph, the heap -/
section
variable {K : PySem.W.Frag} {C : Cs K} {F : Fx} {H1 H H' : Hp} {ar : Addr} {rws : List Addr} {s : Bd} {a g : Addr}
theorem St.keep (S : St C H F ar rws s) (k : ∀ x u, x ∈ F.ro :: (own7 F ar ++ rws) → H x = some u → H' x = some u) : St C H' F ar rws s := by
  have o : ∀ x, x ∈ own7 F ar → x ∈ F.ro :: (own7 F ar ++ rws) := fun x h => List.mem_cons_of_mem _ (List.mem_append_left _ h)
  exact ⟨k _ _ (o _ (by simp [own7])) S.bo, k _ _ (o _ (by simp [own7])) S.aw, k _ _ (o _ (by simp [own7])) S.rmd, k _ _ (o _ (by simp [own7])) S.tl, k _ _ (o _ (by simp [own7])) S.ho, k _ _ (o _ (by simp [own7])) S.ah,
    rows_keep (fun r hr u e => k _ _ (List.mem_cons_of_mem _ (List.mem_append_right _ hr)) e) S.rw, k _ _ List.mem_cons_self S.ro, S.nd, S.z1, S.z2, S.z3, S.z4, S.z5⟩
end
structure Wl {K : PySem.W.Frag} (C : Cs K) (H : Hp) (a g : Addr) (b : La) (L : Lg) (F : Fx) (ar : Addr) (rws : List Addr) (s : Bd) : Prop where
  bag : Bag H a g
  gra : Gra H b L
  st : St C H F ar rws s
  d1 : ∀ x, x = a ∨ x = g → ¬ GraO b x
  d2 : ∀ x, x = a ∨ x = g → ¬ Own F ar rws x ∧ x ≠ F.ro
  d3 : ∀ x, GraO b x → ¬ Own F ar rws x ∧ x ≠ F.ro
section
variable {K : PySem.W.Frag} {C : Cs K} {F : Fx} {H H' : Hp} {ar ar' : Addr} {rws rws' : List Addr} {s s' : Bd} {a g : Addr} {b b' : La} {L L' : Lg}
theorem Wl.same (W : Wl C H a g b L F ar rws s) (k : Same H H') : Wl C H' a g b L F ar rws s := ⟨W.bag.same k, W.gra.same k, W.st.same k, W.d1, W.d2, W.d3⟩
theorem Wl.draw (W : Wl C H a g b L F ar rws s) (k : But a g H H') (B : Bag H' a g) : Wl C H' a g b L F ar rws s := by
  refine ⟨B, gra_but W.gra W.d1 W.bag k, W.st.keep fun x u m e => ?_, W.d1, W.d2, W.d3⟩
  have no : ∀ y, y = a ∨ y = g → x ≠ y := fun y hy z => by
    obtain ⟨n1, n2⟩ := W.d2 y hy
    rcases List.mem_cons.mp m with e | m
    · exact n2 (by rw [← z]; exact e)
    · exact n1 (by rw [← z]; exact List.mem_append.mp m)
  exact k x u (no a (.inl rfl)) (no g (.inr rfl)) e
theorem Wl.go (W : Wl C H a g b L F ar rws s) (k : Go C F ar rws H H' ar' rws' s') : Wl C H' a g b L F ar' rws' s' := by
  obtain ⟨x1, x2, x3, x4, h1, h2, h3⟩ := W.bag
  obtain ⟨na, ea⟩ := k.ch _ _ (W.d2 a (.inl rfl)).1 h1
  obtain ⟨ng, eg⟩ := k.ch _ _ (W.d2 g (.inr rfl)).1 h2
  have tk : Tk H H' := fun y xs e => (k.ch y _ (W.st.noTup e) e).2
  refine ⟨⟨x1, x2, x3, x4, ea, eg, h3⟩, W.gra.keep (fun y u o e => (k.ch y u (W.d3 y o).1 e).2) tk, k.st, W.d1, ?_, fun x o => ?_⟩
  · rintro x (rfl | rfl)
    · exact ⟨na, (W.d2 x (.inl rfl)).2⟩
    · exact ⟨ng, (W.d2 x (.inr rfl)).2⟩
  · refine ⟨?_, (W.d3 x o).2⟩
    rcases W.gra.some o with ⟨_, e⟩ | ⟨_, e⟩
    · exact (k.ch x _ (W.d3 x o).1 e).1
    · exact (k.ch x _ (W.d3 x o).1 e).1
theorem Wl.graph (W : Wl C H a g b L F ar rws s) (k : ChA b H b' H') (R : Gra H' b' L') : Wl C H' a g b' L' F ar rws s := by
  obtain ⟨x1, x2, x3, x4, h1, h2, h3⟩ := W.bag
  obtain ⟨na, ea⟩ := k _ _ (W.d1 a (.inl rfl)) h1
  obtain ⟨ng, eg⟩ := k _ _ (W.d1 g (.inr rfl)) h2
  have own : ∀ x, x ∈ F.ro :: (own7 F ar ++ rws) → ∃ u, H x = some u ∧ ¬ GraO b x := fun x m => by
    rcases List.mem_cons.mp m with e | m
    · rw [e]; exact ⟨_, W.st.ro, fun z => (W.d3 _ z).2 rfl⟩
    · have o : Own F ar rws x := List.mem_append.mp m
      cases e : H x with
      | none => exact absurd o (W.st.off e)
      | some u => exact ⟨u, rfl, fun z => (W.d3 _ z).1 o⟩
  refine ⟨⟨x1, x2, x3, x4, ea, eg, h3⟩, R, W.st.keep fun x u m e => ?_, ?_, W.d2, fun x o => ⟨fun z => ?_, fun z => ?_⟩⟩
  · obtain ⟨_, _, n⟩ := own x m
    exact (k x u n e).2
  · rintro x (rfl | rfl)
    · exact na
    · exact ng
  · obtain ⟨u, e, n⟩ := own x (List.mem_cons_of_mem _ (List.mem_append.mpr z))
    exact (k x u n e).1 o
  · obtain ⟨u, e, n⟩ := own x (by rw [z]; exact List.mem_cons_self)
    exact (k x u n e).1 o
theorem Wl.tkgo (W : Wl C H a g b L F ar rws s) (k : Go C F ar rws H H' ar' rws' s') : Tk H H' := fun y xs e => (k.ch y _ (W.st.noTup e) e).2
end
/-! ### data that is compared -/
theorem Gdd.str {x : String} (h : (PyData.str (S (codes x))).canLay0 = true) (n : (S (codes x)).cps.size ≤ 10) : Gdd 0 10 (.str (S (codes x))) := ⟨h, Nat.le_refl _, rfl, rfl, rfl, by rw [PyData.weight]; exact n⟩
theorem Gdd.tup2 {n wa wb : Nat} {x y : PyData} (h : Gdd n wa x) (h2 : Gdd n wb y) : Gdd (n + 1) (wa + wb + 2) (.tuple [x, y]) := by
  obtain ⟨a1, a2, a3, a4, a5, a6⟩ := h
  obtain ⟨b1, b2, b3, b4, b5, b6⟩ := h2
  refine ⟨?_, ?_, ?_, ?_, ?_, ?_⟩
  · simp [PyData.canLay0, PyData.canLayAll0, a1, b1]
  · simp only [PyData.depth, PyData.depthAll]; omega
  · simp [PyData.showable, PyData.showableAll, a3, b3]
  · simp [PyData.hasDict, PyData.hasDictAll, a4, b4]
  · simp [PyData.intsShort, PyData.intsShortAll, a5, b5]
  · simp only [PyData.weight, PyData.weightAll]; omega
theorem Gdd.lst2 {n wa wb : Nat} {x y : PyData} (h : Gdd n wa x) (h2 : Gdd n wb y) : Gdd (n + 1) (wa + wb + 2) (.list [x, y]) := by
  obtain ⟨a1, a2, a3, a4, a5, a6⟩ := h
  obtain ⟨b1, b2, b3, b4, b5, b6⟩ := h2
  refine ⟨?_, ?_, ?_, ?_, ?_, ?_⟩
  · simp [PyData.canLay0, PyData.canLayAll0, a1, b1]
  · simp only [PyData.depth, PyData.depthAll]; omega
  · simp [PyData.showable, PyData.showableAll, a3, b3]
  · simp [PyData.hasDict, PyData.hasDictAll, a4, b4]
  · simp [PyData.intsShort, PyData.intsShortAll, a5, b5]
  · simp only [PyData.weight, PyData.weightAll]; omega
theorem Gdd.tup3 {n wa wb wc : Nat} {x y z : PyData} (h : Gdd n wa x) (h2 : Gdd n wb y) (h3 : Gdd n wc z) : Gdd (n + 1) (wa + wb + wc + 3) (.tuple [x, y, z]) := by
  obtain ⟨a1, a2, a3, a4, a5, a6⟩ := h
  obtain ⟨b1, b2, b3, b4, b5, b6⟩ := h2
  obtain ⟨c1, c2, c3, c4, c5, c6⟩ := h3
  refine ⟨?_, ?_, ?_, ?_, ?_, ?_⟩
  · simp [PyData.canLay0, PyData.canLayAll0, a1, b1, c1]
  · simp only [PyData.depth, PyData.depthAll]; omega
  · simp [PyData.showable, PyData.showableAll, a3, b3, c3]
  · simp [PyData.hasDict, PyData.hasDictAll, a4, b4, c4]
  · simp [PyData.intsShort, PyData.intsShortAll, a5, b5, c5]
  · simp only [PyData.weight, PyData.weightAll]; omega
theorem gdd_one {i : Int} (h : Sma i) : Okv (.list [.int i]) := (Gdd.lst (k := 1) (fun d hd => by rw [List.mem_singleton.mp hd]; exact Gdd.int h) (Nat.le_refl _)).ok (by decide) (by decide)
theorem gdd_non : Okv (.list [.none]) := by
  refine ⟨?_, ?_, ?_, ?_, ?_⟩ <;> decide +kernel
theorem gdd_wo {x : Gc.Wo} (h : ∀ n, x = .word n ∨ x = .thing n → Sma n) : Gdd 1 162 (woP x) := by
  cases x with
  | word n => exact Gdd.tup2 (Gdd.str (x := "word") (by decide +kernel) (by decide +kernel)) (Gdd.int (h n (.inl rfl)))
  | thing n => exact Gdd.tup2 (Gdd.str (x := "thing") (by decide +kernel) (by decide +kernel)) (Gdd.int (h n (.inr rfl)))
theorem gdd_sort {k : Int} (h0 : 0 ≤ k) (h5 : k ≤ 5) : Gdd 0 10 (sortS k) := by
  obtain ⟨n, rfl⟩ := Int.eq_ofNat_of_zero_le h0
  have hn : n < 6 := by omega
  rcases n with _ | _ | _ | _ | _ | _ | n
  · exact Gdd.str (x := "text") (by decide +kernel) (by decide +kernel)
  · exact Gdd.str (x := "list") (by decide +kernel) (by decide +kernel)
  · exact Gdd.str (x := "object") (by decide +kernel) (by decide +kernel)
  · exact Gdd.str (x := "function") (by decide +kernel) (by decide +kernel)
  · exact Gdd.str (x := "cell") (by decide +kernel) (by decide +kernel)
  · exact Gdd.str (x := "tie") (by decide +kernel) (by decide +kernel)
  · omega
theorem Rl.gdd {s : Bd} {L : Lg} {vs : List (Int × Int)} (R : Rl s L vs) {ys : List Int} (hy : ∀ n ∈ ys, n ∈ nums L.th.length) (hl : ys.length ≤ 64) : Gdd 5 140000 (mnP L.hs (gOf L.th) ys) := by
  have z1 := R.z1
  have z2 := R.z2
  have n1 := R.n1
  have inN : ∀ n, n ∈ nums L.th.length → Sma n := fun n h => by
    have := nums_mem.mp h
    exact sma_of (by omega) (by omega)
  have hd : Gdd 3 3160 (.tuple (L.hs.map hP)) := by
    refine (Gdd.tup (n := 2) (wt := 314) (k := 10) (fun d hd => ?_) (by rw [List.length_map]; exact z2)).le (by decide) (by decide)
    obtain ⟨q, hq, rfl⟩ := List.mem_map.mp hd
    obtain ⟨n, en⟩ := R.tg q hq
    have h1 := R.lt q.1 (List.mem_map.mpr ⟨q, hq, rfl⟩)
    have hn : n ∈ nums L.th.length := R.cl.h n (List.mem_map.mpr ⟨q, hq, en⟩)
    refine Gdd.tup2 ((Gdd.int ?_).le (Nat.zero_le _) (Nat.le_refl _)) (gdd_wo fun m hm => ?_)
    · have h0 := R.ge q.1 (List.mem_map.mpr ⟨q, hq, rfl⟩)
      exact sma_of (by omega) (by omega)
    · rw [en] at hm
      rcases hm with z | z <;> cases z
      exact inN _ hn
  have ht : Gdd 4 120000 (.tuple (ys.map (thP (gOf L.th)))) := by
    refine (Gdd.tup (n := 3) (wt := 1803) (k := 64) (fun d hd => ?_) (by rw [List.length_map]; exact hl)).le (by decide) (by decide)
    obtain ⟨n, hn, rfl⟩ := List.mem_map.mp hd
    have hin := hy n hn
    obtain ⟨i, e1, e2, e3⟩ := gOf_in hin
    have hmem := List.mem_of_getElem? e3
    have hs := R.cl.s _ hmem
    refine (Gdd.tup3 (n := 2) (wa := 150) (wb := 10) (wc := 1630) ((Gdd.int (inN n hin)).le (by decide) (Nat.le_refl _)) ((gdd_sort hs.1 hs.2).le (by decide) (Nat.le_refl _)) ?_).le (by decide) (by decide)
    refine (Gdd.tup (n := 1) (wt := 162) (k := 10) (fun d hd => ?_) (by rw [List.length_map]; exact R.ln _ hmem)).le (by decide) (by decide)
    obtain ⟨x, hx, rfl⟩ := List.mem_map.mp hd
    refine gdd_wo fun m hm => ?_
    rcases hm with rfl | rfl
    · exact R.sm _ hmem m hx
    · exact inN m (R.cl.k n hin m hx)
  exact (Gdd.tup2 (hd.le (by decide) (Nat.le_refl _)) ht).le (by decide) (by decide)
end Wk
set_option maxRecDepth 100000
set_option maxHeartbeats 2000000
namespace Wk
open PySem L2 TL PyProof.Rows Hm
open SX (S S_len)
theorem pys_in {ys zs : List Int} (h : ys.Perm zs) {n : Int} : n ∈ ys ↔ n ∈ zs := h.mem_iff
section
variable {P : Program} {w : World} {K : PySem.W.Frag} {mg : Str → Option Value} {base : Heap}
/-- what the law's list of all handles is, drawn from -/
abbrev s__law_put : Stmt := top 90
theorem sc__law_put : FnScope ["bag", "heap", "graph", "deed", "due", "told", "gone"] ["bag", "heap", "graph", "deed", "due"] (defScope s__law_put) := ⟨rfl, rfl, rfl, by decide +kernel, rfl, by decide +kernel, by decide +kernel⟩
def sp_lput (C : Cs K) : Sp := fun vs H Q _ => ∃ (a g : Addr) (b : La) (L : Lg) (F : Fx) (ar : Addr) (rws : List Addr) (s : Bd) (vs0 : List (Int × Int)) (pd : Addr) (k : Nat) (its : List Hm.It) (due : String) (fd : List Int),
  vs = [.ref a, .ref F.ho, .ref b.gd, .ref pd, .str (Str.ofString due)] ∧ Wl C H a g b L F ar rws s ∧ Rl s L vs0 ∧ DeAt H pd (.make k its) ∧ (1 ≤ k ∧ k ≤ 4) ∧ its.length ≤ 10 ∧ (∀ i ∈ its, ItG L.hs i) ∧ ItsFit k its ∧ L.hs.length ≤ 4 ∧ L.th.length < 1000 ∧ L.next < 1000000 ∧
  Gc.floodG (gOf L.th) true 1000000 (L.hs.map Prod.snd).reverse [] = some fd ∧ fd.Nodup ∧ (∀ n, n ∈ fd ↔ Gc.Liv (gOf L.th) L.hs n) ∧ fd.length < 64 ∧ (∀ n ∈ fd, n ∈ nums L.th.length) ∧
  due = (if s.old < Gc.sumN (Gc.szG (gOf L.th)) fd + (its.length + 2) then "full" else "let") ∧
  ∀ (H' : Hp) (b' : La) (L' : Lg) (ar' : Addr) (rws' : List Addr) (s' : Bd) (vs' : List (Int × Int)), b'.gd = b.gd → Tk H H' → Wl C H' a g b' L' F ar' rws' s' → Rl s' L' vs' → s'.young = s.young → s'.old = s.old → L'.th.length ≤ L.th.length + 1 → L'.next ≤ L.next + 1 → L'.hs.length ≤ 4 → (due = "full" → L' = L) → Q (.bl true) H'
theorem ok_lput (T : Txt K mg base) (C : Cs K) {f : Addr} {fd : FuncData} (F : Fun K "_law_put" "_law_put" s__law_put f fd) (D__law_called : Def P w K mg base CX0 "_law_called" ["heap", "deed"] 9 (sp_lcalled C)) (D__law_size : Def P w K mg base CX0 "_law_size" ["deed"] 1 sp_lsize) (Mh_filled : MD P w K mg base CX0 C.H "filled" ["self"] 5 (sp_hfilled C)) (D__law_filled : Def P w K mg base CX0 "_law_filled" ["graph"] 2 sp_lfilled) (G__law_is : DefG P w K mg base "_law_is" ["found", "due"] 1 (sp_is K)) (D__law_done : Def P w K mg base CX0 "_law_done" ["graph", "deed"] 2 sp_ldone) (D__law_some : Def P w K mg base CX0 "_law_some" ["bag", "things"] 2 (sp_some K)) : FnG P w K mg base 10 f fd ["bag", "heap", "graph", "deed", "due"] (sp_lput C) := by
  refine okG F sc__law_put (fun vs H Q E h => ?_) (fun cdv A outer s H vs Q E hG hr lk h => ?_)
  · obtain ⟨_, _, _, _, _, _, _, _, _, _, _, _, _, _, rfl, _⟩ := h; rfl
  obtain ⟨a, g, b, L, F, ar, rws, s, vs0, pd, k, its, due, fd, rfl, W, R, hd, hk, hil, hgd, hfit, hh4, ht3, hn3, hfl, e2, e4, h64, hin, hdue, q⟩ := h
  refine ⟨_, (pss_cons (ps_set (i := 5) sc__law_put.nd rfl (Or.inl rfl) (pe_call D__law_called.ok (hr.mono (by omega)) rfl D__law_called.g D__law_called.k D__law_called.b .nil pass0 (pa_cons (pv 1) (pa_cons (pv 3) pa_nil))))
    (pss_cons (ps_if (pt_cmpR op_eq (pv 4) pe_str (nomark _)) (pss_one (ps_ret (pe_and (pe_cmpR (op_eqD hr.units) (pv 5) (pe_tup (pa_cons pe_str (pa_cons (pe_call D__law_size.ok (hr.mono (by omega)) rfl D__law_size.g D__law_size.k D__law_size.b .nil pass0 (pa_cons (pv 3) pa_nil)) pa_nil))) (nomark _)) (pe_one (pe_cmpR op_eq (pe_meth0 (pv 1) C.hcl Mh_filled.m Mh_filled.ok (hr.mono (by omega)) Mh_filled.b .nil pass0) (pe_call D__law_filled.ok (hr.mono (by omega)) rfl D__law_filled.g D__law_filled.k D__law_filled.b .nil pass0 (pa_cons (pv 2) pa_nil)) (nomark _)))))) pss_nil)
    (pss_cons (ps_if (pt_not (pt_val (pe_callG G__law_is.ok hG (hr.mono (by omega)) rfl G__law_is.g G__law_is.k G__law_is.b (pa_cons (pe_lst (pa_cons (pv 5) pa_nil)) (pa_cons (pe_lst (pa_cons (pe_call D__law_done.ok (hr.mono (by omega)) rfl D__law_done.g D__law_done.k D__law_done.b .nil pass0 (pa_cons (pv 2) (pa_cons (pv 3) pa_nil))) pa_nil)) pa_nil))))) (pss_one (ps_ret pe_bl)) pss_nil)
    (pss_cons (ps_if (pt_cmpR op_gt (pe_callB call_lenD rfl T.n_len boot_len (pa_cons (pe_dget (hu1 hr) (pv 2) pe_str (fun _ _ => rfl)) pa_nil)) pe_int (nomark _)) (pss_cons (ps_set (i := 6) sc__law_put.nd rfl (Or.inl rfl) (pe_tup (pa_cons pe_str (pa_cons (pe_call D__law_some.ok (hr.mono (by omega)) rfl D__law_some.g D__law_some.k D__law_some.b .nil pass0 (pa_cons (pv 0) (pa_cons (pe_callB (call_sortedDI rfl) rfl T.n_sorted (by decide +kernel) (pa_cons (pe_dget (hu1 hr) (pv 2) pe_str (fun _ _ => rfl)) pa_nil)) pa_nil))) pa_nil))))
      (pss_one (ps_ret (pe_callG G__law_is.ok hG (hr.mono (by omega)) rfl G__law_is.g G__law_is.k G__law_is.b (pa_cons (pe_lst (pa_cons (pe_call D__law_called.ok (hr.mono (by omega)) rfl D__law_called.g D__law_called.k D__law_called.b .nil pass0 (pa_cons (pv 1) (pa_cons (pv 6) pa_nil))) pa_nil)) (pa_cons (pe_lst (pa_cons (pe_call D__law_done.ok (hr.mono (by omega)) rfl D__law_done.g D__law_done.k D__law_done.b .nil pass0 (pa_cons (pv 2) (pa_cons (pv 6) pa_nil))) pa_nil)) pa_nil)))))) pss_nil)
    (pss_one (ps_ret pe_bl)))))), ?_⟩
  have hz := line_eq
  generalize hσ : L2.start _ _ = σ0
  have hσ : σ0 = [some (.ref a), some (.ref F.ho), some (.ref b.gd), some (.ref pd), some (.str (Str.ofString due)), none, none] := hσ.symm
  subst hσ
  obtain ⟨mk, r, s', vs', hcall, y1, y2, hcase⟩ := R.make hk hil hgd hfit (by omega) ht3 hn3 e2 e4
  refine seq_set ⟨_, rfl, _, rfl, F, ar, rws, s, pd, .make k its, r, s', rfl, W.st, hd, hcall, (fun k' its' e => by cases e; exact mk), (fun v hv H1 ar1 rws1 g1 => ?_), (fun hv H1 ar1 rws1 p g1 hp => ?_)⟩
  · -- made
    rcases hcase with ⟨c1, cr, L', hdo, R', l1, l2, l3⟩ | ⟨_, cr, _⟩
    rotate_left
    · rw [cr] at hv; cases hv
    rw [hv] at cr
    cases cr
    rw [if_neg (by omega)] at hdue
    subst hdue
    have W1 := W.go g1
    have tk1 := W.tkgo g1
    dsimp only [List.set]
    refine ⟨_, rfl, rfl, _, rfl, ?_⟩
    rw [show decide (V.str (Str.ofString "let") = V.str (Str.ofString "full")) = false from by decide +kernel]
    refine iteF (go_next ⟨_, rfl, (by show 1 ≤ sizeLine; rw [hz]; decide), fun l1' nl1 => ?_⟩)
    have W2 := W1.same (same_new nl1 (.lst [V.int L.next]))
    have tk2 := tk1.trans (tk_new nl1 (.lst [V.int L.next]))
    have hl1 : (upd H1 l1' (.lst [V.int L.next])) l1' = some (.lst [V.int L.next]) := upd_same
    have nol := W1.gra.off nl1
    generalize upd H1 l1' (.lst [V.int L.next]) = H2 at W2 tk2 hl1 ⊢
    refine ⟨_, rfl, _, rfl, b, L, pd, .make k its, _, L', rfl, W2.gra, hd.tk tk2, hdo, (by have := R.z1; omega), (by omega), R.next, (fun k' its' e => by cases e; omega), fun H3 b' eb c' R3 => ⟨(by show 1 ≤ sizeLine; rw [hz]; decide), fun l2' nl2 => ?_⟩⟩
    have hl13 := (c' _ _ nol hl1).2
    have tk3 := tk2.trans (c'.tk W2.gra)
    have W3 := (W2.graph c' R3).same (same_new nl2 (.lst [V.int L.next]))
    have tk4 := tk3.trans (tk_new nl2 (.lst [V.int L.next]))
    have hl14 := same_new nl2 (.lst [V.int L.next]) _ _ hl13
    have hl24 : (upd H3 l2' (.lst [V.int L.next])) l2' = some (.lst [V.int L.next]) := upd_same
    generalize upd H3 l2' (.lst [V.int L.next]) = H4 at W3 tk4 hl14 hl24 ⊢
    have ok := gdd_one (sma_of (i := L.next) (by have := R.n0; omega) (by omega))
    refine ⟨l1', l2', .list [.int L.next], rfl, .lst (SqL.of hl14) (.cons (.int _) .nil), .lst (SqL.of hl24) (.cons (.int _) .nil), ok.h1, ok.h2, ok.h3, ok.h4, ok.h5, _, rfl, ?_⟩
    refine iteF (go_next ?_)
    -- more than four handles
    have D4 := W3.gra
    refine ⟨_, rfl, b'.gd, _, by rw [eb], D4.handles, b'.hd, _, rfl, D4.h, _, _, rfl, rfl, _, rfl, ?_⟩
    rw [kD_len D4.hlen, List.length_map]
    refine ited (fun h5 => ?_) (fun h5 => go_next ?_)
    rotate_left
    · exact q H4 b' L' ar1 rws1 s' vs' eb tk4 W3 R' y1 y2 (by omega) (by omega) (by omega) (fun z => absurd z (by decide))
    dsimp only
    refine seq_set ⟨_, rfl, _, rfl, b'.gd, _, by rw [eb], D4.handles, b'.hd, _, L'.hs.map Prod.fst, rfl, .inl D4.h, kD_fst D4.hlen, (by rw [List.length_map]; omega), fun zs pz hperm hpw npz => ?_⟩
    have hzl := hperm.length_eq
    rw [List.length_map] at hzl
    have W5 := W3.same (same_new npz (.lst (zs.map V.int)))
    have tk5 := tk4.trans (tk_new npz (.lst (zs.map V.int)))
    obtain ⟨o1, o2⟩ := W3.bag.off npz
    have hpz : (upd H4 pz (.lst (zs.map V.int))) pz = some (.lst (zs.map V.int)) := upd_same
    generalize upd H4 pz (.lst (zs.map V.int)) = H5 at W5 tk5 hpz ⊢
    refine ⟨a, g, pz, zs.map V.int, rfl, W5.bag, SqL.of hpz, o1, o2, (by rw [List.length_map]; omega), (by rw [List.length_map]; omega), fun H6 v hv b6 B6 => ?_⟩
    obtain ⟨h, hm, rfl⟩ := List.mem_map.mp hv
    have hmem := hperm.mem_iff.mp hm
    have W6 := W5.draw b6 B6
    have tk6 := tk5.trans (tk_but W5.bag b6)
    refine ⟨(by show 2 ≤ sizeLine; rw [hz]; decide), fun pg npg => ?_⟩
    have W7 := W6.same (same_new npg (.tup [V.str (Str.ofString "drop"), V.int h]))
    have tk7 := tk6.trans (tk_new npg (.tup [V.str (Str.ofString "drop"), V.int h]))
    have hpg : DeAt (upd H6 pg (.tup [V.str (Str.ofString "drop"), V.int h])) pg (.drop h) := upd_same
    generalize upd H6 pg (.tup [V.str (Str.ofString "drop"), V.int h]) = H7 at W7 tk7 hpg ⊢
    obtain ⟨s8, L8, d1, d2, R8, d3, d4, d5, d6, d7⟩ := R'.drop hmem
    dsimp only [List.set]
    refine ⟨_, rfl, _, rfl, F, ar1, rws1, s', pg, .drop h, _, s8, rfl, W7.st, hpg, d1, (fun k its e => by cases e), (fun v hv H8 ar8 rws8 g8 => ?_), (fun z => by cases z)⟩
    cases hv
    have W8 := W7.go g8
    have tk8 := tk7.trans (W7.tkgo g8)
    have hpg8 := hpg.tk (W7.tkgo g8)
    refine ⟨(by show 1 ≤ sizeLine; rw [hz]; decide), fun l3 nl3 => ?_⟩
    have W9 := W8.same (same_new nl3 (.lst [V.non]))
    have tk9 := tk8.trans (tk_new nl3 (.lst [V.non]))
    have hl3 : (upd H8 l3 (.lst [V.non])) l3 = some (.lst [V.non]) := upd_same
    have nol3 := W8.gra.off nl3
    have hpg9 := hpg8.tk (tk_new nl3 (.lst [V.non]))
    generalize upd H8 l3 (.lst [V.non]) = H9 at W9 tk9 hl3 hpg9 ⊢
    refine ⟨_, rfl, _, rfl, b', L', pg, .drop h, _, L8, (by rw [eb]; rfl), W9.gra, hpg9, d2, (by have := R'.z1; omega), (by have := R'.z2; omega), R'.next, (fun k its e => by cases e), fun HA bA ebA cA RA => ⟨(by show 1 ≤ sizeLine; rw [hz]; decide), fun l4 nl4 => ?_⟩⟩
    have hl3A := (cA _ _ nol3 hl3).2
    have tkA := tk9.trans (cA.tk W9.gra)
    have WA := (W9.graph cA RA).same (same_new nl4 (.lst [V.non]))
    have tkB := tkA.trans (tk_new nl4 (.lst [V.non]))
    have hl3B := same_new nl4 (.lst [V.non]) _ _ hl3A
    have hl4B : (upd HA l4 (.lst [V.non])) l4 = some (.lst [V.non]) := upd_same
    generalize upd HA l4 (.lst [V.non]) = HB at WA tkB hl3B hl4B ⊢
    have ok2 := gdd_non
    refine ⟨l3, l4, .list [.none], rfl, .lst (SqL.of hl3B) (.cons .non .nil), .lst (SqL.of hl4B) (.cons .non .nil), ok2.h1, ok2.h2, ok2.h3, ok2.h4, ok2.h5, ?_⟩
    exact q HB bA L8 ar8 rws8 s8 vs' (by rw [ebA, eb]) tkB WA R8 (by rw [d6, y1]) (by rw [d7, y2]) (by rw [d3]; omega) (by rw [d5]; omega) (by omega) (fun z => absurd z (by decide))
  · -- refused
    rcases hcase with ⟨_, cr, _⟩ | ⟨c1, cr, R'⟩
    · rw [cr] at hv; cases hv
    rw [if_pos (by omega)] at hdue
    subst hdue
    have W1 := W.go g1
    have tk1 := W.tkgo g1
    dsimp only [List.set]
    refine ⟨_, rfl, rfl, _, rfl, ?_⟩
    rw [show decide (V.str (Str.ofString "full") = V.str (Str.ofString "full")) = true from decide_eq_true rfl]
    refine iteT ⟨_, rfl, _, rfl, pd, .make k its, rfl, hd.tk tk1, (by show 2 ≤ sizeLine; rw [hz]; decide), fun p2 np2 => ?_⟩
    have W2 := W1.same (same_new np2 (.tup [V.str (Str.ofString "full"), V.int (szD (.make k its))]))
    have tk2 := tk1.trans (tk_new np2 (.tup [V.str (Str.ofString "full"), V.int (szD (.make k its))]))
    have hp2 : (upd H1 p2 (.tup [V.str (Str.ofString "full"), V.int (szD (.make k its))])) p2 = some (.tup [V.str (Str.ofString "full"), V.int (szD (.make k its))]) := upd_same
    have hp' := same_new np2 (.tup [V.str (Str.ofString "full"), V.int (szD (.make k its))]) _ _ hp
    generalize upd H1 p2 (.tup [V.str (Str.ofString "full"), V.int (szD (.make k its))]) = H2 at W2 tk2 hp2 hp' ⊢
    have hsz : Sma (szD (.make k its)) := sma_of (by show -(2 ^ 100) ≤ (its.length : Int) + 2; omega) (by show (its.length : Int) + 2 ≤ 2 ^ 100; omega)
    have okp : Okv (.tuple [.str (Str.ofString "full"), .int (szD (.make k its))]) := by
      rw [S_of]
      exact (Gdd.tup2 (Gdd.str (x := "full") (by decide +kernel) (by decide +kernel)) (Gdd.int hsz)).ok (by decide) (by decide)
    refine ⟨.tuple [.str (Str.ofString "full"), .int (szD (.make k its))], .tuple [.str (Str.ofString "full"), .int (szD (.make k its))], .tup (SqT.of hp') (.cons (.str _) (.cons (.int _) .nil)), .tup (SqT.of hp2) (.cons (.str _) (.cons (.int _) .nil)), okp.h1, okp.h1, _, rfl, ?_⟩
    rw [SeqAt.eqv_refl _ (SeqAt.canLay_of_shaped okp.h1)]
    refine iteT ⟨_, rfl, F.ho, F.hd, _, rfl, W2.st.ho, rfl, F, ar1, rws1, s', _, rfl, W2.st, R'.filled e2 e4, fun H3 g3 => ?_⟩
    have W3 := W2.same g3
    have tk3 := tk2.trans (tk_same g3)
    refine ⟨_, rfl, b, L, fd, 1000000, rfl, W3.gra, R.cl, Nat.le_refl _, hfl, h64, hin, fun H4 g4 => ⟨rfl, ?_⟩⟩
    have W4 := W3.same g4
    have tk4 := tk3.trans (tk_same g4)
    rw [decide_eq_true rfl]
    exact q H4 b L ar1 rws1 s' vs' rfl tk4 W4 R' y1 y2 (by omega) (by omega) hh4 (fun _ => rfl)
end
end Wk
set_option maxRecDepth 100000
set_option maxHeartbeats 4000000
namespace Wk
open PySem L2 TL PyProof.Rows Hm
open SX (S S_len)
/-- between two turns of the law -/
def Wst {K : PySem.W.Frag} (C : Cs K) (H : Hp) (a g gd : Addr) (F : Fx) (y o : Int) (n : Nat) : Prop := ∃ b L ar rws s vs, b.gd = gd ∧ Wl C H a g b L F ar rws s ∧ Rl s L vs ∧ s.young = y ∧ s.old = o ∧ L.th.length ≤ n ∧ L.next ≤ n ∧ L.hs.length ≤ 4
theorem gOf_nil : gOf [] = fun _ => (0, []) := by
  funext n
  unfold gOf
  split <;> rfl
section
variable {P : Program} {w : World} {K : PySem.W.Frag} {mg : Str → Option Value} {base : Heap}
abbrev s_law : Stmt := top 91
theorem sc_law : FnScope ["script", "bag", "young", "room", "heap", "graph", "size", "turn", "deed", "due", "gone", "things", "one"] ["script"] (defScope s_law) := ⟨rfl, rfl, rfl, by decide +kernel, rfl, by decide +kernel, by decide +kernel⟩
theorem ok_law (T : Txt K mg base) (C : Cs K) {f : Addr} {fd : FuncData} (F : Fun K "law" "law" s_law f fd) (D__law_bag : Def P w K mg base CX0 "_law_bag" ["script"] 1 (sp_bag K)) (D__law_pick : Def P w K mg base CX0 "_law_pick" ["bag", "many"] 1 sp_pick) (D__law_some : Def P w K mg base CX0 "_law_some" ["bag", "things"] 2 (sp_some K))
    (HM : MkD P w K mg base CX0 "Heap" C.H ["self", "room"] 5 (sp_hinit C)) (RM : MkD P w K mg base CX0 "Room" C.R ["self", "young", "old", "pace"] 2 (sp_rinit C)) (D__law_graph : Def P w K mg base CX0 "_law_graph" [] 1 sp_lgraph) (D__law_ring_deed : Def P w K mg base CX0 "_law_ring_deed" ["bag", "graph", "most"] 6 sp_ring)
    (D__law_wished : Def P w K mg base CX0 "_law_wished" ["graph", "deed"] 3 sp_lwished) (G__law_put : DefG P w K mg base "_law_put" ["bag", "heap", "graph", "deed", "due"] 10 (sp_lput C)) (G__law_is : DefG P w K mg base "_law_is" ["found", "due"] 1 (sp_is K)) (D__law_called : Def P w K mg base CX0 "_law_called" ["heap", "deed"] 9 (sp_lcalled C)) (D__law_done : Def P w K mg base CX0 "_law_done" ["graph", "deed"] 2 sp_ldone)
    (D__law_int : Def P w K mg base CX0 "_law_int" ["thing", "least", "most"] 1 sp_int) (Mh_turn : MD P w K mg base CX0 C.H "turn" ["self"] 5 (fun vs H Q _ => ∃ F ar rws s n s', vs = [.ref F.ho] ∧ St C H F ar rws s ∧ turn s = some (n, s') ∧ ∀ H' ar', Go C F ar rws H H' ar' rws s' → Q (.int n) H'))
    (Mh_meaning : MD P w K mg base CX0 C.H "meaning" ["self"] 5 (sp_hmeaning C)) (D__law_meaning : Def P w K mg base CX0 "_law_meaning" ["graph"] 2 sp_lmeaning) (Mh_filled : MD P w K mg base CX0 C.H "filled" ["self"] 5 (sp_hfilled C)) (D__law_filled : Def P w K mg base CX0 "_law_filled" ["graph"] 2 sp_lfilled) :
    FnG P w K mg base 11 f fd ["script"] (fun vs H Q _ => ∃ (l : Addr) (ns : List Int), vs = [.ref l] ∧ SqL K H l (ns.map V.int) ∧ ns.length ≤ 63 ∧ ∀ H', Q (.bl true) H') := by
  refine okG F sc_law (fun vs H Q E h => ?_) (fun cdv A outer s H vs Q E hG hr lk h => ?_)
  · obtain ⟨_, _, rfl, _⟩ := h; rfl
  obtain ⟨l, ns, rfl, hl, hn, q⟩ := h
  refine ⟨_, (pss_cons (ps_set (i := 1) sc_law.nd rfl (Or.inl rfl) (pe_call D__law_bag.ok (hr.mono (by omega)) rfl D__law_bag.g D__law_bag.k D__law_bag.b .nil pass0 (pa_cons (pv 0) pa_nil)))
    (pss_cons (ps_set (i := 2) sc_law.nd rfl (Or.inl rfl) (pe_op op_add pe_int (pe_call D__law_pick.ok (hr.mono (by omega)) rfl D__law_pick.g D__law_pick.k D__law_pick.b .nil pass0 (pa_cons (pv 1) (pa_cons pe_int pa_nil)))))
    (pss_cons (ps_set (i := 3) sc_law.nd rfl (Or.inl rfl) (pe_make RM.made RM.ok (hr.mono (by omega)) rfl RM.g RM.b .nil pass0 (pa_cons (pv 2) (pa_cons (pe_op op_add (pv 2) (pe_call D__law_pick.ok (hr.mono (by omega)) rfl D__law_pick.g D__law_pick.k D__law_pick.b .nil pass0 (pa_cons (pv 1) (pa_cons pe_int pa_nil)))) (pa_cons (pe_call D__law_some.ok (hr.mono (by omega)) rfl D__law_some.g D__law_some.k D__law_some.b .nil pass0 (pa_cons (pv 1) (pa_cons (pe_lst (pa_cons pe_int (pa_cons pe_int (pa_cons pe_int (pa_cons pe_int (pa_cons pe_int (pa_cons pe_int (pa_cons (pe_op op_add pe_int (pe_call D__law_pick.ok (hr.mono (by omega)) rfl D__law_pick.g D__law_pick.k D__law_pick.b .nil pass0 (pa_cons (pv 1) (pa_cons pe_int pa_nil)))) pa_nil)))))))) pa_nil))) pa_nil)))))
    (pss_cons (ps_asg (pe_tup (pa_cons (pe_make HM.made HM.ok (hr.mono (by omega)) rfl HM.g HM.b .nil pass0 (pa_cons (pv 3) pa_nil)) (pa_cons (pe_call0 D__law_graph.ok (hr.mono (by omega)) rfl D__law_graph.g D__law_graph.k D__law_graph.b .nil pass0) (pa_cons (pe_op op_add pe_int (pe_call D__law_pick.ok (hr.mono (by omega)) rfl D__law_pick.g D__law_pick.k D__law_pick.b .nil pass0 (pa_cons (pv 1) (pa_cons pe_int pa_nil)))) pa_nil)))) (pg_tup rfl (pgs_cons (pg_name (i := 4) sc_law.nd rfl (Or.inl rfl)) (pgs_cons (pg_name (i := 5) sc_law.nd rfl (Or.inr rfl)) (pgs_cons (pg_name (i := 6) sc_law.nd rfl (Or.inl rfl)) pgs_nil)))))
    (pss_cons (ps_for PassesOwn.never rfl (pi_range1 rfl T.n_range (pa_cons (pe_op op_add pe_int (pe_call D__law_pick.ok (hr.mono (by omega)) rfl D__law_pick.g D__law_pick.k D__law_pick.b .nil pass0 (pa_cons (pv 1) (pa_cons pe_int pa_nil)))) pa_nil)) (pg_name (i := 7) sc_law.nd rfl (Or.inl rfl)) (pss_cons (ps_set (i := 8) sc_law.nd rfl (Or.inl rfl) (pe_call D__law_ring_deed.ok (hr.mono (by omega)) rfl D__law_ring_deed.g D__law_ring_deed.k D__law_ring_deed.b .nil pass0 (pa_cons (pv 1) (pa_cons (pv 5) (pa_cons (pv 6) pa_nil)))))
      (pss_cons (ps_set (i := 9) sc_law.nd rfl (Or.inl rfl) (pe_ifExp (pt_cmpR op_gt (pe_call D__law_wished.ok (hr.mono (by omega)) rfl D__law_wished.g D__law_wished.k D__law_wished.b .nil pass0 (pa_cons (pv 5) (pa_cons (pv 8) pa_nil))) (pe_fld (pv 3) rfl) (nomark _)) pe_str pe_str))
      (pss_cons (ps_if (pt_not (pt_val (pe_callG G__law_put.ok hG (hr.mono (by omega)) rfl G__law_put.g G__law_put.k G__law_put.b (pa_cons (pv 1) (pa_cons (pv 4) (pa_cons (pv 5) (pa_cons (pv 8) (pa_cons (pv 9) pa_nil)))))))) (pss_one (ps_ret pe_bl)) pss_nil)
      (pss_cons (ps_if (pt_cmpR op_eq (pv 9) pe_str (nomark _)) (pss_cons (ps_set (i := 10) sc_law.nd rfl (Or.inl rfl) (pe_tup (pa_cons pe_str (pa_cons (pe_call D__law_some.ok (hr.mono (by omega)) rfl D__law_some.g D__law_some.k D__law_some.b .nil pass0 (pa_cons (pv 1) (pa_cons (pe_callB (call_sortedDI rfl) rfl T.n_sorted (by decide +kernel) (pa_cons (pe_dget (hu1 hr) (pv 5) pe_str (fun _ _ => rfl)) pa_nil)) pa_nil))) pa_nil))))
        (pss_one (ps_if (pt_not (pt_val (pe_callG G__law_is.ok hG (hr.mono (by omega)) rfl G__law_is.g G__law_is.k G__law_is.b (pa_cons (pe_lst (pa_cons (pe_call D__law_called.ok (hr.mono (by omega)) rfl D__law_called.g D__law_called.k D__law_called.b .nil pass0 (pa_cons (pv 4) (pa_cons (pv 10) pa_nil))) pa_nil)) (pa_cons (pe_lst (pa_cons (pe_call D__law_done.ok (hr.mono (by omega)) rfl D__law_done.g D__law_done.k D__law_done.b .nil pass0 (pa_cons (pv 5) (pa_cons (pv 10) pa_nil))) pa_nil)) pa_nil))))) (pss_one (ps_ret pe_bl)) pss_nil))) pss_nil)
      (pss_cons (ps_if (PW.pt (pw_and (pt_cmpR op_eq (pe_call D__law_pick.ok (hr.mono (by omega)) rfl D__law_pick.g D__law_pick.k D__law_pick.b .nil pass0 (pa_cons (pv 1) (pa_cons pe_int pa_nil))) pe_int (nomark _)) (pw_and1 (pt_not (pt_val (pe_call D__law_int.ok (hr.mono (by omega)) rfl D__law_int.g D__law_int.k D__law_int.b .nil pass0 (pa_cons (pe_meth0 (pv 4) C.hcl Mh_turn.m Mh_turn.ok (hr.mono (by omega)) Mh_turn.b .nil pass0) (pa_cons pe_int (pa_cons pe_int pa_nil))))))))) (pss_one (ps_ret pe_bl)) pss_nil)
      (pss_cons (ps_if (PW.pt (pw_and (pt_cmpR op_gt (pe_callB call_lenD rfl T.n_len boot_len (pa_cons (pe_dget (hu1 hr) (pv 5) pe_str (fun _ _ => rfl)) pa_nil)) pe_int (nomark _)) (pw_and1 (pt_cmpR op_eq (pe_call D__law_pick.ok (hr.mono (by omega)) rfl D__law_pick.g D__law_pick.k D__law_pick.b .nil pass0 (pa_cons (pv 1) (pa_cons pe_int pa_nil))) pe_int (nomark _))))) (pss_cons (ps_setLc (i := 11) (own := [("one", 12)]) (g := gName 12) rfl sc_law.nd rfl rfl (sw_true rfl rfl rfl (by decide +kernel)) (pi_list (pe_callB (call_sortedDI rfl) rfl T.n_sorted (by decide +kernel) (pa_cons (pe_dget (hu1 hr) (pv 5) pe_str (fun _ _ => rfl)) pa_nil))) (blkOk_by (N := ["script", "bag", "young", "room", "heap", "graph", "size", "turn", "deed", "due", "gone", "things", "one"]) (sc := defScope s_law) (by decide +kernel)) (fun _ _ _ _ _ => pg_name (i := 12) sc_law.nd rfl (Or.inl rfl)) (fun _ _ _ _ _ => pts_one (pt_cmpR op_gt (pe_callB (call_len_seqB (K := K) rfl) rfl T.n_len boot_len (pa_cons (pe_ix (ix_tupB (K := K) rfl) (pe_dget (hu1 hr) (pe_dget (hu1 hr) (pv 5) pe_str (fun _ _ => rfl)) (pe_ix (ix_tupB (K := K) rfl) (pe_dget (hu1 hr) (pe_dget (hu1 hr) (pv 5) pe_str (fun _ _ => rfl)) (pv 12) (fun _ _ => rfl)) pe_int (fun _ _ => rfl)) (fun _ _ => rfl)) pe_int (fun _ _ => rfl)) pa_nil)) pe_int (nomark _))) (fun _ _ _ _ _ => (pv 12)))
        (pss_one (ps_if (pt_cmpR op_gt (pe_callB call_len_seq rfl T.n_len boot_len (pa_cons (pv 11) pa_nil)) pe_int (nomark _)) (pss_cons (ps_set (i := 8) sc_law.nd rfl (Or.inl rfl) (pe_tup (pa_cons pe_str (pa_cons (pe_call D__law_some.ok (hr.mono (by omega)) rfl D__law_some.g D__law_some.k D__law_some.b .nil pass0 (pa_cons (pv 1) (pa_cons (pv 11) pa_nil))) (pa_cons pe_int (pa_cons (pe_tup (pa_cons pe_str (pa_cons (pe_call D__law_some.ok (hr.mono (by omega)) rfl D__law_some.g D__law_some.k D__law_some.b .nil pass0 (pa_cons (pv 1) (pa_cons (pe_callB (call_sortedDI rfl) rfl T.n_sorted (by decide +kernel) (pa_cons (pe_dget (hu1 hr) (pv 5) pe_str (fun _ _ => rfl)) pa_nil)) pa_nil))) pa_nil))) pa_nil))))))
          (pss_one (ps_if (pt_not (pt_val (pe_callG G__law_is.ok hG (hr.mono (by omega)) rfl G__law_is.g G__law_is.k G__law_is.b (pa_cons (pe_lst (pa_cons (pe_call D__law_called.ok (hr.mono (by omega)) rfl D__law_called.g D__law_called.k D__law_called.b .nil pass0 (pa_cons (pv 4) (pa_cons (pv 8) pa_nil))) pa_nil)) (pa_cons (pe_lst (pa_cons (pe_call D__law_done.ok (hr.mono (by omega)) rfl D__law_done.g D__law_done.k D__law_done.b .nil pass0 (pa_cons (pv 5) (pa_cons (pv 8) pa_nil))) pa_nil)) pa_nil))))) (pss_one (ps_ret pe_bl)) pss_nil))) pss_nil))) pss_nil)
      (pss_one (ps_if (PW.pt (pw_and (pt_cmpR op_eq (pe_call D__law_pick.ok (hr.mono (by omega)) rfl D__law_pick.g D__law_pick.k D__law_pick.b .nil pass0 (pa_cons (pv 1) (pa_cons pe_int pa_nil))) pe_int (nomark _)) (pw_and1 (pt_not (pt_val (pe_callG G__law_is.ok hG (hr.mono (by omega)) rfl G__law_is.g G__law_is.k G__law_is.b (pa_cons (pe_meth0 (pv 4) C.hcl Mh_meaning.m Mh_meaning.ok (hr.mono (by omega)) Mh_meaning.b .nil pass0) (pa_cons (pe_call D__law_meaning.ok (hr.mono (by omega)) rfl D__law_meaning.g D__law_meaning.k D__law_meaning.b .nil pass0 (pa_cons (pv 5) pa_nil)) pa_nil)))))))) (pss_one (ps_ret pe_bl)) pss_nil)))))))))
    (pss_one (ps_ret (pe_callG G__law_is.ok hG (hr.mono (by omega)) rfl G__law_is.g G__law_is.k G__law_is.b (pa_cons (pe_lst (pa_cons (pe_meth0 (pv 4) C.hcl Mh_meaning.m Mh_meaning.ok (hr.mono (by omega)) Mh_meaning.b .nil pass0) (pa_cons (pe_meth0 (pv 4) C.hcl Mh_filled.m Mh_filled.ok (hr.mono (by omega)) Mh_filled.b .nil pass0) pa_nil))) (pa_cons (pe_lst (pa_cons (pe_call D__law_meaning.ok (hr.mono (by omega)) rfl D__law_meaning.g D__law_meaning.k D__law_meaning.b .nil pass0 (pa_cons (pv 5) pa_nil)) (pa_cons (pe_call D__law_filled.ok (hr.mono (by omega)) rfl D__law_filled.g D__law_filled.k D__law_filled.b .nil pass0 (pa_cons (pv 5) pa_nil)) pa_nil))) pa_nil)))))))))), ?_⟩
  have hz := line_eq
  generalize hσ : L2.start _ _ = σ0
  have hσ : σ0 = [some (.ref l), none, none, none, none, none, none, none, none, none, none, none, none] := hσ.symm
  subst hσ
  refine seq_set ⟨_, rfl, l, ns, rfl, hl, hn, fun H1 a g s1 B1 => ?_⟩
  dsimp only [List.set]
  -- young
  refine seq_set ⟨_, rfl, a, g, 12, rfl, by decide, by decide, B1, fun H2 d hd b2 B2 => ⟨_, _, rfl, rfl, ?_⟩⟩
  obtain ⟨y, ey⟩ : ∃ y : Nat, y = 8 + d := ⟨_, rfl⟩
  dsimp only [List.set]
  rw [show (8 : Int) + (d : Int) = (y : Int) from by omega]
  -- room
  refine seq_set ⟨_, rfl, _, rfl, _, rfl, a, g, 40, rfl, by decide, by decide, B2, fun H3 d2 hd2 b3 B3 => ⟨_, _, rfl, rfl, ?_⟩⟩
  obtain ⟨o, eo⟩ : ∃ o : Nat, o = y + d2 := ⟨_, rfl⟩
  refine ⟨_, rfl, _, rfl, a, g, 960, rfl, by decide, by decide, B3, fun H4 d3 hd3 b4 B4 => ⟨_, _, rfl, rfl, (by show 7 ≤ sizeLine; rw [hz]; decide), fun l4 nl4 => ?_⟩⟩
  obtain ⟨o1, o2⟩ := B4.off nl4
  refine ⟨a, g, l4, _, rfl, B4.new nl4 _, SqL.of upd_same, o1, o2, (by show 0 < 7; decide), (by show 7 < 2 ^ 100; decide), fun H5 v hv b5 B5 => ?_⟩
  obtain ⟨p, rfl, hp⟩ : ∃ p : Nat, v = .int (p : Int) ∧ p ≤ 1000 := by
    simp only [List.mem_cons, List.not_mem_nil, or_false] at hv
    rcases hv with rfl | rfl | rfl | rfl | rfl | rfl | rfl
    · exact ⟨0, rfl, by decide⟩
    · exact ⟨1, rfl, by decide⟩
    · exact ⟨1, rfl, by decide⟩
    · exact ⟨2, rfl, by decide⟩
    · exact ⟨3, rfl, by decide⟩
    · exact ⟨20, rfl, by decide⟩
    · exact ⟨41 + d3, by rw [Int.natCast_add]; rfl, by omega⟩
  intro r rd nr nrd nrr
  refine ⟨r, rd, y, o, p, (by subst eo; rfl), upd_same, by omega, by omega, by omega, by omega, by omega, by omega, fun H6 h6r on6 => ⟨rfl, ?_⟩⟩
  have k6 : Same H5 H6 := fun b u e => by
    have n1 : b ≠ r := ne_of_none e nr
    rw [on6 b n1, upd_ne n1, upd_ne (ne_of_none e nrd)]; exact e
  have B6 := B5.same k6
  dsimp only [List.set]
  clear b2 b3 b4 b5 B1 B2 B3 B4 B5 nl4 o1 o2 hv
  -- heap, graph, size
  refine ⟨_, rfl, fun x dx nx ndx nxx => ?_⟩
  have hrx : r ≠ x := ne_of_none h6r nx
  have hrd : r ≠ dx := ne_of_none h6r ndx
  refine ⟨x, dx, r, rd, y, o, p, rfl, upd_same, (by rw [upd_ne hrx, upd_ne hrd]; exact h6r), by omega, by omega, by omega, fun H7 F ar e1 e2 S hk => ⟨rfl, ?_⟩⟩
  subst e1
  subst e2
  have k7 : ∀ b u, H6 b = some u → ¬ Own F ar [] b ∧ H7 b = some u := fun b u e => hk b u (ne_of_none e nx) (by rw [upd_ne (ne_of_none e nx), upd_ne (ne_of_none e ndx)]; exact e)
  refine ⟨rfl, fun H8 b0 g8 hfr R0 => ?_⟩
  have B7 := B6.same fun b u e => (k7 b u e).2
  have ro7 := S.ro
  have W8 : Wl C H8 a g b0 ⟨[], [], 0⟩ F ar [] (start y o p) := by
    obtain ⟨⟨xs, h1⟩, ⟨ys, h2⟩⟩ := B6.lists
    refine ⟨B7.same g8, R0, S.same g8, ?_, ?_, fun z hz' => ⟨fun oz => ?_, fun ez => ?_⟩⟩
    · rintro z (rfl | rfl) oz
      · have := hfr _ oz; rw [(k7 _ _ h1).2] at this; cases this
      · have := hfr _ oz; rw [(k7 _ _ h2).2] at this; cases this
    · rintro z (rfl | rfl)
      · exact ⟨(k7 _ _ h1).1, fun ez => by rw [ez, h6r] at h1; cases h1⟩
      · exact ⟨(k7 _ _ h2).1, fun ez => by rw [ez, h6r] at h2; cases h2⟩
    · exact S.off (hfr z hz') oz
    · have := hfr z hz'; rw [ez, ro7] at this; cases this
  refine ⟨_, rfl, a, g, 4, rfl, by decide, by decide, W8.bag, fun H9 d9 hd9 b9 B9 => ⟨_, _, rfl, rfl, ?_⟩⟩
  have W9 := W8.draw b9 B9
  obtain ⟨size, esz⟩ : ∃ size : Nat, size = 2 + d9 := ⟨_, rfl⟩
  have eszI : (2 : Int) + (d9 : Int) = (size : Int) := by omega
  refine ⟨(by show 3 ≤ sizeLine; rw [hz]; decide), fun tp ntp => ?_⟩
  have W10 := W9.same (same_new ntp (.tup [V.ref F.ho, V.ref b0.gd, V.int ((2 : Int) + (d9 : Int))]))
  have htp : (upd H9 tp (.tup [V.ref F.ho, V.ref b0.gd, V.int ((2 : Int) + (d9 : Int))])) tp = some (.tup [V.ref F.ho, V.ref b0.gd, V.int ((2 : Int) + (d9 : Int))]) := upd_same
  generalize upd H9 tp (.tup [V.ref F.ho, V.ref b0.gd, V.int ((2 : Int) + (d9 : Int))]) = H10 at W10 htp ⊢
  have st0 : Wst C H10 a g b0.gd F y o 0 := by
    refine ⟨b0, _, _, _, _, [], rfl, W10, ⟨(by rw [show gOf (Lg.mk [] [] 0).th = fun _ => (0, []) from gOf_nil]; exact Gc.inv_start (y := y) (o := o) (p := p) (by omega)), rfl, rfl, ⟨fun n hn => by have := nums_mem.mp hn; simp at this; omega, fun n hn => by simp at hn, fun g hg => by simp at hg⟩, by simp, by simp, by simp, by simp, by simp, by simp, by simp, Int.le_refl _, by decide, Nat.zero_le _, Nat.zero_le _, (by show (o : Int) ≤ 100; omega), (by show (List.replicate (y + 2 * o) (0 : Int)).length ≤ 1000; rw [List.length_replicate]; omega)⟩, rfl, rfl, Nat.le_refl _, Int.le_refl _, Nat.zero_le _⟩
  refine ⟨tp, _, rfl, SqT.of htp, rfl, _, _, rfl, _, _, rfl, _, _, rfl, rfl, ?_⟩
  dsimp only [List.set]
  rw [eszI]
  generalize hgd : b0.gd = gd at st0 ⊢
  clear htp W10 W9 b9 B9 W8 B7 ro7 k7 hk S hfr R0 g8
  obtain ⟨H11, eH11⟩ : ∃ H11, H11 = H10 := ⟨_, rfl⟩
  -- the turns
  refine seq_join (fun σ H' => ∃ (x7 x8 x9 x10 x11 x12 : Option V), σ = [some (.ref l), some (.ref a), some (.int (y : Int)), some (.ref F.ro), some (.ref F.ho), some (.ref gd), some (.int (size : Int)), x7, x8, x9, x10, x11, x12] ∧ Wst C H' a g gd F y o 300) ?_ ?_
  · rintro σ HA ⟨x7, x8, x9, x10, x11, x12, rfl, b4, L4, ar4, rws4, s4, vs4, f1, W4, R4, f2, f3, f4, f5, f6⟩
    obtain ⟨fd4, hfl4, e24, e44, h644, hin4, _⟩ := R4.flood
    obtain ⟨bs4, fo4, m1, m2, m3, m4, m5⟩ := R4.mean e24 e44 h644
    refine ⟨_, rfl, F.ho, F.hd, _, rfl, W4.st.ho, rfl, F, ar4, rws4, s4, L4.hs, bs4, fo4, gOf L4.th, rfl, W4.st, R4.rows.symm, R4.inv.heldOf, m1, m2, m3, m5, fun G8 p8 ys8 g8 hp8 hw8 hd8 => ?_⟩
    have W8 := W4.same g8
    refine ⟨_, rfl, F.ho, F.hd, _, rfl, W8.st.ho, rfl, F, ar4, rws4, s4, _, rfl, W8.st, R4.filled e24 e44, fun G9 g9 => ⟨(by show 2 ≤ sizeLine; rw [hz]; decide), fun la nla => ?_⟩⟩
    have W9 := (W8.same g9).same (same_new nla (.lst [V.ref p8, V.int (Gc.sumN (Gc.szG (gOf L4.th)) fd4)]))
    have hla : (upd G9 la (.lst [V.ref p8, V.int (Gc.sumN (Gc.szG (gOf L4.th)) fd4)])) la = some (.lst [V.ref p8, V.int (Gc.sumN (Gc.szG (gOf L4.th)) fd4)]) := upd_same
    have hd9 := Dt.tk (tk_same (g9.trans (same_new nla (.lst [V.ref p8, V.int (Gc.sumN (Gc.szG (gOf L4.th)) fd4)])))) _ _ hd8
    generalize upd G9 la (.lst [V.ref p8, V.int (Gc.sumN (Gc.szG (gOf L4.th)) fd4)]) = G10 at W9 hla hd9 ⊢
    refine ⟨_, rfl, b4, L4, fd4, 1000000, (by rw [f1]; rfl), W9.gra, R4.cl, Nat.le_refl _, hfl4, h644, hin4, (by omega), R4.up, fun G11 p9 ys9 g11 hp9 hw9 hd11 => ?_⟩
    have W11 := W9.same g11
    refine ⟨_, rfl, b4, L4, fd4, 1000000, (by rw [f1]; rfl), W11.gra, R4.cl, Nat.le_refl _, hfl4, h644, hin4, fun G12 g12 => ⟨(by show 2 ≤ sizeLine; rw [hz]; decide), fun lb nlb => ?_⟩⟩
    have ey : ys8 = ys9 := sorted_is ((hp8.trans m4).trans hp9.symm) hw8 hw9 (hp9.nodup_iff.mpr e24)
    subst ey
    have gg := g12.trans (same_new nlb (.lst [V.ref p9, V.int (Gc.sumN (Gc.szG (gOf L4.th)) fd4)]))
    have hlb : (upd G12 lb (.lst [V.ref p9, V.int (Gc.sumN (Gc.szG (gOf L4.th)) fd4)])) lb = some (.lst [V.ref p9, V.int (Gc.sumN (Gc.szG (gOf L4.th)) fd4)]) := upd_same
    have hla2 := (g11.trans gg) _ _ hla
    have hdA := Dt.tk (tk_same (g11.trans gg)) _ _ hd9
    have hdB := Dt.tk (tk_same gg) _ _ hd11
    have hfit := R4.inv.fits e24 fun n h => (e44 n).mp h
    have hfl := R4.inv.fl
    have hz3 := R4.z3
    have hnn : 0 ≤ Gc.sumN (Gc.szG (gOf L4.th)) fd4 := by
      have : ∀ l : List Int, 0 ≤ Gc.sumN (Gc.szG (gOf L4.th)) l := by
        intro l
        induction l with
        | nil => exact Int.le_refl 0
        | cons n r ih => rw [Gc.sumN]; unfold Gc.szG at *; omega
      exact this fd4
    have okm := (Gdd.lst2 (R4.gdd (ys := ys8) (fun n h => hin4 n (hp9.mem_iff.mp h)) (by have := hp9.length_eq; omega)) ((Gdd.int (sma_of (i := Gc.sumN (Gc.szG (gOf L4.th)) fd4) (by omega) (by omega))).le (Nat.zero_le _) (Nat.le_refl _))).ok (by decide) (by decide)
    refine ⟨la, lb, _, rfl, .lst (SqL.of hla2) (.cons (Dt.dp _ _ hdA) (.cons (.int _) .nil)), .lst (SqL.of hlb) (.cons (Dt.dp _ _ hdB) (.cons (.int _) .nil)), okm.h1, okm.h2, okm.h3, okm.h4, okm.h5, ?_⟩
    exact q _
  intro NX nx
  obtain ⟨b1, L1, ar1, rws1, s1, vs1, e1, W1, R1, e2, e3, e4, e5, e6⟩ := st0
  refine ⟨_, rfl, a, g, 200, rfl, by decide, by decide, W1.bag, fun H12 d12 hd12 b12 B12 => ⟨_, _, rfl, rfl, ?_⟩⟩
  have W12 := W1.draw b12 B12
  obtain ⟨N, eN⟩ : ∃ N : Nat, N = 60 + d12 := ⟨_, rfl⟩
  refine ⟨(N : Int), (by subst eN; rfl), (by omega), (by omega), ?_⟩
  rw [show ((N : Int)).toNat = N from Int.toNat_natCast N]
  refine for_range (D := { nx := NX, rt := Q }) (fun i σ H' => ∃ (x7 x8 x9 x10 x11 x12 : Option V), σ = [some (.ref l), some (.ref a), some (.int (y : Int)), some (.ref F.ro), some (.ref F.ho), some (.ref gd), some (.int (size : Int)), x7, x8, x9, x10, x11, x12] ∧ i ≤ N ∧ Wst C H' a g gd F y o i) ⟨_, _, _, _, _, _, rfl, Nat.zero_le _, b1, L1, ar1, rws1, s1, vs1, e1, W12, R1, e2, e3, e4, e5, e6⟩ ?_ ?_
  rotate_left
  · rintro σ H' ⟨x7, x8, x9, x10, x11, x12, rfl, _, b, L, ar, rws, s, vs, f1, W, R, f2, f3, f4, f5, f6⟩
    exact nx _ _ ⟨_, _, _, _, _, _, rfl, b, L, ar, rws, s, vs, f1, W, R, f2, f3, by omega, by omega, f6⟩
  rintro i σ G0 hi ⟨x7, x8, x9, x10, x11, x12, rfl, _, b, L, ar, rws, s, vs, f1, W, R, f2, f3, f4, f5, f6⟩
  show tSeq _ _ _ [some (.ref l), some (.ref a), some (.int (y : Int)), some (.ref F.ro), some (.ref F.ho), some (.ref gd), some (.int (size : Int)), some (.int (0 + (i : Int))), x8, x9, x10, x11, x12] G0
  obtain ⟨fd, hfl, e2, e4, h64, hin, hsum⟩ := R.flood
  subst f1
  -- the deed
  refine seq_set ⟨_, rfl, _, rfl, _, rfl, a, g, b, L, size, rfl, by omega, by omega, W.bag, W.gra, W.d1, (by omega), fun G1 pd k its bb1 BB1 hd hk hil hgd hfit => ?_⟩
  have W1 := W.draw bb1 BB1
  dsimp only [List.set]
  -- what is due
  refine seq_join (fun σ H' => ∃ due : String, due = (if s.old < Gc.sumN (Gc.szG (gOf L.th)) fd + (its.length + 2) then "full" else "let") ∧ σ = [some (.ref l), some (.ref a), some (.int (y : Int)), some (.ref F.ro), some (.ref F.ho), some (.ref b.gd), some (.int (size : Int)), some (.int (0 + (i : Int))), some (.ref pd), some (.str (Str.ofString due)), x10, x11, x12] ∧ Same G1 H') ?_ ?_
  rotate_left
  · intro NX nx
    refine ⟨_, rfl, _, rfl, b, L, fd, 1000000, pd, .make k its, rfl, W1.gra, R.cl, Nat.le_refl _, hfl, h64, hin, hd, fun G2 g2 => ?_⟩
    have W2 := W1.same g2
    refine ⟨_, rfl, _, _, _, _, _, rfl, W2.st.ro, C.rcl, C.old, rfl, _, _, rfl, rfl, _, rfl, ?_⟩
    by_cases c : s.old < Gc.sumN (Gc.szG (gOf L.th)) fd + (its.length + 2)
    · rw [decide_eq_true (show Gc.sumN (Gc.szG (gOf L.th)) fd + szD (.make k its) > s.old from c)]
      refine iteT (nx _ _ ⟨"full", by rw [if_pos c], rfl, g2⟩)
    · rw [decide_eq_false (show ¬ Gc.sumN (Gc.szG (gOf L.th)) fd + szD (.make k its) > s.old from c)]
      refine iteF (nx _ _ ⟨"let", by rw [if_neg c], rfl, g2⟩)
  rintro σ G2 ⟨due, hdue, rfl, g2⟩
  have W2 := W1.same g2
  have hd2 := hd.tk (tk_same g2)
  -- it is put
  have hth : L.th.length < 1000 := by omega
  have hil10 : its.length ≤ 10 := by omega
  have hnx : L.next < 1000000 := by omega
  refine ⟨_, rfl, _, rfl, _, rfl, _, rfl, _, rfl, a, g, b, L, F, ar, rws, s, vs, pd, k, its, due, fd, rfl, W2, R, hd2, hk, hil10, hgd, hfit, f6, hth, hnx, hfl, e2, e4, h64, hin, hdue, fun G3 b3 L3 ar3 rws3 s3 vs3 eb3 tk3 W3 R3 y3 o3 l3 n3 h3 hsame => ⟨_, rfl, ?_⟩⟩
  refine iteF (go_next ?_)
  have ST3 : Wst C G3 a g b.gd F y o (i + 1) := ⟨b3, L3, ar3, rws3, s3, vs3, eb3, W3, R3, by omega, by omega, by omega, by omega, h3⟩
  dsimp only
  -- one is let go of where it was refused
  refine seq_join (fun σ H' => ∃ (x10 : Option V), σ = [some (.ref l), some (.ref a), some (.int (y : Int)), some (.ref F.ro), some (.ref F.ho), some (.ref b.gd), some (.int (size : Int)), some (.int (0 + (i : Int))), some (.ref pd), some (.str (Str.ofString due)), x10, x11, x12] ∧ Wst C H' a g b.gd F y o (i + 1)) ?_ ?_
  rotate_left
  · intro NX nx
    refine ⟨_, rfl, rfl, _, rfl, ?_⟩
    by_cases c : s.old < Gc.sumN (Gc.szG (gOf L.th)) fd + (its.length + 2)
    rotate_left
    · rw [if_neg c] at hdue
      subst hdue
      rw [show decide (V.str (Str.ofString "let") = V.str (Str.ofString "full")) = false from by decide +kernel]
      exact iteF (go_next (nx _ _ ⟨_, rfl, ST3⟩))
    rw [if_pos c] at hdue
    subst hdue
    rw [show decide (V.str (Str.ofString "full") = V.str (Str.ofString "full")) = true from decide_eq_true rfl]
    have eL := hsame rfl
    subst eL
    have hne : 0 < L3.hs.length := by
      rcases Nat.eq_zero_or_pos L3.hs.length with z | z
      · have hnil : L3.hs = [] := List.length_eq_zero_iff.mp z
        have : fd = [] := by
          cases fd with
          | nil => rfl
          | cons n r =>
            have hl := (e4 n).mp List.mem_cons_self
            have none : ∀ n, ¬ Gc.Liv (gOf L3.th) L3.hs n := fun n h => by
              induction h with
              | @root j h m e => rw [hnil] at e; simp at e
              | step l e ih => exact ih
            exact absurd hl (none n)
        subst this
        rw [Gc.sumN] at c
        omega
      · exact z
    refine iteT ?_
    refine seq_set ⟨_, rfl, _, rfl, b3.gd, _, by rw [eb3], W3.gra.handles, b3.hd, _, L3.hs.map Prod.fst, rfl, .inl W3.gra.h, kD_fst W3.gra.hlen, (by rw [List.length_map]; omega), fun zs pz hperm hpw npz => ?_⟩
    have hzl := hperm.length_eq
    rw [List.length_map] at hzl
    have W5 := W3.same (same_new npz (.lst (zs.map V.int)))
    obtain ⟨o1, o2⟩ := W3.bag.off npz
    have hpz : (upd G3 pz (.lst (zs.map V.int))) pz = some (.lst (zs.map V.int)) := upd_same
    generalize upd G3 pz (.lst (zs.map V.int)) = H5 at W5 hpz ⊢
    refine ⟨a, g, pz, zs.map V.int, rfl, W5.bag, SqL.of hpz, o1, o2, (by rw [List.length_map]; omega), (by rw [List.length_map]; omega), fun H6 v hv b6 B6 => ?_⟩
    obtain ⟨h, hm, rfl⟩ := List.mem_map.mp hv
    have hmem := hperm.mem_iff.mp hm
    have W6 := W5.draw b6 B6
    refine ⟨(by show 2 ≤ sizeLine; rw [hz]; decide), fun pg npg => ?_⟩
    have W7 := W6.same (same_new npg (.tup [V.str (Str.ofString "drop"), V.int h]))
    have hpg : DeAt (upd H6 pg (.tup [V.str (Str.ofString "drop"), V.int h])) pg (.drop h) := upd_same
    generalize upd H6 pg (.tup [V.str (Str.ofString "drop"), V.int h]) = H7 at W7 hpg ⊢
    obtain ⟨s8, L8, d1, d2, R8, d3, d4, d5, d6, d7⟩ := R3.drop hmem
    dsimp only [List.set]
    refine ⟨_, rfl, _, rfl, F, ar3, rws3, s3, pg, .drop h, _, s8, rfl, W7.st, hpg, d1, (fun k its e => by cases e), (fun v hv H8 ar8 rws8 g8 => ?_), (fun z => by cases z)⟩
    cases hv
    have W8 := W7.go g8
    have hpg8 := hpg.tk (W7.tkgo g8)
    refine ⟨(by show 1 ≤ sizeLine; rw [hz]; decide), fun l3 nl3 => ?_⟩
    have W9 := W8.same (same_new nl3 (.lst [V.non]))
    have hl3 : (upd H8 l3 (.lst [V.non])) l3 = some (.lst [V.non]) := upd_same
    have nol3 := W8.gra.off nl3
    have hpg9 := hpg8.tk (tk_new nl3 (.lst [V.non]))
    generalize upd H8 l3 (.lst [V.non]) = H9 at W9 hl3 hpg9 ⊢
    refine ⟨_, rfl, _, rfl, b3, L3, pg, .drop h, _, L8, (by rw [eb3]; rfl), W9.gra, hpg9, d2, (by have := R3.z1; omega), (by have := R3.z2; omega), R3.next, (fun k its e => by cases e), fun HA bA ebA cA RA => ⟨(by show 1 ≤ sizeLine; rw [hz]; decide), fun l4 nl4 => ?_⟩⟩
    have hl3A := (cA _ _ nol3 hl3).2
    have WA := (W9.graph cA RA).same (same_new nl4 (.lst [V.non]))
    have hl3B := same_new nl4 (.lst [V.non]) _ _ hl3A
    have hl4B : (upd HA l4 (.lst [V.non])) l4 = some (.lst [V.non]) := upd_same
    generalize upd HA l4 (.lst [V.non]) = HB at WA hl3B hl4B ⊢
    have ok2 := gdd_non
    refine ⟨l3, l4, .list [.none], rfl, .lst (SqL.of hl3B) (.cons .non .nil), .lst (SqL.of hl4B) (.cons .non .nil), ok2.h1, ok2.h2, ok2.h3, ok2.h4, ok2.h5, _, rfl, ?_⟩
    refine iteF (go_next (nx _ _ ⟨_, rfl, bA, L8, ar8, rws8, s8, vs3, by rw [ebA, eb3], WA, R8, by omega, by omega, by rw [d3]; omega, by rw [d5]; omega, by omega⟩))
  rintro σ G4 ⟨x10', rfl, ST4⟩
  -- a turn is begun
  refine seq_join (fun σ H' => σ = [some (.ref l), some (.ref a), some (.int (y : Int)), some (.ref F.ro), some (.ref F.ho), some (.ref b.gd), some (.int (size : Int)), some (.int (0 + (i : Int))), some (.ref pd), some (.str (Str.ofString due)), x10', x11, x12] ∧ Wst C H' a g b.gd F y o (i + 1)) ?_ ?_
  rotate_left
  · intro NX nx
    obtain ⟨b4, L4, ar4, rws4, s4, vs4, f1, W4, R4, f2, f3, f4, f5, f6⟩ := ST4
    refine ⟨_, rfl, a, g, 9, rfl, by decide, by decide, W4.bag, fun G5 d5 hd5 bb5 BB5 => ⟨rfl, _, rfl, ?_⟩⟩
    have W5 := W4.draw bb5 BB5
    refine ited (fun _ => ?_) (fun _ => go_next (nx _ _ ⟨rfl, b4, L4, ar4, rws4, s4, vs4, f1, W5, R4, f2, f3, f4, f5, f6⟩))
    obtain ⟨n, s6, vs6, t1, t2, R6, t3, t4⟩ := R4.turn
    refine ⟨_, rfl, F.ho, F.hd, _, rfl, W5.st.ho, rfl, F, ar4, rws4, s4, n, s6, rfl, W5.st, t1, fun G6 ar6 g6 => ⟨n, 0, 1, rfl, by omega, by omega, _, rfl, ?_⟩⟩
    exact iteF (go_next (nx _ _ ⟨rfl, b4, L4, ar6, rws4, s6, vs6, f1, W5.go g6, R6, by omega, by omega, f4, f5, f6⟩))
  rintro σ G5 ⟨rfl, ST5⟩
  -- something is written
  refine seq_join (fun σ H' => ∃ (x8 x11 x12 : Option V), σ = [some (.ref l), some (.ref a), some (.int (y : Int)), some (.ref F.ro), some (.ref F.ho), some (.ref b.gd), some (.int (size : Int)), some (.int (0 + (i : Int))), x8, some (.str (Str.ofString due)), x10', x11, x12] ∧ Wst C H' a g b.gd F y o (i + 1)) ?_ ?_
  rotate_left
  · intro NX nx
    obtain ⟨b4, L4, ar4, rws4, s4, vs4, f1, W4, R4, f2, f3, f4, f5, f6⟩ := ST5
    refine ⟨_, rfl, b4.gd, _, by rw [f1], W4.gra.handles, b4.hd, _, rfl, W4.gra.h, _, _, rfl, rfl, _, rfl, ?_⟩
    rw [kD_len W4.gra.hlen, List.length_map]
    refine ited (fun hgt => ?_) (fun _ => go_next (nx _ _ ⟨_, _, _, rfl, b4, L4, ar4, rws4, s4, vs4, f1, W4, R4, f2, f3, f4, f5, f6⟩))
    refine ⟨_, rfl, a, g, 3, rfl, by decide, by decide, W4.bag, fun G6 d6 hd6 bb6 BB6 => ⟨rfl, _, rfl, ?_⟩⟩
    have W6 := W4.draw bb6 BB6
    refine ited (fun _ => ?_) (fun _ => go_next (nx _ _ ⟨_, _, _, rfl, b4, L4, ar4, rws4, s4, vs4, f1, W6, R4, f2, f3, f4, f5, f6⟩))
    -- the things that have two words
    refine ⟨_, rfl, b4.gd, _, by rw [f1], W6.gra.handles, b4.hd, _, L4.hs.map Prod.fst, rfl, .inl W6.gra.h, kD_fst W6.gra.hlen, (by rw [List.length_map]; omega), fun zs pz hperm hpw npz => ?_⟩
    have hzl := hperm.length_eq
    rw [List.length_map] at hzl
    have W7 := W6.same (same_new npz (.lst (zs.map V.int)))
    have hpz : (upd G6 pz (.lst (zs.map V.int))) pz = some (.lst (zs.map V.int)) := upd_same
    generalize upd G6 pz (.lst (zs.map V.int)) = G7 at W7 hpz ⊢
    refine ⟨pz, rfl, ⟨_, SqL.of hpz⟩, fun D hD => ?_⟩
    refine lc_list (xs := zs.map V.int) (fun j H' => Same G7 H' ∧ j ≤ zs.length ∧ ∃ ms : List Int, H' D = some (.lst (ms.map V.int)) ∧ ms.length ≤ j ∧ ∀ m ∈ ms, m ∈ L4.hs.map Prod.fst ∧ ∃ n, Gc.lookW L4.hs m = some (.thing n) ∧ 1 < (gOf L4.th n).2.length) ⟨same_new hD _, Nat.zero_le _, [], upd_same, Nat.le_refl _, fun m hm => by cases hm⟩ (fun j H' _ h => SqL.of (h.1 _ _ hpz)) ?_ ?_
    · rintro j v H' hv ⟨gj, hj, ms, hdj, hml, hmm⟩
      obtain ⟨m, ez, rfl, _⟩ := ints_at hv
      have hlt : j < zs.length := (List.getElem?_eq_some_iff.mp ez).1
      have hmem := hperm.mem_iff.mp (List.mem_of_getElem? ez)
      have W8 := W7.same gj
      obtain ⟨xo, hx⟩ := Option.isSome_iff_exists.mp (lookW_mem hmem)
      obtain ⟨jx, ejx⟩ := lookW_at hx
      obtain ⟨n, en⟩ := R4.tg _ (List.mem_of_getElem? ejx)
      cases en
      have hn : n ∈ nums L4.th.length := R4.cl.h n (List.mem_map.mpr ⟨_, List.mem_of_getElem? ejx, rfl⟩)
      obtain ⟨wa, w1, w2⟩ := W8.gra.held hx
      obtain ⟨t, lw, ws, t1, t2, t3, t4, t5, ii, t6, t7, t8⟩ := W8.gra.thing hn
      refine ⟨rfl, ?_⟩
      refine ⟨_, rfl, b4.gd, _, by rw [f1], W8.gra.things, _, rfl, b4.gd, _, by rw [f1], W8.gra.handles, _, rfl, b4.hd, _, rfl, w1, wa, _, _, _, rfl, rfl, SqT.of w2, atI_nat (j := 1) rfl, b4.td, _, rfl, t1, t, _, _, _, rfl, rfl, SqT.of t2, atI_nat (j := 1) rfl, lw, ws.map V.ref, rfl, .inl (SqL.of t3), _, _, rfl, rfl, _, rfl, ?_⟩
      rw [List.length_map, t4.len]
      refine ited (fun h1 => ?_) (fun h1 => ⟨gj, hlt, ms, hdj, Nat.le_succ_of_le hml, hmm⟩)
      refine ⟨_, rfl, ms.map V.int, hdj, (by rw [List.length_map]; omega), same_mut gj hD _, hlt, ms ++ [m], by rw [upd_same, List.map_append]; rfl, by rw [List.length_append]; exact Nat.succ_le_succ hml, fun k hk => ?_⟩
      rcases List.mem_append.mp hk with z | z
      · exact hmm k z
      · rw [List.mem_singleton.mp z]; exact ⟨hmem, n, hx, by omega⟩
    rintro G8 ⟨g8, _, ms, hD8, hml, hmm⟩
    rw [List.length_map] at hml
    have W8 := W7.same g8
    have noD : D ≠ a ∧ D ≠ g := W7.bag.off hD
    dsimp only [List.set]
    refine ⟨_, rfl, D, _, rfl, .inl (SqL.of hD8), _, _, rfl, rfl, _, rfl, ?_⟩
    rw [List.length_map]
    refine ited (fun hpos => ?_) (fun _ => go_next (nx _ _ ⟨_, _, _, rfl, b4, L4, ar4, rws4, s4, vs4, f1, W8, R4, f2, f3, f4, f5, f6⟩))
    refine seq_set ⟨_, rfl, _, rfl, a, g, D, ms.map V.int, rfl, W8.bag, SqL.of hD8, noD.1, noD.2, (by rw [List.length_map]; omega), (by rw [List.length_map]; omega), fun G9 v hv bb9 BB9 => ?_⟩
    obtain ⟨m, hm, rfl⟩ := List.mem_map.mp hv
    obtain ⟨hmem, n, hlk, hlen2⟩ := hmm m hm
    have W9 := W8.draw bb9 BB9
    refine ⟨_, rfl, _, rfl, b4.gd, _, by rw [f1], W9.gra.handles, b4.hd, _, L4.hs.map Prod.fst, rfl, .inl W9.gra.h, kD_fst W9.gra.hlen, (by rw [List.length_map]; omega), fun zs2 pz2 hperm2 hpw2 npz2 => ?_⟩
    have hzl2 := hperm2.length_eq
    rw [List.length_map] at hzl2
    have W10 := W9.same (same_new npz2 (.lst (zs2.map V.int)))
    obtain ⟨o1, o2⟩ := W9.bag.off npz2
    have hpz2 : (upd G9 pz2 (.lst (zs2.map V.int))) pz2 = some (.lst (zs2.map V.int)) := upd_same
    generalize upd G9 pz2 (.lst (zs2.map V.int)) = G10 at W10 hpz2 ⊢
    refine ⟨a, g, pz2, zs2.map V.int, rfl, W10.bag, SqL.of hpz2, o1, o2, (by rw [List.length_map]; omega), (by rw [List.length_map]; omega), fun G11 v hv bb11 BB11 => ?_⟩
    obtain ⟨hg, hmg, rfl⟩ := List.mem_map.mp hv
    have hmemg := hperm2.mem_iff.mp hmg
    have W11 := W10.draw bb11 BB11
    refine ⟨(by show 2 ≤ sizeLine; rw [hz]; decide), fun ph nph => ?_⟩
    have W12 := W11.same (same_new nph (.tup [V.str (Str.ofString "held"), V.int hg]))
    have hph : (upd G11 ph (.tup [V.str (Str.ofString "held"), V.int hg])) ph = some (.tup (itV (.held hg))) := upd_same
    generalize upd G11 ph (.tup [V.str (Str.ofString "held"), V.int hg]) = G12 at W12 hph ⊢
    refine ⟨(by show 4 ≤ sizeLine; rw [hz]; decide), fun pw npw => ?_⟩
    have W13 := W12.same (same_new npw (.tup [V.str (Str.ofString "write"), V.int m, V.int 1, V.ref ph]))
    have hpw13 : DeAt (upd G12 pw (.tup [V.str (Str.ofString "write"), V.int m, V.int 1, V.ref ph])) pw (.write m 1 (.held hg)) := ⟨ph, upd_same, by rw [upd_ne (ne_of_none hph npw)]; exact hph⟩
    generalize upd G12 pw (.tup [V.str (Str.ofString "write"), V.int m, V.int 1, V.ref ph]) = H7 at W13 hpw13 ⊢
    obtain ⟨s8, L8, d1, d2, R8, d3, d4, d5, d6, d7⟩ := R4.write hlk (p := 1) (Nat.le_refl _) hlen2 (g := hg) (lookW_mem hmemg)
    dsimp only [List.set]
    refine ⟨_, rfl, _, rfl, F, ar4, rws4, s4, pw, .write m 1 (.held hg), _, s8, rfl, W13.st, hpw13, d1, (fun k its e => by cases e), (fun v hv H8 ar8 rws8 g8 => ?_), (fun z => by cases z)⟩
    cases hv
    have W8 := W13.go g8
    have hpg8 := hpw13.tk (W13.tkgo g8)
    refine ⟨(by show 1 ≤ sizeLine; rw [hz]; decide), fun l3 nl3 => ?_⟩
    have W9 := W8.same (same_new nl3 (.lst [V.non]))
    have hl3 : (upd H8 l3 (.lst [V.non])) l3 = some (.lst [V.non]) := upd_same
    have nol3 := W8.gra.off nl3
    have hpg9 := hpg8.tk (tk_new nl3 (.lst [V.non]))
    generalize upd H8 l3 (.lst [V.non]) = H9 at W9 hl3 hpg9 ⊢
    refine ⟨_, rfl, _, rfl, b4, L4, pw, .write m 1 (.held hg), _, L8, (by rw [f1]; rfl), W9.gra, hpg9, d2, (by have := R4.z1; omega), (by have := R4.z2; omega), R4.next, (fun k its e => by cases e), fun HA bA ebA cA RA => ⟨(by show 1 ≤ sizeLine; rw [hz]; decide), fun l4 nl4 => ?_⟩⟩
    have hl3A := (cA _ _ nol3 hl3).2
    have WA := (W9.graph cA RA).same (same_new nl4 (.lst [V.non]))
    have hl3B := same_new nl4 (.lst [V.non]) _ _ hl3A
    have hl4B : (upd HA l4 (.lst [V.non])) l4 = some (.lst [V.non]) := upd_same
    generalize upd HA l4 (.lst [V.non]) = HB at WA hl3B hl4B ⊢
    have ok2 := gdd_non
    refine ⟨l3, l4, .list [.none], rfl, .lst (SqL.of hl3B) (.cons .non .nil), .lst (SqL.of hl4B) (.cons .non .nil), ok2.h1, ok2.h2, ok2.h3, ok2.h4, ok2.h5, _, rfl, ?_⟩
    refine iteF (go_next (nx _ _ ⟨_, _, _, rfl, bA, L8, ar8, rws8, s8, vs4, by rw [ebA, f1], WA, R8, by omega, by omega, by omega, by omega, by rw [d4]; exact f6⟩))
  rintro σ G6 ⟨x8', x11', x12', rfl, ST6⟩
  obtain ⟨b4, L4, ar4, rws4, s4, vs4, f1, W4, R4, f2, f3, f4, f5, f6⟩ := ST6
  -- the meaning
  refine ⟨_, rfl, a, g, 20, rfl, by decide, by decide, W4.bag, fun G7 d7 hd7 bb7 BB7 => ⟨rfl, _, rfl, ?_⟩⟩
  have W7 := W4.draw bb7 BB7
  refine ited (fun _ => ?_) (fun _ => go_next ⟨_, _, _, _, _, _, rfl, hi, b4, L4, ar4, rws4, s4, vs4, f1, W7, R4, f2, f3, f4, f5, f6⟩)
  obtain ⟨fd4, hfl4, e24, e44, h644, hin4, _⟩ := R4.flood
  obtain ⟨bs4, fo4, m1, m2, m3, m4, m5⟩ := R4.mean e24 e44 h644
  refine ⟨_, rfl, F.ho, F.hd, _, rfl, W7.st.ho, rfl, F, ar4, rws4, s4, L4.hs, bs4, fo4, gOf L4.th, rfl, W7.st, R4.rows.symm, R4.inv.heldOf, m1, m2, m3, m5, fun G8 p8 ys8 g8 hp8 hw8 hd8 => ?_⟩
  have W8 := W7.same g8
  refine ⟨_, rfl, b4, L4, fd4, 1000000, (by rw [f1]; rfl), W8.gra, R4.cl, Nat.le_refl _, hfl4, h644, hin4, (by omega), R4.up, fun G9 p9 ys9 g9 hp9 hw9 hd9 => ?_⟩
  have W9 := W8.same g9
  have ey : ys8 = ys9 := sorted_is ((hp8.trans m4).trans hp9.symm) hw8 hw9 (hp9.nodup_iff.mpr e24)
  subst ey
  have okm := (R4.gdd (ys := ys8) (fun n h => hin4 n (hp9.mem_iff.mp h)) (by have := hp9.length_eq; omega)).ok (by decide) (by decide)
  refine ⟨p8, p9, _, rfl, Dt.dp _ _ (Dt.tk (tk_same g9) _ _ hd8), Dt.dp _ _ hd9, okm.h1, okm.h2, okm.h3, okm.h4, okm.h5, _, rfl, ?_⟩
  exact iteF (go_next ⟨_, _, _, _, _, _, rfl, hi, b4, L4, ar4, rws4, s4, vs4, f1, W9, R4, f2, f3, f4, f5, f6⟩)
end
end Wk
set_option maxRecDepth 100000
set_option maxHeartbeats 16000000
namespace Wk
open PySem PySem.Spec L2 TL PyProof.Rows Hm
open SX (S S_len)
/-! ### the end: all promises tied -/
section
variable {P : Program} {w : World} {K : PySem.W.Frag} {mg : Str → Option Value} {base h : Heap}
/-- a def's text -/
structure DfT (K : PySem.W.Frag) (mg : Str → Option Value) (x : Str) (st : Stmt) (ps : List Str) where
  f : Addr
  fd : FuncData
  F : Fun K x x st f fd
  g : mg x = some (.ref f)
  k : PySem.W.keepIn K (.ref f) = true
  b : Binds K fd ps []
def DfT.on {x : Str} {st : Stmt} {ps : List Str} {CX : CXT} {k : Nat} {sp : Sp} (I : DfT K mg x st ps) (h : FnOk P w K mg base CX k I.f I.fd ps sp) : Def P w K mg base CX x ps k sp := ⟨I.f, I.fd, h, I.g, I.k, I.b⟩
def DfT.onG {x : Str} {st : Stmt} {ps : List Str} {k : Nat} {sp : Sp} (I : DfT K mg x st ps) (h : FnG P w K mg base k I.f I.fd ps sp) : DefG P w K mg base x ps k sp := ⟨I.f, I.fd, h, I.g, I.k, I.b⟩
/-- a method's text -/
structure MdT (K : PySem.W.Frag) (C : Addr) (x q : Str) (st : Stmt) (ps : List Str) where
  f : Addr
  fd : FuncData
  F : Fun K x q st f fd
  m : Meth K C x f
  b : Binds K fd ps []
def MdT.on {C : Addr} {x q : Str} {st : Stmt} {ps : List Str} {CX : CXT} {k : Nat} {sp : Sp} (I : MdT K C x q st ps) (h : FnOk P w K mg base CX k I.f I.fd ps sp) : MD P w K mg base CX C x ps k sp := ⟨I.f, I.fd, h, I.m, I.b⟩
/-- a class that is called: its text -/
structure CkT (K : PySem.W.Frag) (mg : Str → Option Value) (x q : Str) (C : Addr) (st : Stmt) (ps : List Str) where
  g : mg x = some (.ref C)
  f : Addr
  fd : FuncData
  F : Fun K "__init__" q st f fd
  m : Mk K C f
  b : Binds K fd ps []
def CkT.on {x q : Str} {C : Addr} {st : Stmt} {ps : List Str} {CX : CXT} {k : Nat} {sp : Sp} (I : CkT K mg x q C st ps) (h : FnOk P w K mg base CX k I.f I.fd ps sp) : MkD P w K mg base CX x C ps k sp := ⟨I.g, I.f, I.fd, I.m, h, I.b⟩
/-- an __init__ that is called by its class's name -/
structure UnT (K : PySem.W.Frag) (mg : Str → Option Value) (x q : Str) (st : Stmt) (ps : List Str) where
  C : Addr
  g : mg x = some (.ref C)
  f : Addr
  fd : FuncData
  F : Fun K "__init__" q st f fd
  u : UFn K C "__init__" f
  b : Binds K fd ps []
theorem fun_parts {x q : Str} {st : Stmt} {f : Addr} (F : ∃ fd, FunD K x q (defArgs st) (defBody st) (defScope st) [] [] f fd) :
    (∃ (oc : Value) (od an : Option Addr) (osl : Array (Option Value)) (kV dc pm cd ct : Value), K.lookup f = some ⟨oc, od, .func (PySem.W.fnOf x q (defArgs st) (defBody st) (defScope st) .none kV dc pm an cd ct), osl⟩ ∧ PySem.W.codeIn K cd q = true) ∧ PySem.W.keepIn K (.ref f) = true := by
  obtain ⟨fd, F⟩ := F
  obtain ⟨oc, od, dV, kV, doc, pm, an, cdv, ct, osl, e, l, c, dfl, _⟩ := F.ex
  rcases dfl with ⟨_, e2⟩ | ⟨e2, _⟩
  · subst e2
    exact ⟨⟨oc, od, an, osl, kV, doc, pm, cdv, ct, e ▸ l, c⟩, F.kp⟩
  · exact absurd rfl e2
abbrev HbT (x q : Str) (st : Stmt) (ps : List Str) : Prop := ∀ (kV doc pm : Value) (an : Option Addr) (cdv ct : Value) (us : List Value), us.length = ps.length → bindArgs (PySem.W.fnOf x q (defArgs st) (defBody st) (defScope st) .none kV doc pm an cdv ct) ⟨us, []⟩ = pure (ps.zip us)
theorem dft_of {x : Str} {st : Stmt} {ps : List Str} (X : K.In h) (G : h.Ns mainGlobals mg) (g : (He.Fa.glo x).ok K = true) (F : ∃ fd, FunD K x x (defArgs st) (defBody st) (defScope st) [] [] (He.ga K x) fd) (hb : HbT x x st ps) : ∃ I : DfT K mg x st ps, I.f = He.ga K x := by
  obtain ⟨⟨oc, od, an, osl, kV, dc, pm, cd, ct, l, c⟩, k⟩ := fun_parts F
  have F := fun_mk (st := st) l c k
  exact ⟨⟨_, _, F, PySem.W.mg_of X G (He.eqO_ok g), k, F.binds hb⟩, rfl⟩
theorem mdt_of {C x q : Str} {st : Stmt} {ps : List Str} (m : (He.Fa.meth C x).ok K = true) (F : ∃ fd, FunD K x q (defArgs st) (defBody st) (defScope st) [] [] (He.ma K (He.ga K C) x) fd) (hb : HbT x q st ps) : Nonempty (MdT K (He.ga K C) x q st ps) := by
  obtain ⟨⟨oc, od, an, osl, kV, dc, pm, cd, ct, l, c⟩, k⟩ := fun_parts F
  have F := fun_mk (st := st) l c k
  exact ⟨⟨_, _, F, He.meth_ok m, F.binds hb⟩⟩
theorem ckt_of {x q : Str} {st : Stmt} {ps : List Str} (X : K.In h) (G : h.Ns mainGlobals mg) (g : (He.Fa.glo x).ok K = true) (k : (He.Fa.mkr x).ok K = true) (m : (He.Fa.meth x "__init__").ok K = true) (F : ∃ fd, FunD K "__init__" q (defArgs st) (defBody st) (defScope st) [] [] (He.ma K (He.ga K x) "__init__") fd) (hb : HbT "__init__" q st ps) : Nonempty (CkT K mg x q (He.ga K x) st ps) := by
  obtain ⟨⟨oc, od, an, osl, kV, dc, pm, cd, ct, l, c⟩, k2⟩ := fun_parts F
  have F := fun_mk (st := st) l c k2
  have hk := He.mkr_ok k
  have hm := He.meth_ok m
  exact ⟨⟨PySem.W.mg_of X G (He.eqO_ok g), _, _, F, ⟨hk.makes, hm.at_, hm.fn, hk.kp⟩, F.binds hb⟩⟩
theorem vals_abs : ∀ {us : List Value} {xs : List V}, us.map absV = xs.map some → Vals xs us
  | [], [], _ => .nil
  | [], _ :: _, e => by cases e
  | _ :: _, [], e => by cases e
  | u :: us, x :: xs, e => by
    have e1 : absV u = some x := (List.cons.inj e).1
    refine .cons ?_ (vals_abs (List.cons.inj e).2)
    cases u <;> first
      | (cases e1; first | rfl | exact ⟨_, rfl⟩)
      | cases e1
theorem seq_K {a : Addr} {dd : Option Addr} {its : Array Value} {n : Nat} {sl : Array (Option Value)} {xs : List V} (l : K.lookup a = some ⟨.type "tuple", dd, .seq its n, sl⟩) (hz : its.size ≤ 1000) (v : its.toList.map absV = xs.map some) (H : Hp) : SqT K H a xs :=
  .inr ⟨_, its, n, l, rfl, rfl, by have := line_eq; omega, vals_abs v⟩
theorem unt_of {x q : Str} {st : Stmt} {ps : List Str} (X : K.In h) (G : h.Ns mainGlobals mg) (g : (He.Fa.glo x).ok K = true) (u : Hd.unB K (He.ga K x) "__init__" = true) (F : ∃ fd, FunD K "__init__" q (defArgs st) (defBody st) (defScope st) [] [] (He.ma K (He.ga K x) "__init__") fd) (hb : HbT "__init__" q st ps) : Nonempty (UnT K mg x q st ps) := by
  obtain ⟨⟨oc, od, an, osl, kV, dc, pm, cd, ct, l, c⟩, k2⟩ := fun_parts F
  have F := fun_mk (st := st) l c k2
  obtain ⟨u1, u2, u3, u4⟩ := Hd.unB_ok u
  exact ⟨⟨_, PySem.W.mg_of X G (He.eqO_ok g), _, _, F, ⟨⟨u1, u2⟩, u4, u3⟩, F.binds hb⟩⟩
/-- the heap's error -/
structure FullT (K : PySem.W.Frag) (mg : Str → Option Value) where
  C : Addr
  fI : Addr
  fd : FuncData
  gC : mg "HeapFull" = some (.ref C)
  T : OexC K C
  iC : PySem.W.findIn K (.ref C) "__init__" = some (some (.ref fI))
  tI : PySem.W.typeIn K (.ref fI) = some (.type "function")
  F : Fun K "__init__" "HeapFull.__init__" s_bad_init fI fd
  b : Binds K fd ["self", "taken"] []
  XT : XfC K C
  hno : PySem.W.findIn K (.ref C) "taken" = some none
  hm1 : PySem.W.exmOne K (.ref C) (.ref C) = some true
theorem full_of (X : K.In h) (G : h.Ns mainGlobals mg) (o : PySem.W.nsIn K mainGlobals "HeapFull" = some (some (.ref (He.ga K "HeapFull"))) ∧ OexC K (He.ga K "HeapFull") ∧ PySem.W.isClsIn K (He.ga K "HeapFull") = true) (m : (He.Fa.meth "HeapFull" "__init__").ok K = true)
    (F : ∃ fd, FunD K "__init__" "HeapFull.__init__" (defArgs s_bad_init) (defBody s_bad_init) (defScope s_bad_init) [] [] (He.ma K (He.ga K "HeapFull") "__init__") fd) (hb : HbT "__init__" "HeapFull.__init__" s_bad_init ["self", "taken"])
    (xf : XfC K (He.ga K "HeapFull")) (no : (He.Fa.noat "HeapFull" "taken").ok K = true) (xm : (He.Fa.exm "HeapFull" "HeapFull" true).ok K = true) : Nonempty (FullT K mg) := by
  obtain ⟨⟨oc, od, an, osl, kV, dc, pm, cd, ct, l, c⟩, k2⟩ := fun_parts F
  have F := fun_mk (st := s_bad_init) l c k2
  exact ⟨⟨He.ga K "HeapFull", He.ma K (He.ga K "HeapFull") "__init__", _, PySem.W.mg_of X G o.1, o.2.1, (He.meth_ok m).at_, beq_iff_eq.mp (He.meth_ok m).fn, F, F.binds hb, xf, He.noat_ok no, He.exm_ok xm⟩⟩
/-- all texts -/
structure AllI (K : PySem.W.Frag) (mg : Str → Option Value) (C : Cs K) (C2 : Cs2 K mg C) where
  d_is_integer : DfT K mg "is_integer" s_is_integer ["thing"]
  d_is_of_tag : DfT K mg "is_of_tag" s_is_of_tag ["tag", "payload"]
  d_is_word : DfT K mg "is_word" s_is_word ["thing"]
  d_is_things : DfT K mg "is_things" s_is_things ["word"]
  d_is_sign : DfT K mg "is_sign" s_is_sign ["number"]
  d_is_signs : DfT K mg "is_signs" s_is_signs ["word"]
  d_may_be_many : DfT K mg "may_be_many" s_may_be_many ["sort", "many"]
  d_may_stand : DfT K mg "may_stand" s_may_stand ["sort", "place", "word"]
  d_may_be : DfT K mg "may_be" s_may_be ["sort", "found"]
  b_begin_of : MdT K C.B "begin_of" "Bound.begin_of" s_Bound__begin_of ["self", "half"]
  b_end_of : MdT K C.B "end_of" "Bound.end_of" s_Bound__end_of ["self", "at"]
  b_moved : MdT K C.B "moved" "Bound.moved" s_Bound__moved ["self", "at"]
  b_lead_on : MdT K C.B "lead_on" "Bound.lead_on" s_Bound__lead_on ["self", "places", "low", "high"]
  h_root_rows : MdT K C.H "root_rows" "Heap.root_rows" s_Heap__root_rows ["self"]
  b_lead_roots : MdT K C.B "lead_roots" "Bound.lead_roots" s_Bound__lead_roots ["self", "low", "high"]
  b_filled_words : MdT K C.B "filled_words" "Bound.filled_words" s_Bound__filled_words ["self"]
  b_remember : MdT K C.B "remember" "Bound.remember" s_Bound__remember ["self", "place", "word"]
  b_empty_nursery : MdT K C.B "empty_nursery" "Bound.empty_nursery" s_Bound__empty_nursery ["self"]
  b_change_halves : MdT K C.B "change_halves" "Bound.change_halves" s_Bound__change_halves ["self"]
  b_end_if_done : MdT K C.B "end_if_done" "Bound.end_if_done" s_Bound__end_if_done ["self"]
  b_write : MdT K C.B "write" "Bound.write" s_Bound__write ["self", "at", "place", "word"]
  b_lead_left : MdT K C.B "lead_left" "Bound.lead_left" s_Bound__lead_left ["self", "begin", "end"]
  b_gather : MdT K C.B "gather" "Bound.gather" s_Bound__gather ["self"]
  b_steps : MdT K C.B "steps" "Bound.steps" s_Bound__steps ["self", "many"]
  b_end_turn : MdT K C.B "end_turn" "Bound.end_turn" s_Bound__end_turn ["self"]
  b_turn : MdT K C.B "turn" "Bound.turn" s_Bound__turn ["self"]
  b_copy_all : MdT K C.B "copy_all" "Bound.copy_all" s_Bound__copy_all ["self", "is_tie_followed"]
  b_whole : MdT K C.B "whole" "Bound.whole" s_Bound__whole ["self"]
  b_reserve : MdT K C.B "reserve" "Bound.reserve" s_Bound__reserve ["self", "many"]
  b_place : MdT K C.B "place" "Bound.place" s_Bound__place ["self", "sort", "found"]
  b_settled : MdT K C.B "settled" "Laid.settled" s_Laid__settled ["self", "at"]
  b_sort_at : MdT K C.B "sort_at" "Laid.sort_at" s_Laid__sort_at ["self", "at"]
  b_size_at : MdT K C.B "size_at" "Laid.size_at" s_Laid__size_at ["self", "at"]
  b_number_at : MdT K C.B "number_at" "Laid.number_at" s_Laid__number_at ["self", "at"]
  b_words_at : MdT K C.B "words_at" "Laid.words_at" s_Laid__words_at ["self", "at"]
  d_addresses_in : DfT K mg "addresses_in" s_addresses_in ["store", "found"]
  d_room_of : DfT K mg "room_of" s_room_of ["store", "found"]
  d_come_to : DfT K mg "come_to" s_come_to ["store", "begins", "is_tie_followed"]
  d_worth_of : DfT K mg "worth_of" s_worth_of ["store", "word"]
  d_meaning_from : DfT K mg "meaning_from" s_meaning_from ["store", "roots"]
  h_word_held : MdT K C.H "word_held" "Heap.word_held" s_Heap__word_held ["self", "handle"]
  h_address_held : MdT K C.H "address_held" "Heap.address_held" s_Heap__address_held ["self", "handle"]
  h_is_item : MdT K C.H "is_item" "Heap.is_item" s_Heap__is_item ["self", "thing"]
  h_word_of_item : MdT K C.H "word_of_item" "Heap.word_of_item" s_Heap__word_of_item ["self", "item"]
  h_address_with_place : MdT K C.H "address_with_place" "Heap.address_with_place" s_Heap__address_with_place ["self", "handle", "place"]
  h_give_handle : MdT K C.H "give_handle" "Heap.give_handle" s_Heap__give_handle ["self", "word"]
  h_drop : MdT K C.H "drop" "Heap.drop" s_Heap__drop ["self", "handle"]
  h_root_pairs : MdT K C.H "root_pairs" "Heap.root_pairs" s_Heap__root_pairs ["self"]
  h_come_to_from_handles : MdT K C.H "come_to_from_handles" "Heap.come_to_from_handles" s_Heap__come_to_from_handles ["self", "is_tie_followed"]
  h_filled : MdT K C.H "filled" "Heap.filled" s_Heap__filled ["self"]
  h_meaning : MdT K C.H "meaning" "Heap.meaning" s_Heap__meaning ["self"]
  h_turn : MdT K C.H "turn" "Heap.turn" s_Heap__turn ["self"]
  h_write : MdT K C.H "write" "Heap.write" s_Heap__write ["self", "handle", "place", "item"]
  h_make : MdT K C.H "make" "Heap.make" s_Heap__make ["self", "sort", "items"]
  d_check_room : DfT K mg "check_room" s_check_room ["thing"]
  i_Laid : UnT K mg "Laid" "Laid.__init__" s_Laid____init__ ["self", "words"]
  c_Bound : CkT K mg "Bound" "Bound.__init__" C.B s_Bound____init__ ["self", "room", "owner"]
  d_store_for : DfT K mg "store_for" s_store_for ["room", "owner"]
  c_Heap : CkT K mg "Heap" "Heap.__init__" C.H s_Heap____init__ ["self", "room"]
  c_Room : CkT K mg "Room" "Room.__init__" C.R s_Room____init__ ["self", "young", "old", "pace"]
  d__law_bag : DfT K mg "_law_bag" s__law_bag ["script"]
  d__law_pick : DfT K mg "_law_pick" s__law_pick ["bag", "many"]
  d__law_some : DfT K mg "_law_some" s__law_some ["bag", "things"]
  d__law_is : DfT K mg "_law_is" s__law_is ["found", "due"]
  d__law_int : DfT K mg "_law_int" s__law_int ["thing", "least", "most"]
  d__law_graph : DfT K mg "_law_graph" s__law_graph []
  d__law_worth : DfT K mg "_law_worth" s__law_worth ["graph", "item"]
  d__law_given : DfT K mg "_law_given" s__law_given ["graph", "worth"]
  d__law_flood : DfT K mg "_law_flood" s__law_flood ["graph", "is_tie_led"]
  d__law_filled : DfT K mg "_law_filled" s__law_filled ["graph"]
  d__law_meaning : DfT K mg "_law_meaning" s__law_meaning ["graph"]
  d__law_plain_word : DfT K mg "_law_plain_word" s__law_plain_word ["bag"]
  d__law_item : DfT K mg "_law_item" s__law_item ["bag", "graph"]
  d__law_items : DfT K mg "_law_items" s__law_items ["bag", "graph", "sort", "most"]
  d__law_ring_deed : DfT K mg "_law_ring_deed" s__law_ring_deed ["bag", "graph", "most"]
  d__law_size : DfT K mg "_law_size" s__law_size ["deed"]
  d__law_wished : DfT K mg "_law_wished" s__law_wished ["graph", "deed"]
  d__law_done : DfT K mg "_law_done" s__law_done ["graph", "deed"]
  d__law_called : DfT K mg "_law_called" s__law_called ["heap", "deed"]
  d__law_put : DfT K mg "_law_put" s__law_put ["bag", "heap", "graph", "deed", "due"]
def sp_law (K : PySem.W.Frag) : Sp := fun vs H Q _ => ∃ (l : Addr) (ns : List Int), vs = [.ref l] ∧ SqL K H l (ns.map V.int) ∧ ns.length ≤ 63 ∧ ∀ H', Q (.bl true) H'
theorem law_of (T : Txt K mg base) (T5 : Txt5 K w mg) (TN : TxtN K w T5) (C : Cs K) (C2 : Cs2 K mg C) (BT : FullT K mg) (I : AllI K mg C C2) {f : Addr} {fd : FuncData} (F : Fun K "law" "law" s_law f fd) : FnG P w K mg base 11 f fd ["script"] (sp_law K) := by
  let BF : ExcT P w K mg base "HeapFull" ["self", "taken"] sp_bad_init := ⟨BT.C, BT.fI, BT.fd, BT.gC, BT.T, BT.iC, BT.tI, ok_bad_init BT.T BT.hno BT.F, BT.b⟩
  have p_d_is_integer := I.d_is_integer.on (ok_is_integer (P := P) (w := w) (base := base) T I.d_is_integer.F)
  have p_d_is_of_tag := I.d_is_of_tag.on (ok_is_of_tag (P := P) (w := w) (base := base) T I.d_is_of_tag.F p_d_is_integer)
  have p_d_is_word := I.d_is_word.on (ok_is_word (P := P) (w := w) (base := base) T I.d_is_word.F p_d_is_integer p_d_is_of_tag)
  have p_d_is_things := I.d_is_things.on (ok_isthings (P := P) (w := w) (base := base) T T5 I.d_is_things.F)
  have p_d_is_sign := I.d_is_sign.on (ok_issign (P := P) (w := w) (base := base) T T5 I.d_is_sign.F)
  have p_d_is_signs := I.d_is_signs.on (ok_issigns (P := P) (w := w) (base := base) T I.d_is_signs.F p_d_is_sign)
  have p_d_may_be_many := I.d_may_be_many.on (ok_maymany (P := P) (w := w) (base := base) T T5 I.d_may_be_many.F)
  have p_d_may_stand := I.d_may_stand.on (ok_maystand (P := P) (w := w) (base := base) T T5 I.d_may_stand.F p_d_is_signs p_d_is_things)
  have p_d_may_be := I.d_may_be.on (ok_maybe (P := P) (w := w) (base := base) T I.d_may_be.F p_d_may_be_many p_d_may_stand)
  have p_b_begin_of := I.b_begin_of.on (ok_bbegin (P := P) (w := w) (base := base) (mg := mg) C I.b_begin_of.F)
  have p_b_end_of := I.b_end_of.on (ok_bend (P := P) (w := w) (base := base) T T5 C I.b_end_of.F)
  have p_b_moved := I.b_moved.on (ok_bmoved (P := P) (w := w) (base := base) T T5 C I.b_moved.F)
  have p_b_lead_on := I.b_lead_on.on (ok_bleadon (P := P) (w := w) (base := base) T T5 C I.b_lead_on.F p_b_moved)
  have p_h_root_rows := I.h_root_rows.on (ok_hrows (P := P) (w := w) (base := base) T C I.h_root_rows.F)
  have p_b_lead_roots := I.b_lead_roots.on (ok_bleadroots (P := P) (w := w) (base := base) T T5 C I.b_lead_roots.F p_b_moved p_h_root_rows)
  have p_b_filled_words := I.b_filled_words.on (ok_bfilled (P := P) (w := w) (base := base) (mg := mg) C I.b_filled_words.F p_b_begin_of)
  have p_b_remember := I.b_remember.on (ok_bremember (P := P) (w := w) (base := base) T C I.b_remember.F p_d_is_things)
  have p_b_empty_nursery := I.b_empty_nursery.on (ok_bempty (P := P) (w := w) (base := base) (mg := mg) C I.b_empty_nursery.F)
  have p_b_change_halves := I.b_change_halves.on (ok_bchange (P := P) (w := w) (base := base) (mg := mg) C I.b_change_halves.F p_b_begin_of)
  have p_b_end_if_done := I.b_end_if_done.on (ok_bendif (P := P) (w := w) (base := base) (mg := mg) C I.b_end_if_done.F)
  have p_b_write := I.b_write.on (ok_bwrite (P := P) (w := w) (base := base) T T5 C I.b_write.F p_b_remember)
  have p_b_lead_left := I.b_lead_left.on (ok_bleadleft (P := P) (w := w) (base := base) T C I.b_lead_left.F p_b_begin_of p_b_lead_on)
  have p_b_gather := I.b_gather.on (ok_bgather (P := P) (w := w) (base := base) T T5 C I.b_gather.F p_b_end_of p_b_lead_on p_b_lead_roots p_b_empty_nursery)
  have p_b_steps := I.b_steps.on (ok_bsteps (P := P) (w := w) (base := base) T T5 C I.b_steps.F p_b_end_of p_b_lead_left p_b_end_if_done)
  have p_b_end_turn := I.b_end_turn.on (ok_bendturn (P := P) (w := w) (base := base) T C I.b_end_turn.F p_b_steps)
  have p_b_turn := I.b_turn.on (ok_bturn (P := P) (w := w) (base := base) T T5 C I.b_turn.F p_b_begin_of p_b_gather p_b_change_halves p_b_lead_roots p_b_end_if_done)
  have p_b_copy_all := I.b_copy_all.on (ok_bcopyall (P := P) (w := w) (base := base) T T5 C I.b_copy_all.F p_b_end_of p_b_lead_on p_b_lead_roots p_b_empty_nursery p_b_change_halves)
  have p_b_whole := I.b_whole.on (ok_bwhole (P := P) (w := w) (base := base) T T5 C I.b_whole.F p_b_end_turn p_b_copy_all)
  have p_b_reserve := I.b_reserve.on (ok_breserve2 (P := P) (w := w) (base := base) T T5 C BF I.b_reserve.F p_b_filled_words p_b_end_turn p_b_whole p_b_gather)
  have p_b_place := I.b_place.on (ok_bplace (P := P) (w := w) (base := base) T T5 TN C I.b_place.F p_b_remember p_b_steps)
  have p_b_settled := I.b_settled.on (ok_bsettled (P := P) (w := w) (base := base) (mg := mg) C I.b_settled.F)
  have p_b_sort_at := I.b_sort_at.on (ok_bsortat (P := P) (w := w) (base := base) T T5 C I.b_sort_at.F)
  have p_b_size_at := I.b_size_at.on (ok_bsizeat (P := P) (w := w) (base := base) T C I.b_size_at.F)
  have p_b_number_at := I.b_number_at.on (ok_bnumat (P := P) (w := w) (base := base) (mg := mg) C I.b_number_at.F)
  have p_b_words_at := I.b_words_at.on (ok_bwordsat (P := P) (w := w) (base := base) T T5 C I.b_words_at.F)
  have p_d_addresses_in := I.d_addresses_in.on (ok_addrs (P := P) (w := w) (base := base) T C I.d_addresses_in.F p_d_is_things p_b_settled)
  have p_d_room_of := I.d_room_of.on (ok_roomof (P := P) (w := w) (base := base) T T5 C I.d_room_of.F p_b_size_at)
  have p_d_come_to := I.d_come_to.on (ok_cometo (P := P) (w := w) (base := base) T C I.d_come_to.F p_d_addresses_in p_b_number_at p_b_sort_at p_b_words_at)
  have p_d_worth_of := I.d_worth_of.on (ok_worthof (P := P) (w := w) (base := base) T C I.d_worth_of.F p_d_is_things p_b_settled p_b_number_at)
  have p_d_meaning_from := I.d_meaning_from.on (ok_meanfrom (P := P) (w := w) (base := base) T C I.d_meaning_from.F p_d_worth_of p_d_come_to p_b_words_at p_b_sort_at)
  have p_h_word_held := I.h_word_held.on (ok_hword (P := P) (w := w) (base := base) (mg := mg) C I.h_word_held.F p_d_is_integer)
  have p_h_address_held := I.h_address_held.on (ok_haddr (P := P) (w := w) (base := base) T C I.h_address_held.F p_d_is_things p_h_word_held)
  have p_h_is_item := I.h_is_item.on (ok_hisitem (P := P) (w := w) (base := base) T C I.h_is_item.F p_d_is_integer p_d_is_things p_d_is_word)
  have p_h_word_of_item := I.h_word_of_item.on (ok_hworth (P := P) (w := w) (base := base) T C I.h_word_of_item.F)
  have p_h_address_with_place := I.h_address_with_place.on (ok_haddrp (P := P) (w := w) (base := base) T C I.h_address_with_place.F p_d_is_integer p_h_address_held p_b_size_at)
  have p_h_give_handle := I.h_give_handle.on (ok_hgive (P := P) (w := w) (base := base) T C I.h_give_handle.F)
  have p_h_drop := I.h_drop.on (ok_hdrop (P := P) (w := w) (base := base) (mg := mg) C I.h_drop.F p_h_word_held)
  have p_h_root_pairs := I.h_root_pairs.on (ok_hpairs (P := P) (w := w) (base := base) T C I.h_root_pairs.F)
  have p_h_come_to_from_handles := I.h_come_to_from_handles.on (ok_hcome (P := P) (w := w) (base := base) (mg := mg) C I.h_come_to_from_handles.F p_h_root_pairs p_d_come_to)
  have p_h_filled := I.h_filled.on (ok_hfilled (P := P) (w := w) (base := base) (mg := mg) C I.h_filled.F p_h_come_to_from_handles p_d_room_of)
  have p_h_meaning := I.h_meaning.on (ok_hmeaning (P := P) (w := w) (base := base) (mg := mg) C I.h_meaning.F p_h_root_pairs p_d_meaning_from)
  have p_h_turn := I.h_turn.on (ok_hturn (P := P) (w := w) (base := base) (mg := mg) C I.h_turn.F p_b_turn)
  have p_h_write := I.h_write.on (ok_hwrite (P := P) (w := w) (base := base) (mg := mg) C I.h_write.F p_h_address_with_place p_h_is_item p_h_word_of_item p_b_sort_at p_d_may_stand p_b_write)
  have p_h_make := I.h_make.on (ok_hmake2 (P := P) (w := w) (base := base) T T5 C BF.C I.h_make.F p_h_is_item p_h_word_of_item p_d_may_be p_b_reserve p_b_place p_h_give_handle)
  have p_d_check_room := I.d_check_room.on (ok_croom (P := P) (w := w) (base := base) T C C2 I.d_check_room.F)
  have p_i_Laid : LaidI P w K mg base C := ⟨I.i_Laid.C, I.i_Laid.g, I.i_Laid.f, I.i_Laid.fd, I.i_Laid.u, ok_linit (P := P) (w := w) (base := base) (mg := mg) C I.i_Laid.F, I.i_Laid.b⟩
  have p_c_Bound := I.c_Bound.on (ok_binit (P := P) (w := w) (base := base) T C p_i_Laid I.c_Bound.F)
  have p_d_store_for := I.d_store_for.on (ok_storefor (P := P) (w := w) (base := base) (mg := mg) C I.d_store_for.F p_c_Bound)
  have p_c_Heap := I.c_Heap.on (ok_hinit (P := P) (w := w) (base := base) (mg := mg) C I.c_Heap.F p_d_check_room p_d_store_for)
  have p_c_Room := I.c_Room.on (ok_rinit (P := P) (w := w) (base := base) T C I.c_Room.F p_d_is_integer)
  have p_d__law_bag := I.d__law_bag.on (ok_bag (P := P) (w := w) (base := base) T I.d__law_bag.F)
  have p_d__law_pick := I.d__law_pick.on (ok_pick (P := P) (w := w) (base := base) T I.d__law_pick.F)
  have p_d__law_some := I.d__law_some.on (ok_some (P := P) (w := w) (base := base) T I.d__law_some.F p_d__law_pick)
  have p_d__law_is := I.d__law_is.onG (ok_is (P := P) (w := w) (base := base) T I.d__law_is.F)
  have p_d__law_int := I.d__law_int.on (ok_int (P := P) (w := w) (base := base) T I.d__law_int.F)
  have p_d__law_graph := I.d__law_graph.on (ok_lgraph (P := P) (w := w) (base := base) T I.d__law_graph.F)
  have p_d__law_worth := I.d__law_worth.on (ok_lworth (P := P) (w := w) (base := base) T I.d__law_worth.F)
  have p_d__law_given := I.d__law_given.on (ok_lgiven (P := P) (w := w) (base := base) T I.d__law_given.F)
  have p_d__law_flood := I.d__law_flood.on (ok_lflood (P := P) (w := w) (base := base) T I.d__law_flood.F)
  have p_d__law_filled := I.d__law_filled.on (ok_lfilled (P := P) (w := w) (base := base) T I.d__law_filled.F p_d__law_flood)
  have p_d__law_meaning := I.d__law_meaning.on (ok_lmeaning (P := P) (w := w) (base := base) T I.d__law_meaning.F p_d__law_flood)
  have p_d__law_plain_word := I.d__law_plain_word.on (ok_plain (P := P) (w := w) (base := base) T I.d__law_plain_word.F p_d__law_pick p_d__law_some)
  have p_d__law_item := I.d__law_item.on (ok_litem (P := P) (w := w) (base := base) T I.d__law_item.F p_d__law_pick p_d__law_some p_d__law_plain_word)
  have p_d__law_items := I.d__law_items.on (ok_litems (P := P) (w := w) (base := base) T I.d__law_items.F p_d__law_pick p_d__law_item)
  have p_d__law_ring_deed := I.d__law_ring_deed.on (ok_ring (P := P) (w := w) (base := base) T I.d__law_ring_deed.F p_d__law_some p_d__law_items)
  have p_d__law_size := I.d__law_size.on (ok_lsize (P := P) (w := w) (base := base) T I.d__law_size.F)
  have p_d__law_wished := I.d__law_wished.on (ok_lwished (P := P) (w := w) (base := base) T I.d__law_wished.F p_d__law_filled p_d__law_size)
  have p_d__law_done := I.d__law_done.on (ok_ldone (P := P) (w := w) (base := base) T I.d__law_done.F p_d__law_worth p_d__law_given)
  have p_d__law_called := I.d__law_called.on (ok_lcalled (P := P) (w := w) (base := base) T C BF BT.XT BT.hno BT.hm1 I.d__law_called.F p_h_make p_h_drop p_h_write)
  have p_d__law_put := I.d__law_put.onG (ok_lput (P := P) (w := w) (base := base) T C I.d__law_put.F p_d__law_called p_d__law_size p_h_filled p_d__law_filled p_d__law_is p_d__law_done p_d__law_some)
  exact ok_law T C F p_d__law_bag p_d__law_pick p_d__law_some p_c_Heap p_c_Room p_d__law_graph p_d__law_ring_deed p_d__law_wished p_d__law_put p_d__law_is p_d__law_called p_d__law_done p_d__law_int p_h_turn p_h_meaning p_d__law_meaning p_h_filled p_d__law_filled
end
open LamX
/-! ### the law's call, with tables of code objects and what lies below -/
/-- the heap as it is tracked ahead of the law: the script, if the top has not written it, and the tables -/
def firstH (fr : Option HO) (a : Addr) (TT : List Addr) : Hp := fun b => if b = a then fr else if b ∈ TT then some (.tbl #[]) else none
theorem firstH_a {fr : Option HO} {a : Addr} {TT : List Addr} : firstH fr a TT a = fr := if_pos rfl
theorem firstH_t {fr : Option HO} {a b : Addr} {TT : List Addr} (n : b ≠ a) (m : b ∈ TT) : firstH fr a TT b = some (.tbl #[]) := by
  unfold firstH; rw [if_neg n, if_pos m]
theorem firstH_o {fr : Option HO} {a b : Addr} {TT : List Addr} (n : b ≠ a) (m : b ∉ TT) : firstH fr a TT b = none := by
  unfold firstH; rw [if_neg n, if_neg m]
/-- what the law's call is told of the heap -/
structure Begin (w : World) (K : PySem.W.Frag) (mg mb : Str → Option Value) (cs : List (Addr × Addr)) (aG : Addr) (a : Addr) (vs : List Value) (s : Shared) : Prop where
  kin : K.In s.heap
  g : s.heap.Ns mainGlobals mg
  b : s.heap.Ns builtinsNs mb
  bb : ∀ x : Str, x ≠ "__name__" → mb x = bootBuiltins x
  lim : s.heap.NoLimit
  gens : s.gens = #[]
  tab : ∀ p ∈ cs, s.heap.get? p.2 = some { cls := .none, data := .fields #[] }
  noK : ∀ p ∈ cs, K.lookup p.2 = none
  code : ∀ p ∈ cs, PySem.W.CodeHd s.heap p.1 p.2
  bm : ∃ (m : Addr) (ob : Obj), mg "__builtins__" = some (.ref m) ∧ m ≠ builtinsNs ∧ s.heap.get? m = some ob ∧ ob.cls = .type "module" ∧ ob.dict = some builtinsNs ∧ ob.data = .plain
  scr : s.heap.get? a = some { cls := .type "list", data := .seq vs.toArray }
  low : Low s.heap aG greats
theorem law_run {P : Program} {w : World} {K : PySem.W.Frag} {mg mb : Str → Option Value} {k : Nat} {fa a aG : Addr} {cs : List (Addr × Addr)} {fd : FuncData} {sp : Sp} {s : Shared} {vs : List Value} {ns : List Int}
    (B : Begin w K mg mb cs aG a vs s) (hi : IntsAre vs ns) (few : ns.length ≤ 63) (room : Room k callerA)
    (prom : ∀ low : Heap, K.In low → low.Ns mainGlobals mg → (∀ p ∈ cs, TabB low mg p.1 p.2) → Low low aG greats → FnG P w K mg low k fa fd ["script"] sp) (bind : ∀ (s : Shared) (u : Value), BindsTo s fd ⟨[u], []⟩ [("script", u)])
    (want : ∀ H : Hp, (∀ p ∈ cs, H p.2 = some (.tbl #[])) → SqL K H a (ns.map V.int) → sp [.ref a] H (fun v _ => v = .bl true) E0) :
    codeAny (model P w) callerA (.call (.ref fa) ⟨[.ref a], []⟩) (fun r s' => r = .ok (.ret (.bool true)) ∧ OldK s.heap s'.heap ∧ s'.os = s.os ∧ AllBare s'.gens) s := by
  have vals := vals_ints hi
  have many := hi.length
  have line := sizeLine_eq
  let TT : List Addr := cs.map (·.2)
  have inT : ∀ p ∈ cs, p.2 ∈ TT := fun p m => List.mem_map.mpr ⟨p, m, rfl⟩
  have objT : ∀ b ∈ TT, s.heap.get? b = some { cls := .none, data := .fields #[] } := fun b m => by
    obtain ⟨p, m', e⟩ := List.mem_map.mp m
    rw [← e]; exact B.tab p m'
  have noKT : ∀ b ∈ TT, K.lookup b = none := fun b m => by
    obtain ⟨p, m', e⟩ := List.mem_map.mp m
    rw [← e]; exact B.noK p m'
  have offT : ∀ {b : Addr} {o : Obj}, s.heap.get? b = some o → o.data ≠ .fields #[] → b ∉ TT := fun e d m => by
    rw [objT _ m] at e
    exact d (congrArg Obj.data (Option.some.inj e)).symm
  have offA : ∀ {b : Addr} {o : Obj}, s.heap.get? b = some o → o.cls ≠ .type "list" → b ≠ a := fun e c z => by
    rw [z, B.scr] at e
    exact c (congrArg Obj.cls (Option.some.inj e)).symm
  have aT : a ∉ TT := offT B.scr (fun z => by cases z)
  let fr : Option HO := if (K.lookup a).isSome then none else some (.frz { cls := .type "list", data := .seq vs.toArray } (.lst (ns.map V.int)))
  have frN : ∀ o, K.lookup a = some o → fr = none := fun o e => if_pos (by rw [e]; rfl)
  have frS : K.lookup a = none → fr = some (.frz { cls := .type "list", data := .seq vs.toArray } (.lst (ns.map V.int))) := fun e => if_neg (by rw [e]; exact Bool.false_ne_true)
  have cases_ : ∀ {b : Addr} {u : HO}, firstH fr a TT b = some u → (b = a ∧ u = .frz { cls := .type "list", data := .seq vs.toArray } (.lst (ns.map V.int))) ∨ (b ∈ TT ∧ u = .tbl #[]) := fun {b u} e => by
    by_cases ea : b = a
    · rw [ea, firstH_a] at e
      cases hk : K.lookup a with
      | none => rw [frS hk] at e; exact .inl ⟨ea, (Option.some.inj e).symm⟩
      | some o => rw [frN o hk] at e; cases e
    · by_cases et : b ∈ TT
      · rw [firstH_t ea et] at e
        exact .inr ⟨et, (Option.some.inj e).symm⟩
      · rw [firstH_o ea et] at e; cases e
  have tabsH : ∀ p ∈ cs, firstH fr a TT p.2 = some (.tbl #[]) := fun p m => firstH_t (fun z => aT (z ▸ inT p m)) (inT p m)
  have seen : SqL K (firstH fr a TT) a (ns.map V.int) := by
    cases hk : K.lookup a with
    | none => exact .inl (.inr ⟨{ cls := .type "list", data := .seq vs.toArray }, firstH_a.trans (frS hk)⟩)
    | some o =>
      have e := B.kin a o hk
      rw [B.scr] at e
      obtain rfl := (Option.some.inj e)
      exact .inr ⟨_, vs.toArray, _, hk, rfl, rfl, rfl, by rw [List.size_toArray, many]; omega, by simpa using vals⟩
  have hok : HOk P w (firstH fr a TT) s.heap := fun b u e => by
    rcases cases_ e with ⟨eb, eu⟩ | ⟨eb, eu⟩
    · rw [eb, eu]
      exact ⟨B.scr, by rw [List.length_map]; omega, vs, _, vals, B.scr⟩
    · rw [eu]; exact objT b eb
  have down : ∀ {b : Addr} {o : Obj}, s.heap.get? b = some o → o.cls ≠ .type "list" → o.data ≠ .fields #[] → (hidT s.heap (firstH fr a TT)).get? b = some o := fun e c d => hidT_get e (firstH_o (offA e c) (offT e d))
  have downD : ∀ {b : Addr} {o : Obj} {es : Array DictEntry} {n : Nat}, s.heap.get? b = some o → o.data = .dict es n → (hidT s.heap (firstH fr a TT)).get? b = some o := fun {b o es n} e d => by
    refine hidT_get e (firstH_o (fun z => ?_) (offT e (fun z => by rw [d] at z; cases z)))
    rw [z, B.scr] at e
    rw [← Option.some.inj e] at d
    cases d
  have downN : ∀ {b : Addr} {m : Str → Option Value}, s.heap.Ns b m → (hidT s.heap (firstH fr a TT)).Ns b m := fun ⟨o, es, n, e, d, r⟩ => ⟨o, es, n, downD e d, d, r⟩
  have kin : K.In (hidT s.heap (firstH fr a TT)) := fun b o e => by
    refine hidT_get (B.kin b o e) ?_
    by_cases ea : b = a
    · rw [ea, firstH_a]
      exact frN o (ea ▸ e)
    · refine firstH_o ea fun m => ?_
      rw [noKT b m] at e; cases e
  have low : Low (hidT s.heap (firstH fr a TT)) aG greats := by
    obtain ⟨its, rv, o, e, c, n, d⟩ := B.low.ex
    exact ⟨⟨its, rv, o, down e (by rw [c]; intro z; exact absurd (Value.type.inj z) (by decide)) (by rw [d]; intro z; cases z), c, n, d⟩, B.low.sz⟩
  have ground : L2.Mod K mg (hidT s.heap (firstH fr a TT)) := by
    obtain ⟨mc, x1, x2⟩ := B.lim
    exact ⟨kin, downN B.g, ⟨mb, downN B.b, B.bb⟩, ⟨mc, downN x1, x2⟩⟩
  have tabB : ∀ p ∈ cs, TabB (hidT s.heap (firstH fr a TT)) mg p.1 p.2 := fun p m => by
    have tp := B.tab p m
    refine ⟨?_, ?_, fun z => ?_⟩
    · obtain ⟨o, us, file, tf, flags, tg, inF, text, tt, e, c, d, r3, r⟩ := B.code p m
      refine ⟨o, us, file, tf, flags, tg, inF, text, tt, down e (by rw [c]; intro z; exact absurd (Value.type.inj z) (by decide)) (fun z => ?_), c, d, r3, r⟩
      rw [d] at z
      cases z
      simp at r3
    · obtain ⟨m0, ob, b1, b2, b3, b4, b5, b6⟩ := B.bm
      have n1 : m0 ≠ mainGlobals := fun z => by
        obtain ⟨o, es, n, e, d, _⟩ := B.g
        rw [z, e] at b3
        rw [Option.some.inj b3, b6] at d; cases d
      have n2 : m0 ≠ p.2 := fun z => by
        rw [z, tp] at b3
        rw [← Option.some.inj b3] at b6; cases b6
      exact ⟨m0, ob, b1, b2, n1, n2, down b3 (by rw [b4]; intro z; exact absurd (Value.type.inj z) (by decide)) (by rw [b6]; intro z; cases z), b4, b5, b6⟩
    · obtain ⟨o, es, n, e, d, _⟩ := B.g
      rw [z, tp] at e
      rw [← Option.some.inj e] at d; cases d
  have e0 : Env0 P w K mg (hidT s.heap (firstH fr a TT)) callerA [] s (firstH fr a TT) :=
    ⟨rfl, ground, fun b o e => of_hidT e, Nat.le_of_eq (hidT_size _ _), trivial, fun b m => absurd (show b ∈ ([] : List Addr) from m) (by simp), hok, .of_eq B.gens⟩
  refine codeAny_mono ((prom _ kin (downN B.g) tabB low).runG callerA [] s (firstH fr a TT) ⟨[.ref a], []⟩ [.ref a] [.ref a] (fun v _ => v = .bl true) E0 rfl room e0 (bind s (.ref a)) (.cons rfl .nil) (want _ tabsH seen)) fun res s' fin => ?_
  match res, fin with
  | .ok (.ret u), fin =>
    obtain ⟨v, H', os, bare, un, hok', rel, told⟩ := fin
    have told : v = .bl true := told
    subst told
    obtain rfl : u = Value.bool true := rel
    have grown : ∀ b ∈ TT, ∃ more : Array Value, s'.heap.get? b = some { cls := .none, data := .fields more } := fun b m => by
      obtain ⟨more, z⟩ := un.tbls b #[] (firstH_t (fun e => aT (e ▸ m)) m)
      exact ⟨_, hok' b _ z⟩
    have kept : ∀ b o, b ∉ TT → s.heap.get? b = some o → s'.heap.get? b = some o := fun b o nm e => by
      cases q : firstH fr a TT b with
      | none => exact un.keep b o e q (fun z => absurd (show b ∈ ([] : List Addr) from z) (by simp)) (by simp)
      | some x =>
        rcases cases_ q with ⟨eb, ex⟩ | ⟨eb, _⟩
        · rw [ex] at q
          have z := hok' b _ (un.frzs b _ _ q)
          rw [eb, B.scr] at e
          rw [← Option.some.inj e]
          exact z.1
        · exact absurd eb nm
    refine ⟨rfl, ⟨fun b o e => ?_, fun b o e => ?_⟩, os, bare⟩
    · by_cases m : b ∈ TT
      · obtain ⟨p, mp, ep⟩ := List.mem_map.mp m
        obtain ⟨more, gr⟩ := grown b m
        have tp := B.tab p mp
        have same : o = { cls := .none, data := .fields #[] } := Option.some.inj (e.symm.trans (objT b m))
        rw [same]
        refine .inr (.inl ⟨ep ▸ ((B.code p mp).tab tp).isCodeTable, rfl, #[], more, rfl, ?_⟩)
        rw [Array.empty_append]; exact gr
      · exact .inl (kept b o m e)
    · by_cases m : b ∈ TT
      · obtain ⟨more, gr⟩ := grown b m
        exact ⟨_, gr⟩
      · exact ⟨o, kept b o m e⟩
  | .error _, fin => exact (show False from fin).elim
/-- the last theorem's walk -/
theorem walk_ofG {l : PySem.W.OpenLaw} {k : Nat} {q : Program} {loose : List Str} {XP : (Str → Option Value) → Heap → Prop} {YP : World → Heap → Prop} {d : DefRec} (hn : l.most = some 63) (hdf : d.params.defaults = []) (room : Room k callerA)
    (F : ∀ (w : World) (mg : Str → Option Value) (fa : Addr) (h : Heap), YP w h → h.Ns mainGlobals mg → mg d.name = some (.ref fa) →
      ∃ (K : PySem.W.Frag) (aG : Addr) (fd : FuncData), K.In h ∧ Low h aG greats ∧ (∀ (s : Shared) (u : Value), BindsTo s fd ⟨[u], []⟩ [("script", u)]) ∧ ∀ low : Heap, K.In low → low.Ns mainGlobals mg → Low low aG greats → FnG l.prog w K mg low k fa fd ["script"] (sp_law K)) :
    PySem.W.WalkO q loose XP YP l.row.toRowW d [] (fun f vs => PySem.call f vs) := by
  refine Att.attach_call hn hdf fun w s0 s1 mg mb fa o pm cd doc a vs ns G Y ho hd hcd hmg hobj hints hlen hg => ?_
  obtain ⟨K, aG, fd, kin, low, binds, ok⟩ := F w mg fa _ Y G.T.g hmg
  have B : Begin w K mg mb [] aG a vs s1 := ⟨kin, G.T.g, G.T.b, G.T.builtins, G.T.nolimit, hg, fun p m => absurd m (by simp), fun p m => absurd m (by simp), fun p m => absurd m (by simp), G.T.bmain, hobj, low⟩
  exact law_run B hints hlen room (fun lo k1 g1 _ l1 => ok lo k1 g1 l1) binds fun H _ hs => ⟨a, ns, rfl, hs, hlen, fun _ => rfl⟩
end Wk
set_option maxRecDepth 100000
set_option maxHeartbeats 0
namespace HdR
open PySem PySem.Spec L2 Wk PyProof.Rows
open SX (S S_len)
theorem facts {P : Program} {w : World} {K : PySem.W.Frag} {h : Heap} {mg : Str → Option Value} {fa : Addr} (X : K.In h) (G : h.Ns mainGlobals mg) (hfa : mg "law" = some (.ref fa)) (c : Hd.Says fs w K) :
    ∃ (aG : Addr) (fd : FuncData), Low h aG greats ∧ (∀ (s : Shared) (u : Value), BindsTo s fd ⟨[u], []⟩ [("script", u)]) ∧ ∀ base : Heap, K.In base → base.Ns mainGlobals mg → Low base aG greats → FnG P w K mg base 11 fa fd ["script"] (sp_law K) := by
  obtain ⟨tTAGS, c_TAGS⟩ := c.it 14 (x := "TAGS") (j := 8) rfl
  obtain ⟨tINTEGER_TAG, c_INTEGER_TAG⟩ := c.it 15 (x := "INTEGER_TAG") (j := 1) rfl
  obtain ⟨tLEAST_INTEGER, c_LEAST_INTEGER⟩ := c.it 16 (x := "LEAST_INTEGER") (j := -(2 ^ 59)) rfl
  obtain ⟨tLEAST_YOUNG, c_LEAST_YOUNG⟩ := c.it 17 (x := "LEAST_YOUNG") (j := 8) rfl
  obtain ⟨tMOST_YOUNG, c_MOST_YOUNG⟩ := c.it 18 (x := "MOST_YOUNG") (j := 100000) rfl
  obtain ⟨tMOST_OLD, c_MOST_OLD⟩ := c.it 19 (x := "MOST_OLD") (j := 1000000) rfl
  obtain ⟨tMOST_PACE, c_MOST_PACE⟩ := c.it 20 (x := "MOST_PACE") (j := 1000) rfl
  obtain ⟨c_GREATEST, dGREATEST, iGREATEST, nGREATEST, sGREATEST, l_GREATEST, v_GREATEST⟩ := c.tu 21 (x := "GREATEST") (xs := greats) rfl
  obtain ⟨tTHING_TAG, c_THING_TAG⟩ := c.it 22 (x := "THING_TAG") (j := 0) rfl
  obtain ⟨tNIL_WORD, c_NIL_WORD⟩ := c.it 23 (x := "NIL_WORD") (j := 3) rfl
  obtain ⟨tTEXT_SORT, c_TEXT_SORT⟩ := c.it 24 (x := "TEXT_SORT") (j := 0) rfl
  obtain ⟨tTIE_SORT, c_TIE_SORT⟩ := c.it 25 (x := "TIE_SORT") (j := 5) rfl
  obtain ⟨tAHEAD, c_AHEAD⟩ := c.it 26 (x := "AHEAD") (j := 2) rfl
  obtain ⟨tMOST_WORDS, c_MOST_WORDS⟩ := c.it 27 (x := "MOST_WORDS") (j := 60000) rfl
  obtain ⟨tFIRST_SIGN, c_FIRST_SIGN⟩ := c.it 28 (x := "FIRST_SIGN") (j := 32) rfl
  obtain ⟨tLAST_SIGN, c_LAST_SIGN⟩ := c.it 29 (x := "LAST_SIGN") (j := 126) rfl
  obtain ⟨tBARRED_SIGN, c_BARRED_SIGN⟩ := c.it 30 (x := "BARRED_SIGN") (j := 37) rfl
  obtain ⟨tGATHERS, c_GATHERS⟩ := c.it 31 (x := "GATHERS") (j := 0) rfl
  obtain ⟨tTURNS, c_TURNS⟩ := c.it 32 (x := "TURNS") (j := 1) rfl
  obtain ⟨tLOOKS, c_LOOKS⟩ := c.it 33 (x := "LOOKS") (j := 2) rfl
  obtain ⟨tWHOLES, c_WHOLES⟩ := c.it 34 (x := "WHOLES") (j := 3) rfl
  obtain ⟨tMOST_STEPS, c_MOST_STEPS⟩ := c.it 35 (x := "MOST_STEPS") (j := 1000000000) rfl
  obtain ⟨c_SORTS, dSORTS, iSORTS, nSORTS, sSORTS, l_SORTS, v_SORTS⟩ := c.tu 36 (x := "SORTS") (xs := sortL.map fun x => V.str (Str.ofString x)) rfl
  obtain ⟨c_NUM, iNUM, nNUM, l_NUM, t_NUM, b_NUM, v_NUM⟩ := c.di 37 (x := "SORT_NUMBERS") (kvs := numsL) rfl
  have uBound := He.cls_ok (c.fa 38 (f := .cls "Bound") rfl)
  have uHeap := He.cls_ok (c.fa 51 (f := .cls "Heap") rfl)
  have uRoom := He.cls_ok (c.fa 55 (f := .cls "Room") rfl)
  obtain ⟨z1, z2, z3, z4⟩ := Hd.iiB_ok (c.ii 59 (x := "Room") rfl)
  obtain ⟨x_d_is_integer, _⟩ := dft_of (st := s_is_integer) (ps := ["thing"]) X G (c.fa 61 (f := .glo "is_integer") rfl) (c.df (d := d_is_integer) 62 rfl) (fun _ _ _ _ _ _ us hl => match us, hl with | [_], _ => rfl)
  obtain ⟨x_d_is_of_tag, _⟩ := dft_of (st := s_is_of_tag) (ps := ["tag", "payload"]) X G (c.fa 63 (f := .glo "is_of_tag") rfl) (c.df (d := d_is_of_tag) 64 rfl) (fun _ _ _ _ _ _ us hl => match us, hl with | [_, _], _ => rfl)
  obtain ⟨x_d_is_word, _⟩ := dft_of (st := s_is_word) (ps := ["thing"]) X G (c.fa 65 (f := .glo "is_word") rfl) (c.df (d := d_is_word) 66 rfl) (fun _ _ _ _ _ _ us hl => match us, hl with | [_], _ => rfl)
  obtain ⟨x_d_is_things, _⟩ := dft_of (st := s_is_things) (ps := ["word"]) X G (c.fa 67 (f := .glo "is_things") rfl) (c.df (d := d_is_things) 68 rfl) (fun _ _ _ _ _ _ us hl => match us, hl with | [_], _ => rfl)
  obtain ⟨x_d_is_sign, _⟩ := dft_of (st := s_is_sign) (ps := ["number"]) X G (c.fa 69 (f := .glo "is_sign") rfl) (c.df (d := d_is_sign) 70 rfl) (fun _ _ _ _ _ _ us hl => match us, hl with | [_], _ => rfl)
  obtain ⟨x_d_is_signs, _⟩ := dft_of (st := s_is_signs) (ps := ["word"]) X G (c.fa 71 (f := .glo "is_signs") rfl) (c.df (d := d_is_signs) 72 rfl) (fun _ _ _ _ _ _ us hl => match us, hl with | [_], _ => rfl)
  obtain ⟨x_d_may_be_many, _⟩ := dft_of (st := s_may_be_many) (ps := ["sort", "many"]) X G (c.fa 73 (f := .glo "may_be_many") rfl) (c.df (d := d_may_be_many) 74 rfl) (fun _ _ _ _ _ _ us hl => match us, hl with | [_, _], _ => rfl)
  obtain ⟨x_d_may_stand, _⟩ := dft_of (st := s_may_stand) (ps := ["sort", "place", "word"]) X G (c.fa 75 (f := .glo "may_stand") rfl) (c.df (d := d_may_stand) 76 rfl) (fun _ _ _ _ _ _ us hl => match us, hl with | [_, _, _], _ => rfl)
  obtain ⟨x_d_may_be, _⟩ := dft_of (st := s_may_be) (ps := ["sort", "found"]) X G (c.fa 77 (f := .glo "may_be") rfl) (c.df (d := d_may_be) 78 rfl) (fun _ _ _ _ _ _ us hl => match us, hl with | [_, _], _ => rfl)
  obtain ⟨x_b_begin_of⟩ := mdt_of (C := "Bound") (x := "begin_of") (st := s_Bound__begin_of) (ps := ["self", "half"]) (c.fa 79 (f := .meth "Bound" "begin_of") rfl) (c.df (d := d_Bound__begin_of) 80 rfl) (fun _ _ _ _ _ _ us hl => match us, hl with | [_, _], _ => rfl)
  obtain ⟨x_b_end_of⟩ := mdt_of (C := "Bound") (x := "end_of") (st := s_Bound__end_of) (ps := ["self", "at"]) (c.fa 81 (f := .meth "Bound" "end_of") rfl) (c.df (d := d_Bound__end_of) 82 rfl) (fun _ _ _ _ _ _ us hl => match us, hl with | [_, _], _ => rfl)
  obtain ⟨x_b_moved⟩ := mdt_of (C := "Bound") (x := "moved") (st := s_Bound__moved) (ps := ["self", "at"]) (c.fa 83 (f := .meth "Bound" "moved") rfl) (c.df (d := d_Bound__moved) 84 rfl) (fun _ _ _ _ _ _ us hl => match us, hl with | [_, _], _ => rfl)
  obtain ⟨x_b_lead_on⟩ := mdt_of (C := "Bound") (x := "lead_on") (st := s_Bound__lead_on) (ps := ["self", "places", "low", "high"]) (c.fa 85 (f := .meth "Bound" "lead_on") rfl) (c.df (d := d_Bound__lead_on) 86 rfl) (fun _ _ _ _ _ _ us hl => match us, hl with | [_, _, _, _], _ => rfl)
  obtain ⟨x_h_root_rows⟩ := mdt_of (C := "Heap") (x := "root_rows") (st := s_Heap__root_rows) (ps := ["self"]) (c.fa 87 (f := .meth "Heap" "root_rows") rfl) (c.df (d := d_Heap__root_rows) 88 rfl) (fun _ _ _ _ _ _ us hl => match us, hl with | [_], _ => rfl)
  obtain ⟨x_b_lead_roots⟩ := mdt_of (C := "Bound") (x := "lead_roots") (st := s_Bound__lead_roots) (ps := ["self", "low", "high"]) (c.fa 89 (f := .meth "Bound" "lead_roots") rfl) (c.df (d := d_Bound__lead_roots) 90 rfl) (fun _ _ _ _ _ _ us hl => match us, hl with | [_, _, _], _ => rfl)
  obtain ⟨x_b_filled_words⟩ := mdt_of (C := "Bound") (x := "filled_words") (st := s_Bound__filled_words) (ps := ["self"]) (c.fa 91 (f := .meth "Bound" "filled_words") rfl) (c.df (d := d_Bound__filled_words) 92 rfl) (fun _ _ _ _ _ _ us hl => match us, hl with | [_], _ => rfl)
  obtain ⟨x_b_remember⟩ := mdt_of (C := "Bound") (x := "remember") (st := s_Bound__remember) (ps := ["self", "place", "word"]) (c.fa 93 (f := .meth "Bound" "remember") rfl) (c.df (d := d_Bound__remember) 94 rfl) (fun _ _ _ _ _ _ us hl => match us, hl with | [_, _, _], _ => rfl)
  obtain ⟨x_b_empty_nursery⟩ := mdt_of (C := "Bound") (x := "empty_nursery") (st := s_Bound__empty_nursery) (ps := ["self"]) (c.fa 95 (f := .meth "Bound" "empty_nursery") rfl) (c.df (d := d_Bound__empty_nursery) 96 rfl) (fun _ _ _ _ _ _ us hl => match us, hl with | [_], _ => rfl)
  obtain ⟨x_b_change_halves⟩ := mdt_of (C := "Bound") (x := "change_halves") (st := s_Bound__change_halves) (ps := ["self"]) (c.fa 97 (f := .meth "Bound" "change_halves") rfl) (c.df (d := d_Bound__change_halves) 98 rfl) (fun _ _ _ _ _ _ us hl => match us, hl with | [_], _ => rfl)
  obtain ⟨x_b_end_if_done⟩ := mdt_of (C := "Bound") (x := "end_if_done") (st := s_Bound__end_if_done) (ps := ["self"]) (c.fa 99 (f := .meth "Bound" "end_if_done") rfl) (c.df (d := d_Bound__end_if_done) 100 rfl) (fun _ _ _ _ _ _ us hl => match us, hl with | [_], _ => rfl)
  obtain ⟨x_b_write⟩ := mdt_of (C := "Bound") (x := "write") (st := s_Bound__write) (ps := ["self", "at", "place", "word"]) (c.fa 101 (f := .meth "Bound" "write") rfl) (c.df (d := d_Bound__write) 102 rfl) (fun _ _ _ _ _ _ us hl => match us, hl with | [_, _, _, _], _ => rfl)
  obtain ⟨x_b_lead_left⟩ := mdt_of (C := "Bound") (x := "lead_left") (st := s_Bound__lead_left) (ps := ["self", "begin", "end"]) (c.fa 103 (f := .meth "Bound" "lead_left") rfl) (c.df (d := d_Bound__lead_left) 104 rfl) (fun _ _ _ _ _ _ us hl => match us, hl with | [_, _, _], _ => rfl)
  obtain ⟨x_b_gather⟩ := mdt_of (C := "Bound") (x := "gather") (st := s_Bound__gather) (ps := ["self"]) (c.fa 105 (f := .meth "Bound" "gather") rfl) (c.df (d := d_Bound__gather) 106 rfl) (fun _ _ _ _ _ _ us hl => match us, hl with | [_], _ => rfl)
  obtain ⟨x_b_steps⟩ := mdt_of (C := "Bound") (x := "steps") (st := s_Bound__steps) (ps := ["self", "many"]) (c.fa 107 (f := .meth "Bound" "steps") rfl) (c.df (d := d_Bound__steps) 108 rfl) (fun _ _ _ _ _ _ us hl => match us, hl with | [_, _], _ => rfl)
  obtain ⟨x_b_end_turn⟩ := mdt_of (C := "Bound") (x := "end_turn") (st := s_Bound__end_turn) (ps := ["self"]) (c.fa 109 (f := .meth "Bound" "end_turn") rfl) (c.df (d := d_Bound__end_turn) 110 rfl) (fun _ _ _ _ _ _ us hl => match us, hl with | [_], _ => rfl)
  obtain ⟨x_b_turn⟩ := mdt_of (C := "Bound") (x := "turn") (st := s_Bound__turn) (ps := ["self"]) (c.fa 111 (f := .meth "Bound" "turn") rfl) (c.df (d := d_Bound__turn) 112 rfl) (fun _ _ _ _ _ _ us hl => match us, hl with | [_], _ => rfl)
  obtain ⟨x_b_copy_all⟩ := mdt_of (C := "Bound") (x := "copy_all") (st := s_Bound__copy_all) (ps := ["self", "is_tie_followed"]) (c.fa 113 (f := .meth "Bound" "copy_all") rfl) (c.df (d := d_Bound__copy_all) 114 rfl) (fun _ _ _ _ _ _ us hl => match us, hl with | [_, _], _ => rfl)
  obtain ⟨x_b_whole⟩ := mdt_of (C := "Bound") (x := "whole") (st := s_Bound__whole) (ps := ["self"]) (c.fa 115 (f := .meth "Bound" "whole") rfl) (c.df (d := d_Bound__whole) 116 rfl) (fun _ _ _ _ _ _ us hl => match us, hl with | [_], _ => rfl)
  obtain ⟨x_b_reserve⟩ := mdt_of (C := "Bound") (x := "reserve") (st := s_Bound__reserve) (ps := ["self", "many"]) (c.fa 117 (f := .meth "Bound" "reserve") rfl) (c.df (d := d_Bound__reserve) 118 rfl) (fun _ _ _ _ _ _ us hl => match us, hl with | [_, _], _ => rfl)
  obtain ⟨x_b_place⟩ := mdt_of (C := "Bound") (x := "place") (st := s_Bound__place) (ps := ["self", "sort", "found"]) (c.fa 119 (f := .meth "Bound" "place") rfl) (c.df (d := d_Bound__place) 120 rfl) (fun _ _ _ _ _ _ us hl => match us, hl with | [_, _, _], _ => rfl)
  obtain ⟨x_b_settled⟩ := mdt_of (C := "Bound") (x := "settled") (st := s_Laid__settled) (ps := ["self", "at"]) (c.fa 121 (f := .meth "Bound" "settled") rfl) (c.df (d := d_Laid__settled) 122 rfl) (fun _ _ _ _ _ _ us hl => match us, hl with | [_, _], _ => rfl)
  obtain ⟨x_b_sort_at⟩ := mdt_of (C := "Bound") (x := "sort_at") (st := s_Laid__sort_at) (ps := ["self", "at"]) (c.fa 123 (f := .meth "Bound" "sort_at") rfl) (c.df (d := d_Laid__sort_at) 124 rfl) (fun _ _ _ _ _ _ us hl => match us, hl with | [_, _], _ => rfl)
  obtain ⟨x_b_size_at⟩ := mdt_of (C := "Bound") (x := "size_at") (st := s_Laid__size_at) (ps := ["self", "at"]) (c.fa 125 (f := .meth "Bound" "size_at") rfl) (c.df (d := d_Laid__size_at) 126 rfl) (fun _ _ _ _ _ _ us hl => match us, hl with | [_, _], _ => rfl)
  obtain ⟨x_b_number_at⟩ := mdt_of (C := "Bound") (x := "number_at") (st := s_Laid__number_at) (ps := ["self", "at"]) (c.fa 127 (f := .meth "Bound" "number_at") rfl) (c.df (d := d_Laid__number_at) 128 rfl) (fun _ _ _ _ _ _ us hl => match us, hl with | [_, _], _ => rfl)
  obtain ⟨x_b_words_at⟩ := mdt_of (C := "Bound") (x := "words_at") (st := s_Laid__words_at) (ps := ["self", "at"]) (c.fa 129 (f := .meth "Bound" "words_at") rfl) (c.df (d := d_Laid__words_at) 130 rfl) (fun _ _ _ _ _ _ us hl => match us, hl with | [_, _], _ => rfl)
  obtain ⟨x_d_addresses_in, _⟩ := dft_of (st := s_addresses_in) (ps := ["store", "found"]) X G (c.fa 131 (f := .glo "addresses_in") rfl) (c.df (d := d_addresses_in) 132 rfl) (fun _ _ _ _ _ _ us hl => match us, hl with | [_, _], _ => rfl)
  obtain ⟨x_d_room_of, _⟩ := dft_of (st := s_room_of) (ps := ["store", "found"]) X G (c.fa 133 (f := .glo "room_of") rfl) (c.df (d := d_room_of) 134 rfl) (fun _ _ _ _ _ _ us hl => match us, hl with | [_, _], _ => rfl)
  obtain ⟨x_d_come_to, _⟩ := dft_of (st := s_come_to) (ps := ["store", "begins", "is_tie_followed"]) X G (c.fa 135 (f := .glo "come_to") rfl) (c.df (d := d_come_to) 136 rfl) (fun _ _ _ _ _ _ us hl => match us, hl with | [_, _, _], _ => rfl)
  obtain ⟨x_d_worth_of, _⟩ := dft_of (st := s_worth_of) (ps := ["store", "word"]) X G (c.fa 137 (f := .glo "worth_of") rfl) (c.df (d := d_worth_of) 138 rfl) (fun _ _ _ _ _ _ us hl => match us, hl with | [_, _], _ => rfl)
  obtain ⟨x_d_meaning_from, _⟩ := dft_of (st := s_meaning_from) (ps := ["store", "roots"]) X G (c.fa 139 (f := .glo "meaning_from") rfl) (c.df (d := d_meaning_from) 140 rfl) (fun _ _ _ _ _ _ us hl => match us, hl with | [_, _], _ => rfl)
  obtain ⟨x_h_word_held⟩ := mdt_of (C := "Heap") (x := "word_held") (st := s_Heap__word_held) (ps := ["self", "handle"]) (c.fa 141 (f := .meth "Heap" "word_held") rfl) (c.df (d := d_Heap__word_held) 142 rfl) (fun _ _ _ _ _ _ us hl => match us, hl with | [_, _], _ => rfl)
  obtain ⟨x_h_address_held⟩ := mdt_of (C := "Heap") (x := "address_held") (st := s_Heap__address_held) (ps := ["self", "handle"]) (c.fa 143 (f := .meth "Heap" "address_held") rfl) (c.df (d := d_Heap__address_held) 144 rfl) (fun _ _ _ _ _ _ us hl => match us, hl with | [_, _], _ => rfl)
  obtain ⟨x_h_is_item⟩ := mdt_of (C := "Heap") (x := "is_item") (st := s_Heap__is_item) (ps := ["self", "thing"]) (c.fa 145 (f := .meth "Heap" "is_item") rfl) (c.df (d := d_Heap__is_item) 146 rfl) (fun _ _ _ _ _ _ us hl => match us, hl with | [_, _], _ => rfl)
  obtain ⟨x_h_word_of_item⟩ := mdt_of (C := "Heap") (x := "word_of_item") (st := s_Heap__word_of_item) (ps := ["self", "item"]) (c.fa 147 (f := .meth "Heap" "word_of_item") rfl) (c.df (d := d_Heap__word_of_item) 148 rfl) (fun _ _ _ _ _ _ us hl => match us, hl with | [_, _], _ => rfl)
  obtain ⟨x_h_address_with_place⟩ := mdt_of (C := "Heap") (x := "address_with_place") (st := s_Heap__address_with_place) (ps := ["self", "handle", "place"]) (c.fa 149 (f := .meth "Heap" "address_with_place") rfl) (c.df (d := d_Heap__address_with_place) 150 rfl) (fun _ _ _ _ _ _ us hl => match us, hl with | [_, _, _], _ => rfl)
  obtain ⟨x_h_give_handle⟩ := mdt_of (C := "Heap") (x := "give_handle") (st := s_Heap__give_handle) (ps := ["self", "word"]) (c.fa 151 (f := .meth "Heap" "give_handle") rfl) (c.df (d := d_Heap__give_handle) 152 rfl) (fun _ _ _ _ _ _ us hl => match us, hl with | [_, _], _ => rfl)
  obtain ⟨x_h_drop⟩ := mdt_of (C := "Heap") (x := "drop") (st := s_Heap__drop) (ps := ["self", "handle"]) (c.fa 153 (f := .meth "Heap" "drop") rfl) (c.df (d := d_Heap__drop) 154 rfl) (fun _ _ _ _ _ _ us hl => match us, hl with | [_, _], _ => rfl)
  obtain ⟨x_h_root_pairs⟩ := mdt_of (C := "Heap") (x := "root_pairs") (st := s_Heap__root_pairs) (ps := ["self"]) (c.fa 155 (f := .meth "Heap" "root_pairs") rfl) (c.df (d := d_Heap__root_pairs) 156 rfl) (fun _ _ _ _ _ _ us hl => match us, hl with | [_], _ => rfl)
  obtain ⟨x_h_come_to_from_handles⟩ := mdt_of (C := "Heap") (x := "come_to_from_handles") (st := s_Heap__come_to_from_handles) (ps := ["self", "is_tie_followed"]) (c.fa 157 (f := .meth "Heap" "come_to_from_handles") rfl) (c.df (d := d_Heap__come_to_from_handles) 158 rfl) (fun _ _ _ _ _ _ us hl => match us, hl with | [_, _], _ => rfl)
  obtain ⟨x_h_filled⟩ := mdt_of (C := "Heap") (x := "filled") (st := s_Heap__filled) (ps := ["self"]) (c.fa 159 (f := .meth "Heap" "filled") rfl) (c.df (d := d_Heap__filled) 160 rfl) (fun _ _ _ _ _ _ us hl => match us, hl with | [_], _ => rfl)
  obtain ⟨x_h_meaning⟩ := mdt_of (C := "Heap") (x := "meaning") (st := s_Heap__meaning) (ps := ["self"]) (c.fa 161 (f := .meth "Heap" "meaning") rfl) (c.df (d := d_Heap__meaning) 162 rfl) (fun _ _ _ _ _ _ us hl => match us, hl with | [_], _ => rfl)
  obtain ⟨x_h_turn⟩ := mdt_of (C := "Heap") (x := "turn") (st := s_Heap__turn) (ps := ["self"]) (c.fa 163 (f := .meth "Heap" "turn") rfl) (c.df (d := d_Heap__turn) 164 rfl) (fun _ _ _ _ _ _ us hl => match us, hl with | [_], _ => rfl)
  obtain ⟨x_h_write⟩ := mdt_of (C := "Heap") (x := "write") (st := s_Heap__write) (ps := ["self", "handle", "place", "item"]) (c.fa 165 (f := .meth "Heap" "write") rfl) (c.df (d := d_Heap__write) 166 rfl) (fun _ _ _ _ _ _ us hl => match us, hl with | [_, _, _, _], _ => rfl)
  obtain ⟨x_h_make⟩ := mdt_of (C := "Heap") (x := "make") (st := s_Heap__make) (ps := ["self", "sort", "items"]) (c.fa 167 (f := .meth "Heap" "make") rfl) (c.df (d := d_Heap__make) 168 rfl) (fun _ _ _ _ _ _ us hl => match us, hl with | [_, _, _], _ => rfl)
  obtain ⟨x_d_check_room, _⟩ := dft_of (st := s_check_room) (ps := ["thing"]) X G (c.fa 169 (f := .glo "check_room") rfl) (c.df (d := d_check_room) 170 rfl) (fun _ _ _ _ _ _ us hl => match us, hl with | [_], _ => rfl)
  obtain ⟨x_i_Laid⟩ := unt_of (x := "Laid") (st := s_Laid____init__) (ps := ["self", "words"]) X G (c.fa 171 (f := .glo "Laid") rfl) (c.un 172 (x := "Laid") (m := "__init__") rfl) (c.df (d := d_Laid____init__) 173 rfl) (fun _ _ _ _ _ _ us hl => match us, hl with | [_, _], _ => rfl)
  obtain ⟨x_c_Bound⟩ := ckt_of (x := "Bound") (st := s_Bound____init__) (ps := ["self", "room", "owner"]) X G (c.fa 174 (f := .glo "Bound") rfl) (c.fa 175 (f := .mkr "Bound") rfl) (c.fa 176 (f := .meth "Bound" "__init__") rfl) (c.df (d := d_Bound____init__) 177 rfl) (fun _ _ _ _ _ _ us hl => match us, hl with | [_, _, _], _ => rfl)
  obtain ⟨x_d_store_for, _⟩ := dft_of (st := s_store_for) (ps := ["room", "owner"]) X G (c.fa 178 (f := .glo "store_for") rfl) (c.df (d := d_store_for) 179 rfl) (fun _ _ _ _ _ _ us hl => match us, hl with | [_, _], _ => rfl)
  obtain ⟨x_c_Heap⟩ := ckt_of (x := "Heap") (st := s_Heap____init__) (ps := ["self", "room"]) X G (c.fa 180 (f := .glo "Heap") rfl) (c.fa 181 (f := .mkr "Heap") rfl) (c.fa 182 (f := .meth "Heap" "__init__") rfl) (c.df (d := d_Heap____init__) 183 rfl) (fun _ _ _ _ _ _ us hl => match us, hl with | [_, _], _ => rfl)
  obtain ⟨x_c_Room⟩ := ckt_of (x := "Room") (st := s_Room____init__) (ps := ["self", "young", "old", "pace"]) X G (c.fa 60 (f := .glo "Room") rfl) (c.fa 184 (f := .mkr "Room") rfl) (c.fa 185 (f := .meth "Room" "__init__") rfl) (c.df (d := d_Room____init__) 186 rfl) (fun _ _ _ _ _ _ us hl => match us, hl with | [_, _, _, _], _ => rfl)
  obtain ⟨x_d__law_bag, _⟩ := dft_of (st := s__law_bag) (ps := ["script"]) X G (c.fa 187 (f := .glo "_law_bag") rfl) (c.df (d := d__law_bag) 188 rfl) (fun _ _ _ _ _ _ us hl => match us, hl with | [_], _ => rfl)
  obtain ⟨x_d__law_pick, _⟩ := dft_of (st := s__law_pick) (ps := ["bag", "many"]) X G (c.fa 189 (f := .glo "_law_pick") rfl) (c.df (d := d__law_pick) 190 rfl) (fun _ _ _ _ _ _ us hl => match us, hl with | [_, _], _ => rfl)
  obtain ⟨x_d__law_some, _⟩ := dft_of (st := s__law_some) (ps := ["bag", "things"]) X G (c.fa 191 (f := .glo "_law_some") rfl) (c.df (d := d__law_some) 192 rfl) (fun _ _ _ _ _ _ us hl => match us, hl with | [_, _], _ => rfl)
  obtain ⟨x_d__law_is, _⟩ := dft_of (st := s__law_is) (ps := ["found", "due"]) X G (c.fa 193 (f := .glo "_law_is") rfl) (c.df (d := d__law_is) 194 rfl) (fun _ _ _ _ _ _ us hl => match us, hl with | [_, _], _ => rfl)
  obtain ⟨x_d__law_int, _⟩ := dft_of (st := s__law_int) (ps := ["thing", "least", "most"]) X G (c.fa 195 (f := .glo "_law_int") rfl) (c.df (d := d__law_int) 196 rfl) (fun _ _ _ _ _ _ us hl => match us, hl with | [_, _, _], _ => rfl)
  obtain ⟨x_d__law_graph, _⟩ := dft_of (st := s__law_graph) (ps := []) X G (c.fa 197 (f := .glo "_law_graph") rfl) (c.df (d := d__law_graph) 198 rfl) (fun _ _ _ _ _ _ us hl => match us, hl with | [], _ => rfl)
  obtain ⟨x_d__law_worth, _⟩ := dft_of (st := s__law_worth) (ps := ["graph", "item"]) X G (c.fa 199 (f := .glo "_law_worth") rfl) (c.df (d := d__law_worth) 200 rfl) (fun _ _ _ _ _ _ us hl => match us, hl with | [_, _], _ => rfl)
  obtain ⟨x_d__law_given, _⟩ := dft_of (st := s__law_given) (ps := ["graph", "worth"]) X G (c.fa 201 (f := .glo "_law_given") rfl) (c.df (d := d__law_given) 202 rfl) (fun _ _ _ _ _ _ us hl => match us, hl with | [_, _], _ => rfl)
  obtain ⟨x_d__law_flood, _⟩ := dft_of (st := s__law_flood) (ps := ["graph", "is_tie_led"]) X G (c.fa 203 (f := .glo "_law_flood") rfl) (c.df (d := d__law_flood) 204 rfl) (fun _ _ _ _ _ _ us hl => match us, hl with | [_, _], _ => rfl)
  obtain ⟨x_d__law_filled, _⟩ := dft_of (st := s__law_filled) (ps := ["graph"]) X G (c.fa 205 (f := .glo "_law_filled") rfl) (c.df (d := d__law_filled) 206 rfl) (fun _ _ _ _ _ _ us hl => match us, hl with | [_], _ => rfl)
  obtain ⟨x_d__law_meaning, _⟩ := dft_of (st := s__law_meaning) (ps := ["graph"]) X G (c.fa 207 (f := .glo "_law_meaning") rfl) (c.df (d := d__law_meaning) 208 rfl) (fun _ _ _ _ _ _ us hl => match us, hl with | [_], _ => rfl)
  obtain ⟨x_d__law_plain_word, _⟩ := dft_of (st := s__law_plain_word) (ps := ["bag"]) X G (c.fa 209 (f := .glo "_law_plain_word") rfl) (c.df (d := d__law_plain_word) 210 rfl) (fun _ _ _ _ _ _ us hl => match us, hl with | [_], _ => rfl)
  obtain ⟨x_d__law_item, _⟩ := dft_of (st := s__law_item) (ps := ["bag", "graph"]) X G (c.fa 211 (f := .glo "_law_item") rfl) (c.df (d := d__law_item) 212 rfl) (fun _ _ _ _ _ _ us hl => match us, hl with | [_, _], _ => rfl)
  obtain ⟨x_d__law_items, _⟩ := dft_of (st := s__law_items) (ps := ["bag", "graph", "sort", "most"]) X G (c.fa 213 (f := .glo "_law_items") rfl) (c.df (d := d__law_items) 214 rfl) (fun _ _ _ _ _ _ us hl => match us, hl with | [_, _, _, _], _ => rfl)
  obtain ⟨x_d__law_ring_deed, _⟩ := dft_of (st := s__law_ring_deed) (ps := ["bag", "graph", "most"]) X G (c.fa 215 (f := .glo "_law_ring_deed") rfl) (c.df (d := d__law_ring_deed) 216 rfl) (fun _ _ _ _ _ _ us hl => match us, hl with | [_, _, _], _ => rfl)
  obtain ⟨x_d__law_size, _⟩ := dft_of (st := s__law_size) (ps := ["deed"]) X G (c.fa 217 (f := .glo "_law_size") rfl) (c.df (d := d__law_size) 218 rfl) (fun _ _ _ _ _ _ us hl => match us, hl with | [_], _ => rfl)
  obtain ⟨x_d__law_wished, _⟩ := dft_of (st := s__law_wished) (ps := ["graph", "deed"]) X G (c.fa 219 (f := .glo "_law_wished") rfl) (c.df (d := d__law_wished) 220 rfl) (fun _ _ _ _ _ _ us hl => match us, hl with | [_, _], _ => rfl)
  obtain ⟨x_d__law_done, _⟩ := dft_of (st := s__law_done) (ps := ["graph", "deed"]) X G (c.fa 221 (f := .glo "_law_done") rfl) (c.df (d := d__law_done) 222 rfl) (fun _ _ _ _ _ _ us hl => match us, hl with | [_, _], _ => rfl)
  obtain ⟨x_d__law_called, _⟩ := dft_of (st := s__law_called) (ps := ["heap", "deed"]) X G (c.fa 223 (f := .glo "_law_called") rfl) (c.df (d := d__law_called) 224 rfl) (fun _ _ _ _ _ _ us hl => match us, hl with | [_, _], _ => rfl)
  obtain ⟨x_d__law_put, _⟩ := dft_of (st := s__law_put) (ps := ["bag", "heap", "graph", "deed", "due"]) X G (c.fa 225 (f := .glo "_law_put") rfl) (c.df (d := d__law_put) 226 rfl) (fun _ _ _ _ _ _ us hl => match us, hl with | [_, _, _, _, _], _ => rfl)
  obtain ⟨BT⟩ := full_of X G (c.ox 227 rfl) (c.fa 228 (f := .meth "HeapFull" "__init__") rfl) (c.df (d := d_HeapFull____init__) 229 rfl) (fun _ _ _ _ _ _ us hl => match us, hl with | [_, _], _ => rfl) (c.xf 230 rfl) (c.fa 231 (f := .noat "HeapFull" "taken") rfl) (c.fa 232 (f := .exm "HeapFull" "HeapFull" true) rfl)
  let T5 : Txt5 K w mg := {
    tTHING_TAG := tTHING_TAG, mTHING_TAG := PySem.W.mg_of X G c_THING_TAG,
    tNIL_WORD := tNIL_WORD, mNIL_WORD := PySem.W.mg_of X G c_NIL_WORD,
    tTEXT_SORT := tTEXT_SORT, mTEXT_SORT := PySem.W.mg_of X G c_TEXT_SORT,
    tTIE_SORT := tTIE_SORT, mTIE_SORT := PySem.W.mg_of X G c_TIE_SORT,
    tAHEAD := tAHEAD, mAHEAD := PySem.W.mg_of X G c_AHEAD,
    tMOST_WORDS := tMOST_WORDS, mMOST_WORDS := PySem.W.mg_of X G c_MOST_WORDS,
    tFIRST_SIGN := tFIRST_SIGN, mFIRST_SIGN := PySem.W.mg_of X G c_FIRST_SIGN,
    tLAST_SIGN := tLAST_SIGN, mLAST_SIGN := PySem.W.mg_of X G c_LAST_SIGN,
    tBARRED_SIGN := tBARRED_SIGN, mBARRED_SIGN := PySem.W.mg_of X G c_BARRED_SIGN,
    tGATHERS := tGATHERS, mGATHERS := PySem.W.mg_of X G c_GATHERS,
    tTURNS := tTURNS, mTURNS := PySem.W.mg_of X G c_TURNS,
    tLOOKS := tLOOKS, mLOOKS := PySem.W.mg_of X G c_LOOKS,
    tWHOLES := tWHOLES, mWHOLES := PySem.W.mg_of X G c_WHOLES,
    tMOST_STEPS := tMOST_STEPS, mMOST_STEPS := PySem.W.mg_of X G c_MOST_STEPS,
    aSORTS := _, mSORTS := PySem.W.mg_of X G c_SORTS, kSORTS := seq_K l_SORTS (Hd.size_of v_SORTS (Nat.le_of_ble_eq_true rfl)) v_SORTS,
    aNUMBERS := _, mNUMBERS := PySem.W.mg_of X G c_NUM }
  have TN : TxtN K w T5 := ⟨⟨⟨iNUM, nNUM, ⟨l_NUM, t_NUM, b_NUM⟩, v_NUM⟩⟩⟩
  let C : Cs K := {
    B := He.ga K "Bound",
    bcl := ⟨uBound.pg, uBound.hd, uBound.po, uBound.sa⟩,
    words := He.noat_ok (c.fa 39 (f := .noat "Bound" "words") rfl),
    room := He.noat_ok (c.fa 40 (f := .noat "Bound" "room") rfl),
    owner := He.noat_ok (c.fa 41 (f := .noat "Bound" "owner") rfl),
    use := He.noat_ok (c.fa 42 (f := .noat "Bound" "use") rfl),
    free := He.noat_ok (c.fa 43 (f := .noat "Bound" "free") rfl),
    scan := He.noat_ok (c.fa 44 (f := .noat "Bound" "scan") rfl),
    top := He.noat_ok (c.fa 45 (f := .noat "Bound" "top") rfl),
    left := He.noat_ok (c.fa 46 (f := .noat "Bound" "left") rfl),
    copied := He.noat_ok (c.fa 47 (f := .noat "Bound" "copied") rfl),
    rem := He.noat_ok (c.fa 48 (f := .noat "Bound" "remembered") rfl),
    last := He.noat_ok (c.fa 49 (f := .noat "Bound" "last") rfl),
    tally := He.noat_ok (c.fa 50 (f := .noat "Bound" "tally") rfl),
    H := He.ga K "Heap",
    hcl := ⟨uHeap.pg, uHeap.hd, uHeap.po, uHeap.sa⟩,
    handles := He.noat_ok (c.fa 52 (f := .noat "Heap" "handles") rfl),
    next := He.noat_ok (c.fa 53 (f := .noat "Heap" "next_handle") rfl),
    store := He.noat_ok (c.fa 54 (f := .noat "Heap" "store") rfl),
    R := He.ga K "Room",
    rcl := ⟨uRoom.pg, uRoom.hd, uRoom.po, uRoom.sa⟩,
    young := He.noat_ok (c.fa 56 (f := .noat "Room" "young") rfl),
    old := He.noat_ok (c.fa 57 (f := .noat "Room" "old") rfl),
    pace := He.noat_ok (c.fa 58 (f := .noat "Room" "pace") rfl) }
  let C2 : Cs2 K mg C := {
    gR := PySem.W.mg_of X G (He.eqO_ok (c.fa 60 (f := .glo "Room") rfl)),
    ha := z1, hn := z2, ht := z3, hm := z4 }
  let I : AllI K mg C C2 := {
    d_is_integer := x_d_is_integer,
    d_is_of_tag := x_d_is_of_tag,
    d_is_word := x_d_is_word,
    d_is_things := x_d_is_things,
    d_is_sign := x_d_is_sign,
    d_is_signs := x_d_is_signs,
    d_may_be_many := x_d_may_be_many,
    d_may_stand := x_d_may_stand,
    d_may_be := x_d_may_be,
    b_begin_of := x_b_begin_of,
    b_end_of := x_b_end_of,
    b_moved := x_b_moved,
    b_lead_on := x_b_lead_on,
    h_root_rows := x_h_root_rows,
    b_lead_roots := x_b_lead_roots,
    b_filled_words := x_b_filled_words,
    b_remember := x_b_remember,
    b_empty_nursery := x_b_empty_nursery,
    b_change_halves := x_b_change_halves,
    b_end_if_done := x_b_end_if_done,
    b_write := x_b_write,
    b_lead_left := x_b_lead_left,
    b_gather := x_b_gather,
    b_steps := x_b_steps,
    b_end_turn := x_b_end_turn,
    b_turn := x_b_turn,
    b_copy_all := x_b_copy_all,
    b_whole := x_b_whole,
    b_reserve := x_b_reserve,
    b_place := x_b_place,
    b_settled := x_b_settled,
    b_sort_at := x_b_sort_at,
    b_size_at := x_b_size_at,
    b_number_at := x_b_number_at,
    b_words_at := x_b_words_at,
    d_addresses_in := x_d_addresses_in,
    d_room_of := x_d_room_of,
    d_come_to := x_d_come_to,
    d_worth_of := x_d_worth_of,
    d_meaning_from := x_d_meaning_from,
    h_word_held := x_h_word_held,
    h_address_held := x_h_address_held,
    h_is_item := x_h_is_item,
    h_word_of_item := x_h_word_of_item,
    h_address_with_place := x_h_address_with_place,
    h_give_handle := x_h_give_handle,
    h_drop := x_h_drop,
    h_root_pairs := x_h_root_pairs,
    h_come_to_from_handles := x_h_come_to_from_handles,
    h_filled := x_h_filled,
    h_meaning := x_h_meaning,
    h_turn := x_h_turn,
    h_write := x_h_write,
    h_make := x_h_make,
    d_check_room := x_d_check_room,
    i_Laid := x_i_Laid,
    c_Bound := x_c_Bound,
    d_store_for := x_d_store_for,
    c_Heap := x_c_Heap,
    c_Room := x_c_Room,
    d__law_bag := x_d__law_bag,
    d__law_pick := x_d__law_pick,
    d__law_some := x_d__law_some,
    d__law_is := x_d__law_is,
    d__law_int := x_d__law_int,
    d__law_graph := x_d__law_graph,
    d__law_worth := x_d__law_worth,
    d__law_given := x_d__law_given,
    d__law_flood := x_d__law_flood,
    d__law_filled := x_d__law_filled,
    d__law_meaning := x_d__law_meaning,
    d__law_plain_word := x_d__law_plain_word,
    d__law_item := x_d__law_item,
    d__law_items := x_d__law_items,
    d__law_ring_deed := x_d__law_ring_deed,
    d__law_size := x_d__law_size,
    d__law_wished := x_d__law_wished,
    d__law_done := x_d__law_done,
    d__law_called := x_d__law_called,
    d__law_put := x_d__law_put }
  cases hfa.symm.trans (PySem.W.mg_of X G (He.eqO_ok (c.fa 233 (f := .glo "law") rfl)))
  obtain ⟨⟨oc, od, an, osl, kV, dc, pm, cd, ct, l, cc⟩, kk⟩ := fun_parts (x := "law") (q := "law") (st := s_law) (f := He.ga K "law") (c.df (d := d_law) 234 rfl)
  have lowG : Low h (He.ga K "GREATEST") greats := ⟨⟨iGREATEST.toList, vals_abs v_GREATEST, ⟨_, X _ _ l_GREATEST, rfl, nGREATEST, by simp⟩⟩, by decide⟩
  refine ⟨He.ga K "GREATEST", PySem.W.fnOf "law" "law" (defArgs s_law) (defBody s_law) (defScope s_law) .none kV dc pm an cd ct, lowG, fun s u => .of_eq rfl, fun base _ _ lw => ?_⟩
  have T : Txt K mg base := {
    n_len := PySem.W.mg_none_of X G (c.free 0 rfl),
    n_int := PySem.W.mg_none_of X G (c.free 1 rfl),
    n_abs := PySem.W.mg_none_of X G (c.free 2 rfl),
    n_isinstance := PySem.W.mg_none_of X G (c.free 3 rfl),
    n_bool := PySem.W.mg_none_of X G (c.free 4 rfl),
    n_range := PySem.W.mg_none_of X G (c.free 5 rfl),
    n_sum := PySem.W.mg_none_of X G (c.free 6 rfl),
    n_sorted := PySem.W.mg_none_of X G (c.free 7 rfl),
    n_repr := PySem.W.mg_none_of X G (c.free 8 rfl),
    n_list := PySem.W.mg_none_of X G (c.free 9 rfl),
    n_tuple := PySem.W.mg_none_of X G (c.free 10 rfl),
    n_enumerate := PySem.W.mg_none_of X G (c.free 11 rfl),
    n_all := PySem.W.mg_none_of X G (c.free 12 rfl),
    n_str := PySem.W.mg_none_of X G (c.free 13 rfl),
    tTAGS := tTAGS, mTAGS := PySem.W.mg_of X G c_TAGS,
    tINTEGER_TAG := tINTEGER_TAG, mINTEGER_TAG := PySem.W.mg_of X G c_INTEGER_TAG,
    tLEAST_INTEGER := tLEAST_INTEGER, mLEAST_INTEGER := PySem.W.mg_of X G c_LEAST_INTEGER,
    tLEAST_YOUNG := tLEAST_YOUNG, mLEAST_YOUNG := PySem.W.mg_of X G c_LEAST_YOUNG,
    tMOST_YOUNG := tMOST_YOUNG, mMOST_YOUNG := PySem.W.mg_of X G c_MOST_YOUNG,
    tMOST_OLD := tMOST_OLD, mMOST_OLD := PySem.W.mg_of X G c_MOST_OLD,
    tMOST_PACE := tMOST_PACE, mMOST_PACE := PySem.W.mg_of X G c_MOST_PACE,
    aGREATEST := _, mGREATEST := PySem.W.mg_of X G c_GREATEST, kGREATEST := lw }
  exact law_of T T5 TN C C2 BT I (fun_mk (st := s_law) l cc kk)
end HdR
open PySem PySem.Calls PySem.W PyProof.Rows
theorem PySem.Challenge.cw_unseenheap_k49_whole_long_runs_in_tight_holds : PySem.Challenge.rw_unseenheap_k49_whole_long_runs_in_tight.Holds := by
  w_on; o_law
  refine HandSHeadRun.head_any (r := OpenLaw.row PySem.Challenge.rw_unseenheap_k49_whole_long_runs_in_tight) (q := HdR.qv) (H := Hd.hook HdR.fs) (ob := Hd.ob HdR.fs) (M := 30000) (loose := HdR.names) (d := HandSHeadRun.topDef (OpenLaw.row PySem.Challenge.rw_unseenheap_k49_whole_long_runs_in_tight).prog 91) (kwd := []) (Hd.ob_eq HdR.fs)
    (by kernel_rfl) (fun s => by kernel_rfl) HdR.run (by kernel_rfl) (by kernel_rfl) (by kernel_rfl) (by rfl) (by first | assumption | decide +kernel) (by decide +kernel) ⟨rfl, rfl, rfl, rfl, rfl, by decide +kernel⟩ ?hw ?hc
  case hw => w_witness2
  case hc =>
    refine Wk.walk_ofG (l := PySem.Challenge.rw_unseenheap_k49_whole_long_runs_in_tight) (k := 11) rfl (by kernel_rfl) ⟨rfl, by decide, by decide⟩ ?F
    intro w mg fa h Y G hmg0
    obtain ⟨K, KX, c⟩ := Y
    have hlaw : mg ("law" : PySem.Str) = some (.ref fa) := by
      have e : (HandSHeadRun.topDef (OpenLaw.row PySem.Challenge.rw_unseenheap_k49_whole_long_runs_in_tight).prog 91).name = ("law" : PySem.Str) := by kernel_rfl
      rw [← e]
      exact hmg0
    obtain ⟨aG, fd, low, hb, hF⟩ := HdR.facts (P := (PySem.Challenge.rw_unseenheap_k49_whole_long_runs_in_tight).prog) (w := w) KX G hlaw c
    exact ⟨K, aG, fd, KX, low, hb, hF⟩
